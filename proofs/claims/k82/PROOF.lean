import PyProof.Rows.All
import Wide.All
import OpenK.AllK
import Wide.FinOn
import Lean
import PyProof.EqAt
import PyProof.EqKinds
import PyProof.TupleCall
import PyProof.NeKinds
import PySem.Challenge.RW_earbells_k82_whole_pace_and_round
set_option Elab.async false
set_option linter.all false
set_option maxRecDepth 100000
set_option compiler.extract_closed false
set_option hygiene false
set_option maxHeartbeats 0
local macro_rules
|`(tactic|omega)=>`(tactic|first|lia|omega (config:={}))
local macro_rules
|`($n:ident)=>match n.getId with
|`L5=>`(by decide +kernel)
|`L6=>`((by omega))
|`L7=>`(s.heap.objs.size)
|`L9=>`(fun cdv A outer s H vs Q E hr h=>?_)
|`M0=>`((by decide))
|`M3=>`(PySem.W.Frag)
|`M6=>`(List Bell)
|`M7=>`(Option Int)
|`Mb=>`(fun _ _=>rfl)
|`Mc=>`(List.length_map)
|`Me=>`(fun vs H Q E h=>?_)
|`Mh=>`(xs.length)
|`Mm=>`(Nat.le_refl _)
|`Mp=>`(Or.inl rfl)
|`Mr=>`(by omega)
|`Ms=>`(Option Value)
|`Mt=>`(List.map_append)
|`Mz=>`(List.getElem?_map)
|`MB=>`(List Str)
|`MC=>`("choir")
|`MD=>`(s1.heap.objs.size)
|`ME=>`(List.mem_cons_self)
|`MJ=>`(by simp)
|`MN=>`(some o)
|`MS=>`(List Value)
|`MU=>`([MG,M7])
|`MZ=>`(Bool.false_ne_true)
|`N7=>`(List Nat)
|`Na=>`(List.length_append)
|`Nc=>`(List.length_take)
|`Nd=>`("self")
|`Ng=>`(c.map (·.name))
|`Nh=>`(by rw [sizeLine_eq]; omega)
|`Ni=>`(items.size)
|`Nj=>`(List.getD_eq_getElem?_getD)
|`Nk=>`(List Int)
|`Nq=>`("_law_pack_here")
|`Nr=>`(Array Value)
|`Nt=>`(pv 0)
|`Nw=>`(some v)
|`Ny=>`(PassesOwn.never)
|`Nz=>`(List V)
|`NB=>`((Nt))
|`ND=>`([Mn,?_])
|`NI=>`(z.cps.toList)
|`NL=>`(List.take_length)
|`NM=>`([NK,Prop])
|`NQ=>`(ys.length)
|`NS=>`(ns.map V.int)
|`NT=>`([Nb,X.w])
|`NY=>`(PyProof.Rows.boot_isinstance)
|`NZ=>`(some u)
|`O4=>`(Str.empty)
|`O5=>`(PySem.F.plainAttrs_str)
|`O6=>`(by kernel_rfl)
|`Ob=>`(x.cps.toList)
|`Oj=>`("bell")
|`Oo=>`(Bool.and_eq_true)
|`Oq=>`("_law_choir_here")
|`Ov=>`(Int.le_refl _)
|_=>Lean.Macro.throwUnsupported
local macro_rules
|`($n:ident)=>match n.getId with
|`Ow=>`(PySem.F.plainAttrs_list)
|`Ox=>`(its.toArray)
|`OB=>`((·.1))
|`OC=>`(b.lis.length)
|`OF=>`(by intro z; cases z)
|`OG=>`((Mp))
|`OJ=>`(List.size_toArray)
|`OL=>`("thing")
|`OO=>`(some none)
|`OR=>`(List Expr)
|`OS=>`(.type "tuple")
|`OV=>`(some x)
|`OX=>`(Nat.zero_le _)
|`OY=>`(ns.length)
|`OZ=>`(PyProof.Rows.boot_int)
|`P0=>`(pv 1)
|`P1=>`(its.toArray.size)
|`P2=>`(PySem.F.type_list_append)
|`P4=>`(PySem.F.slot_list_append)
|`P6=>`((Mb))
|`Pd=>`(List.length_cons)
|`Pk=>`([Pc,H'])
|`Pm=>`("_law_many")
|`Po=>`("need")
|`Pp=>`([My,n])
|`Px=>`([Pj,Obj])
|`Pz=>`((MJ))
|`PF=>`(.type "list")
|`PH=>`(List.map_cons)
|`PM=>`("listening")
|`PZ=>`([My,k])
|`Q3=>`(PyProof.Rows.boot_str)
|`Q4=>`(I.ok.hd hc)
|`Q5=>`(Blt mg)
|`Q7=>`(kvs.length)
|`Qa=>`(X.env.locals)
|`Qb=>`(List.map_map)
|`Qc=>`([Q6,NM])
|`Qf=>`(.inl rfl)
|`Qh=>`(s2.trans s3)
|`Qj=>`(some c)
|`Ql=>`("__init__")
|`Qm=>`([O2,w])
|`Qn=>`(pv 2)
|`Qo=>`(List.length_replicate)
|`Qr=>`([Qp,Hp])
|`Qu=>`(GoodC c)
|`Qv=>`(some l)
|`Qy=>`(zs.length)
|`QC=>`("_law_script")
|`QE=>`([Qx,Nat])
|`QK=>`(List.append_assoc)
|`QM=>`(.ref a)
|`QT=>`(rows.length)
|`QU=>`("many")
|`QV=>`(Value.bool _)
|`QY=>`(List α)
|`QZ=>`(some b)
|`R0=>`(scope.names)
|`R1=>`([QR,L5])
|_=>Lean.Macro.throwUnsupported
local macro_rules
|`($n:ident)=>match n.getId with
|`R4=>`(w.params.followText "set-order")
|`R7=>`(s.heap.push PySem.W.emptyDict)
|`R8=>`([OM,Nat])
|`R9=>`(.str z)
|`Rb=>`((L5))
|`Rf=>`(s1.trans s2)
|`Ri=>`(u5.objs.size)
|`Rl=>`(fun D hD=>?_)
|`Rn=>`(ps.length)
|`Ro=>`(vs.length)
|`Rp=>`(List.getElem?_replicate)
|`Rq=>`(PyProof.Rows.boot_tuple)
|`Rv=>`(by simp only [List.length_cons,List.length_nil]; rw [sizeLine_eq]; decide)
|`Rw=>`([Rm,s])
|`Ry=>`([Rk,"__debug__"])
|`RB=>`((P0))
|`RE=>`(a.cps.toList)
|`RF=>`(.int i)
|`RG=>`([MO,?_])
|`RH=>`([Ot,NB])
|`RN=>`([Qt,bQ])
|`RO=>`(h.get? a)
|`RP=>`(some false)
|`RS=>`(B.isinstance_)
|`RT=>`([OM,V])
|`RY=>`(List Addr)
|`S8=>`(starts c)
|`Sb=>`(z.cps.toList.all ir)
|`Sf=>`(aM L6)
|`Sg=>`("_law_sort")
|`Si=>`((Me))
|`Sj=>`(.str b.name)
|`Sk=>`(List Env)
|`Sn=>`("bells")
|`So=>`(PySem.F.type_str_split)
|`Sq=>`(PySem.F.slot_str_split)
|`Sr=>`([Qp,VK])
|`Ss=>`([P5,c])
|`Sv=>`(ws.map V.str)
|`Sz=>`(bj _)
|`SF=>`(wants b)
|`SG=>`(PyProof.Rows.boot_all)
|`SH=>`([OM,Addr])
|`SM=>`((L9))
|`SN=>`(I.tok _)
|`SU=>`(List.length_drop)
|`SV=>`(z.cps.size)
|`SW=>`(List.countP_cons)
|`T3=>`(pv 3)
|`T4=>`(FineP c)
|`T8=>`(cw ?_)
|`T9=>`(h.objs.size)
|`Ta=>`("text")
|`Tc=>`("_law_k")
|`Td=>`("_law_desk")
|`To=>`(List Key)
|`Tt=>`(by decide)
|`Tu=>`(by simp only [List.size_toArray,bne_iff_ne]; omega)
|`Tx=>`((Mm))
|`TJ=>`(b.cps.toList)
|_=>Lean.Macro.throwUnsupported
local macro_rules
|`($n:ident)=>match n.getId with
|`TK=>`(y.cps.toList)
|`TL=>`("set_iterator")
|`TN=>`(.ref p)
|`TR=>`((Qn))
|`TU=>`(zs.map V.str)
|`TV=>`([Ot,au])
|`TZ=>`(A.handled)
|`U0=>`(ts.length)
|`U1=>`(by grind)
|`U2=>`([P9,rfl])
|`U5=>`("enumerate")
|`U6=>`(some .local)
|`U7=>`((Sz))
|`Ub=>`([MK,_])
|`Uc=>`(fun ws r2 p2 _=>?_)
|`Ue=>`(X.s₀.heap.objs.size)
|`Uh=>`(by simp [e])
|`Ui=>`(PySem.F.type_str_join)
|`Uj=>`(PySem.F.slot_str_join)
|`Uk=>`((NT))
|`Ul=>`(fun us r1 p1 _=>?_)
|`Um=>`([N3,es])
|`Uo=>`(pF ps)
|`Up=>`(I1.hok.fresh Tx)
|`Ur=>`(aT b.start)
|`Ut=>`("word")
|`Uz=>`(fun f4 f5=>?_)
|`UA=>`(r2.length)
|`UB=>`("all")
|`UC=>`(F.slot_zip_next)
|`UD=>`(Option.map_some)
|`UE=>`("any")
|`UH=>`(names.length)
|`UL=>`(pv 4)
|`UO=>`(bkF c)
|`UP=>`(eM hl)
|`UR=>`(cI.cps.toList)
|`UU=>`(PyProof.Rows.slot_tuple_getitem)
|`UX=>`((UP :))
|`V2=>`([Mo,Nw])
|`V4=>`(br ?_)
|`V5=>`(fs.length)
|`V6=>`(pl.isList)
|`V7=>`(X.A.units)
|`V8=>`(r1.length)
|`V9=>`([P7,V4])
|`Vc=>`([Mv,a])
|`Vd=>`(dO (K:=K) rfl)
|`Vf=>`(fun _ _=>False)
|`Vk=>`("range")
|`Vl=>`((Qm))
|`Vm=>`([Vj,V])
|`Vo=>`(True.intro)
|`Vp=>`(by rw [List.length_map]; omega)
|`Vq=>`(p.cps.toList)
|`Vs=>`(now.length)
|`Vt=>`([Nm,e])
|`Vu=>`(h.get? b)
|`Vv=>`([MT,L7])
|`Vw=>`(vals1 r)
|_=>Lean.Macro.throwUnsupported
local macro_rules
|`($n:ident)=>match n.getId with
|`Vz=>`(fun l hl=>?_)
|`VA=>`(List.length_map _)
|`VF=>`(Bool.eq_iff_iff)
|`VG=>`(List.forIn_cons)
|`VH=>`(by simp only [List.size_toArray]; omega)
|`VI=>`(some y)
|`VJ=>`(K w.params)
|`VN=>`(ws.length)
|`VP=>`("rule_of_text")
|`VQ=>`(PyProof.Rows.boot_sum)
|`VR=>`("before")
|`VS=>`(some .cell)
|`VT=>`([Nl,_])
|`VU=>`([MT,a])
|`VY=>`((T3))
|`VZ=>`(W0.map OB)
|`W8=>`(Value.none)
|`W9=>`(F.slot_tuple_iterator_next)
|`Wa=>`("none")
|`Wb=>`("most")
|`Wc=>`(cI.cps.toList.length)
|`Wd=>`(fun u hu ru=>?_)
|`Wh=>`("StopIteration")
|`Wl=>`(h'.objs.size)
|`Wm=>`(h1.objs.size)
|`Wn=>`(List.all_eq_true)
|`Wq=>`(fun its rv p hz=>?_)
|`Wr=>`(btF c)
|`Ws=>`("is_whole_within")
|`Wt=>`(Str.empty.length)
|`Wu=>`(bs.length)
|`Wv=>`(Nat.lt_succ_self _)
|`Ww=>`(.bool false)
|`Wx=>`(hr.mono M0)
|`Wy=>`([L8,hb])
|`WA=>`(Array.toList_append)
|`WB=>`(by cases h)
|`WC=>`(Nat.lt_irrefl _)
|`WG=>`(List Stmt)
|`WH=>`(frs outer)
|`WJ=>`(cv ?_)
|`WL=>`(c.map btB)
|`WN=>`((UL))
|`WQ=>`(List.append_nil)
|`WU=>`("names")
|`WV=>`(sc.names.lookup x)
|`WX=>`([O1,ha])
|`X1=>`(its.length)
|`X2=>`(List.lookup_append)
|`X3=>`("tuple_iterator")
|`X4=>`([My,i])
|`X5=>`(.ref l)
|`X6=>`(wpAny_onRaise ?_)
|`X7=>`(X.env.scope)
|`X9=>`(List.length)
|`Xa=>`(ht.typeIs)
|`Xb=>`(p2.isList)
|`Xc=>`(p1.isList)
|`Xj=>`(Builtin.Tuple.tupleExact _)
|`Xk=>`(s4.trans s5)
|_=>Lean.Macro.throwUnsupported
local macro_rules
|`($n:ident)=>match n.getId with
|`Xl=>`(aT l.beats)
|`Xm=>`(fun cc=>?_)
|`Xn=>`(rwS b.rule)
|`Xo=>`("_law_take")
|`Xt=>`(.ellipsis)
|`Xu=>`(" ")
|`Xv=>`(Int.zero_add)
|`Xw=>`(List.length_range)
|`Xx=>`("is_written_whole")
|`Xy=>`("words")
|`Xz=>`([Nv,b])
|`XB=>`(.int n)
|`XF=>`([Ux,ND])
|`XH=>`(s02.trans s3)
|`XJ=>`(some beat)
|`XM=>`(ps.map pV)
|`XN=>`(α0)
|`XQ=>`(aT Pp)
|`XR=>`(ofM m)
|`XX=>`(V.str "ok")
|`Y0=>`(StrLaws.strSub_toList)
|`Y3=>`(I.ok.above)
|`Y4=>`(rv.length)
|`Y8=>`("side")
|`Ya=>`(.ref x)
|`Yc=>`(pv 5)
|`Yd=>`(List.any_cons)
|`Yf=>`(List.sum_cons)
|`Yg=>`(List β)
|`Yi=>`(AllBare s'.gens)
|`Yj=>`(.dK kvs)
|`Yk=>`(.refl H)
|`Yl=>`(told.length)
|`Yq=>`(Or.inr rfl)
|`Yr=>`(now.map oV)
|`Ys=>`(some true)
|`Yw=>`("__next__")
|`Yx=>`("is_whole")
|`Yz=>`("mean_that_all_beat")
|`YA=>`("refuse_wrong_words")
|`YB=>`([My,j])
|`YD=>`(.bool true)
|`YF=>`(List.replicate_succ)
|`YK=>`(by simp [z])
|`YL=>`(σ')
|`YO=>`("_law_shape")
|`YQ=>`(List.getElem?_concat_length)
|`YR=>`(x.lis.length)
|`YS=>`("refuse_waiting")
|`YW=>`(some z)
|`YX=>`(ones cs)
|`Z1=>`(iB hl)
|`Z3=>`("str")
|`Z6=>`([Nu,Z1])
|`Z8=>`(st.length)
|`Zb=>`(Heap.size_push)
|`Zc=>`(Bool.and_false)
|`Zd=>`(vs.toArray)
|`Ze=>`(List.drop_zero)
|`Zg=>`(List.getElem?_drop)
|_=>Lean.Macro.throwUnsupported
local macro_rules
|`($n:ident)=>match n.getId with
|`Zk=>`([QX,b])
|`Zl=>`([My,0])
|`Zn=>`([Qq,2])
|`Zt=>`((Uo))
|`Zu=>`(List.nodup_cons.mp nd)
|`Zx=>`("read_number")
|`Zy=>`("stroke")
|`Zz=>`(B.StaysIn s.heap)
|`ZA=>`(Array Nat)
|`ZC=>`(rwV b.rule)
|`ZD=>`(zs.map gC)
|`ZE=>`(Fine c)
|`ZF=>`(Int.toNat_natCast)
|`ZH=>`(F.entry_str_split)
|`ZJ=>`("least")
|`ZL=>`(stem.length)
|`ZM=>`("beats")
|`ZO=>`("round")
|`ZP=>`([MT,it])
|`ZQ=>`([RD,?_])
|`ZR=>`([MI,ys])
|`ZU=>`([Ux,?_])
|`ZX=>`(α1)
|`A01=>`(b.name.length)
|`A02=>`(PyProof.Rows.boot_sorted)
|`A03=>`("ring")
|`A05=>`(F.plain_set_update_loop)
|`A06=>`(X.env.scope.kind)
|`A07=>`(F.entry_zip_next)
|`A08=>`(F.slot_str_split)
|`A09=>`(AutoSeq1.wpAny_loadPart' a1)
|`A0a=>`(F.args_zip_next_1 _)
|`A0b=>`(names.map V.str)
|_=>Lean.Macro.throwUnsupported
local macro_rules
|`([$n:ident,$a])=>match n.getId with
|`L8=>`((List.getElem?_eq_some_iff.mp $a).1)
|`M4=>`(List.getElem?_eq_getElem $a)
|`M8=>`(Heap.get?_push_of_some _ $a)
|`M9=>`(wpAny_bind $a)
|`Md=>`(fun _ _ _ _ _ _ us hl=>$a)
|`Mf=>`(List.mem_of_getElem? $a)
|`Mg=>`(show List.Nodup $a by decide +kernel)
|`Mi=>`(fun _ _ _ _ _=>$a)
|`Ml=>`(by simpa using $a)
|`Mn=>`([Ma,_,$a])
|`Mo=>`(some ($a))
|`Mq=>`(Option.some.inj $a)
|`Mu=>`([Mn,($a)])
|`Mv=>`([Mo,.ref $a])
|`Mx=>`(by show $a ; decide)
|`My=>`(($a :Int))
|`MA=>`(decide_eq_true $a)
|`MF=>`(of_decide_eq_true $a)
|`MG=>`(List ($a))
|`MH=>`(.int [My,$a])
|`MI=>`([Mo,.lst $a])
|`MK=>`(Heap.get?_push_size $a rfl)
|`ML=>`((List.mem_map.mp $a :))
|`MM=>`(show $a by omega)
|`MO=>`(wpAny_pure $a)
|`MP=>`(($a).length)
|`MQ=>`(List.mem_singleton.mp $a)
|`MR=>`([Mn,[Mu,$a]])
|`MT=>`((.ref $a))
|`MV=>`(fun vs H Q _=>$a)
|`MX=>`(List.mem_cons_of_mem _ $a)
|`N3=>`(starEach $a X.env)
|`N4=>`($a <=sizeLine)
|`N8=>`(decide ($a))
|`Nb=>`(model X.prog $a)
|`Nl=>`([Mw,$a,rfl])
|`Nm=>`(Heap.lt_size $a)
|`Nu=>`([Md,by obtain ⟨a,rfl⟩:=$a ; rfl])
|`Nv=>`(s.heap.get? $a)
|`NF=>`(by show $a ; omega)
|`NG=>`(fun f fd F=>$a)
|`NH=>`(List.mem_append_right _ $a)
|`NJ=>`(decide_eq_false $a)
|`NK=>`(Shared->$a)
|`NO=>`((SqL.of $a))
|`NU=>`(($a).cps.toList)
|`NV=>`(by have:=$a ; omega)
|`O0=>`([M9,($a)])
|`O1=>`(SqT.of $a)
|`O2=>`(model prog $a)
|`O3=>`(Classical.byContradiction fun no=>$a)
|`Oa=>`(eval $a X.env)
|`Oe=>`(ae $a ah)
|`Ol=>`(Nat.ne_of_lt $a)
|`Ot=>`(([Oe,$a]))
|`Ou=>`([Ot,($a)])
|`Oy=>`(List.take_of_length_le $a)
|`OA=>`($a <c.length)
|`OD=>`([Mo,.tup $a])
|`OE=>`(fun z=>$a)
|_=>Lean.Macro.throwUnsupported
local macro_rules
|`([$n:ident,$a])=>match n.getId with
|`OI=>`(($a).map V.str)
|`OM=>`(Option $a)
|`OP=>`(List.getElem?_append_left $a)
|`OQ=>`(List.getElem?_of_mem $a)
|`OT=>`((Same.tup $a))
|`P5=>`(⟨#[$a]⟩)
|`P7=>`([Mw,rfl,$a])
|`P9=>`(if_pos $a)
|`Pa=>`(Builtin.SmallTypes.nextOf [MT,$a])
|`Pc=>`(Same H $a)
|`Pg=>`(fun b hb=>$a)
|`Ph=>`(if_neg $a)
|`Pj=>`([Pe,Addr,$a])
|`Pl=>`((.lst $a))
|`Pn=>`(by show [N4,$a]; rw [sizeLine_eq]; omega)
|`Pr=>`(($a).objs.size)
|`Pt=>`(List.cons.inj $a)
|`PB=>`(List.mem_append_left _ $a)
|`PK=>`(($a :Str).cps.toList)
|`PL=>`(nomatch $a)
|`PN=>`(X.env.scope.names.lookup $a)
|`PQ=>`(by rw [List.length_map]; exact $a)
|`PY=>`(.inr ($a))
|`Q6=>`(Value->$a)
|`Q8=>`(List.getElem?_eq_none $a)
|`Qe=>`((fun _=>$a))
|`Qg=>`(List.mem_map.mpr ($a))
|`Qp=>`($a ->Prop)
|`Qq=>`([Mx,[N4,$a]])
|`Qt=>`(([Mi,$a]))
|`Qw=>`((I.list $a :))
|`Qx=>`([Pe,Nat,$a])
|`QH=>`(List.cons_ne_nil _ $a)
|`QN=>`(List.getElem_mem $a)
|`QR=>`([QO,L5,$a])
|`QS=>`(fun σ H Q=>$a)
|`QW=>`(aH rfl $a)
|`QX=>`(h'.get? $a)
|`Rj=>`((.tup $a))
|`Rk=>`(($a :Str))
|`Rm=>`([Qz,H,$a])
|`Rt=>`(Txt.split $a " ")
|`RD=>`(fun x hx=>$a)
|`RJ=>`(($a :Str).length)
|`RK=>`([RA,$a,Nat])
|`RM=>`(X.env.cells.lookup $a)
|`RQ=>`(List.range $a)
|`RU=>`(fun b o e=>$a)
|`RX=>`(PySem.mem_of_lookup $a)
|`S2=>`([O1,($a)])
|`S3=>`([Mo,[MH,$a]])
|`S5=>`(.fields $a)
|`S7=>`(I.hok.fresh $a)
|`S9=>`(List.getElem?_append_right $a)
|`Sd=>`(b.lis.map $a)
|`Se=>`(z.length<=$a)
|`Sl=>`(.builtin $a)
|`Sm=>`(scope.names.lookup $a)
|`Su=>`([QW,[Mu,$a]])
|`Sx=>`((.type $a))
|_=>Lean.Macro.throwUnsupported
local macro_rules
|`([$n:ident,$a])=>match n.getId with
|`Sy=>`(Value.int $a t)
|`SD=>`(hch.mono [OT,$a])
|`SR=>`(wpAny_truthy_bool $a)
|`SS=>`(wpAny_holding $a)
|`SY=>`((I.tuple $a :))
|`T5=>`([Sw,$a,SM])
|`T6=>`((.inl $a))
|`T7=>`([Mw,_,$a])
|`Tb=>`(fun xs H Q=>$a)
|`Te=>`(Value.ref $a)
|`Tf=>`(List.length_eq_zero_iff.mp $a)
|`Tg=>`(Nat.not_lt_zero $a)
|`Ti=>`((compareOp $a))
|`Tj=>`(take_snoc $a)
|`Tn=>`(SqL.of $a)
|`Tq=>`([RZ,bo,$a])
|`Tw=>`(aT [My,$a])
|`Tz=>`(fun _ _ z=>$a)
|`TC=>`(Sum.inl $a)
|`TF=>`(($a).toNat)
|`TH=>`(List.getElem_of_mem $a)
|`TM=>`(List.map_congr_left $a)
|`TY=>`(x.cps.toList.drop $a)
|`U4=>`(Sum.inr $a)
|`U8=>`([U3,rfl,$a])
|`Ug=>`(Array.getElem?_eq_some_iff.mp $a)
|`Us=>`(assignEach $a X.env)
|`Uu=>`(List.getElem?_eq_some_iff.mp $a)
|`Uv=>`(List.getElem?_set_ne $a)
|`Uw=>`(Nat.ne_of_gt $a)
|`Ux=>`([Uq,_,$a])
|`UI=>`(Int.eq_ofNat_of_zero_le $a)
|`UK=>`(([OE,$a]))
|`UQ=>`(Builtin.SmallTypes.ownedTupleIsFree $a)
|`UT=>`(fun e=>$a)
|`UW=>`(List.getElem?_set_self $a)
|`UZ=>`(False.elim $a)
|`V0=>`(List.mem_singleton.mpr $a)
|`V3=>`([Pe,Str,$a])
|`Va=>`(.int ($a))
|`Vb=>`($a =false)
|`Vh=>`(show $a by decide +kernel)
|`Vi=>`(Vals $a us)
|`Vj=>`([Pe,Key,$a])
|`Vn=>`($a =c.length)
|`Vr=>`(List.countP_mono_left $a)
|`VB=>`(env.cells.lookup $a)
|`VC=>`(Option.map_eq_some_iff.mp $a)
|`VM=>`([MI,($a)])
|`VV=>`(fun p hp=>$a)
|`VW=>`(fun x H1=>$a)
|`W2=>`(V.int $a)
|`W3=>`(Nat.lt_succ_of_lt $a)
|`W4=>`([Mw,$a,?_])
|`W5=>`(ar pq0 $a)
|`W7=>`(nameAt c $a)
|`Wg=>`(beq_eq_false_iff_ne.mpr $a)
|`Wi=>`(Same.but $a)
|`Wj=>`([Tr,$a,V.int])
|`Wk=>`(fun b o hb e=>$a)
|_=>Lean.Macro.throwUnsupported
local macro_rules
|`([$n:ident,$a])=>match n.getId with
|`Wo=>`(Builtin.Str.strKind $a)
|`Wz=>`(wpAny_passesOwn hp $a)
|`WD=>`(beq_iff_eq.mp $a)
|`WE=>`(RelV $a u)
|`WR=>`(wpAny_Call_Name_kw $a)
|`WS=>`(by rw [List.length_set]; exact $a)
|`WT=>`(wpAny_pyIter_tuple $a)
|`WW=>`(PySem.W.isFn K $a)
|`WY=>`([Pw,_,$a])
|`WZ=>`(ring.map fun s=>$a)
|`X8=>`(fun x y H Q=>$a)
|`Xd=>`(Bool.eq_false_iff.mpr $a)
|`Xe=>`(PySem.W.instObj C $a)
|`Xf=>`(backTo pos $a)
|`Xg=>`(([Mf,$a]))
|`Xq=>`(items.toList.drop $a)
|`Xr=>`([WY,($a)])
|`Xs=>`(List.mem_range.mp $a)
|`XA=>`(base.Ns mainGlobals $a)
|`XC=>`($a <=z.length)
|`XE=>`((.str $a))
|`XO=>`(List.mem_of_mem_take $a)
|`XS=>`((Ne.symm $a))
|`XT=>`(Shared.heap $a)
|`XU=>`(Array.getElem?_eq_getElem $a)
|`Y2=>`(h.Ns mainGlobals $a)
|`Y9=>`($a == sysModules)
|`Ye=>`(IsTup.tup $a)
|`Yp=>`(D.nx σ $a)
|`Yu=>`(([MM,$a]))
|`Yy=>`(List.length_pos_iff.mpr $a)
|`YE=>`(s.heap.push $a)
|`YH=>`(([Mq,$a]).symm)
|`YJ=>`($a +l.beats)
|`YM=>`(wpAny_execs_nil $a)
|`YN=>`(scope.names.all $a)
|`YZ=>`(names.getD l.whom $a)
|`Z0=>`(l.beats * $a)
|`Z2=>`(fun x=>$a)
|`Z7=>`(List.map_eq_nil_iff.mp $a)
|`Zh=>`(([Ml,$a]))
|`Zm=>`(relabel scope $a)
|`Zp=>`(fun o e=>$a)
|`Zq=>`(∀ C cells fp s H,$a)
|`Zr=>`(wpAny_pyIter_list $a)
|`Zs=>`(.Name x $a)
|`Zw=>`(Obj.isFreed_of_fields $a)
|`ZG=>`(([S2,$a]))
|`ZI=>`(fun k hk=>$a)
|`ZK=>`(show $a by decide)
|`ZN=>`(fun j ys H2 _ ⟨z,_⟩=>$a)
|`ZT=>`([PY,[PY,$a]])
|`ZV=>`(∀ l∈b.lis,$a)
|`ZW=>`(now.set k $a)
|`ZY=>`(∃ a0 a1 a2 a3,$a)
|`A04=>`(List.getElem?_eq_none_iff.mp $a)
|`A0c=>`(List.mem_filter.mpr $a)
|`A0d=>`(List.nodup_cons.mpr $a)
|`A0e=>`(List.getElem?_range $a)
|`A0f=>`(List.exists_cons_of_ne_nil $a)
|_=>Lean.Macro.throwUnsupported
local macro_rules
|`([$n:ident,$a,$b])=>match n.getId with
|`M5=>`(af $a rfl $b)
|`Ma=>`(([M5,$a,$b]))
|`Mw=>`(⟨$a,$b⟩)
|`MW=>`(PySem.W.nsIn $a mainGlobals $b)
|`Nf=>`(s.heap.push { cls:=.type $a,data:=$b })
|`Nn=>`(show $a from $b)
|`NC=>`(ar ($a :) $b)
|`NR=>`(Nat.lt_of_lt_of_le $a $b)
|`O9=>`(absurd $a $b)
|`Oh=>`(PySem.W.mg_none_of X $a $b)
|`Om=>`(PySem.W.kitOne K $a $b)
|`OH=>`(ae $a [Ou,$b])
|`OW=>`(List.replicate $a $b)
|`P8=>`(aX $a fun x H1 I1 r1 q1=>$b)
|`Pe=>`([MG,$a ×$b])
|`Pf=>`(Txt.partition $a $b)
|`Pu=>`(Q $a { s with heap:=$b })
|`Pw=>`(⟨$a,$b,?_⟩)
|`PR=>`([MY,$a,$b,OG])
|`PU=>`(Txt.join $a $b)
|`Q9=>`(($a).trans $b)
|`Qi=>`(Nat.le_trans $a $b)
|`Qk=>`(some { cls:=$a,data:=$b })
|`Qz=>`([Oi,X,$a,$b])
|`QA=>`(FunAt K $a $b)
|`QO=>`([Qd,L5,$a,$b])
|`QP=>`([QD,$a,M0,$b])
|`R5=>`(congrArg $a $b)
|`Ra=>`(wpAny_setField_rec $a Pz $b)
|`Rc=>`(ChoirAt $a $b c)
|`Rr=>`(PySem.W.keepIn $a [MT,$b])
|`Ru=>`(∀ b∈$a,$b)
|`RA=>`([My,($a :$b)])
|`RL=>`(([OH,$a,$b]))
|`RZ=>`([RV,$a,$b,au])
|`S4=>`(([QP,$a,$b]))
|`Sw=>`(F.ok $a Si $b)
|`SA=>`(Int.mul_le_mul_of_nonneg_left $a $b)
|`SJ=>`(PySem.W.mg_of X $a $b)
|`SX=>`(thn $a fun v s1 zr=>$b)
|`Tp=>`(.Attribute $a $b apos)
|`Tr=>`(($a).map $b)
|`Tv=>`(Heap.SameBut $a s.heap $b)
|`U3=>`([Oz,_,$a,$b])
|`U9=>`(wpAny_newObj_type $a $b)
|`Ua=>`(Int.mul_le_mul_of_nonneg_right $a $b)
|`Uq=>`([ON,_,$a,$b])
|`Uy=>`(([PR,$a,$b]))
|`UJ=>`(ar [ML,$a] $b)
|`Ve=>`(.ins $a dx $b)
|`We=>`(StrLaws.subAt_one $a c $b)
|`Wf=>`([Qt,[Uy,$a,$b]])
|`WK=>`(bH $a before $b)
|`WM=>`(Heap.ExtBut $a s.heap $b)
|`X0=>`(s.heap.FunFrames $a $b)
|`Xi=>`(Q [MT,$a] $b)
|`XD=>`([Xr,ak $a $b])
|`XG=>`(aw $a [Pl,$b])
|`XI=>`(Fix $a before $b)
|`XW=>`(capσ $a ix $b)
|_=>Lean.Macro.throwUnsupported
local macro_rules
|`([$n:ident,$a,$b])=>match n.getId with
|`XY=>`(wpAny_pyIter_list $a $b)
|`Y1=>`(List.getElem?_inj $a $b)
|`Y5=>`(thn ($a) $b)
|`Y7=>`(wpAny_updateSeq_pair $a $b)
|`Yb=>`(af $a $b rfl)
|`Yh=>`(([Nn,$a,$b]))
|`Ym=>`(∀ b o,$a ->$b)
|`Yn=>`(af $a $b ?_)
|`Yo=>`(bp [Qw,$a] $b)
|`Yt=>`(([Yn,$a,$b]))
|`YC=>`(HT.sIx Mh $a $b)
|`YI=>`(bE $a $b aQ)
|`YT=>`(([YI,$a,$b]))
|`Z5=>`([YT,($a),$b])
|`Zf=>`(Obj.data_mapFields $a $b)
|`Zi=>`(Int.emod_lt_of_pos $a $b)
|`Zj=>`(Int.le_trans $a $b)
|`Zv=>`((cQ $a $b).elim)
|`ZS=>`(([Y5,$a,$b]))
|`ZZ=>`(s.TypeIs $a $b)
|_=>Lean.Macro.throwUnsupported
local macro_rules
|`([$n:ident,$a,$b,$c])=>match n.getId with
|`Mj=>`(if $a then $b else $c)
|`MY=>`(aE (i:=$a) $b rfl $c)
|`Oc=>`(FnScope $a $b ($c))
|`Oi=>`([N5,$a,σ,$b,$c])
|`Oz=>`(aC $a rfl $b $c)
|`ON=>`([Od,$a,$b,rfl,$c])
|`Pb=>`(Builtin.Str.strSub $a $b $c)
|`Pq=>`(PySem.W.findIn $a [MT,$b] $c)
|`Py=>`(upd $a $b [Pl,$c])
|`Qd=>`([PV,$a,rfl,$b,$c])
|`QB=>`([N9,$a,$b,OG,$c])
|`QD=>`([Qs,$a,hr,$b,$c])
|`QI=>`([Oc,$a,$b,ay $c])
|`Rh=>`(PyProof.Rows.callWith_type1 $a $b $c)
|`Rz=>`(upd $a $b [Rj,$c])
|`RI=>`(List.all_eq_true.mp $a $b $c)
|`RV=>`(aG $a $b $c P6)
|`S6=>`([O0,wpAny_seqItems $a $b $c])
|`SE=>`(Heap.get?_update_other $a $b $c)
|`TB=>`(Binds $a $b $c [])
|`Ud=>`(IsPair s.heap $a $b $c)
|`UG=>`([TQ,$a,$b,$c,f])
|`UM=>`(.Call $a $b $c pos)
|`UN=>`([Oz,$a,[T7,$b],$c])
|`UY=>`(wpAny_mono $a ($b) $c)
|`Vg=>`(Paired $a $b $c)
|`Vx=>`(([QB,$a,$b,$c]))
|`Vy=>`([NX,$a,$b,B.len_,$c])
|`VD=>`([S4,$a,[RL,$b,$c]])
|`WO=>`(Builtin.Range.rangeSize $a $b $c)
|`Xh=>`(nxi $a pl $b $c)
|`Xp=>`(bP $a $b rfl $c)
|`XZ=>`(Heap.get?_update_self $a $b $c)
|`YY=>`(bu [Uy,$a,$b] $c)
|`Z4=>`(Builtin.Str.partsBetween $a $b $c)
|`Z9=>`(IsPair $a TO $b $c)
|`Za=>`(s3.extBut _ $a $b $c)
|`A00=>`(Txt.slice $a $b $c)
|_=>Lean.Macro.throwUnsupported
local macro_rules
|`([$n:ident,$a,$b,$c,$d])=>match n.getId with
|`N5=>`(Inv $a pins $b $c $d)
|`N9=>`(aP (i:=$a) $b rfl $c $d)
|`NX=>`(aL $a $b $c PySem.boot_len $d)
|`Od=>`(aB $a $b rfl $c $d)
|`Og=>`(wpAny_callSpecial?_slot (name:=Str.ofString $a) $b $c $d)
|`OU=>`(wpAny_field $a $b (x:=$c) rfl $d)
|`PV=>`([PD,rfl,$a,$b,$c,$d])
|`Qs=>`(aW $a $b $c rfl $d)
|`QL=>`(Builtin.Str.occurrences $a $b 0 $c $d)
|`R3=>`([QQ,K,$a,$b,$c,$d])
|`TQ=>`([QG,K,$a,$b,$c,$d])
|`US=>`(IsZip $a $b TI $c $d)
|`VL=>`(ak [Vx,$a,$b,$c] $d)
|`VX=>`([Rg,$a,$b,rfl,$c,$d])
|`Y6=>`(wpAny_setField $a $b $c $d)
|`YG=>`([VL,$a,$b,$c,($d)])
|`YU=>`(aB $a $b $c rfl $d)
|_=>Lean.Macro.throwUnsupported
local macro_rules
|`([$n:ident,$a,$b,$c,$d,$e])=>match n.getId with
|`PD=>`([O8,rfl,$a,$b,$c,$d,$e])
|`QG=>`(Fun $a $b $c $d $e fd)
|`QQ=>`([QJ,w,$a,$b,$c,$d,$e])
|`Rg=>`(bJ $a $b rfl $c $d $e)
|`RC=>`(PySem.W.kia_one $a I.kIn $b $c $d $e)
|`Sa=>`(wpAny_call_entry $a $b $c $d $e)
|`SK=>`([Np,$a,$b,$c,$d,$e,s])
|`Ts=>`(Inv $a pins $b $c { $d with heap:=$e })
|`V1=>`(ObjOk X.prog $a $b $c $d $e)
|`YV=>`(ItAt $a s.heap $b $c $d $e)
|_=>Lean.Macro.throwUnsupported
local macro_rules
|`([$n:ident,$a,$b,$c,$d,$e,$f])=>match n.getId with
|`Np=>`(wpAny $a $b ($c) $d $e $f)
|`NP=>`(Inv $a pins $b $c { $d with heap:=$e,toks:=$f })
|`O8=>`(⟨$a,rfl,$b,$c,$d,$e,$f⟩)
|`Of=>`(fun σ2 H2=>tb { $a with nx:=$b,ct:=$c,bk:=$d } $e $f)
|`QF=>`([NW,$a,$b,$c,$d,$e,rfl,$f])
|`QJ=>`([O7,P,$a,$b,$c,$d,$e,$f])
|`Yv=>`(cD $a $b rfl $c $d $e $f)
|_=>Lean.Macro.throwUnsupported
local macro_rules
|`([$n:ident,$a,$b,$c,$d,$e,$f,$g])=>match n.getId with
|`NN=>`([NA,$a,$b,$c,$d,rfl,$e,$f,$g])
|`NW=>`([Mu,[NN,$a,$b,$c,$d,$e,$f,$g]])
|`O7=>`([N2,$a,$b,$c,mg,$d,$e,$f,$g])
|`SO=>`(cj $a $b $c rfl $d $e $f $g)
|`VO=>`([MR,[NN,$a,$b,$c,$d,$e,$f,$g]])
|_=>Lean.Macro.throwUnsupported
local macro_rules
|`([$n:ident,$a,$b,$c,$d,$e,$f,$g,$h])=>match n.getId with
|`N2=>`(Cal $a $b $c $d base $e $f $g $h)
|`NA=>`(az $a $b $c $d rfl $e $f $g $h)
|`Zo=>`(PaceIs $a $b $c $d $e $f $g ring $h)
|_=>Lean.Macro.throwUnsupported
noncomputable section
namespace PySem.W.Fast
def tw3598067678551972261:=0
def tw16655952331386775748:=0
def tw11957706418819371396:=0
def tw11055619854765449273:=0
def tw10131987049873245667:=0
def tw10029484005294053624:=0
def tw16066565541731471394:=0
def tw7037523984137050817:=0
def tw13699412363691685914:=0
def tw8786114444727469699:=0
def tw5714921640035025158:=0
def tw9939194145632523592:=0
def tw17810983319260634660:=0
def tw16751691641645132886:=0
def tw905200047108322059:=0
def tw14032512010403356523:=0
def tw17447827987786905181:=0
def tw10870643083072881072:=0
def tw6288703564535801082:=0
def tw8256505914358754722:=0
def tw16567738289312817042:=0
def tw10097911639920195176:=0
def tw18019176510955493284:=0
def tw14169017572345127626:=0
def tw4658837217020296740:=0
def tw2541688497590213716:=0
def tw8175341844875599273:=0
def tw5505808400941186769:=0
def tw17611705755954604157:=0
def tw15665047761254591998:=0
def tw9596135722078819076:=0
def tw10012204482152558539:=0
def tw16751453243967691575:=0
def tw11445735264200075723:=0
def tw17493398354863387269:=0
def tw12492735909305898899:=0
def tw13534486049183320883:=0
def tw12088791075515032281:=0
def tw11211577400486171507:=0
def tw4896833571769338862:=0
def tw9153023234822806882:=0
def tw6522436307183867063:=0
def tw4938880915165214810:=0
def tw5684080328772586632:=0
def tw2004385500800380596:=0
def tw17148128868859566286:=0
def tw11267309733763345809:=0
def tw1461398996541023597:=0
def tw11926952611474149668:=0
def tw14548225965599626790:=0
def tw4019670035191046352:=0
def tw8190206655082847999:=0
def tw7656232089346640961:=0
def tw8137171236627558131:=0
def tw6468340729609019947:=0
def tw1342580530016333918:=0
def tw3039068105096387654:=0
def tw10780671383010878273:=0
def tw5370535444440760577:=0
def tw13646204542596149699:=0
def tw17037062251150005814:=0
def tw6593727819176788108:=0
def tw16351762562767502287:=0
def tw15659659573130111832:=0
def tw16779734201039013954:=0
def tw10189455832074051933:=0
def tw12606413456820633637:=0
def tw10703227217948204647:=0
def tw3968949186620592112:=0
def tw16544202682422559743:=0
def tw2717412274765587409:=0
def tw14164677238914141045:=0
def tw12019689977131131792:=0
def tw15228334379230118248:=0
def tw5489566578051977019:=0
def tw12172834822240050029:=0
def tw8608174678315211804:=0
def tw10563912389529112697:=0
def tw9030865106275165068:=0
def tw4549169720035416083:=0
def tw11847419142448545586:=0
def tw129601647757735151:=0
def tw4822054321249874846:=0
def tw13393951825349237223:=0
def tw14711069695916745511:=0
def tw16611003112469420046:=0
def tw3122640400803412816:=0
def tw8527182196911556570:=0
def tw16592614735824804503:=0
def tw399790053713481579:=0
def tw7966622640914138638:=0
def tw11028970882266478685:=0
def tw11494445945420397551:=0
def tw1786680809700164248:=0
def tw12662203417765785722:=0
def tw15500213845458114530:=0
def tw18012356331827521640:=0
def tw12248921514227944168:=0
def tw11512981734579012527:=0
def tw10455847617136419331:=0
def tw3835662487411300221:=0
def tw6968203327779699638:=0
def tw16257916543894033571:=0
def tw4365003565790176487:=0
def tw246261701584189878:=0
def tw3423231637338645490:=0
def tw10582942906475418750:=0
def tw14267843710173092769:=0
def tw12236613231778159098:=0
def tw809135569076990503:=0
def tw5735467182153750458:=0
def tw11935593013031151733:=0
def tw4613123640225415468:=0
def tw13936653581833350074:=0
def tw13702324655007303789:=0
def tw7582270491095630553:=0
def tw15003475801972436368:=0
def tw2463772216029779792:=0
def tw4462424891413609614:=0
def tw16488065834376227769:=0
def tw113599570436058960:=0
def tw17263857721838390994:=0
def tw4259784309082836863:=0
def tw16638332219911466101:=0
def tw1771828053950912624:=0
def tw9419964802175445363:=0
def tw13445665119845498309:=0
def tw8087439278545153853:=0
def tw13019865918786252449:=0
def tw11029037971267795349:=0
def tw10205284560326995091:=0
def tw13310006296716039913:=0
def tw16447691226590599789:=0
def tw13704784706121511918:=0
def tw928319771141092346:=0
def tw12729645673632227608:=0
def tw11553896676207555880:=0
def tw1504825175140593575:=0
def tw16138541977015740225:=0
def tw17664881498881848865:=0
def tw12602546499352191115:=0
def tw16912963500622404056:=0
def tw7935827604719349601:=0
def tw6665805127749727751:=0
def tw17539944012847052960:=0
def tw6640907643690828887:=0
def tw9606660831602981797:=0
def tw5715923821780277502:=0
def tw15031698367159472517:=0
def tw319892706776701393:=0
def tw9025406224727808570:=0
def tw12091182346272908260:=0
def tw3025363706107835893:=0
def tw17460631997785668622:=0
def tw10728530483379096486:=0
def tw13921832450691340869:=0
def tw8121667062307708754:=0
def tw6825856643790584592:=0
def tw3201492149908113479:=0
def tw1271237244450091902:=0
def tw15740561478035267264:=0
def tw4638379004494130350:=0
def tw7541524773221646286:=0
def tw11408750799248737070:=0
def tw7407477986544378491:=0
def tw8527242946692600927:=0
def tw6878095107872040866:=0
def tw7158491708165104920:=0
def tw65046316372850028:=0
def tw9811872479378058025:=0
def tw8427559537755829775:=0
def tw10519587026272711149:=0
def tw12679405838361613232:=0
def tw8109862398278245596:=0
def tw4454221040990562819:=0
def tw13883092467522198498:=0
def tw10366848183730830875:=0
def tw3641233537142423611:=0
def tw14658738234799557639:=0
def tw4809906126602940332:=0
def tw1323110989032883817:=0
def tw614817086610773734:=0
def tw7117118665061206248:=0
def tw6599922914619096930:=0
def tw5719223182211796370:=0
def tw15853703155264184629:=0
def tw15966755623350189237:=0
def tw4504005849054646491:=0
def tw8112666985046694064:=0
def tw8091297870429269134:=0
def tw4516996640811455513:=0
def tw6313253902738960629:=0
def tw3152787815467593991:=0
def tw18162315998776175547:=0
def tw14782975106508239194:=0
def tw13771796906451797054:=0
def tw7624416312147551039:=0
def tw12500175517508239133:=0
def tw3733907643985505230:=0
def tw11413787110051101591:=0
def tw14302983700468975422:=0
def tw16231332869895010959:=0
def tw16533023022869229017:=0
def tw845788062924623089:=0
def tw3156050169137854278:=0
def tw5488820104564414320:=0
def tw16981111934126978019:=0
def tw852046000939982460:=0
def tw161397777680533207:=0
def tw15483307230209890116:=0
def tw17780188100367039843:=0
def tw15077386094150665898:=0
def tw15324460073299176408:=0
def tw1778929678442930999:=0
def tw1437232423150684774:=0
def tw10044373651523566321:=0
def tw9943151718441547325:=0
def tw9804605794062760166:=0
def tw4926410901739103659:=0
def tw13458768474763894846:=0
def tw10469411260645431693:=0
def tw16722438165014925524:=0
def tw13257163473650717909:=0
def tw17431778894652408126:=0
def tw8800219350617377316:=0
def tw6267587379852125655:=0
def tw12949545836256613545:=0
def tw12478803493058385951:=0
def tw18115297940375037461:=0
def tw8305339082473281515:=0
def tw433691128533667476:=0
def tw10287855759358320760:=0
def tw4254270866847295973:=0
def tw5801346036102375332:=0
def tw2979938255926725091:=0
def tw15898356008718742142:=0
def tw15573897021830370934:=0
def tw14062230298995133704:=0
def tw1055003913716595337:=0
def tw15511390515924217834:=0
def tw9911085314905364984:=0
def tw4196107201897759273:=0
def tw7189940385146254232:=0
def tw10973370797750293113:=0
def tw13817386219702365939:=0
def tw13537565348165183064:=0
def tw16313335535737212650:=0
def tw17312724660623311912:=0
def tw17272908080049760006:=0
def tw16719228762566364228:=0
def tw442717167215314288:=0
def tw13459855237532491487:=0
end PySem.W.Fast
theorem bZ {p0 r:Prop} {G:Prop} (h:p0/\r) (k:p0->r->G):G:=by
 obtain ⟨h0,h1⟩:=h;exact k h0 h1
theorem cb {p0 p1 r:Prop} {G:Prop} (h:p0/\p1/\r) (k:p0->p1->r->G):G:=by
 obtain ⟨h0,h1,h2⟩:=h;exact k h0 h1 h2
theorem fX {p0 p1 p2 r:Prop} {G:Prop} (h:p0/\p1/\p2/\r) (k:p0->p1->p2->r->G):G:=by
 obtain ⟨h0,h1,h2,h3⟩:=h;exact k h0 h1 h2 h3
theorem dE {p0 p1 p2 p3 r:Prop} {G:Prop} (h:p0/\p1/\p2/\p3/\r) (k:p0->p1->p2->p3->r->G):G:=by
 obtain ⟨h0,h1,h2,h3,h4⟩:=h;exact k h0 h1 h2 h3 h4
theorem iC {α0:Sort _} {r:[Qp,XN]} {G:Prop} (h:∃ a0,r a0) (k:∀ a0,r a0->G):G:=by
 obtain ⟨a0,h0⟩:=h;exact k a0 h0
theorem ar {α0:Sort _} {p0 r:[Qp,XN]} {G:Prop} (h:∃ a0,p0 a0/\r a0) (k:∀ a0,p0 a0->r a0->G):G:=by
 obtain ⟨a0,h0,h1⟩:=h;exact k a0 h0 h1
theorem bp {α0:Sort _} {p0 p1 r:[Qp,XN]} {G:Prop} (h:∃ a0,p0 a0/\p1 a0/\r a0) (k:∀ a0,p0 a0->p1 a0->r a0->G):G:=by
 obtain ⟨a0,h0,h1,h2⟩:=h;exact k a0 h0 h1 h2
theorem iD {α0:Sort _} {p0 p1 p2 r:[Qp,XN]} {G:Prop} (h:∃ a0,p0 a0/\p1 a0/\p2 a0/\r a0) (k:∀ a0,p0 a0->p1 a0->p2 a0->r a0->G):G:=by
 obtain ⟨a0,h0,h1,h2,h3⟩:=h;exact k a0 h0 h1 h2 h3
theorem gq {α0:Sort _} {p0 p1 p2 p3 r:[Qp,XN]} {G:Prop} (h:∃ a0,p0 a0/\p1 a0/\p2 a0/\p3 a0/\r a0) (k:∀ a0,p0 a0->p1 a0->p2 a0->p3 a0->r a0->G):G:=by
 obtain ⟨a0,h0,h1,h2,h3,h4⟩:=h;exact k a0 h0 h1 h2 h3 h4
theorem dW {α0 α1:Sort _} {r:XN->[Qp,ZX]} {G:Prop} (h:∃ a0 a1,r a0 a1) (k:∀ a0 a1,r a0 a1->G):G:=by
 obtain ⟨a0,a1,h0⟩:=h;exact k a0 a1 h0
theorem bU {α0 α1:Sort _} {p0 r:XN->[Qp,ZX]} {G:Prop} (h:∃ a0 a1,p0 a0 a1/\r a0 a1) (k:∀ a0 a1,p0 a0 a1->r a0 a1->G):G:=by
 obtain ⟨a0,a1,h0,h1⟩:=h;exact k a0 a1 h0 h1
theorem aX {α0 α1:Sort _} {p0 p1 r:XN->[Qp,ZX]} {G:Prop} (h:∃ a0 a1,p0 a0 a1/\p1 a0 a1/\r a0 a1) (k:∀ a0 a1,p0 a0 a1->p1 a0 a1->r a0 a1->G):G:=by
 obtain ⟨a0,a1,h0,h1,h2⟩:=h;exact k a0 a1 h0 h1 h2
theorem e9 {α0 α1:Sort _} {p0 p1 p2 r:XN->[Qp,ZX]} {G:Prop} (h:∃ a0 a1,p0 a0 a1/\p1 a0 a1/\p2 a0 a1/\r a0 a1) (k:∀ a0 a1,p0 a0 a1->p1 a0 a1->p2 a0 a1->r a0 a1->G):G:=by
 obtain ⟨a0,a1,h0,h1,h2,h3⟩:=h;exact k a0 a1 h0 h1 h2 h3
theorem fz {α0 α1:Sort _} {p0 p1 p2 p3 r:XN->[Qp,ZX]} {G:Prop} (h:∃ a0 a1,p0 a0 a1/\p1 a0 a1/\p2 a0 a1/\p3 a0 a1/\r a0 a1) (k:∀ a0 a1,p0 a0 a1->p1 a0 a1->p2 a0 a1->p3 a0 a1->r a0 a1->G):G:=by
 obtain ⟨a0,a1,h0,h1,h2,h3,h4⟩:=h;exact k a0 a1 h0 h1 h2 h3 h4
theorem lD {α0 α1 α2:Sort _} {r:XN->ZX->[Qp,α2]} {G:Prop} (h:∃ a0 a1 a2,r a0 a1 a2) (k:∀ a0 a1 a2,r a0 a1 a2->G):G:=by
 obtain ⟨a0,a1,a2,h0⟩:=h;exact k a0 a1 a2 h0
theorem dZ {α0 α1 α2:Sort _} {p0 r:XN->ZX->[Qp,α2]} {G:Prop} (h:∃ a0 a1 a2,p0 a0 a1 a2/\r a0 a1 a2) (k:∀ a0 a1 a2,p0 a0 a1 a2->r a0 a1 a2->G):G:=by
 obtain ⟨a0,a1,a2,h0,h1⟩:=h;exact k a0 a1 a2 h0 h1
theorem fP {α0 α1 α2:Sort _} {p0 p1 r:XN->ZX->[Qp,α2]} {G:Prop} (h:∃ a0 a1 a2,p0 a0 a1 a2/\p1 a0 a1 a2/\r a0 a1 a2) (k:∀ a0 a1 a2,p0 a0 a1 a2->p1 a0 a1 a2->r a0 a1 a2->G):G:=by
 obtain ⟨a0,a1,a2,h0,h1,h2⟩:=h;exact k a0 a1 a2 h0 h1 h2
theorem jF {α0 α1 α2:Sort _} {p0 p1 p2 r:XN->ZX->[Qp,α2]} {G:Prop} (h:∃ a0 a1 a2,p0 a0 a1 a2/\p1 a0 a1 a2/\p2 a0 a1 a2/\r a0 a1 a2) (k:∀ a0 a1 a2,p0 a0 a1 a2->p1 a0 a1 a2->p2 a0 a1 a2->r a0 a1 a2->G):G:=by
 obtain ⟨a0,a1,a2,h0,h1,h2,h3⟩:=h;exact k a0 a1 a2 h0 h1 h2 h3
theorem fe {α0 α1 α2:Sort _} {p0 p1 p2 p3 r:XN->ZX->[Qp,α2]} {G:Prop} (h:∃ a0 a1 a2,p0 a0 a1 a2/\p1 a0 a1 a2/\p2 a0 a1 a2/\p3 a0 a1 a2/\r a0 a1 a2) (k:∀ a0 a1 a2,p0 a0 a1 a2->p1 a0 a1 a2->p2 a0 a1 a2->p3 a0 a1 a2->r a0 a1 a2->G):G:=by
 obtain ⟨a0,a1,a2,h0,h1,h2,h3,h4⟩:=h;exact k a0 a1 a2 h0 h1 h2 h3 h4
theorem bN {α0 α1 α2 α3:Sort _} {r:XN->ZX->α2->[Qp,α3]} {G:Prop} (h:[ZY,r a0 a1 a2 a3]) (k:∀ a0 a1 a2 a3,r a0 a1 a2 a3->G):G:=by
 obtain ⟨a0,a1,a2,a3,h0⟩:=h;exact k a0 a1 a2 a3 h0
theorem fB {α0 α1 α2 α3:Sort _} {p0 r:XN->ZX->α2->[Qp,α3]} {G:Prop} (h:[ZY,p0 a0 a1 a2 a3/\r a0 a1 a2 a3]) (k:∀ a0 a1 a2 a3,p0 a0 a1 a2 a3->r a0 a1 a2 a3->G):G:=by
 obtain ⟨a0,a1,a2,a3,h0,h1⟩:=h;exact k a0 a1 a2 a3 h0 h1
theorem wN {α0 α1 α2 α3:Sort _} {p0 p1 r:XN->ZX->α2->[Qp,α3]} {G:Prop} (h:[ZY,p0 a0 a1 a2 a3/\p1 a0 a1 a2 a3/\r a0 a1 a2 a3]) (k:∀ a0 a1 a2 a3,p0 a0 a1 a2 a3->p1 a0 a1 a2 a3->r a0 a1 a2 a3->G):G:=by
 obtain ⟨a0,a1,a2,a3,h0,h1,h2⟩:=h;exact k a0 a1 a2 a3 h0 h1 h2
theorem F3 {α0 α1 α2 α3:Sort _} {p0 p1 p2 r:XN->ZX->α2->[Qp,α3]} {G:Prop} (h:[ZY,p0 a0 a1 a2 a3/\p1 a0 a1 a2 a3/\p2 a0 a1 a2 a3/\r a0 a1 a2 a3]) (k:∀ a0 a1 a2 a3,p0 a0 a1 a2 a3->p1 a0 a1 a2 a3->p2 a0 a1 a2 a3->r a0 a1 a2 a3->G):G:=by
 obtain ⟨a0,a1,a2,a3,h0,h1,h2,h3⟩:=h;exact k a0 a1 a2 a3 h0 h1 h2 h3
theorem cZ {α0 α1 α2 α3:Sort _} {p0 p1 p2 p3 r:XN->ZX->α2->[Qp,α3]} {G:Prop} (h:[ZY,p0 a0 a1 a2 a3/\p1 a0 a1 a2 a3/\p2 a0 a1 a2 a3/\p3 a0 a1 a2 a3/\r a0 a1 a2 a3]) (k:∀ a0 a1 a2 a3,p0 a0 a1 a2 a3->p1 a0 a1 a2 a3->p2 a0 a1 a2 a3->p3 a0 a1 a2 a3->r a0 a1 a2 a3->G):G:=by
 obtain ⟨a0,a1,a2,a3,h0,h1,h2,h3,h4⟩:=h;exact k a0 a1 a2 a3 h0 h1 h2 h3 h4
theorem aH {p0 r:Prop} (h0:p0) (k:r):p0/\r:=[Mw,h0,k]
theorem bM {p0 p1 r:Prop} (h0:p0) (h1:p1) (k:r):p0/\p1/\r:=⟨h0,h1,k⟩
theorem fI {p0 p1 p2 r:Prop} (h0:p0) (h1:p1) (h2:p2) (k:r):p0/\p1/\p2/\r:=⟨h0,h1,h2,k⟩
theorem dv {p0 p1 p2 p3 r:Prop} (h0:p0) (h1:p1) (h2:p2) (h3:p3) (k:r):p0/\p1/\p2/\p3/\r:=⟨h0,h1,h2,h3,k⟩
theorem e8 {α0:Sort _} {r:[Qp,XN]} (a0:XN) (k:r a0):∃ a0,r a0:=[Mw,a0,k]
theorem af {α0:Sort _} {p0 r:[Qp,XN]} (a0:XN) (h0:p0 a0) (k:r a0):∃ a0,p0 a0/\r a0:=⟨a0,h0,k⟩
theorem aC {α0:Sort _} {p0 p1 r:[Qp,XN]} (a0:XN) (h0:p0 a0) (h1:p1 a0) (k:r a0):∃ a0,p0 a0/\p1 a0/\r a0:=⟨a0,h0,h1,k⟩
theorem cC {α0:Sort _} {p0 p1 p2 r:[Qp,XN]} (a0:XN) (h0:p0 a0) (h1:p1 a0) (h2:p2 a0) (k:r a0):∃ a0,p0 a0/\p1 a0/\p2 a0/\r a0:=⟨a0,h0,h1,h2,k⟩
theorem eY {α0:Sort _} {p0 p1 p2 p3 r:[Qp,XN]} (a0:XN) (h0:p0 a0) (h1:p1 a0) (h2:p2 a0) (h3:p3 a0) (k:r a0):∃ a0,p0 a0/\p1 a0/\p2 a0/\p3 a0/\r a0:=⟨a0,h0,h1,h2,h3,k⟩
theorem pQ {α0 α1:Sort _} {r:XN->[Qp,ZX]} (a0:XN) (a1:ZX) (k:r a0 a1):∃ a0 a1,r a0 a1:=⟨a0,a1,k⟩
theorem bP {α0 α1:Sort _} {p0 r:XN->[Qp,ZX]} (a0:XN) (a1:ZX) (h0:p0 a0 a1) (k:r a0 a1):∃ a0 a1,p0 a0 a1/\r a0 a1:=⟨a0,a1,h0,k⟩
theorem aB {α0 α1:Sort _} {p0 p1 r:XN->[Qp,ZX]} (a0:XN) (a1:ZX) (h0:p0 a0 a1) (h1:p1 a0 a1) (k:r a0 a1):∃ a0 a1,p0 a0 a1/\p1 a0 a1/\r a0 a1:=⟨a0,a1,h0,h1,k⟩
theorem bJ {α0 α1:Sort _} {p0 p1 p2 r:XN->[Qp,ZX]} (a0:XN) (a1:ZX) (h0:p0 a0 a1) (h1:p1 a0 a1) (h2:p2 a0 a1) (k:r a0 a1):∃ a0 a1,p0 a0 a1/\p1 a0 a1/\p2 a0 a1/\r a0 a1:=⟨a0,a1,h0,h1,h2,k⟩
theorem cD {α0 α1:Sort _} {p0 p1 p2 p3 r:XN->[Qp,ZX]} (a0:XN) (a1:ZX) (h0:p0 a0 a1) (h1:p1 a0 a1) (h2:p2 a0 a1) (h3:p3 a0 a1) (k:r a0 a1):∃ a0 a1,p0 a0 a1/\p1 a0 a1/\p2 a0 a1/\p3 a0 a1/\r a0 a1:=⟨a0,a1,h0,h1,h2,h3,k⟩
theorem Dt {α0 α1 α2:Sort _} {r:XN->ZX->[Qp,α2]} (a0:XN) (a1:ZX) (a2:α2) (k:r a0 a1 a2):∃ a0 a1 a2,r a0 a1 a2:=⟨a0,a1,a2,k⟩
theorem pU {α0 α1 α2:Sort _} {p0 r:XN->ZX->[Qp,α2]} (a0:XN) (a1:ZX) (a2:α2) (h0:p0 a0 a1 a2) (k:r a0 a1 a2):∃ a0 a1 a2,p0 a0 a1 a2/\r a0 a1 a2:=⟨a0,a1,a2,h0,k⟩
theorem iR {α0 α1 α2:Sort _} {p0 p1 r:XN->ZX->[Qp,α2]} (a0:XN) (a1:ZX) (a2:α2) (h0:p0 a0 a1 a2) (h1:p1 a0 a1 a2) (k:r a0 a1 a2):∃ a0 a1 a2,p0 a0 a1 a2/\p1 a0 a1 a2/\r a0 a1 a2:=⟨a0,a1,a2,h0,h1,k⟩
theorem dh {α0 α1 α2:Sort _} {p0 p1 p2 r:XN->ZX->[Qp,α2]} (a0:XN) (a1:ZX) (a2:α2) (h0:p0 a0 a1 a2) (h1:p1 a0 a1 a2) (h2:p2 a0 a1 a2) (k:r a0 a1 a2):∃ a0 a1 a2,p0 a0 a1 a2/\p1 a0 a1 a2/\p2 a0 a1 a2/\r a0 a1 a2:=⟨a0,a1,a2,h0,h1,h2,k⟩
theorem cj {α0 α1 α2:Sort _} {p0 p1 p2 p3 r:XN->ZX->[Qp,α2]} (a0:XN) (a1:ZX) (a2:α2) (h0:p0 a0 a1 a2) (h1:p1 a0 a1 a2) (h2:p2 a0 a1 a2) (h3:p3 a0 a1 a2) (k:r a0 a1 a2):∃ a0 a1 a2,p0 a0 a1 a2/\p1 a0 a1 a2/\p2 a0 a1 a2/\p3 a0 a1 a2/\r a0 a1 a2:=⟨a0,a1,a2,h0,h1,h2,h3,k⟩
theorem cf {α0 α1 α2 α3:Sort _} {r:XN->ZX->α2->[Qp,α3]} (a0:XN) (a1:ZX) (a2:α2) (a3:α3) (k:r a0 a1 a2 a3):[ZY,r a0 a1 a2 a3]:=⟨a0,a1,a2,a3,k⟩
theorem LB {α0 α1 α2 α3:Sort _} {p0 r:XN->ZX->α2->[Qp,α3]} (a0:XN) (a1:ZX) (a2:α2) (a3:α3) (h0:p0 a0 a1 a2 a3) (k:r a0 a1 a2 a3):[ZY,p0 a0 a1 a2 a3/\r a0 a1 a2 a3]:=⟨a0,a1,a2,a3,h0,k⟩
theorem mr {α0 α1 α2 α3:Sort _} {p0 p1 r:XN->ZX->α2->[Qp,α3]} (a0:XN) (a1:ZX) (a2:α2) (a3:α3) (h0:p0 a0 a1 a2 a3) (h1:p1 a0 a1 a2 a3) (k:r a0 a1 a2 a3):[ZY,p0 a0 a1 a2 a3/\p1 a0 a1 a2 a3/\r a0 a1 a2 a3]:=⟨a0,a1,a2,a3,h0,h1,k⟩
theorem rL {α0 α1 α2 α3:Sort _} {p0 p1 p2 r:XN->ZX->α2->[Qp,α3]} (a0:XN) (a1:ZX) (a2:α2) (a3:α3) (h0:p0 a0 a1 a2 a3) (h1:p1 a0 a1 a2 a3) (h2:p2 a0 a1 a2 a3) (k:r a0 a1 a2 a3):[ZY,p0 a0 a1 a2 a3/\p1 a0 a1 a2 a3/\p2 a0 a1 a2 a3/\r a0 a1 a2 a3]:=⟨a0,a1,a2,a3,h0,h1,h2,k⟩
theorem az {α0 α1 α2 α3:Sort _} {p0 p1 p2 p3 r:XN->ZX->α2->[Qp,α3]} (a0:XN) (a1:ZX) (a2:α2) (a3:α3) (h0:p0 a0 a1 a2 a3) (h1:p1 a0 a1 a2 a3) (h2:p2 a0 a1 a2 a3) (h3:p3 a0 a1 a2 a3) (k:r a0 a1 a2 a3):[ZY,p0 a0 a1 a2 a3/\p1 a0 a1 a2 a3/\p2 a0 a1 a2 a3/\p3 a0 a1 a2 a3/\r a0 a1 a2 a3]:=⟨a0,a1,a2,a3,h0,h1,h2,h3,k⟩
namespace L2
open PySem PySem.Spec PyProof.Rows
abbrev Key:=Sum Int Str
def my:Key->[Q6,Bool]
 | .inl k,v=>Value.isInt k v
 | .inr x,v=>Value.isStrOf x v
def LY (w:World):Key->Int
 | .inl k=>hashInt k
 | .inr x=>hashStr w x
theorem cL:∀ {k:Key} {v:Value},my k v=true->(∃ i t,k=[TC,i]/\v=[Sy,i])\/(∃ x t,k=[U4,x]/\v=Value.str x t)
 | .inl i,v,h=>by
  obtain ⟨t,e⟩:=Value.isInt_shape (k:=i) (v:=v) h;exact .inl ([Xp,i,t,e])
 | .inr x,v,h=>by
  obtain ⟨t,e⟩:=Value.isStrOf_shape (x:=x) (v:=v) h;exact [PY,[Xp,x,t,e]]
theorem Bh (i:Int) (t:Tok):my [T6,i] (.int i t)=true:=by simp [my,Value.isInt]
theorem A9 (x:Str) (t:Tok):my (.inr x) (.str x t)=true:=by simp [my,Value.isStrOf]
theorem Km (a b:Int):[N8,([TC,a]:Key)=[TC,b]]=(a == b):=by
 by_cases e:a=b
 .subst e; simp
 .have h:¬ ([TC,a]:Key)=[TC,b]:=fun q=>e (Sum.inl.inj q)
  rw [[NJ,h]];exact ([Wg,e]).symm
theorem II (a b:Str):[N8,([U4,a]:Key)=[U4,b]]=[N8,a=b]:=by
 by_cases e:a=b
 .subst e; simp
 .have h:¬ ([U4,a]:Key)=[U4,b]:=fun q=>e (Sum.inr.inj q)
  rw [[NJ,h],[NJ,e]]
theorem JC (a:Int) (b:Str):[Vb,[N8,([TC,a]:Key)=[U4,b]]]:=[NJ,(fun q=>[PL,q])]
theorem Jz (a:Str) (b:Int):[Vb,[N8,([U4,a]:Key)=[TC,b]]]:=[NJ,(fun q=>[PL,q])]
def cG (prog:Program) (w:World):PySem.KeyKind prog w Key where
 is:=my
 hash:=LY w
 inj:=fun v a b ha hb=>by
  rcases cL ha with ⟨i,t,rfl,rfl⟩ | ⟨x,t,rfl,rfl⟩
  .rcases cL hb with ⟨j,u,rfl,e⟩ | ⟨y,u,rfl,e⟩
   .injection e with e1 _; rw [e1]
   .exact [PL,e]
  .rcases cL hb with ⟨j,u,rfl,e⟩ | ⟨y,u,rfl,e⟩
   .exact [PL,e]
   .injection e with e1 _; rw [e1]
 byValue:=fun k v h=>by
  rcases cL h with ⟨i,t,rfl,rfl⟩ | ⟨x,t,rfl,rfl⟩ <;> rfl
 pyHash:=fun hv h=>by
  rcases cL hv with ⟨i,t,rfl,rfl⟩ | ⟨x,t,rfl,rfl⟩
  .exact wpAny_pyHash_int h
  .exact wpAny_pyHash_str h
 eqBool:=fun hu hv h=>by
  rcases cL hu with ⟨i,t,rfl,rfl⟩ | ⟨x,t,rfl,rfl⟩
  .rcases cL hv with ⟨j,u,rfl,rfl⟩ | ⟨y,u,rfl,rfl⟩
   .rw [Km] at h; exact wpAny_eqBool_int h
   .rw [JC] at h; exact SeqAt.EqAt.int_str i t y u _ _ _ _ h
  .rcases cL hv with ⟨j,u,rfl,rfl⟩ | ⟨y,u,rfl,rfl⟩
   .rw [Jz] at h; exact SeqAt.EqAt.str_int x t j u _ _ _ _ h
   .rw [II] at h; exact wpAny_eqBool_str h
 «strs»:=fun k x t v h=>by
  rcases cL h with ⟨i,u,rfl,e⟩ | ⟨y,u,rfl,e⟩
  .exact [PL,e]
  .injection e with e1 _;subst e1;cases v <;> rfl
theorem wX (prog:Program) (w:World) (i:Int) (t:Tok):(cG prog w).is [T6,i] (.int i t)=true:=Bh i t
theorem pB (prog:Program) (w:World) (x:Str) (t:Tok):(cG prog w).is (.inr x) (.str x t)=true:=A9 x t
end L2
namespace L2
open PySem PySem.Spec PyProof.Rows
inductive V where
 | non | bl (b:Bool) | int (i:Int) | str (x:Str) | byt (b:Array UInt8) | flt (b:UInt64) | ref (a:Addr) | ty (n:String)
 deriving DecidableEq
def RelV:V->[Q6,Prop]
 | .non,u=>u=W8
 | .bl b,u=>u=Value.bool b
 | .int i,u=>∃ t,u=[Sy,i]
 | .str x,u=>∃ t,u=Value.str x t
 | .byt b,u=>∃ t,u=Value.bytes b t
 | .flt b,u=>∃ t,u=Value.float b t
 | .ref a,u=>u=[Te,a]
 | .ty n,u=>u=Value.type n
abbrev Vals:Nz->[Qp,MS]:=Paired RelV
theorem Vals.length {xs:Nz} {us:MS} (r:[Vi,xs]):Mh=us.length:=Paired.length r
theorem Vals.get:∀ {xs:Nz} {us:MS} {i:Nat} {x:V},[Vi,xs]->xs[i]?=OV->∃ u,us[i]?=NZ/\[WE,x]
 | _,_,_,_,.nil,e=>by simp at e
 | _,_,0,_,.cons r _,e=>by simp at e; subst e; exact [Mn,r]
 | _,_,i+1,x,.cons _ t,e=>by
  refine [NC,Vals.get (i:=i) (x:=x) t [Zh,e],fun u h1 h2=>?_]
  exact (af u [Zh,h1] h2)
theorem Vals.set {x:V} {u:Value} (r:[WE,x]):∀ {xs:Nz} {us:MS} (i:Nat),[Vi,xs]->Vals (xs.set i x) (us.set i u)
 | _,_,_,.nil=>.nil
 | _,_,0,.cons _ t=>.cons r t
 | _,_,i+1,.cons q t=>.cons q (Vals.set r i t)
theorem Vals.append:∀ {xs ys:Nz} {us ws:MS},[Vi,xs]->Vals ys ws->Vals (xs++ys) (us++ws)
 | _,_,_,_,.nil,s=>s
 | _,_,_,_,.cons r t,s=>.cons r (Vals.append t s)
theorem Vals.take:∀ {xs:Nz} {us:MS} (n:Nat),[Vi,xs]->Vals (xs.take n) (us.take n)
 | _,_,0,_=>.nil
 | _,_,_+1,.nil=>.nil
 | _,_,n+1,.cons r t=>.cons r (Vals.take n t)
theorem Vals.drop:∀ {xs:Nz} {us:MS} (n:Nat),[Vi,xs]->Vals (xs.drop n) (us.drop n)
 | _,_,0,r=>r
 | _,_,_+1,.nil=>.nil
 | _,_,n+1,.cons _ t=>Vals.drop n t
def RelO:RT->[Qp,Ms]
 | some v,some u=>[WE,v]
 | none,none=>True
 | _,_=>False
def KV {κ:Type}:[Pe,κ,V]->[Qp,[Pe,κ,Value]]:=Paired fun (p:κ×V) (q:κ×Value)=>p.1=q.1/\RelV p.2 q.2
def kV:Key->V
 | .inl i=>RF
 | .inr x=>.str x
inductive HO where
 | lst (xs:List V)
 | tup (xs:List V)
 | dK (kvs:List (Key×V)) | dT (kvs:List (List Key×V))
 | set (S:Int->Bool) (n:Nat)
 | ins (C dx:Addr) (fs:List (Str×V))
 | own (x:Addr)
 | xd (fs:List (Str×V))
 | met (f x:Addr)
 | rng (lo hi:Int)
 | frz (o:Obj) (u:HO)
 | tbl (ps:Array Value)
 | ext (φ:Heap->Prop)
abbrev Hp:=Addr->[OM,HO]
def upd (H:Hp) (a:Addr) (o:HO):Hp:=fun b=>[Mj,b=a,MN,H b]
theorem aq {H:Hp} {a:Addr} {o:HO}:upd H a o a=MN:=by unfold upd; rw [if_pos rfl]
theorem aK {H:Hp} {a b:Addr} {o:HO} (h:b≠a):upd H a o b=H b:=by unfold upd; rw [if_neg h]
theorem eR {H:Hp} {a b:Addr} {o u:HO} (h:H a=MN) (h':H b=NZ) (d:o≠u):a≠b:=by
 intro e; subst e; rw [h] at h'; exact d ([Mq,h'])
theorem aV {H:Hp} {a b:Addr} {o:HO} (h:H a=MN) (h':H b=none):a≠b:=by
 intro e; subst e; rw [h] at h'; cases h'
section
variable (P:Program) (w:World)
def ObjOk (H:Hp) (h:Heap) (a:Addr):[Qp,HO]
 | .lst xs=>[N4,Mh]/\∃ (its:MS) (n:Nat),Vals xs its/\RO=[Qk,PF,.seq Ox n]
 | .tup xs=>[N4,Mh]/\∃ its:MS,Vals xs its/\IsTup h a Ox
 | .dK kvs=>[N4,Q7]/\[Vb,([Y9,a])]/\∃ vs,KV kvs vs/\h.DictOf (cG P w) a vs
 | .dT kvs=>[N4,Q7]/\[Vb,([Y9,a])]/\∃ xs:[Pe,To,Addr×Value], [Vg,(fun (p:List Key×V) (q:List Key×Addr×Value)=>p.1=q.1/\H q.2.1=[OD,p.1.map kV]/\RelV p.2 q.2.2),kvs,xs]/\ ∃ o es ep,RO=MN/\o.ExactDict/\o.data=.dict es ep/\es.toList=xs.map (entryOfKey (tupleKind (cG P w)))/\(xs.map OB).Nodup
 | .set S n=>h.SetOf (intKind P w) a S n
 | .ins C dx fs=>H dx=[Mo,.own a]/\V5<=1000/\dx≠a/\RO=[Mo,[Xe,dx]]/\ ∃ mA,h.Ns1 dx mA/\(∀ f,RelO (fs.lookup f) (mA f))/\PySem.Within mA (fs.map OB)
 | .own _=>∃ o,RO=MN
 | .xd fs=>∃ mA,h.Ns1 a mA/\∀ f,RelO (fs.lookup f) (mA f)
 | .rng lo hi=>∃ t u v,RO=[Qk,.type Vk,[S5,#[.int lo t,.int hi u,.int 1 v]]]
 | .frz o u=>RO=MN/\ObjOk H h a u
 | .tbl ps=>RO=[Qk,.none,[S5,ps]]
 | .met f x=>RO=[Mo,PySem.W.methodObj [MT,f] [MT,x]]
 | .ext φ=>φ h/\(∃ o,RO=MN)/\∀ h1 h2:Heap,φ h1->(∀ o,h1.get? a=MN->h2.get? a=MN)->φ h2
def HOk (H:Hp) (h:Heap):Prop:=∀ a o,H a=MN->ObjOk P w H h a o
end
section
variable {P:Program} {w:World} {H H':Hp} {h h':Heap} {a:Addr} {o:HO}
theorem ObjOk.lt (x:ObjOk P w H h a o):a<T9:=by
 cases o with
 | lst xs=>refine bZ x fun _ zq0=>bU zq0 fun _ _ _ e=>?_;clear zq0 x; exact Vt
 | tup xs=>refine bZ x fun _ zq0=>ar zq0 fun _ _ p=>?_;clear zq0 x; exact p.lt
 | dK kvs=>refine cb x fun _ _ zq0=>ar zq0 fun _ _ zq1=>dZ zq1 fun o _ _ e _=>?_;clear zq0 zq1 x; exact Vt
 | dT kvs=>refine cb x fun _ _ zq0=>ar zq0 fun _ _ zq1=>dZ zq1 fun o _ _ e _=>?_;clear zq0 zq1 x; exact Vt
 | set S n=>refine fB x fun o _ _ _ e _=>?_;clear x; exact Vt
 | ins C dx fs=>refine dE x fun _ _ _ e _=>?_;clear x; exact Vt
 | own y=>obtain ⟨_,e⟩:=x; exact Vt
 | xd fs=>refine ar x fun _ zp1 _=>?_;clear x;obtain ⟨_,_,_,e,_⟩:=zp1; exact Vt
 | rng lo hi=>refine lD x fun _ _ _ e=>?_;clear x; exact Vt
 | frz ob u=>obtain ⟨e,_⟩:=x; exact Vt
 | tbl ps=>exact [Nm,[Yh,RO=some _,x]]
 | met f y=>exact [Nm,[Yh,RO=some _,x]]
 | ext φ=>refine cb x fun _ zp2 _=>?_;clear x;obtain ⟨_,e⟩:=zp2; exact Vt
theorem Paired.mapP {α β:Type} {F G:α->[Qp,β]}:∀ {l₁:QY} {l₂:Yg},[Vg,F,l₁,l₂]->(∀ a b,F a b->G a b)->[Vg,G,l₁,l₂]
 | _,_,.nil,_=>.nil
 | _,_,.cons r t,f=>.cons (f _ _ r) (Paired.mapP t f)
theorem ObjOk.stay (x:ObjOk P w H h a o) (k:∀ b u,(b=a\/H b=[Mo,.own a])->Vu=NZ->Zk=NZ)
  (ho:∀ b,H b=[Mo,.own a]->H' b=[Mo,.own a]) (ht:∀ b xs,H b=[OD,xs]->H' b=[OD,xs]):ObjOk P w H' h' a o:=by
 induction o with
 | lst xs=>refine bZ x fun z zq0=>bU zq0 fun its n r e=>?_;clear zq0 x; exact (aH z (bP its n r (k _ _ (.inl rfl) e)))
 | tup xs=>refine bZ x fun z zq0=>ar zq0 fun its r zq1=>ar zq1 fun ob e c=>?_;clear zq0 zq1 x; exact (aH z (af its r (af ob (k _ _ (.inl rfl) e) c)))
 | dK kvs=>refine cb x fun z y zq0=>ar zq0 fun vs r zq1=>dZ zq1 fun ob es ep e c=>?_;clear zq0 zq1 x; exact (bM z y (af vs r (pU ob es ep (k _ _ (.inl rfl) e) c)))
 | dT kvs =>
  refine cb x fun z y zq0=>ar zq0 fun xs r zq1=>dZ zq1 fun ob es ep e c=>?_;clear zq0 zq1 x;exact (bM z y (af xs (Paired.mapP r fun p q z=>(bM z.1 (ht _ _ z.2.1) z.2.2)) (pU ob es ep (k _ _ (.inl rfl) e) c)))
 | set S n=>refine fB x fun ob es ep t e c=>?_;clear x; exact (LB ob es ep t (k _ _ (.inl rfl) e) c)
 | ins C dx fs =>
  refine dE x fun d z ne e zq0=>ar zq0 fun mA zp3 r=>?_;clear zq0 x;obtain ⟨od,es,ep,e2,c⟩:=zp3;exact (dv (ho _ d) z ne (k _ _ (.inl rfl) e) (af mA (pU od es ep (k _ _ (.inr d) e2) c) r))
 | own y=>obtain ⟨ob,e⟩:=x; exact ⟨ob,k _ _ (.inl rfl) e⟩
 | xd fs=>refine ar x fun mA zp4 r=>?_;clear x;obtain ⟨od,es,ep,e,c⟩:=zp4; exact (af mA (pU od es ep (k _ _ (.inl rfl) e) c) r)
 | rng lo hi=>refine lD x fun t u v e=>?_;clear x; exact (Dt t u v (k _ _ (.inl rfl) e))
 | frz ob u ih=>obtain ⟨e,q⟩:=x; exact ⟨k _ _ (.inl rfl) e,ih q⟩
 | tbl ps =>
  have e:h.get? a=some { cls:=.none,data:=.fields ps }:=x;show h'.get? a=some { cls:=.none,data:=.fields ps };exact k a _ (.inl rfl) e
 | met f y =>
  have e:h.get? a=some (PySem.W.methodObj (.ref f) (.ref y)):=x;show h'.get? a=some (PySem.W.methodObj (.ref f) (.ref y));exact k a _ (.inl rfl) e
 | ext φ=>refine cb x fun p zp5 st=>?_;clear x;obtain ⟨o,e⟩:=zp5; exact (bM (st _ _ p fun o q=>k _ _ (.inl rfl) q) ⟨o,k _ _ (.inl rfl) e⟩ st)
theorem HOk.lt (x:HOk P w H h) (e:H a=MN):a<T9:=(x a o e).lt
theorem HOk.fresh (x:HOk P w H h) (e:T9<=a):H a=none:=by
 cases q:H a with
 | none=>rfl
 | some u=>exact [O9,([NR,x.lt q,e]),WC]
theorem HOk.kept (x:HOk P w H h) (k:∀ b u,Vu=NZ->Zk=NZ):HOk P w H h':=fun a o e => (x a o e).stay (fun b u _ q=>k b u q) (fun _ q=>q) fun _ _ q=>q
theorem HOk.laid (x:HOk P w H h) (k:∀ b u,Vu=NZ->Zk=NZ) (hp:T9<=a) (new:ObjOk P w (upd H a o) h' a o):HOk P w (upd H a o) h':=fun b u e=>by
 have hn:=x.fresh hp;by_cases hb:b=a
 .subst hb; rw [aq] at e; cases e; exact new
 .rw [aK hb] at e;exact (x b u e).stay (fun c v _ q=>k c v q) (fun c q=>by rw [aK (aV q hn)]; exact q) fun c xs q=>by rw [aK (aV q hn)]; exact q
end
def Rd (H:Hp) (a:Addr) (u:HO):Prop:=H a=NZ\/∃ o,H a=[Mo,.frz o u]
theorem Rd.ok {P:Program} {w:World} {H:Hp} {h:Heap} {a:Addr} {u:HO} (r:Rd H a u) (x:HOk P w H h):ObjOk P w H h a u:=by
 rcases r with r | ⟨o,r⟩
 .exact x a u r
 .obtain ⟨_,q⟩:=x a _ r;exact q
def Mut:[Qp,[OM,HO]]
 | some (.lst _)=>True
 | some (.dK _)=>True
 | some (.dT _)=>True
 | some (.set _ _)=>True
 | some (.ins _ _ _)=>True
 | some (.ext _)=>True
 | _=>False
section
variable {P:Program} {w:World} {H:Hp} {h h':Heap} {x e:Addr} {o':HO}
theorem HOk.write (ok:HOk P w H h) (mu:Mut (H x)) (he:e=x\/H e=[Mo,.own x]) (k:∀ b u,b≠e->Vu=NZ->Zk=NZ) (heo:∃ u,[QX,e]=NZ)
  (new:ObjOk P w (upd H x o') h' x o'):HOk P w (upd H x o') h':=fun b u q=>by
 have nown:∀ c y,H c=[Mo,.own y]->c≠x:=fun c y r z=>by subst z; rw [r] at mu; exact mu
 have ntup:∀ c xs,H c=[OD,xs]->c≠x:=fun c xs r z=>by subst z; rw [r] at mu; exact mu
 by_cases hb:b=x
 .subst hb; rw [aq] at q; cases q; exact new
 .rw [aK hb] at q;by_cases hbe:b=e
  .have q':H b=[Mo,.own x]:=by
    rcases he with z | z
    .exact [O9,hbe.trans z,hb]
    .rw [hbe]; exact z
   rw [q] at q'; cases q'
   obtain ⟨v,hv⟩:=heo;exact [Mw,v,by rw [hbe]; exact hv]
  .refine (ok b u q).stay (fun c v hc r=>k c v ?_ r) (fun c r=>by rw [aK (nown c b r)]; exact r) fun c xs r=>by rw [aK (ntup c xs r)]; exact r
   rcases hc with rfl | hc
   .exact hbe
   .rintro rfl;rcases he with z | z
    .exact nown c b hc z
    .rw [hc] at z; cases z; exact hb rfl
end
structure Un (fs ex:List Addr) (H H':Hp) (h h':Heap):Prop where
 keep:∀ b o,h.get? b=some o->H b=none->b∉fs->b∉ex->h'.get? b=some o
 slot:∀ b o,h.get? b=some o->H b=none->b∈fs->b∉ex->∃ sl,h'.get? b=some { o with slots:=sl }
 free:∀ b o,h.get? b=some o->H b=none->b∉ex->H' b=none
 there:∀ b o,h.get? b=some o->b∉ex->∃ o',h'.get? b=some o'
 tups:∀ b xs,H b=some (.tup xs)->H' b=some (.tup xs)
 frzs:∀ b o u,H b=some (.frz o u)->H' b=some (.frz o u)
 tbls:∀ b ps,H b=some (.tbl ps)->∃ more,H' b=some (.tbl (ps++more))
section
variable {fs fs' ex ex':RY} {H H1 H2:Hp} {h h1 h2 h':Heap} {a x e:Addr} {o:HO}
theorem Un.any (u:Un fs ex H H1 h h1) {b:Addr} {ob:Obj} (q:Vu=some ob) (n:H b=none) (hx:b∉ex):∃ sl,h1.get? b=some { ob with slots:=sl }:=by
 by_cases hb:b∈fs
 .exact u.slot b ob q n hb hx
 .exact [Mw,ob.slots,u.keep b ob q n hb hx]
theorem Un.kept (k:∀ b u,Vu=NZ->Zk=NZ):Un fs ex H H h h' :=
 ⟨fun b ob q _ _ _=>k b ob q,fun b ob q _ _ _=>[Mw,ob.slots,k b ob q],fun _ _ _ n _=>n,fun b ob q _=>[Mw,ob,k b ob q],fun _ _ q=>q,fun _ _ _ q=>q,fun _ ps q=>[Mw,#[],by rw [q]; simp]⟩
theorem Un.refl:Un fs ex H H h h:=Un.kept fun _ _ q=>q
theorem Un.laid (k:∀ b u,Vu=NZ->Zk=NZ) (hp:T9<=a) (hn:H a=none):Un fs ex H (upd H a o) h h' where
 keep:=fun b u q _ _ _=>k b u q
 slot:=fun b u q _ _ _=>[Mw,u.slots,k b u q]
 free:=fun b u q n _=>by rw [aK (Nat.ne_of_lt (Nat.lt_of_lt_of_le (Heap.lt_size q) hp))]; exact n
 there:=fun b u q _=>[Mw,u,k b u q]
 tups:=fun b xs q=>by rw [aK (aV q hn)]; exact q
 frzs:=fun b u xs q=>by rw [aK (aV q hn)]; exact q
 tbls:=fun b ps q=>[Mw,#[],by rw [aK (aV q hn),q]; simp]
theorem Un.write (mu:Mut (H x)) (he:e=x\/H e=[Mo,.own x]) (k:∀ b u,b≠e->Vu=NZ->Zk=NZ) (heo:∃ u,[QX,e]=NZ):Un fs ex H (upd H x o) h h':=by
 have hx:∀ b,H b=none->b≠x:=fun b n z=>by subst z; rw [n] at mu; exact mu
 have hb:∀ b,H b=none->b≠e:=fun b n z=>by
  subst z;rcases he with r | r
  .exact hx b n r
  .rw [n] at r; cases r
 have hm:∀ b u,H b=NZ->¬ Mut (NZ)->b≠x:=fun b u q nm z=>by subst z; rw [q] at mu; exact nm mu
 refine ⟨fun b u q n _ _=>k b u (hb b n) q,fun b u q n _ _=>[Mw,u.slots,k b u (hb b n) q],fun b u q n _=>by rw [aK (hx b n)]; exact n,fun b u q _=>?_, fun b xs q=>by rw [aK (hm b _ q fun z=>z)]; exact q,fun b u xs q=>by rw [aK (hm b _ q fun z=>z)]; exact q,fun b ps q=>[Mw,#[],by rw [aK (hm b _ q fun z=>z),q]; simp]⟩
 by_cases hbe:b=e
 .subst hbe; exact heo
 .exact [Mw,u,k b u hbe q]
end
def trk (h:Heap) (H:Hp):RY:=([RQ,T9]).filter fun a=>(H a).isSome
def vR (h:Heap) (H:Hp):Heap:=PySem.W.hideAll h (trk h H)
theorem CF (h:Heap) (H:Hp):[Pr,vR h H]=T9:=PySem.W.hideAll_size _ _
theorem EG {h:Heap} {H:Hp} {b:Addr} {o:Obj} (e:Vu=MN) (n:H b=none):(vR h H).get? b=MN :=
 PySem.W.hideAll_get _ e fun hm=>by
  have q:(H b).isSome=true:=(List.mem_filter.mp hm).2;rw [n] at q; simp at q
theorem Gj {h:Heap} {H:Hp} {b:Addr} {o:Obj} (e:(vR h H).get? b=MN):Vu=MN/\H b=none:=by
 have e':Vu=MN:=PySem.W.of_hideAll (trk h H) e;refine [W4,e'];cases q:H b with
 | none=>rfl
 | some x =>
  have hm:b∈trk h H:=[A0c,[Mw,List.mem_range.mpr ([Nm,e']),by simp [q]]];have z:(vR h H).get? b=none:=PySem.W.hideAll_none (trk h H) hm;rw [z] at e; cases e
def Hi (g h:Heap) (L:Addr):Px:=([RQ,T9]).filterMap fun a=>[Mj,a=L\/(g.get? a).isSome=true,none,[Tr,RO,fun o=>(a,o)]]
def rest (g h:Heap) (L d:Addr):Px:=(Hi g h L).filter fun p=>[N8,p.1≠d]
end L2
namespace L2
open PySem PySem.Spec PyProof.Rows
structure Mod (K:PySem.W.Frag) (mg:Str->Option Value) (base:Heap):Prop where
 kin:K.In base
 glob:base.Ns mainGlobals mg
 blt:∃ mb,base.Ns builtinsNs mb/\∀ x:Str,x≠"__name__"->mb x=bootBuiltins x
 nolimit:base.NoLimit
structure Cx where
 prog:Program
 w:World
 K:PySem.W.Frag
 mg:Str->Option Value
 base:Heap
 A:Around
 N:List Str
 s₀:Shared
 H₀:Hp
 env:Env
 outer:List Env
 stack:List Env
 ex:List Addr
 fn:Str->Bool
 calm:Bool
 pn:List (Addr×Obj)
 xe:Value->Shared->Prop
def frs (l:Sk):RY:=l.filterMap (·.frame)
abbrev Cx.fs (X:Cx):RY:=frs X.outer
def Vis (sc:Scope) (x:Str):Prop:=WV=U6\/WV=VS\/WV=some .free
def Loc (sc:Scope) (x:Str):Prop:=WV=U6\/WV=VS
def Look (env:Env) (h:Heap) (m:Str->Ms) (x:Str) (u:Value):Prop :=
 (env.kindOf x=U6/\m x=NZ)\/((env.kindOf x=VS\/env.kindOf x=some .free)/\∃ c,[VB,x]=Qj/\h.IsCell c (NZ))
structure Cx.Ok (X:Cx):Prop where
 mod:Mod X.K X.mg X.base
 kind:X.env.scope.kind=.function
 glob:X.env.globals=mainGlobals
 blt:X.env.builtins=builtinsNs
 above:X.s₀.heap.objs.size<=X.env.locals
 inj:∀ x y c,X.env.cells.lookup x=some c->X.env.cells.lookup y=some c->x=y
 has:∀ x,(X.env.kindOf x=some .cell\/X.env.kindOf x=some .free)->∃ c,X.env.cells.lookup x=some c
 cab:∀ x c,X.fn x=true->X.env.cells.lookup x=some c->X.s₀.heap.objs.size<=c
 hd:X.calm=true->X.A.handled=none
 frames:X.A.frames=some X.stack
 stk:X.stack=X.outer\/(X.stack=X.env::X.outer/\X.env.frame=some X.env.locals)
 exf:∀ b∈X.ex,b≠X.env.locals/\∀ x c,X.env.cells.lookup x=some c->c≠b
 bs:∀ b o,X.base.get? b=some o->X.s₀.heap.get? b=some o/\X.H₀ b=none
 bsz:X.base.objs.size<=X.s₀.heap.objs.size
 noex:∀ b o,X.base.get? b=some o->b∉X.ex
 exfs:∀ b∈X.ex,b∉X.fs
 funs:X.s₀.heap.FunFrames X.base X.outer
 frf:∀ b∈X.fs,X.H₀ b=none
structure Inv (X:Cx) (pins:List (Addr×Obj)) (σ:List (Option V)) (H:Hp) (s:Shared):Prop where
 ok:X.Ok
 os:s.os=X.s₀.os
 bare:AllBare s.gens
 base:Un X.fs X.ex X.H₀ H X.s₀.heap s.heap
 loc:∃ m,s.heap.Ns X.env.locals m/\∀ (i:Nat) (x:Str) (v:V),X.N[i]?=some x->σ[i]?=some (some v)->Vis X.env.scope x->∃ u,RelV v u/\Look X.env s.heap m x u
 cell:∀ x c,X.env.cells.lookup x=some c->∃ v,s.heap.IsCell c v
 free:H X.env.locals=none
 freeC:∀ x c,X.env.cells.lookup x=some c->H c=none
 pin:∀ p∈X.pn++pins,s.heap.get? p.1=some p.2/\H p.1=none/\p.1≠X.env.locals/\p.1∉X.fs/\∀ v,p.2.data≠.cell v
 hok:HOk X.prog X.w H s.heap
 len:σ.length=X.N.length
section
variable {X:Cx} {pins:Px} {σ:[MG,RT]} {H H':Hp} {s:Shared} {h':Heap}
theorem Cx.Ok.nofr (ok:X.Ok) {b:Addr} {o:Obj} (e:X.base.get? b=MN):b∉X.fs:=fun hb=>by
 have:=(ok.funs.mem hb).1;rw [e] at this; cases this
theorem Inv.bs (I:Rw):[Ym,X.base.get? b=MN,Xz=MN/\H b=none]:=fun b o e => [Mw,I.base.keep b o (I.ok.bs b o e).1 (I.ok.bs b o e).2 (I.ok.nofr e) (I.ok.noex b o e),I.base.free b o (I.ok.bs b o e).1 (I.ok.bs b o e).2 (I.ok.noex b o e)]
theorem Inv.bk (I:Rw):[Ym,X.base.get? b=MN,Xz=MN]:=[RU,(I.bs b o e).1]
theorem Inv.mod (I:Rw):Mod X.K X.mg X.base:=I.ok.mod
theorem Inv.kIn (I:Rw):X.K.In s.heap:=I.ok.mod.kin.keeps I.bk
theorem Inv.fr (I:Rw):∃ m,Fr X.base Qa s.heap m :=
 let ⟨m,hn,_⟩:=I.loc
 ⟨m,hn,I.bk,[Qi,I.ok.bsz,Y3]⟩
theorem Inv.lt (I:Rw):Qa<L7:=let ⟨_,hn,_⟩:=I.loc; hn.lt
theorem Inv.sz (I:Rw):Ue<=L7:=[Qi,Y3,Nat.le_of_lt I.lt]
theorem Inv.nofs (I:Rw) {a:Addr} (h:L7<=a):a∉X.fs:=fun hb=>by
 refine bZ (I.ok.funs.mem hb :) fun _ zq0=>ar zq0 fun o ho _=>?_;clear zq0;exact [O9,([NR,([Nm,ho]),([Qi,I.sz,h])]),WC]
theorem Inv.cne (I:Rw):∀ x c,[RM,x]=Qj->c≠Qa:=fun x c e z=>by
 refine bU (I.cell x c e :) fun v o ho hd=>?_
 refine ar I.loc fun m zp6 _=>?_;obtain ⟨o',es,ep,ho',hd',_⟩:=zp6;rw [z,ho'] at ho; cases ho; rw [hd'] at hd; cases hd
theorem Inv.funs (I:Rw):[X0,X.base,X.outer]:=by
 have all:∀ (l:Sk),([Ru,frs l,b∈X.fs])->X.s₀.heap.FunFrames X.base l->[X0,X.base,l]:=by
  intro l;induction l with
  | nil=>intro _ _; trivial
  | cons env r ih =>
   intro hs hl;refine cb hl fun hk zp7 hr=>?_;clear hl;obtain ⟨L,o,hf,hn,ho,hd⟩:=zp7;have hL:L∈X.fs:=hs L (by unfold frs; rw [List.filterMap_cons,hf]; exact List.mem_cons_self);obtain ⟨sl,e⟩:=I.base.slot L o ho (I.ok.frf L hL) hL fun z=>I.ok.exfs L z hL
   exact (bM hk (bJ L _ hf hn e hd) (ih (fun b hb=>hs b (by unfold frs; rw [List.filterMap_cons,hf]; exact List.mem_cons_of_mem _ hb)) hr))
 exact all X.outer (fun _ hb=>hb) I.ok.funs
theorem Inv.stack (I:Rw):[X0,X.base,X.stack]:=by
 rcases I.ok.stk with e | ⟨e,hf⟩
 .rw [e]; exact I.funs
 .rw [e];refine ar I.loc fun m hn _=>?_
  refine .cons (by rw [I.ok.kind]; decide) hf hn ?_ I.funs;exact Heap.get?_none_of_le ([Qi,I.ok.bsz,Y3])
theorem Inv.stkSub (I:Rw):[Ru,frs X.stack,b∈Qa::X.fs]:=[Pg,by
 rcases I.ok.stk with e | ⟨e,hf⟩
 .rw [e] at hb; exact [MX,hb]
 .rw [e] at hb;unfold frs at hb;rw [List.filterMap_cons,hf] at hb;exact hb]
theorem Inv.stkFree (I:Rw):[Ru,frs X.stack,H b=none]:=[Pg,by
 rcases List.mem_cons.mp (I.stkSub b hb) with e | hb
 .rw [e]; exact I.free
 .refine bZ (I.ok.funs.mem hb :) fun _ zq0=>ar zq0 fun o ho _=>?_;clear zq0;exact I.base.free b o ho (I.ok.frf b hb) [OE,I.ok.exfs b z hb]]
theorem Inv.step {g':Array GenState} {t':Nat} {d':Drawn} {ch:RY} (I:Rw)
  (hch:[Ru,ch,(b∈X.ex\/Ue<=b)/\b≠Qa/\(∀ x c,[RM,x]=Qj->c≠b)/\∀ p∈X.pn++pins,p.1≠b])
  (keep:[Ym,b≠Qa,b∉X.fs->b∉ch->Xz=MN->H b=none->Zk=MN])
  (slot:[Ym,b≠Qa,b∈X.fs->b∉ch->Xz=MN->H b=none->∃ sl,Zk=some { o with slots:=sl }]) (free:[Ym,b∉ch,Xz=MN->H b=none->H' b=none])
  (there:[Ym,b∉ch,Xz=MN->∃ o',Zk=some o'])
  (tups:∀ b xs,H b=[OD,xs]->H' b=[OD,xs]) (frzs:∀ b o u,H b=[Mo,.frz o u]->H' b=[Mo,.frz o u]) (tbls:∀ b ps,H b=[Mo,.tbl ps]->∃ more,H' b=[Mo,.tbl (ps++more)])
  (ns:∀ m,s.heap.Ns Qa m->h'.Ns Qa m) (hok:HOk X.prog X.w H' h') (hg:AllBare g') :
  Inv X pins σ H' { s with heap:=h',gens:=g',drawn:=d',toks:=t' }:=by
 have neL:[Ym,X.s₀.heap.get? b=MN,b≠Qa]:=[RU,[Ol,([NR,Vt,Y3])]]
 have neC:[Ym,X.s₀.heap.get? b=MN,b∉X.ex->b∉ch]:=fun b o e hx hb=>by
  rcases (hch b hb).1 with z | z
  .exact hx z
  .exact [O9,([NR,Vt,z]),WC]
 have cellK:∀ x c,[RM,x]=Qj->∀ v,s.heap.IsCell c v->h'.IsCell c v:=fun x c e v zr=>ar zr fun o ho hd=>by
  have nch:c∉ch:=[OE,(hch c z).2.2.1 x c e rfl]
  by_cases hc:c∈X.fs
  .obtain ⟨sl,q⟩:=slot c o (I.cne x c e) hc nch ho (I.freeC x c e);exact (af _ q hd)
  .exact (af o (keep c o (I.cne x c e) hc nch ho (I.freeC x c e)) hd)
 refine ⟨I.ok,I.os,hg,⟨fun b o e n hb hx=>?_,fun b o e n hb hx=>?_,fun b o e n hx=>?_,fun b o e hx=>?_,fun b xs e=>tups b xs (I.base.tups b xs e),fun b o xs e=>frzs b o xs (I.base.frzs b o xs e),fun b ps e=>?_⟩,?_,fun x c e=>?_,?_,fun x c e=>?_,[VV,?_],hok,I.len⟩
 .exact keep b o (neL b o e) hb (neC b o e hx) (I.base.keep b o e n hb hx) (I.base.free b o e n hx)
 .obtain ⟨sl,e1⟩:=I.base.slot b o e n hb hx;obtain ⟨sl',e2⟩:=slot b _ (neL b o e) hb (neC b o e hx) e1 (I.base.free b o e n hx);exact [Mw,sl',e2]
 .obtain ⟨o',e1⟩:=I.base.there b o e hx;exact free b o' (neC b o e hx) e1 (I.base.free b o e n hx)
 .obtain ⟨o',e1⟩:=I.base.there b o e hx;exact there b o' (neC b o e hx) e1
 .obtain ⟨m1,e1⟩:=I.base.tbls b ps e;obtain ⟨m2,e2⟩:=tbls b _ e1;exact [Mw,m1++m2,by rw [e2,Array.append_assoc]]
 .refine ar I.loc fun m hn hl=>?_
  refine (af m (ns m hn) (fun i x v e1 e2 e3=>?_));refine [NC,hl i x v e1 e2 e3,fun u r l=>?_]
  refine [Yt,u,r];rcases l with l | ⟨k,c,e,z⟩
  .exact .inl l
  .exact [PY,aH k (af c e (cellK x c e _ z))]
 .obtain ⟨v,z⟩:=I.cell x c e;exact [Mw,v,cellK x c e v z]
 .refine ar I.loc fun m zp8 _=>?_;obtain ⟨o,_,_,ho,_⟩:=zp8;exact free _ o [UK,(hch _ z).2.1 rfl] ho I.free
 .refine bU (I.cell x c e :) fun v o ho hd=>?_
  exact free c o [UK,(hch c z).2.2.1 x c e rfl] ho (I.freeC x c e)
 .refine dE (I.pin p hp :) fun e n ne nf d=>?_
  have nch:p.1∉ch:=[OE,(hch p.1 z).2.2.2 p hp rfl]
  exact (dv (keep p.1 p.2 ne nf nch e n) (free p.1 p.2 nch e n) ne nf d)
theorem Inv.un {t':Nat} (I:Rw) (u:Un X.fs [] H H' s.heap h') (hok:HOk X.prog X.w H' h'):[NP,X,σ,H',s,h',t']:=by
 refine [NC,id I.loc,fun m zp9 _=>?_];obtain ⟨o,es,ep,ho,r⟩:=zp9;obtain ⟨sl,hL⟩:=u.any ho I.free Pz;exact I.step (g':=s.gens) (d':=s.drawn) (ch:=[]) (fun _ z=>[PL,z]) (fun b o _ hb _ e n=>u.keep b o e n hb Pz) (fun b o _ hb _ e n=>u.slot b o e n hb Pz) (fun b o _ e n=>u.free b o e n Pz) (fun b o _ e=>u.there b o e Pz) u.tups u.frzs u.tbls (fun m' hm=>by
  refine dZ hm fun o' es' ep' ho' r'=>?_;clear hm;rw [ho] at ho'; cases ho'
  exact (pU _ es' ep' hL r')) hok I.bare
theorem Inv.call {g':Array GenState} {t':Nat} {d':Drawn} {ch:RY} (I:Rw) (u:Un (frs X.stack) ch H H' s.heap h') (hok:HOk X.prog X.w H' h') (hg:AllBare g')
  (hch:[Ru,ch,(b∈X.ex\/Ue<=b)/\b≠Qa/\(∀ x c,[RM,x]=Qj->c≠b)/\∀ p∈X.pn++pins,p.1≠b]) :
  Inv X pins σ H' { s with heap:=h',gens:=g',drawn:=d',toks:=t' }:=by
 refine [NC,id I.loc,fun m zp0 _=>?_];obtain ⟨o,es,ep,ho,r⟩:=zp0;obtain ⟨sl,hL⟩:=u.any ho I.free [OE,(hch _ z).2.1 rfl]
 exact I.step (ch:=ch) hch (fun b o hL hb hc e n=>u.keep b o e n [UK,(List.mem_cons.mp (I.stkSub b z)).elim hL hb] hc) (fun b o _ _ hc e n=>u.any e n hc) (fun b o hc e n=>u.free b o e n hc) (fun b o hc e=>u.there b o e hc) u.tups u.frzs u.tbls (fun m' hm=>by
  refine dZ hm fun o' es' ep' ho' r'=>?_;clear hm;rw [ho] at ho'; cases ho'
  exact (pU _ es' ep' hL r')) hok hg
theorem Inv.turned {t':Nat} {it:Addr} (I:Rw) (k:[Ym,b≠it,Xz=MN->Zk=MN]) (hn:H it=none) (hL:it≠Qa)
  (h1:it∈X.ex\/Ue<=it) (h2:∀ x c,[RM,x]=Qj->c≠it) (h3:∀ p∈X.pn++pins,p.1≠it):[NP,X,σ,H,s,h',t']:=by
 have nit:∀ b u,H b=NZ->b≠it:=fun b u e z=>by rw [z,hn] at e; cases e
 refine I.step (g':=s.gens) (d':=s.drawn) (ch:=[it]) ([Pg,?_]) (fun b o _ _ hc e _=>k b o [UK,hc (YK)] e) (fun b o _ _ hc e _=>[Mw,o.slots,k b o [UK,hc (YK)] e]) (fun _ _ _ _ n=>n) (fun b o hc e=>[Mw,o,k b o [UK,hc (YK)] e]) (fun _ _ e=>e) (fun _ _ _ e=>e) (fun b ps e=>[Mw,#[],by rw [e]; simp]) (fun m hm=>?_) (fun b u e=>?_) I.bare
 .have e:b=it:=[Ml,hb]
  subst e;exact (fI h1 hL h2 h3)
 .refine dZ hm fun o es ep ho r=>?_;clear hm;exact (pU o es ep (k _ o [XS,hL] ho) r)
 .refine (I.hok b u e).stay (fun c v hc q=>k c v ?_ q) (fun _ q=>q) fun _ _ q=>q
  rcases hc with z | z
  .rw [z]; exact nit b u e
  .exact nit c _ z
theorem Inv.tok (I:Rw) (t:Nat):Inv X pins σ H { s with toks:=t }:=I.un (h':=s.heap) (t':=t) Un.refl I.hok
theorem Inv.kept {t':Nat} (I:Rw) (k:∀ b u,Xz=NZ->Zk=NZ):[NP,X,σ,H,s,h',t']:=I.un (Un.kept k) (I.hok.kept k)
theorem Inv.laid {a:Addr} {o:HO} {t':Nat} (I:Rw) (k:∀ b u,Xz=NZ->Zk=NZ) (hp:L7<=a) (new:[V1,X.w,upd H a o,h',a,o]) :
  [NP,X,σ,upd H a o,s,h',t']:=I.un (Un.laid k hp ([S7,hp])) (I.hok.laid k hp new)
theorem Inv.write {x e:Addr} {o:HO} {t':Nat} (I:Rw) (mu:Mut (H x)) (he:e=x\/H e=[Mo,.own x]) (k:∀ b u,b≠e->Xz=NZ->Zk=NZ) (heo:∃ u,[QX,e]=NZ)
  (new:[V1,X.w,upd H x o,h',x,o]):[NP,X,σ,upd H x o,s,h',t']:=I.un (Un.write mu he k heo) (I.hok.write mu he k heo new)
theorem Inv.weak {σ':[MG,RT]} (I:Rw) (hl:σ'.length=σ.length) (w:∀ (i:Nat) v,YL[i]?=V2->σ[i]?=V2):[N5,X,YL,H,s] :=
 ⟨I.ok,I.os,I.bare,I.base,let ⟨m,hn,hl'⟩:=I.loc; (af m hn (fun i x v e1 e2 e3=>hl' i x v e1 (w i v e2) e3)),I.cell,I.free,I.freeC,I.pin,I.hok,hl.trans I.len⟩
theorem Inv.pins_of {pins':Px} (I:Rw) (h:∀ p∈pins',[Nv,p.1]=some p.2/\H p.1=none/\p.1≠Qa/\p.1∉X.fs/\∀ v,p.2.data≠.cell v):Inv X pins' σ H s :=
 ⟨I.ok,I.os,I.bare,I.base,I.loc,I.cell,I.free,I.freeC,[VV,(List.mem_append.mp hp).elim [UK,I.pin p ([PB,z])] (h p)],I.hok,I.len⟩
theorem wg {N:MB} (hN:N.Nodup) {i j:Nat} {x:Str} (a:N[i]?=OV) (b:N[j]?=OV):i=j:=by
 obtain ⟨h1,e1⟩:=[Uu,a];obtain ⟨h2,e2⟩:=[Uu,b];exact (List.getElem_inj hN).mp (e1.trans e2.symm)
theorem Be {M:Model} {A:Around} {E:Qc} {i:Nat} {x:Str} {v:V} {u:Value} {Q:Unit->NM} (I:Rw) (hN:X.N.Nodup) (hi:X.N[i]?=OV) (hx:Loc X7 x) (r:[WE,v])
  (h:∀ s',[N5,X,σ.set i (Nw),H,s']->(∃ a,[Tv,a,s'.heap]/\(a=Qa\/[RM,x]=some a))->Q () s') (hf:X.fn x=true\/[PN,x]=U6:=by first | exact Qf | exact .inr rfl | assumption):[SK,M,A,storeName X.env x u,Q,E]:=by
 refine [NC,id I.loc,fun m hn hl=>?_]
 have hcls:[Vb,(A06 == .class || (A06 == .module && Qa != X.env.globals))]:=by rw [I.ok.kind]; rfl
 have hiσ:i<σ.length:=by rw [I.len]; exact [L8,hi]
 have cne:=I.cne;have tracked:∀ {a:Addr} {h':Heap},(∃ o,[Nv,a]=MN/\H a=none)->[Tv,a,h']->HOk X.prog X.w H h':=fun {a h'} ha hs b ob e=>by
  refine ar ha fun _ _ hfree=>?_;clear ha;refine (I.hok b ob e).stay (fun c w' hc q=>[Q9,hs.2 c ?_,q]) (fun _ q=>q) fun _ _ q=>q
  rintro rfl;rcases hc with rfl | hc
  .rw [hfree] at e; cases e
  .rw [hfree] at hc; cases hc
 rcases hx with hk | hk
 .refine wpAny_storeName_local hk hn (fun h' hn' hs=>?_) hcls;refine dZ (id hn :) fun oL _ _ hoL _=>?_
  refine h _ ⟨I.ok,I.os,I.bare,⟨fun b o e n hb hx=>?_,fun b o e n hb hx=>?_,I.base.free,fun b o e hx=>?_,I.base.tups,I.base.frzs,I.base.tbls⟩,(af _ hn' (fun j y v' e1 e2 e3=>?_)),fun y c e=>?_,I.free,I.freeC,[VV,?_],tracked (af oL hoL I.free) hs,[Ml,I.len]⟩ (af _ hs (Qf))
  .exact [Q9,hs.2 b ([Ol,([NR,Vt,Y3])]),I.base.keep b o e n hb hx]
  .obtain ⟨sl,e1⟩:=I.base.slot b o e n hb hx;exact [Mw,sl,[Q9,hs.2 b ([Ol,([NR,Vt,Y3])]),e1]]
  .obtain ⟨o',e1⟩:=I.base.there b o e hx;exact [Mw,o',[Q9,hs.2 b ([Ol,([NR,Vt,Y3])]),e1]]
  .by_cases hj:j=i
   .subst hj;rw [hi] at e1; cases e1
    rw [[UW,hiσ]] at e2;cases e2
    exact (af u r [T6,[Mw,hk,MJ]])
   .rw [[Uv,[XS,hj]]] at e2;refine [NC,hl j y v' e1 e2 e3,fun u' r' q=>?_]
    refine [Yt,u',r'];rcases q with ⟨k,e⟩ | ⟨k,c,e,z⟩
    .refine .inl [W4,k];have:y≠x:=[UT,hj (wg hN e1 (e▸hi))]
     simp [this,e]
    .exact [PY,aH k (af c e (z.sameBut hs (cne y c e)))]
  .obtain ⟨w',z⟩:=I.cell y c e;exact [Mw,w',z.sameBut hs (cne y c e)]
  .refine dE (I.pin p hp :) fun e n ne nf d=>?_
   exact (dv ([Q9,hs.2 p.1 ne,e]) n ne nf d)
 .have hfn:X.fn x=true:=by
   rcases hf with z | z
   .exact z
   .rw [z] at hk; cases hk
  obtain ⟨c,hc⟩:=I.ok.has x [T6,hk];obtain ⟨w',z⟩:=I.cell x c hc;refine wpAny_storeName_cell I.ok.kind hk hc z (fun h' hc' hs=>?_);refine [NC,id z,fun oc hoc hocd=>?_]
  refine h { s with heap:=h' } ⟨I.ok,I.os,I.bare,⟨fun b o e n hb hx=>?_,fun b o e n hb hx=>?_,I.base.free,fun b o e hx=>?_,I.base.tups,I.base.frzs,I.base.tbls⟩,(af m (hn.sameBut hs [XS,cne x c hc]) (fun j y v' e1 e2 e3=>?_)),fun y c' e=>?_,I.free,I.freeC,[VV,?_],tracked (af oc hoc (I.freeC x c hc)) hs,[Ml,I.len]⟩ (af c hs (.inr hc))
  .exact [Q9,hs.2 b ([Ol,([NR,Vt,I.ok.cab x c hfn hc])]),I.base.keep b o e n hb hx]
  .obtain ⟨sl,e1⟩:=I.base.slot b o e n hb hx;exact [Mw,sl,[Q9,hs.2 b ([Ol,([NR,Vt,I.ok.cab x c hfn hc])]),e1]]
  .obtain ⟨o',e1⟩:=I.base.there b o e hx;exact [Mw,o',[Q9,hs.2 b ([Ol,([NR,Vt,I.ok.cab x c hfn hc])]),e1]]
  .by_cases hj:j=i
   .subst hj;rw [hi] at e1; cases e1
    rw [[UW,hiσ]] at e2;cases e2
    exact (af u r ([PY,aH [T6,hk] (af c hc hc')]))
   .rw [[Uv,[XS,hj]]] at e2;refine [NC,hl j y v' e1 e2 e3,fun u' r' q=>?_]
    refine [Yt,u',r'];rcases q with q | ⟨k,c',e,z'⟩
    .exact .inl q
    .refine [PY,aH k (af c' e (z'.sameBut hs ?_))];rintro rfl;exact hj (wg hN e1 (I.ok.inj _ _ _ e hc▸hi))
  .by_cases hcc:c'=c
   .subst hcc; exact [T7,hc']
   .obtain ⟨w2,z2⟩:=I.cell y c' e;exact [Mw,w2,z2.sameBut hs hcc]
  .refine dE (I.pin p hp :) fun e n ne nf d=>?_
   refine (dv ([Q9,hs.2 p.1 ?_,e]) n ne nf d);intro q;rw [q,hoc] at e;have q':oc=p.2:=[Mq,e];exact d w' (by rw [<- q']; exact hocd)
theorem wD {M:Model} {A:Around} {E:Qc} {i:Nat} {x:Str} {v:V} {u:Value} {Q:Unit->NM} (I:Rw) (hN:X.N.Nodup) (hi:X.N[i]?=OV) (hx:Loc X7 x) (r:[WE,v])
  (h:∀ s',[N5,X,σ.set i (Nw),H,s']->Q () s') (hf:X.fn x=true\/[PN,x]=U6:=by first | exact Qf | exact .inr rfl | assumption):[SK,M,A,storeName X.env x u,Q,E] :=
 Be I hN hi hx r (fun s' I' _=>h s' I') hf
theorem Inv.call' {s':Shared} {ch:RY} (I:Rw) (ho:s'.os=s.os) (u:Un (frs X.stack) ch H H' s.heap s'.heap) (hok:HOk X.prog X.w H' s'.heap) (hg:Yi)
  (hch:[Ru,ch,(b∈X.ex\/Ue<=b)/\b≠Qa/\(∀ x c,[RM,x]=Qj->c≠b)/\∀ p∈X.pn++pins,p.1≠b]):[Qz,H',s']:=by
 obtain ⟨h',g',d',t',o'⟩:=s';have e:o'=s.os:=ho;subst e;exact I.call (g':=g') (t':=t') (d':=d') u hok hg hch
end
abbrev XK:=[Q6,SH->Qr]
abbrev St:=[MG,RT]
abbrev VK:=V->Qr
abbrev TE:=St->Hp->Sr
abbrev TT:=St->Hp->[Qp,Bool->Qr]
abbrev TA:=St->Hp->[Qp,Nz->Qr]
structure Ends where
 nx:St->Hp->Prop
 rt:VK
 bk:St->Hp->Prop:=fun _ _=>False
 ct:St->Hp->Prop:=fun _ _=>False
abbrev TS:=Ends->St->Qr
def EP (X:Cx) (pins:Px) (σ:St) (Q:VK) (u:Value) (s':Shared):Prop:=∃ v H',[Qz,H',s']/\[WE,v]/\Q v H'
def TP (X:Cx) (pins:Px) (σ:St) (Q:Bool->Qr) (b:Bool) (s':Shared):Prop:=∃ H',[Qz,H',s']/\Q b H'
def AP (X:Cx) (pins:Px) (σ:St) (Q:Nz->Qr) (us:MS) (s':Shared):Prop:=∃ vs H',[Qz,H',s']/\[Vi,vs]/\Q vs H'
def SP (X:Cx) (pins:Px) (D:Ends) (f:Flow) (s':Shared):Prop :=
 match f with
 | .next=>∃ σ' H',Inv X pins σ' H' s'/\D.nx σ' H'
 | .brk=>∃ σ' H',Inv X pins σ' H' s'/\D.bk σ' H'
 | .cont=>∃ σ' H',Inv X pins σ' H' s'/\D.ct σ' H'
 | .ret u=>∃ v σ' H',Inv X pins σ' H' s'/\RelV v u/\D.rt v H'
def PE (X:Cx) (e:Expr) (t:TE):Prop :=
 ∀ (pins:Px) (s:Shared) (σ:St) (H:Hp) (Q:VK),Rw->t σ H Q->[SK,Uk,X.A,[Oa,e],EP X pins σ Q,X.xe]
def PT (X:Cx) (e:Expr) (t:TT):Prop :=
 ∀ (pins:Px) (s:Shared) (σ:St) (H:Hp) (Q:Bool->Qr),Rw->t σ H Q->[SK,Uk,X.A,isTrue e X.env ([Oa,e]),TP X pins σ Q,X.xe]
def PW (X:Cx) (e:Expr) (t:TT):Prop :=
 ∀ (whole:Sem Value) (pins:Px) (s:Shared) (σ:St) (H:Hp) (Q:Bool->Qr),Rw->t σ H Q->[SK,Uk,X.A,isTrue e X.env whole,TP X pins σ Q,X.xe]
theorem PW.pt {X:Cx} {e:Expr} {t:TT} (h:PW X e t):PT X e t:=h _
def PA (X:Cx) (es:OR) (t:TA):Prop :=
 ∀ (pos:Pos) (pins:Px) (s:Shared) (σ:St) (H:Hp) (Q:Nz->Qr),Rw->t σ H Q->[SK,Uk,X.A,spliced ([Xf,Um]),AP X pins σ Q,X.xe]
def PS (X:Cx) (st:Stmt) (t:TS):Prop :=
 ∀ (pins:Px) (s:Shared) (σ:St) (H:Hp) (D:Ends),Rw->t D σ H->[SK,Uk,X.A,exec st X.env,SP X pins D,X.xe]
def PSs (X:Cx) (st:WG) (t:TS):Prop :=
 ∀ (pins:Px) (s:Shared) (σ:St) (H:Hp) (D:Ends),Rw->t D σ H->[SK,Uk,X.A,execs st X.env,SP X pins D,X.xe]
theorem thn {α:Type} {t:Sem α} {Q Q':α->NM} {M:Model} {A:Around} {E:Qc} {s:Shared} (h:wpAny M A t Q E s) (hQ:∀ a s,Q a s->Q' a s):wpAny M A t Q' E s:=wpAny_mono h hQ fun _ _ x=>x
end L2
namespace L2
open PySem PySem.Spec PyProof.Rows
section
variable {X:Cx}
theorem bin {a b:Expr} {ta tb:TE} (ha:PE X a ta) (hb:PE X b tb) {pins:Px} {s:Shared} {σ:St} {H:Hp} {R:V->V->Qr} (I:Rw) (h:ta σ H [VW,tb σ H1 fun y H2=>R x y H2])
  {α:Type} {Q:α->NM} {f:[Q6,[Q6,Sem α]]}
  (hf:∀ v u s2 x y H2,[Qz,H2,s2]->RelV x v->[WE,y]->R x y H2->[Np,Uk,X.A,f v u,Q,X.xe,s2]) :
  [SK,Uk,X.A,[Oa,a],(fun v s₁=>[Np,Uk,X.A,[Oa,b],(fun u s₂=>[Np,Uk,X.A,f v u,Q,X.xe,s₂]),X.xe,s₁]),X.xe]:=by
 refine [SX,ha pins s σ H _ I h,[P8,zr,?_]]
 refine [Y5,hb pins s1 σ H1 _ I1 q1,fun u s2 zr=>aX zr fun y H2 I2 r2 q2=>?_]
 exact hf v u s2 x y H2 I2 r1 r2 q2
def Lc (i:Nat):TE:=[QS,∃ v,σ[i]?=V2/\Q v H]
def tC (v:V):TE:=fun _ H Q=>Q v H
theorem Ji {i:Nat} {x:Str} {pos:Pos} (hN:X.N[i]?=OV) (hv:Vis X7 x) (hd:[Vb,x == Ry]:=by decide) (hcd:[Vb,(x == [Rk,"__classdict__"])]:=by decide):PE X ([Zs,pos]) (Lc i):=by
 intro pins s σ H Q I h;refine ar h fun v e h=>?_
 refine ar I.loc fun m hn hl=>?_
 refine [NC,hl i x v hN e hv,fun u r l=>?_]
 have fin:EP X pins σ Q u s:=(aB v H I r h);rcases l with ⟨hk,hm⟩ | ⟨hk,c,hc,hcell⟩
 .exact wpAny_Name (wpAny_loadName_local I.ok.kind hk hn hm fin) hd
 .rcases hk with hk | hk
  .exact wpAny_Name (wpAny_loadName_cell I.ok.kind hk hc hcell fin) hd
  .exact wpAny_Name (wpAny_loadName_free I.ok.kind hk hc hcell fin hcd) hd
theorem au {i j pos}:PE X (.Constant (RF) j pos) (tC (RF)):=fun _ _ _ H _ I h=>wpAny_Constant_int (aB (RF) H (SN) VT h)
theorem gg {b j pos}:PE X (.Constant (.bool b) j pos) (tC (.bl b)):=fun _ _ _ H _ I h=>Constant_bool ([YU,.bl b,H,I,h])
theorem cK {j pos}:PE X (.Constant .none j pos) (tC .non):=fun _ _ _ H _ I h=>Constant_none ([YU,.non,H,I,h])
theorem a8 {x j pos}:PE X (.Constant [XE,x] j pos) (tC [XE,x]):=fun _ _ _ H _ I h=>Calls.Constant_str (aB [XE,x] H (SN) VT h)
def Gl (X:Cx) (x:Str):Prop:=X.env.kindOf x=some .globalImplicit
theorem ie {E:Qc} {pins:Px} {s:Shared} {σ:St} {H:Hp} {x:Str} {u:Value} {pos:Pos} {Q:Qc} (I:Rw) (hg:Gl X x) (hm:X.mg x=NZ) (h:Q u s)
  (hd:[Vb,x == Ry]:=by decide):[SK,Uk,X.A,[Oa,([Zs,pos])],Q,E] :=
 Calls.Name_function_global I.ok.kind hg (Calls.loadGlobal_global (by rw [I.ok.glob]; exact I.mod.glob.keeps I.bk) hm h) hd
theorem iy {E:Qc} {pins:Px} {s:Shared} {σ:St} {H:Hp} {x:Str} {u:Value} {pos:Pos} {Q:Qc} (I:Rw) (hg:Gl X x) (hm:X.mg x=none) (hv:bootBuiltins x=NZ) (h:Q u s)
  (hn:x≠"__name__":=by decide) (hd:[Vb,x == Ry]:=by decide):[SK,Uk,X.A,[Oa,([Zs,pos])],Q,E]:=by
 refine ar I.mod.blt fun mb h1 h2=>?_
 exact Calls.Name_function_global I.ok.kind hg (Calls.loadGlobal_builtin (by rw [I.ok.glob]; exact I.mod.glob.keeps I.bk) hm (by rw [I.ok.blt]; exact h1.keeps I.bk) ([Q9,h2 x hn,hv]) h) hd
theorem eA {x:Str} {v:V} {u:Value} {pos:Pos} (hg:Gl X x) (hm:X.mg x=NZ) (r:[WE,v]) (hd:[Vb,x == Ry]:=by decide):PE X ([Zs,pos]) (tC v) :=
 fun _ _ _ H _ I h=>ie I hg hm (aB v H I r h) hd
theorem eK {x:Str} {v:V} {u:Value} {pos:Pos} (hg:Gl X x) (hm:X.mg x=none) (hv:bootBuiltins x=NZ) (r:[WE,v]) (hn:x≠"__name__":=by decide) (hd:[Vb,x == Ry]:=by decide):PE X ([Zs,pos]) (tC v) :=
 fun _ _ _ H _ I h=>iy I hg hm hv (aB v H I r h) hn hd
variable {a b:Expr} {ta tb:TE} {pos:Pos}
def PC (X:Cx) (op:CmpOp) (a b:Expr) (t:TE):Prop :=
 ∀ (pins:Px) (s:Shared) (σ:St) (H:Hp) (Q:VK),Rw->t σ H Q-> [SK,Uk,X.A,[Oa,a],(fun v s₁=>[Np,Uk,X.A,[Oa,b],(fun u s₂=>[Np,Uk,X.A,compareOp op v u,EP X pins σ Q,X.xe,s₂]),X.xe,s₁]),X.xe]
def tB (t:TE):TT:=[QS,t σ H [VW,∃ c,x=.bl c/\Q c H1]]
theorem rj {op:CmpOp} {t:TE} (h:PC X op a b t) (h1:[Vb,behindInMarks op b]:=by first | exact nobehind _ M0 M0 | rfl):PT X (.Compare a [op] [b] pos) (tB t):=by
 intro pins s σ H Q I hw;refine wpAny_isTrue_Compare1 [ZS,h pins s σ H _ I hw,fun v s1 h1=>thn h1 fun u s2 h2=>thn h2 fun c s3 zr=>[P8,zr,?_]] h1;refine ar q1 fun d ze1 q=>?_;clear q1;subst ze1;cases r1
 exact [SR,af H1 I1 q]
theorem cO {e:Expr} {t:TE} (h:PE X e t) (he:∀ whole,isTrue e X.env whole=(do let v <- whole; standAt e.pos; holding [v] (truthy v)):=by intro _; rfl):PT X e (tB t):=by
 intro pins s σ H Q I hw;refine isTrue_plain ([SX,h pins s σ H _ I hw,[P8,zr,?_]]) (he _);refine ar q1 fun d ze2 q=>?_;clear q1;subst ze2;cases r1
 exact [SR,af H1 I1 q]
variable {tA tB':TT} {rest:OR}
def LI (t u:TT):TT:=[QS,t σ H fun c H1=>[Mj,c=true,u σ H1 Q,Q false H1]]
def tOr (t u:TT):TT:=[QS,t σ H fun c H1=>[Mj,c=true,Q true H1,u σ H1 Q]]
def Ly (t:TT):TT:=[QS,t σ H fun c H1=>Q (!c) H1]
theorem qe (ha:PT X a tA):PW X (.BoolOp .And [a] pos) tA:=by
 intro wh pins s σ H Q I h;refine isTrue_and [ZS,ha pins s σ H Q I h,fun c s1 e=>?_];cases c with
 | true=>exact isTrue_and_nil e
 | false=>exact e
theorem iz (ha:PT X a tA):PW X (.BoolOp .Or [a] pos) tA:=by
 intro wh pins s σ H Q I h;refine isTrue_or [ZS,ha pins s σ H Q I h,fun c s1 e=>?_];cases c with
 | false=>exact isTrue_or_nil e
 | true=>exact e
theorem v8 (ha:PT X a tA) (hb:PW X (.BoolOp .And (b::rest) pos) tB'):PW X (.BoolOp .And (a::b::rest) pos) (LI tA tB'):=by
 intro wh pins s σ H Q I h;refine isTrue_and [ZS,ha pins s σ H _ I h,fun c s1 zr=>ar zr fun H1 I1 q1=>?_];cases c with
 | true=>exact hb wh pins s1 σ H1 Q I1 q1
 | false=>exact (af H1 I1 q1)
theorem kY (ha:PT X a tA) (hb:PW X (.BoolOp .Or (b::rest) pos) tB'):PW X (.BoolOp .Or (a::b::rest) pos) (tOr tA tB'):=by
 intro wh pins s σ H Q I h;refine isTrue_or [ZS,ha pins s σ H _ I h,fun c s1 zr=>ar zr fun H1 I1 q1=>?_];cases c with
 | true=>exact (af H1 I1 q1)
 | false=>exact hb wh pins s1 σ H1 Q I1 q1
theorem dm (ha:PT X a tA):PT X (.UnaryOp .Not a pos) (Ly tA):=by
 intro pins s σ H Q I h;exact isTrue_not (ha pins s σ H (fun c H1=>Q (!c) H1) I h)
def Ld (ta tb:TE):TE:=[QS,ta σ H [VW,∃ c,x=.bl c/\[Mj,c=true,tb σ H1 Q,Q (.bl false) H1]]]
def LZ (ta tb:TE):TE:=[QS,ta σ H [VW,∃ c,x=.bl c/\[Mj,c=true,Q (.bl true) H1,tb σ H1 Q]]]
def K9 (ta:TE):TE:=[QS,ta σ H [VW,∃ c,x=.bl c/\Q (.bl (!c)) H1]]
theorem lj {op} {t:TE} (h:PE X a t):PE X (.BoolOp op [a] pos) t:=fun pins s σ H Q I hw=>BoolOp_one (h pins s σ H Q I hw)
theorem oG (ha:PE X a ta) (hb:PE X (.BoolOp .And (b::rest) pos) tb):PE X (.BoolOp .And (a::b::rest) pos) (Ld ta tb):=by
 intro pins s σ H Q I h;refine BoolOp_and [ZS,ha pins s σ H _ I h,fun v s1 ⟨x,H1,I1,r1,q1⟩=>?_];obtain ⟨c,rfl,q1⟩:=q1;cases r1
 refine [SR,?_];cases c with
 | true=>exact hb pins s1 σ H1 Q I1 q1
 | false=>exact ⟨.bl false,H1,I1,rfl,q1⟩
theorem KO (ha:PE X a ta) (hb:PE X (.BoolOp .Or (b::rest) pos) tb):PE X (.BoolOp .Or (a::b::rest) pos) (LZ ta tb):=by
 intro pins s σ H Q I h;refine BoolOp_or [ZS,ha pins s σ H _ I h,fun v s1 ⟨x,H1,I1,r1,q1⟩=>?_];obtain ⟨c,rfl,q1⟩:=q1;cases r1
 refine [SR,?_];cases c with
 | false=>exact hb pins s1 σ H1 Q I1 q1
 | true=>exact ⟨.bl true,H1,I1,rfl,q1⟩
theorem FZ (ha:PE X a ta):PE X (.UnaryOp .Not a pos) (K9 ta):=by
 intro pins s σ H Q I h;refine UnaryOp_ [ZS,ha pins s σ H _ I h,fun v s1 ⟨x,H1,I1,r1,q1⟩=>?_];obtain ⟨c,rfl,q1⟩:=q1;cases r1
 exact not_of ([SR,⟨.bl (!c),H1,I1,rfl,q1⟩])
def tIf (t:TT) (ta tb:TE):TE:=[QS,t σ H fun c H1=>[Mj,c=true,ta σ H1 Q,tb σ H1 Q]]
theorem iK {c:Expr} (hc:PT X c tA) (ha:PE X a ta) (hb:PE X b tb):PE X (.IfExp c a b pos) (tIf tA ta tb):=by
 intro pins s σ H Q I h;refine wpAny_IfExp [ZS,hc pins s σ H _ I h,fun d s1 zr=>ar zr fun H1 I1 q1=>?_];cases d with
 | true=>exact ha pins s1 σ H1 Q I1 q1
 | false=>exact hb pins s1 σ H1 Q I1 q1
end
end L2
namespace L2
open PySem PySem.Spec PyProof.Rows
def SqL (K:M3) (H:Hp) (a:Addr) (xs:Nz):Prop :=
 Rd H a [Pl,xs]\/ ∃ (o:Obj) (its:Nr) (n:Nat),K.lookup a=MN/\o.cls=PF/\o.dict=none/\o.data=.seq its n/\[N4,its.size]/\Vals xs its.toList
def SqT (K:M3) (H:Hp) (a:Addr) (xs:Nz):Prop :=
 Rd H a [Rj,xs]\/ ∃ (o:Obj) (its:Nr) (n:Nat),K.lookup a=MN/\o.cls=OS/\o.data=.seq its n/\[N4,its.size]/\Vals xs its.toList
def EV:[Q6,RT]
 | .none=>some .non
 | .bool b=>[Mo,.bl b]
 | .int i _=>[Mo,RF]
 | .str x _=>[Mo,.str x]
 | .bytes b _=>[Mo,.byt b]
 | .float b _=>[Mo,.flt b]
 | .ref a=>Vc
 | .type n=>[Mo,.ty n]
 | _=>none
theorem RelV.abs {x:V} {u:Value} (r:[WE,x]):EV u=OV:=by
 cases x with
 | non=>cases r; rfl
 | bl _=>cases r; rfl
 | int _=>obtain ⟨t,rfl⟩:=r; rfl
 | str _=>obtain ⟨t,rfl⟩:=r; rfl
 | byt _=>obtain ⟨t,rfl⟩:=r; rfl
 | flt _=>obtain ⟨t,rfl⟩:=r; rfl
 | ref _=>cases r; rfl
 | ty _=>cases r; rfl
theorem RelV.inj {x y:V} {u:Value} (r:[WE,x]) (q:[WE,y]):x=y:=[Mq,r.abs.symm.trans q.abs]
theorem Vals.inj:∀ {xs ys:Nz} {us:MS},[Vi,xs]->[Vi,ys]->xs=ys
 | _,_,_,.nil,.nil=>rfl
 | _,_,_,.cons r t,.cons r' t'=>by rw [r.inj r',Vals.inj t t']
section
variable {X:Cx} {pins:Px} {σ:St} {H:Hp} {s:Shared} {a:Addr} {xs ys:Nz}
theorem SqL.of {K:M3} (h:H a=[MI,xs]):SqL K H a xs:=.inl [T6,h]
theorem SqT.of {K:M3} (h:H a=[OD,xs]):SqT K H a xs:=.inl [T6,h]
theorem Inv.list (I:Rw) (h:SqL X.K H a xs):∃ its:MS,Vals xs its/\PlainL s.heap a Ox/\[N4,Mh]:=by
 rcases h with h | ⟨o,its,n,hk,hc,hd,hs,hz,r⟩
 .refine bZ (h.ok I.hok :) fun z zq0=>bU zq0 fun its n r e=>?_;clear zq0;exact (aC its r (bJ _ n e rfl rfl rfl) z)
 .refine (aC its.toList r (bJ o n (I.kIn a o hk) hc hd [Zh,hs]) ?_);have e:=r.length;simp only [Array.length_toList] at e;omega
theorem Inv.tuple (I:Rw) (h:SqT X.K H a xs):∃ its:MS,Vals xs its/\IsTup s.heap a Ox/\[N4,Mh]:=by
 rcases h with h | ⟨o,its,n,hk,hc,hs,hz,r⟩
 .refine bZ (h.ok I.hok :) fun z zq0=>ar zq0 fun its r p=>?_;clear zq0;exact (aC its r p z)
 .refine (aC its.toList r (aC o (I.kIn a o hk) hc (e8 n [Zh,hs])) ?_);have e:=r.length;simp only [Array.length_toList] at e;omega
theorem Inv.list_inj (I:Rw) (h:SqL X.K H a xs) (h':SqL X.K H a ys):xs=ys:=by
 refine [Yo,h,fun its r zp3 _=>?_];obtain ⟨o,n,e,_,_,d⟩:=zp3;refine [Yo,h',fun its' r' zp4 _=>?_];obtain ⟨o',n',e',_,_,d'⟩:=zp4;rw [e] at e'; cases e'
 rw [d] at d';injection d' with d1 _;have:its=its':=[Ml,[R5,Array.toList,d1]]
 subst this;exact r.inj r'
theorem Inv.tuple_inj (I:Rw) (h:SqT X.K H a xs) (h':SqT X.K H a ys):xs=ys:=by
 refine bp [SY,h] fun its r zp5 _=>?_;obtain ⟨o,e,_,n,d⟩:=zp5;refine bp [SY,h'] fun its' r' zp6 _=>?_;obtain ⟨o',e',_,n',d'⟩:=zp6;rw [e] at e'; cases e'
 rw [d] at d';injection d' with d1 _;have:its=its':=[Ml,[R5,Array.toList,d1]]
 subst this;exact r.inj r'
end
abbrev Cx.wish (X:Cx) (E:Qc):Cx:={ X with xe:=E }
abbrev Cx.nox (X:Cx):Cx:=X.wish Vf
theorem Cx.Ok.wish {X:Cx} (ok:X.Ok) (E:Qc):(X.wish E).Ok :=
 ⟨ok.mod,ok.kind,ok.glob,ok.blt,ok.above,ok.inj,ok.has,ok.cab,ok.hd,ok.frames,ok.stk,ok.exf,ok.bs,ok.bsz,ok.noex,ok.exfs,ok.funs,ok.frf⟩
theorem Cx.Ok.unwish {X:Cx} {E:Qc} (ok:(X.wish E).Ok):X.Ok :=
 ⟨ok.mod,ok.kind,ok.glob,ok.blt,ok.above,ok.inj,ok.has,ok.cab,ok.hd,ok.frames,ok.stk,ok.exf,ok.bs,ok.bsz,ok.noex,ok.exfs,ok.funs,ok.frf⟩
section
variable {X:Cx} {pins:Px} {σ:St} {H:Hp} {s:Shared} {E:Qc}
theorem Inv.wish (I:Rw) (E:Qc):[Oi,X.wish E,H,s]:=⟨I.ok.wish E,I.os,I.bare,I.base,I.loc,I.cell,I.free,I.freeC,I.pin,I.hok,I.len⟩
theorem Inv.unwish (I:[Oi,X.wish E,H,s]):Rw:=⟨I.ok.unwish,I.os,I.bare,I.base,I.loc,I.cell,I.free,I.freeC,I.pin,I.hok,I.len⟩
theorem SP.unwish {D:Ends} {f:Flow} {s':Shared} (h:SP (X.wish E) pins D f s'):SP X pins D f s':=by
 cases f with
 | next=>refine bU h fun σ' H' I q=>?_;clear h; exact (bP YL H' I.unwish q)
 | brk=>refine bU h fun σ' H' I q=>?_;clear h; exact (bP YL H' I.unwish q)
 | cont=>refine bU h fun σ' H' I q=>?_;clear h; exact (bP YL H' I.unwish q)
 | ret u=>refine fP h fun v σ' H' I r q=>?_;clear h; exact (iR v YL H' I.unwish r q)
theorem PSs.nox {st:WG} {t:TS} (h:PSs X.nox st t):PSs X st t:=fun pins s σ H D I hw => [UY,h pins s σ H D (I.wish _) hw,fun _ _ q=>q.unwish,[Tz,[UZ,z]]]
end
section
variable {X:Cx} {st:Stmt} {rest:WG} {t u:TS} {e:Expr} {te:TE} {pos:Pos}
def Lm:TS:=fun D σ H=>[Yp,H]
def LJ (t u:TS):TS:=fun D σ H=>t { D with nx:=u D } σ H
theorem aQ:PSs X [] Lm:=fun _ _ σ H _ I h=>[YM,bP σ H I h]
theorem ak (h1:PS X st t) (h2:PSs X rest u):PSs X (st::rest) (LJ t u):=by
 intro pins s σ H D I h;refine wpAny_execs_cons [ZS,h1 pins s σ H { D with nx:=u D } I h,fun f s1 q=>?_];cases f with
 | next =>
  refine bU q fun σ' H' I' q=>?_
  exact h2 pins s1 YL H' D I' q
 | ret v=>exact q
 | brk=>exact q
 | cont=>exact q
theorem av (h1:PS X st t):PSs X [st] t:=by
 intro pins s σ H D I h;refine wpAny_execs_cons [ZS,h1 pins s σ H D I h,fun f s1 q=>?_];cases f with
 | next=>exact [YM,q]
 | ret v=>exact q
 | brk=>exact q
 | cont=>exact q
theorem Inv.quiet {pins:Px} {σ:St} {H:Hp} {s:Shared} (I:Rw):[Vb,interactive X.env]:=by simp [interactive,I.ok.kind]
def KW (te:TE):TS:=fun D σ H=>te σ H fun _ H1=>[Yp,H1]
theorem cH (he:PE X e te) (hs:swapsWith e none pos.line X.env=pure false:=by rfl):PS X (.Expr e pos) (KW te):=by
 intro pins s σ H D I h;exact wpAny_Expr_any ([SX,he pins s σ H _ I h,[P8,zr,bP σ H1 I1 q1]]) I.quiet hs
def LA (te:TE):TS:=fun D σ H=>te σ H D.rt
theorem aI (he:PE X e te):PS X (.Return (some e) pos) (LA te):=by
 intro pins s σ H D I h;exact wpAny_Return_some ([SX,he pins s σ H _ I h,[P8,zr,iR x σ H1 I1 r1 q1]])
def LL (c:TT) (t u:TS):TS:=fun D σ H=>c σ H fun b H1=>[Mj,b=true,t D σ H1,u D σ H1]
theorem bE {c:Expr} {a b:WG} {tc:TT} (hc:PT X c tc) (ha:PSs X a t) (hb:PSs X b u):PS X (.If c a b pos) (LL tc t u):=by
 intro pins s σ H D I h;refine wpAny_If [ZS,hc pins s σ H _ I h,fun d s1 zr=>ar zr fun H1 I1 q1=>?_];cases d with
 | true=>exact ha pins s1 σ H1 D I1 q1
 | false=>exact hb pins s1 σ H1 D I1 q1
def IK:TS:=fun _ _ _=>False
theorem cq {sts:WG}:PSs X sts IK:=fun _ _ _ _ _ _ h=>h.elim
end
abbrev TG:=V->St->Hp->[Qp,St->Qr]
abbrev TGs:=Nz->St->Hp->[Qp,St->Qr]
def PG (X:Cx) (target:Expr) (t:TG):Prop :=
 ∀ (pins:Px) (s:Shared) (σ:St) (H:Hp) (v:V) (u:Value) (Q:St->Qr),Rw->[WE,v]->t v σ H Q-> [SK,Uk,X.A,assign target X.env u,(fun _ s'=>∃ σ' H',[N5,X,YL,H',s']/\Q YL H'),X.xe]
def PGs (X:Cx) (ts:OR) (t:TGs):Prop :=
 ∀ (pins:Px) (s:Shared) (σ:St) (H:Hp) (vs:Nz) (us:MS) (Q:St->Qr),Rw->[Vi,vs]->t vs σ H Q-> [SK,Uk,X.A,assignInOrder ([Tr,[Us,ts],(·.2)]) us,(fun _ s'=>∃ σ' H',[N5,X,YL,H',s']/\Q YL H'),X.xe]
abbrev JU:=V->V->V->Hp->[Qp,Qr]
def La (X:Cx) (t:JU):Prop :=
 ∀ (pins:Px) (s:Shared) (σ:St) (H:Hp) (o i v:V) (ov iv u:Value) (Q:Qr),Rw->RelV o ov->RelV i iv->[WE,v]->t o i v H Q-> [SK,Uk,X.A,setItem ov iv u,(fun _ s'=>∃ H',[Qz,H',s']/\Q H'),X.xe]
section
variable {X:Cx} {pos:Pos}
def As (i:Nat):TG:=fun v σ H Q=>Q (σ.set i (Nw)) H
theorem aE {i:Nat} {x:Str} (hN:X.N.Nodup) (hi:X.N[i]?=OV) (hx:Loc X7 x) (hf:X.fn x=true\/[PN,x]=U6:=by first | exact Qf | exact .inr rfl | assumption):PG X ([Zs,pos]) (As i):=by
 intro pins s σ H v u Q I r h;exact wpAny_assign_Name (wD I hN hi hx r (fun s' I'=>(bP _ H I' h)) hf)
def L4:TGs:=fun vs σ H Q=>vs=[]/\Q σ H
def KN (t:TG) (u:TGs):TGs:=fun vs σ H Q=>∃ v r,vs=v::r/\t v σ H fun σ' H'=>u r YL H' Q
theorem dG:PGs X [] L4:=by
 intro pins s σ H vs us Q I r h;obtain ⟨e,h⟩:=h;subst e;cases r
 exact assignInOrder_nil (bP σ H I h)
theorem bu {e:Expr} {es:OR} {t:TG} {u:TGs} (h1:PG X e t) (h2:PGs X es u)
  (hs:[Tr,[Us,e::es],(·.2)]=assign e X.env::[Tr,[Us,es],(·.2)]:=by rfl):PGs X (e::es) (KN t u):=by
 intro pins s σ H vs us Q I r h;obtain ⟨v,vr,e1,h⟩:=h;subst e1;cases r with
 | cons r rr =>
  rw [hs];refine assignInOrder_cons [ZS,h1 pins s σ H _ _ _ I r h,fun _ s1 ⟨σ1,H1,I1,q1⟩=>?_];exact h2 pins s1 σ1 H1 _ _ Q I1 rr q1
def Lo (K:M3) (n:Nat) (t:TGs):TG:=fun v σ H Q=>∃ a xs,v=QM/\SqT K H a xs/\Mh=n/\t xs σ H Q
theorem fL {es:OR} {k:Nat} {t:TGs} {n:Nat} (hc:X.calm=true) (h:PGs X es t)
  (hn:[MP,[Us,es]]=n:=by rfl) (hst:([Us,es]).findIdx? OB=none:=by rfl):PG X (.Tuple es k pos) (Lo X.K n t):=by
 intro pins s σ H v u Q I r hw;obtain ⟨a,xs,e1,hq,hl,hw⟩:=hw;subst e1;cases r
 obtain ⟨its,rv,ht,hz⟩:=I.tuple hq;refine assign_Tuple_tuple (Q4) ht (by simp [hn,<- hl,rv.length]) hst fun h' hx=>?_
 have I1:[Ts,X,σ,H,s,h']:=I.kept (t':=s.toks) [RU,hx b o ([Ol,Vt]) e]
 exact h pins _ σ H xs _ Q I1 [Zh,rv] hw
def LH (to ti:TE) (t:JU):TG:=fun v σ H Q=>to σ H fun o H1=>ti σ H1 fun i H2=>t o i v H2 fun H3=>Q σ H3
theorem oU {o i:Expr} {to ti:TE} {t:JU} (ho:PE X o to) (hi:PE X i ti) (hs:La X t)
  (ha:∀ v,assign (.Subscript o i pos) X.env v=(do
   let ov <- holding [v] (eval o X.env)
   let iv <- holding [v,ov] (eval i X.env)
   standAt pos
   holding [v,ov,iv] (setItem ov iv v)
   release [v,ov,iv] []):=by intro _; rfl):PG X (.Subscript o i pos) (LH to ti t):=by
 intro pins s σ H v u Q I r h;rw [ha];refine [O0,[SS,[ZS,ho pins s σ H _ I h,fun ov s1 zr=>[P8,zr,?_]]]];refine [O0,[SS,[ZS,hi pins s1 σ H1 _ I1 q1,fun iv s2 zr=>aX zr fun y H2 I2 r2 q2=>?_]]];refine [O0,wpAny_standAt ([O0,[SS,[ZS,hs pins s2 σ H2 x y v ov iv u _ I2 r1 r2 r q2,fun _ s3 zr=>ar zr fun H3 I3 q3=>?_]]])];exact wpAny_release (bP σ H3 I3 q3)
def J7 (te:TE) (g:TG):TS:=fun D σ H=>te σ H [VW,g x σ H1 D.nx]
theorem jg {tg e:Expr} {te:TE} {g:TG} (he:PE X e te) (hg:PG X tg g) (hs:swapsWithSole [tg] e pos.line X.env=pure false:=by rfl) (hw:swappedStores [tg] e X.env=pure none:=by rfl)
  (h1:[Tr,[Us,[tg]],(·.2)]=[assign tg X.env]:=by rfl):PS X (.Assign [tg] e pos) (J7 te g):=by
 intro pins s σ H D I h;refine wpAny_Assign_stores ([SX,he pins s σ H _ I h,[P8,zr,?_]]) hs hw;rw [h1];exact [Y5,hg pins s1 σ H1 x v _ I1 r1 q1,fun _ s2 q=>q]
theorem aP {i:Nat} {x:Str} {e:Expr} {te:TE} {pos':Pos} (hN:X.N.Nodup) (hi:X.N[i]?=OV) (hx:Loc X7 x) (he:PE X e te) (hs:swapsWith e ([Mo,[Zs,pos']]) pos.line X.env=pure false:=by rfl) (hf:X.fn x=true\/[PN,x]=U6:=by first | exact Qf | exact .inr rfl | assumption) :
  PS X (.Assign [[Zs,pos']] e pos) (J7 te (As i)):=by
 intro pins s σ H D I h;refine wpAny_Assign_Name ([SX,he pins s σ H _ I h,aX zr fun y H1 I1 r1 q1=>?_]) hs;exact wD I1 hN hi hx r1 (fun s2 I2=>(bP _ H1 I2 q1)) hf
end
section
variable {X:Cx} {pos:Pos}
def Dk (c:TT) (tb:TS):TS:=fun D σ H=>∃ W:Nat->St->Qr,(∃ m,W m σ H)/\∀ m σ H,W m σ H-> c σ H fun b H1=>[Mj,b=true,∃ N:St->Qr,(∀ σ' H',N YL H'->∃ m',m'<m/\W m' YL H')/\tb { D with nx:=N,ct:=N,bk:=D.nx } σ H1,[Yp,H1]]
theorem i4 {c:Expr} {body:WG} {tc:TT} {tb:TS} (hp:PassesOwn Uk X.A X.env X.xe) (hc:PT X c tc) (hb:PSs X body tb):PS X (.While c body [] pos) (Dk tc tb):=by
 intro pins s σ H D I h;refine ar h fun W zp7 turn=>?_;clear h;obtain ⟨m0,w0⟩:=zp7;refine wpAny_While (codeAny_whileLoop (fun n s'=>∃ σ' H',[N5,X,YL,H',s']/\W n YL H') ?_ m0 (bP σ H I w0));intro n s1 zr;refine bU zr fun σ1 H1 I1 w1=>?_;clear zr;refine [Wz,[ZS,hc pins s1 σ1 H1 _ I1 (turn n σ1 H1 w1),fun b s2 zr=>ar zr fun H2 I2 q2=>?_]];cases b with
 | true =>
  refine ar q2 fun N hN q2=>?_
  rw [U2];refine [Wz,[ZS,hb pins s2 σ1 H2 _ I2 q2,fun f s3 q3=>?_]];cases f with
  | next =>
   refine bU q3 fun σ3 H3 I3 n3=>?_;clear q3;refine [NC,hN σ3 H3 n3,fun m' hm w3=>?_]
   exact (af m' hm (bP σ3 H3 I3 w3))
  | cont =>
   refine bU q3 fun σ3 H3 I3 n3=>?_;clear q3;refine [NC,hN σ3 H3 n3,fun m' hm w3=>?_]
   exact (af m' hm (bP σ3 H3 I3 w3))
  | brk=>exact q3
  | ret v=>exact q3
 | false =>
  rw [[Ph,MZ]];exact [YM,bP σ1 H2 I2 q2]
end
structure It where
 go:Nat->Hp->Prop
 yld:Nat->Hp->V->Hp->Prop
 stop:Nat->Hp->Prop
def kS (X:Cx) (pins:Px) (H:Hp) (b:Addr):Prop :=
 H b=none/\b≠Qa/\b∉X.fs/\(b∈X.ex\/Ue<=b)/\(∀ x c,[RM,x]=Qj->c≠b)/\∀ p∈X.pn++pins,p.1≠b
theorem Inv.fpOk {X:Cx} {pins:Px} {σ:St} {H H':Hp} {s:Shared} {b:Addr} (I:Rw) (hb:L7<=b) (hn:H' b=none):kS X pins H' b:=by
 refine (dv hn ([Uw,([NR,I.lt,hb])]) (I.nofs hb) ([PY,[Qi,I.sz,hb]]) (aH (fun x c e z=>?_) (fun p hp z=>?_)))
 .obtain ⟨v,q⟩:=I.cell x c e;exact [O9,([NR,q.lt,(by rw [z]; exact hb)]),WC]
 .exact [O9,([NR,([Nm,(I.pin p hp).1]),(by rw [z]; exact hb)]),WC]
structure Turn (P:Program) (w:World) (K:PySem.W.Frag) (tg:Expr) (J:It) (fp:List Addr) (it:Addr) (tn:Nat->Heap->Prop):Prop where
 mem:it∈fp
 obj:∀ i h,tn i h->∀ b∈fp,∃ o,h.get? b=some o/\∀ v,o.data≠.cell v
 keep:∀ i h h',tn i h->(∀ b∈fp,∀ o,h.get? b=some o->h'.get? b=some o)->tn i h'
 item:∀ (X:Cx),X.prog=P->X.w=w->X.K=K->X.calm=true->∀ (i:Nat) (pins:List (Addr×Obj)) (s:Shared) (σ:St) (H:Hp) (E:Value->Shared->Prop),Inv X pins σ H s->(∀ b∈fp,kS X pins H b)->tn i s.heap->J.go i H->
  wpAny (model P w) X.A (pyNext (.ref it)) (fun r s1=>∃ u,r=some u/\
   wpAny (model P w) X.A (letOwnedTupleGo tg (.ref it) u) (fun _ s2=>∃ x H',Inv X pins σ H' s2/\RelV x u/\J.yld i H x H'/\tn (i+1) s2.heap/\∀ b∈fp,H' b=none) E s1) E s
 done:∀ (X:Cx),X.prog=P->X.w=w->X.K=K->X.calm=true->∀ (i:Nat) (pins:List (Addr×Obj)) (s:Shared) (σ:St) (H:Hp) (E:Value->Shared->Prop),Inv X pins σ H s->(∀ b∈fp,kS X pins H b)->tn i s.heap->J.stop i H->
  wpAny (model P w) X.A (pyNext (.ref it)) (fun r s1=>r=none/\Inv X pins σ H s1) E s
 self:∀ (A:Around) (i:Nat) (s:Shared) (Q:Value->Shared->Prop) (E:Value->Shared->Prop),tn i s.heap->Q (.ref it) s->wpAny (model P w) A (pyIter (.ref it)) Q E s
abbrev TI:=St->Hp->[Qp,It->Qr]
def PIE (X:Cx) (pins:Px) (σ:St) (tg:Expr) (R:It->Qr) (itv:Value) (s2:Shared):Prop :=
 ∃ (it:Addr) (fp:RY) (tn:Nat->[Qp,Heap]) (J:It) (H':Hp),itv=.ref it/\[Qz,H',s2]/\Turn X.prog X.w X.K tg J fp it tn/\tn 0 s2.heap/\([Ru,fp,kS X pins H' b])/\R J H'
def PI (X:Cx) (tg iter:Expr) (wi:TI):Prop :=
 ∀ (pins:Px) (s:Shared) (σ:St) (H:Hp) (R:It->Qr),Rw->wi σ H R-> [SK,Uk,X.A,[Oa,iter],(fun v s1=>[Np,Uk,X.A,pyIter v,PIE X pins σ tg R,X.xe,s1]),X.xe]
theorem yq {M:Model} {A:Around} {E:Qc} {s:Shared} {tg:Expr} {it:Addr} {u:Value} {o:Obj} {n:String} {vs:Nr} {Q:Unit->NM} (ho:[Nv,it]=MN) (hc:o.cls=.type n) (hd:o.data=[S5,vs])
    (hn:[Vb,[U5,"zip","dict_itemiterator","dict_reverseitemiterator","odict_iterator","itertools.zip_longest","itertools.pairwise"].contains n]) (hQ:Q () s):[SK,M,A,letOwnedTupleGo tg ZP u,Q,E]:=by
  unfold letOwnedTupleGo;cases tg <;> first
    | exact [MO,hQ]
    | (cases u <;> first
        | exact [MO,hQ]
        | (refine [O0,wpAny_load ho ?_];rw [hc,hd];show [SK,M,A,[Mj,([U5,"zip","dict_itemiterator","dict_reverseitemiterator","odict_iterator","itertools.zip_longest","itertools.pairwise"].contains n && vs[0]? == [Mo,rawInt _])=true,_,_],Q,E];rw [[Ph,(by intro h; rw [hn,Bool.false_and] at h; cases h)]];exact [MO,hQ]))
def Itl (K:M3) (a:Addr):It :=
 ⟨fun i H=>∃ xs x,SqL K H a xs/\xs[i]?=OV,fun i H x H'=>H'=H/\∀ xs,SqL K H a xs->xs[i]?=OV,fun i H=>∃ xs,SqL K H a xs/\Mh<=i⟩
def Itt (K:M3) (a:Addr):It :=
 ⟨fun i H=>∃ xs x,SqT K H a xs/\xs[i]?=OV,fun i H x H'=>H'=H/\∀ xs,SqT K H a xs->xs[i]?=OV,fun i H=>∃ xs,SqT K H a xs/\Mh<=i⟩
def Itr (lo:Int) (n:Nat):It:=⟨fun i _=>i<n,fun i H x H'=>H'=H/\x=[Va,lo+i],fun i _=>n<=i⟩
theorem BZ {P:Program} {w:World} {K:M3} {tg:Expr} (a it:Addr):Turn P w K tg (Itl K a) [it] it (fun i h=>h.IsListIter it a i) where
 mem:=MJ
 obj:=fun i h st b hb=>by
  have e:b=it:=[Ml,hb]
  subst e;refine bp st fun o e c d=>?_;clear st;exact (af o e (fun v z=>by rw [d] at z; cases z))
 keep:=fun i h h' st k=>st.at [Zp,k it Pz o e]
 item:=by
  intro X hP hw hK hc i pins s σ H E I hf st hg;subst hP hw hK;refine bU hg fun xs x hq hx=>?_;clear hg;refine [Yo,hq,Wq]
  refine [NC,rv.get hx,Wd]
  refine dE (hf it Pz :) fun f0 f1 f2 f3 zq0=>bZ zq0 Uz;clear zq0;refine wpAny_pyNext_list_item st p.isList (x:=u) [Zh,hu] fun h' st' sb=>?_
  have I1:[Ts,X,σ,H,s,h']:=I.turned (t':=s.toks) ([Wk,[Q9,sb.2 b hb,e]]) f0 f1 f3 f4 f5;refine bp (id st' :) fun o e c d=>?_
  exact [Ma,u,(yq (s:={ s with heap:=h' }) e c d M0 (cD x H I1 ru [P7,fun ys hy=>by rw [I.list_inj hy hq]; exact hx] st' ([Pg,(hf b hb).1])))]
 done:=by
  intro X hP hw hK hc i pins s σ H E I hf st hg;subst hP hw hK;refine ar hg fun xs hq hx=>?_;clear hg;refine [Yo,hq,Wq]
  refine dE (hf it Pz :) fun f0 f1 f2 f3 zq0=>bZ zq0 Uz;clear zq0;have hl:=Y4;exact wpAny_pyNext_list_end (Q4) st p.isList (by simp; omega) fun h' eb=>[P7,I.turned (t':=s.toks) ([Wk,eb b o hb e]) f0 f1 f3 f4 f5]
 self:=fun _ _ _ _ _ st h=>wpAny_pyIter_listiter st h
theorem yW {P:Program} {w:World} {K:M3} {tg:Expr} (a it:Addr):Turn P w K tg (Itt K a) [it] it (fun i h=>h.IsTupleIter it a i) where
 mem:=MJ
 obj:=fun i h st b hb=>by
  have e:b=it:=[Ml,hb]
  subst e;refine bp st fun o e c d=>?_;clear st;exact (af o e (fun v z=>by rw [d] at z; cases z))
 keep:=fun i h h' st k=>st.at [Zp,k it Pz o e]
 item:=by
  intro X hP hw hK hc i pins s σ H E I hf st hg;subst hP hw hK;refine bU hg fun xs x hq hx=>?_;clear hg;refine bp [SY,hq] Wq
  refine [NC,rv.get hx,Wd]
  refine dE (hf it Pz :) fun f0 f1 f2 f3 zq0=>bZ zq0 Uz;clear zq0;refine wpAny_pyNext_tuple_item st [Yh,s.heap.IsTuple a Ox,p] (x:=u) [Zh,hu] fun h' st' sb=>?_
  have I1:[Ts,X,σ,H,s,h']:=I.turned (t':=s.toks) ([Wk,[Q9,sb.2 b hb,e]]) f0 f1 f3 f4 f5;refine bp (id st' :) fun o e c d=>?_
  exact [Ma,u,(yq (s:={ s with heap:=h' }) e c d M0 (cD x H I1 ru [P7,fun ys hy=>by rw [I.tuple_inj hy hq]; exact hx] st' ([Pg,(hf b hb).1])))]
 done:=by
  intro X hP hw hK hc i pins s σ H E I hf st hg;subst hP hw hK;refine ar hg fun xs hq hx=>?_;clear hg;refine bp [SY,hq] Wq
  refine dE (hf it Pz :) fun f0 f1 f2 f3 zq0=>bZ zq0 Uz;clear zq0;have hl:=Y4;exact wpAny_pyNext_tuple_end (Q4) st [Yh,s.heap.IsTuple a Ox,p] (by simp; omega) fun h' eb=>[P7,I.turned (t':=s.toks) ([Wk,eb b o hb e]) f0 f1 f3 f4 f5]
 self:=fun _ _ _ _ _ st h=>wpAny_pyIter_tupleiter st h
theorem yv {P:Program} {w:World} {K:M3} {tg:Expr} (it:Addr) (lo:Int) (n:Nat):Turn P w K tg (Itr lo n) [it] it (fun i h=>IsRangeIter h it (lo+(i:Nat) * 1) (Pp - (i:Nat)) 1) where
 mem:=MJ
 obj:=fun i h st b hb=>by
  have e:b=it:=[Ml,hb]
  subst e;exact ⟨_,st,fun v z=>by
   have z':Data.fields _=Data.cell v:=z;cases z'⟩
 keep:=fun i h h' st k=>k it Pz _ st
 item:=by
  intro X hP hw hK hc i pins s σ H E I hf st hg;subst hP hw hK;refine dE (hf it Pz :) fun f0 f1 f2 f3 zq0=>bZ zq0 Uz;clear zq0;have W:=Walks.range (prog:=X.prog) (w:=X.w) (Q4) it lo 1 n;refine W.item i s _ _ hg st fun v h' tk hv st' kk=>?_
  obtain ⟨t,rfl⟩:=hv;have I1:[NP,X,σ,H,s,h',tk]:=I.turned ([Wk,kk b o [Zh,hb] e]) f0 f1 f3 f4 f5;refine [Mu,yq (s:={ s with heap:=h',toks:=tk }) (n:="range_iterator") st' rfl rfl M0 (cD ([Va,lo+i]) H I1 [W4,t] [Nl,rfl] st' ([Pg,(hf b hb).1]))];rw [Int.mul_one]
 done:=by
  intro X hP hw hK hc i pins s σ H E I hf st hg;subst hP hw hK;refine dE (hf it Pz :) fun f0 f1 f2 f3 zq0=>bZ zq0 Uz;clear zq0;exact wpAny_pyNext_range_end (Q4) st (by have:n<=i:=hg; omega) fun h' eb=>[P7,I.turned (t':=s.toks) ([Wk,eb b o hb e]) f0 f1 f3 f4 f5]
 self:=fun _ _ _ _ _ st h=>wpAny_pyIter_rangeiter st h
end L2
namespace L2
open PySem PySem.Spec PyProof.Rows
section
variable {X:Cx} {tg:Expr}
def IB (K:M3) (tl:TE):TI:=fun σ H R=>tl σ H [VW,∃ a,x=QM/\(∃ xs,SqL K H1 a xs)/\R (Itl K a) H1]
def Lk (K:M3) (tl:TE):TI:=fun σ H R=>tl σ H [VW,∃ a,x=QM/\(∃ xs,SqT K H1 a xs)/\R (Itt K a) H1]
theorem de {l:Expr} {tl:TE} (hl:PE X l tl):PI X tg l (IB X.K tl):=by
 intro pins s σ H R I h;refine [SX,hl pins s σ H _ I h,[P8,zr,?_]]
 refine bp q1 fun a e zp8 q=>?_;clear q1;obtain ⟨xs,hq⟩:=zp8;subst e;cases r1
 refine bp (I1.list hq :) Wq
 refine [XY,p.isList,?_];refine (cf MD [MD] _ _ (eY H1 rfl (I1.kept (t':=s1.toks) [RU,[M8,e]]) (BZ a _) (aC _ (Ub) rfl rfl) (aH ([Pg,?_]) q)));have e:b=MD:=[Ml,hb]
 subst e;exact I1.fpOk Tx (Up)
theorem dj {l:Expr} {tl:TE} (hl:PE X l tl):PI X tg l (Lk X.K tl):=by
 intro pins s σ H R I h;refine [SX,hl pins s σ H _ I h,[P8,zr,?_]]
 refine bp q1 fun a e zp9 q=>?_;clear q1;obtain ⟨xs,hq⟩:=zp9;subst e;cases r1
 refine bp (I1.tuple hq :) Wq
 refine wpAny_pyIter_tuple [Yh,s1.heap.IsTuple a Ox,p] ?_;refine (cf MD [MD] _ _ (eY H1 rfl (I1.kept (t':=s1.toks) [RU,[M8,e]]) (yW a _) (aC _ (Ub) rfl rfl) (aH ([Pg,?_]) q)));have e:b=MD:=[Ml,hb]
 subst e;exact I1.fpOk Tx (Up)
theorem wF {pins:Px} {σ:St} {H:Hp} {s:Shared} {R:It->Qr} {E:Qc} {lo hi:Int} {t u v:Tok} {tk:Nat} (I:Rw) (h1:-(2 ^ 62)<=lo) (h2:lo<2 ^ 62) (h3:-(2 ^ 62)<=hi) (h4:hi<2 ^ 62)
  (q:R (Itr lo [TF,hi - lo]) H):wpAny Uk X.A (pyIter Vv) (PIE X pins σ tg R) E { s with heap:=[Nf,Vk,[S5,#[.int lo t,.int hi u,.int 1 v]]],toks:=tk }:=by
 refine wpAny_pyIter_range (IsRange.new ..) (small_one h1 h2 h3 h4) ?_;have I1:[NP,X,σ,H,s,[Nf,Vk,[S5,#[.int lo t,.int hi u,.int 1 v]]],tk]:=I.kept [RU,[M8,e]]
 refine ⟨[Pr,[Nf,Vk,[S5,#[.int lo t,.int hi u,.int 1 v]]]],[[Pr,[Nf,Vk,[S5,#[.int lo t,.int hi u,.int 1 v]]]]],_,_,H,rfl, I1.kept (t':=tk) [RU,[M8,e]],yv _ lo [TF,hi - lo],?_,[Pg,?_],q⟩
 .have e1:lo+[RK,0] * 1=lo:=MJ
  have e2:[RK,[TF,hi - lo]] - [RK,0]=[WO,lo,hi,1]:=by rw [rangeSize_one]; split <;> omega
  show IsRangeIter _ _ (lo+[RK,0] * 1) ([RK,[TF,hi - lo]] - [RK,0]) 1;rw [e1,e2];exact Ub
 .have e:b=[Pr,[Nf,Vk,[S5,#[.int lo t,.int hi u,.int 1 v]]]]:=[Ml,hb]
  subst e;exact I1.fpOk Tx (Up)
def K4 (ta:TA):TI:=fun σ H R=>ta σ H fun vs H1=>∃ j:Int,vs=[.int j]/\-(2 ^ 62)<=j/\j<2 ^ 62/\R (Itr 0 j.toNat) H1
def KU (ta:TA):TI:=fun σ H R=>ta σ H fun vs H1=>∃ i j:Int,vs=[RF,.int j]/\(-(2 ^ 62)<=i/\i<2 ^ 62/\-(2 ^ 62)<=j/\j<2 ^ 62)/\R (Itr i [TF,j - i]) H1
theorem dH {a:Expr} {ta:TA} {p pos:Pos} (hg:Gl X Vk) (hm:X.mg Vk=none) (ha:PA X [a] ta) (hs:[N3,[a]]=[(false,[Oa,a])]:=by rfl):PI X tg ([UM,.Name Vk p,[a],[]]) (K4 ta):=by
 intro pins s σ H R I h;refine Call_ (iy I hg hm boot_range ([Rh,[ZS,ha pos pins s σ H _ I h,fun us s1 ⟨vs,H1,I1,r1,q1⟩=>?_],hs,rfl]));obtain ⟨j,e,q1,q2,q⟩:=q1;subst e;cases r1 with
 | cons r rr =>
  cases rr
  obtain ⟨t,rfl⟩:=r;exact call_range_1 (wF I1 L6 L6 q1 q2 [Zh,q])
theorem BS {a b:Expr} {ta:TA} {p pos:Pos} (hg:Gl X Vk) (hm:X.mg Vk=none) (ha:PA X [a,b] ta) (hs:[N3,[a,b]]=[(false,[Oa,a]),(false,[Oa,b])]:=by rfl) (hs2:[N3,[b]]=[(false,[Oa,b])]:=by rfl) :
  PI X tg ([UM,.Name Vk p,[a,b],[]]) (KU ta):=by
 intro pins s σ H R I h;refine Call_ (iy I hg hm boot_range ([Rh,[ZS,ha pos pins s σ H _ I h,fun us s1 zr=>aX zr fun vs H1 I1 r1 q1=>?_],(by rw [hs,hs2]),(by rw [hs2]; rfl)]));refine aX q1 fun i j e zp0 q=>?_;clear q1;obtain ⟨q1,q2,q3,q4⟩:=zp0;subst e;cases r1 with
 | cons r rr =>
  cases rr with
  | cons r' rr =>
   cases rr
   obtain ⟨t,rfl⟩:=r;obtain ⟨t',rfl⟩:=r';exact call_range_2 (wF I1 q1 q2 q3 q4 q)
def LM (wi:TI) (g:TG) (tb:TS):TS:=fun D σ H=>wi σ H fun J H1=>∃ W:Nat->Nat->St->Qr,(∃ m,W 0 m σ H1)/\∀ i m σ H,W i m σ H-> (J.stop i H/\[Yp,H])\/(J.go i H/\∃ N:St->Qr,(∀ σ' H',N YL H'->∃ m',m'<m/\W (i+1) m' YL H')/\∀ x H',J.yld i H x H'->g x σ H' [Of,D,N,N,D.nx,σ2,H2])
def sY (fp:RY) (h:Heap):Px:=fp.filterMap fun b=>[Tr,Vu,fun o=>(b,o)]
theorem je {fp:RY} {h:Heap} {b:Addr} {o:Obj} (hb:b∈fp) (e:Vu=MN):(b,o)∈sY fp h:=List.mem_filterMap.mpr (af b hb (by rw [e]; rfl))
theorem BG {fp:RY} {h:Heap} {p:Addr×Obj} (hp:p∈sY fp h):p.1∈fp/\h.get? p.1=some p.2:=by
 refine [NC,List.mem_filterMap.mp hp,fun b hb e=>?_]
 cases q:h.get? b with
 | none=>rw [q] at e; cases e
 | some o =>
  rw [q] at e;have e':(b,o)=p:=[Mq,e];subst e';exact [Mw,hb,q]
theorem Inv.pinned {pins:Px} {σ:St} {H:Hp} {s:Shared} {fp:RY} (I:Rw) (hf:[Ru,fp,kS X pins H b]) (ho:[Ru,fp,∃ o,Xz=MN/\∀ v,o.data≠.cell v]):Inv X (pins++sY fp s.heap) σ H s :=
 I.pins_of [VV,(List.mem_append.mp hp).elim [UK,I.pin p ([NH,z])] [OE,by
  obtain ⟨hb,e⟩:=BG z;refine fX (hf p.1 hb :) fun f0 f1 f2 _=>?_
  refine [NC,ho p.1 hb,fun o e' d=>?_]
  rw [e] at e'; cases e'
  exact (dv e f0 f1 f2 d)]]
theorem Inv.unpinned {pins pl:Px} {σ:St} {H:Hp} {s:Shared} (I:Inv X (pins++pl) σ H s):Rw:=I.pins_of [VV,I.pin p ([NH,([PB,hp])])]
theorem cT {iter:Expr} {body:WG} {wi:TI} {g:TG} {tb:TS} {pos:Pos} (hp:PassesOwn Uk X.A X.env X.xe) (hc:X.calm=true) (hi:PI X tg iter wi) (hg:PG X tg g) (hb:PSs X body tb)
  (hs:∀ x,foldedSetIterable iter X.env x=pure x:=by intro _; rfl):PS X (.For tg iter body [] pos) (LM wi g tb):=by
 intro pins s σ H D I h;refine wpAny_For [ZS,hi pins s σ H _ I h,fun v s1 h1=>thn h1 fun itv s2 h2=>?_] hs;refine bN h2 fun it fp tn J zq0=>gq zq0 fun H2 e I2 T st2 zq1=>bZ zq1 fun f2 zq2=>ar zq2 fun W zp1 turn=>?_;clear zq0 zq1 zq2 h2;obtain ⟨m0,w0⟩:=zp1;subst e;have stat:∀ {H':Hp},([Ru,fp,H' b=none])->[Ru,fp,kS X pins H' b]:=fun hn b hb=>[Mw,hn b hb,(f2 b hb).2]
 refine codeAny_forLoop_any (fun n s'=>∃ i σ' H',[N5,X,YL,H',s']/\tn i s'.heap/\([Ru,fp,H' b=none])/\W i n YL H') ?_ m0 (dh 0 σ H2 I2 st2 ([Pg,(f2 b hb).1]) w0);intro n s3 zr;refine jF zr fun i σ3 H3 I3 st3 fr3 w3=>?_;clear zr;rcases turn i n σ3 H3 w3 with ⟨stop,qn⟩ | ⟨go,N,hN,step⟩
 .refine [Wz,[ZS,T.done X rfl rfl rfl hc i pins s3 σ3 H3 X.xe I3 (stat fr3) st3 stop,fun r s4 ⟨hr,I4⟩=>?_]];subst hr;exact [YM,bP σ3 H3 I4 qn]
 .refine [Wz,[ZS,T.item X rfl rfl rfl hc i pins s3 σ3 H3 X.xe I3 (stat fr3) st3 go,fun r s4 zr=>ar zr fun u hr h4=>?_]];subst hr;refine [Wz,(thn h4 fun _ s5 zr=>fz zr fun x H5 I5 r5 y5 st5 fr5=>?_)];have I5':=I5.pinned (stat fr5) (T.obj _ _ st5);refine [Wz,[ZS,hg _ s5 σ3 H5 x u _ I5' r5 (step x H5 y5),fun _ s6 zr=>bU zr fun σ6 H6 I6 q6=>?_]];refine [Wz,[ZS,hb _ s6 σ6 H6 _ I6 q6,fun f s7 q7=>?_]];have again:∀ {σ7:St} {H7:Hp},Inv X (pins++sY fp s5.heap) σ7 H7 s7->N σ7 H7->∃ m,m<n/\∃ i σ' H',[N5,X,YL,H',s7]/\tn i s7.heap/\([Ru,fp,H' b=none])/\W i m YL H':=fun {σ7 H7} I7 n7=>by
   refine [NC,hN σ7 H7 n7,fun m' hm w7=>?_]
   refine (af m' hm (dh (i+1) σ7 H7 I7.unpinned (T.keep _ _ _ st5 fun b hb o e=>(I7.pin (b,o) ([NH,([NH,je hb e])])).1) ([Pg,?_]) w7));refine [NC,T.obj _ _ st5 b hb,fun o e d=>?_]
   exact (I7.pin (b,o) ([NH,([NH,je hb e])])).2.1
  cases f with
  | next=>refine bU q7 fun σ7 H7 I7 n7=>?_;clear q7; exact again I7 n7
  | cont=>refine bU q7 fun σ7 H7 I7 n7=>?_;clear q7; exact again I7 n7
  | brk=>refine bU q7 fun σ7 H7 I7 q7=>?_; exact (bP σ7 H7 I7.unpinned q7)
  | ret v=>refine fP q7 fun x7 σ7 H7 I7 r7 q7=>?_; exact (iR x7 σ7 H7 I7.unpinned r7 q7)
end
theorem j9 {K:M3} {a:Addr} {xs:Nz} {g:TG} {tb:TS} {D:Ends} {σ:St} {H:Hp} (Pv:Nat->St->Qr) (h0:Pv 0 σ H) (hl:∀ i σ H,i<=Mh->Pv i σ H->SqL K H a xs)
  (hs:∀ i x σ H,xs[i]?=OV->Pv i σ H->g x σ H [Of,D,Pv (i+1),Pv (i+1),D.nx,σ2,H2]) (hd:∀ σ H,Pv Mh σ H->[Yp,H]) :
  ∃ W:Nat->Nat->St->Qr,(∃ m,W 0 m σ H)/\∀ i m σ H,W i m σ H-> ((Itl K a).stop i H/\[Yp,H])\/((Itl K a).go i H/\∃ N:St->Qr,(∀ σ' H',N YL H'->∃ m',m'<m/\W (i+1) m' YL H')/\∀ x H',(Itl K a).yld i H x H'->g x σ H' [Of,D,N,N,D.nx,σ2,H2]):=by
 refine [Yt,(fun i m σ H=>m=Mh - i/\i<=Mh/\Pv i σ H),aC Mh Pz (OX) h0];intro i m σ H zr;refine cb zr fun ze2 hi p=>?_;clear zr;subst ze2;have q:=hl i σ H hi p;by_cases hlt:i<Mh
 .refine [PY,aH (bP xs (xs[i]) q (by simp [hlt])) (af (Pv (i+1)) (fun σ' H' p'=>(cC (Mh - (i+1)) L6 rfl hlt p')) (fun x H' y=>?_))];obtain ⟨e,y⟩:=y;subst e;exact hs i x σ _ (y xs q) p
 .have e:i=Mh:=Mr
  subst e;exact .inl [Mw,af xs q Tx,hd σ H p]
theorem ni {K:M3} {a:Addr} {xs:Nz} {g:TG} {tb:TS} {D:Ends} {σ:St} {H:Hp} (Pv:Nat->St->Qr) (h0:Pv 0 σ H) (hl:∀ i σ H,i<=Mh->Pv i σ H->SqT K H a xs)
  (hs:∀ i x σ H,xs[i]?=OV->Pv i σ H->g x σ H [Of,D,Pv (i+1),Pv (i+1),D.nx,σ2,H2]) (hd:∀ σ H,Pv Mh σ H->[Yp,H]) :
  ∃ W:Nat->Nat->St->Qr,(∃ m,W 0 m σ H)/\∀ i m σ H,W i m σ H-> ((Itt K a).stop i H/\[Yp,H])\/((Itt K a).go i H/\∃ N:St->Qr,(∀ σ' H',N YL H'->∃ m',m'<m/\W (i+1) m' YL H')/\∀ x H',(Itt K a).yld i H x H'->g x σ H' [Of,D,N,N,D.nx,σ2,H2]):=by
 refine [Yt,(fun i m σ H=>m=Mh - i/\i<=Mh/\Pv i σ H),aC Mh Pz (OX) h0];intro i m σ H zr;refine cb zr fun ze3 hi p=>?_;clear zr;subst ze3;have q:=hl i σ H hi p;by_cases hlt:i<Mh
 .refine [PY,aH (bP xs (xs[i]) q (by simp [hlt])) (af (Pv (i+1)) (fun σ' H' p'=>(cC (Mh - (i+1)) L6 rfl hlt p')) (fun x H' y=>?_))];obtain ⟨e,y⟩:=y;subst e;exact hs i x σ _ (y xs q) p
 .have e:i=Mh:=Mr
  subst e;exact .inl [Mw,af xs q Tx,hd σ H p]
theorem fh {lo:Int} {n:Nat} {g:TG} {tb:TS} {D:Ends} {σ:St} {H:Hp} (Pv:Nat->St->Qr) (h0:Pv 0 σ H)
  (hs:∀ i σ H,i<n->Pv i σ H->g ([Va,lo+i]) σ H [Of,D,Pv (i+1),Pv (i+1),D.nx,σ2,H2]) (hd:∀ σ H,Pv n σ H->[Yp,H]) :
  ∃ W:Nat->Nat->St->Qr,(∃ m,W 0 m σ H)/\∀ i m σ H,W i m σ H-> ((Itr lo n).stop i H/\[Yp,H])\/((Itr lo n).go i H/\∃ N:St->Qr,(∀ σ' H',N YL H'->∃ m',m'<m/\W (i+1) m' YL H')/\∀ x H',(Itr lo n).yld i H x H'->g x σ H' [Of,D,N,N,D.nx,σ2,H2]):=by
 refine [Yt,(fun i m σ H=>m=n - i/\i<=n/\Pv i σ H),aC n Pz (OX) h0];intro i m σ H zr;refine cb zr fun ze4 hi p=>?_;clear zr;subst ze4;by_cases hlt:i<n
 .refine [PY,aH hlt (af (Pv (i+1)) (fun σ' H' p'=>(cC (n - (i+1)) L6 rfl hlt p')) (fun x H' y=>?_))];obtain ⟨e,y⟩:=y;subst e y;exact hs i σ _ hlt p
 .have e:i=n:=Mr
  subst e;exact .inl [Mw,Mm,hd σ H p]
theorem kh {c:TT} {tb:TS} {D:Ends} {σ:St} {H:Hp} (Pv:St->Qr) (μ:St->Hp->Nat) (h0:Pv σ H)
  (hs:∀ σ H,Pv σ H->c σ H fun b H1=>[Mj,b=true,tb { D with nx:=fun σ' H'=>Pv YL H'/\μ YL H'<μ σ H,ct:=fun σ' H'=>Pv YL H'/\μ YL H'<μ σ H,bk:=D.nx } σ H1,[Yp,H1]])
  (mono:∀ σ H Q Q',(∀ b H1,Q b H1->Q' b H1)->c σ H Q->c σ H Q'):Dk c tb D σ H:=by
 refine [Yt,(fun m σ H=>m=μ σ H/\Pv σ H),[Mn,h0]];rintro m σ H ⟨rfl,p⟩;refine mono σ H _ _ (fun b H1 q=>?_) (hs σ H p);cases b with
 | true=>exact (af _ (fun σ' H' ⟨p',l⟩=>(aC _ l rfl p')) q)
 | false=>exact q
end L2
namespace L2
open PySem PySem.Spec PyProof.Rows
abbrev R2:=V->V->Hp->Sr
def OpR (X:Cx) (f:[Q6,[Q6,Sem Value]]) (r:R2):Prop :=
 ∀ (pins:Px) (s:Shared) (σ:St) (H:Hp) (x y:V) (v u:Value) (Q:VK),Rw->RelV x v->[WE,y]->r x y H Q-> [SK,Uk,X.A,f v u,EP X pins σ Q,X.xe]
def UnR (X:Cx) (f:[Q6,Sem Value]) (r:V->Hp->Sr):Prop :=
 ∀ (pins:Px) (s:Shared) (σ:St) (H:Hp) (x:V) (v:Value) (Q:VK),Rw->RelV x v->r x H Q-> [SK,Uk,X.A,f v,EP X pins σ Q,X.xe]
def dM (X:Cx) (f:Value) (r:Nz->Hp->Sr):Prop :=
 ∀ (pins:Px) (s:Shared) (σ:St) (H:Hp) (xs:Nz) (us:MS) (Q:VK),Rw->[Vi,xs]->r xs H Q-> [SK,Uk,X.A,call f us,EP X pins σ Q,X.xe]
def tOp (r:R2) (ta tb:TE):TE:=[QS,ta σ H [VW,tb σ H1 fun y H2=>r x y H2 Q]]
def tUn (r:V->Hp->Sr) (ta:TE):TE:=[QS,ta σ H [VW,r x H1 Q]]
def rI (C:Int->[Qp,Int]) (g:Int->Int->V):R2:=[X8,∃ i j,x=RF/\y=.int j/\C i j/\Q (g i j) H]
def rI0 (g:Int->Int->V):R2:=[X8,∃ i j,x=RF/\y=.int j/\Q (g i j) H]
def rU (g:Int->V):V->Hp->Sr:=fun x H Q=>∃ i,x=RF/\Q (g i) H
section
variable {X:Cx} {a b c:Expr} {ta tb tc:TE} {pos:Pos}
theorem J6 (ha:PE X a ta) (hb:PE X b tb) {pins:Px} {s:Shared} {σ:St} {H:Hp} {R:V->V->Qr} (I:Rw)
  (h:ta σ H [VW,tb σ H1 fun y H2=>R x y H2]) {Q:Qc} {f:[Q6,[Q6,Sem Value]]}
  (hf:∀ v u s2 x y H2,[Qz,H2,s2]->RelV x v->[WE,y]->R x y H2->[Np,Uk,X.A,f v u,Q,X.xe,s2]) :
  [SK,Uk,X.A,[Oa,a],(fun v s₁=>[Np,Uk,X.A,[Oa,b],(fun u s₂=>[Np,Uk,X.A,f v u,Q,X.xe,s₂]),X.xe,s₁]),X.xe]:=by
 refine [SX,ha pins s σ H _ I h,[P8,zr,?_]]
 refine [Y5,hb pins s1 σ H1 _ I1 q1,fun u s2 zr=>aX zr fun y H2 I2 r2 q2=>?_]
 exact hf v u s2 x y H2 I2 r1 r2 q2
theorem bD {op:Operator} {r:R2} (ho:OpR X (binaryOp op) r) (ha:PE X a ta) (hb:PE X b tb):PE X (.BinOp a op b pos) (tOp r ta tb):=by
 intro pins s σ H Q I h;exact wpAny_BinOp (J6 ha hb I h fun v u s2 x y H2 I2 rx ry q=>ho pins s2 σ H2 x y v u Q I2 rx ry q)
theorem Im {op:UnaryOp} {r:V->Hp->Sr} (ho:UnR X (unaryOp op) r) (ha:PE X a ta):PE X (.UnaryOp op a pos) (tUn r ta):=by
 intro pins s σ H Q I h;exact UnaryOp_ ([SX,ha pins s σ H _ I h,[P8,zr,ho pins s1 σ H1 x v Q I1 r1 q1]])
theorem opI {f:[Q6,[Q6,Sem Value]]} {C:Int->[Qp,Int]} {g:Int->Int->Int}
  (rule:∀ (i j:Int) (t u:Tok) (s:Shared) (Q:Qc) (E:Qc),C i j->Q (.int (g i j) s.toks) { s with toks:=s.toks+1 }->[SK,Uk,X.A,f (.int i t) (.int j u),Q,E]) :
  OpR X f (rI C fun i j=>[Va,g i j]):=by
 intro pins s σ H x y v u Q I rx ry h;refine e9 h fun i j ze5 ze6 hc q=>?_;clear h;subst ze5;subst ze6;obtain ⟨t,rfl⟩:=rx;obtain ⟨t',rfl⟩:=ry;exact rule i j t t' s _ _ hc (aB ([Va,g i j]) H (SN) VT q)
theorem Ln {f:[Q6,[Q6,Sem Value]]} {g:Int->Int->Int}
  (rule:∀ (i j:Int) (t u:Tok) (s:Shared) (Q:Qc) (E:Qc),Q (.int (g i j) s.toks) { s with toks:=s.toks+1 }->[SK,Uk,X.A,f (.int i t) (.int j u),Q,E]) :
  OpR X f (rI0 fun i j=>[Va,g i j]):=by
 intro pins s σ H x y v u Q I rx ry h;refine aX h fun i j ze7 ze8 q=>?_;clear h;subst ze7;subst ze8;obtain ⟨t,rfl⟩:=rx;obtain ⟨t',rfl⟩:=ry;exact rule i j t t' s _ _ (aB ([Va,g i j]) H (SN) VT q)
theorem GN {f:[Q6,[Q6,Sem Value]]} {g:Int->Int->Bool}
  (rule:∀ (i j:Int) (t u:Tok) (s:Shared) (Q:Qc) (E:Qc),Q (.bool (g i j)) s->[SK,Uk,X.A,f (.int i t) (.int j u),Q,E]) :
  OpR X f (rI0 fun i j=>.bl (g i j)):=by
 intro pins s σ H x y v u Q I rx ry h;refine aX h fun i j ze9 ze0 q=>?_;clear h;subst ze9;subst ze0;obtain ⟨t,rfl⟩:=rx;obtain ⟨t',rfl⟩:=ry;exact rule i j t t' s _ _ ([YU,.bl (g i j),H,I,q])
def KY (i j:Int):Prop:=0<j/\j<1073741824
def LF (i j:Int):Prop:=0<=j/\j<=1000000/\i.natAbs<2 ^ 64
def CMul (i j:Int):Prop:=(-(2 ^ 64)<i/\i<2 ^ 64)\/(-(2 ^ 64)<j/\j<2 ^ 64)
theorem CMul.ok {i j:Int} (h:CMul i j):IntMulOk i j:=by
 rcases h with ⟨h1,h2⟩ | ⟨h1,h2⟩
 .exact .of_left (intBits_le_64 h1 h2)
 .exact .of_right (intBits_le_64 h1 h2)
theorem c9:OpR X (binaryOp .Add) (rI0 fun i j=>[Va,i+j]):=Ln fun _ _ _ _ _ _ _ q=>add_int q
theorem jy:OpR X (binaryOp .Sub) (rI0 fun i j=>[Va,i - j]):=Ln fun _ _ _ _ _ _ _ q=>sub_int q
theorem gW:OpR X (binaryOp .Mult) (rI CMul fun i j=>[Va,i * j]):=opI fun _ _ _ _ _ _ _ hc q=>mul_int q hc.ok
theorem F9:OpR X (binaryOp .FloorDiv) (rI KY fun i j=>[Va,i / j]):=opI fun i j _ _ _ _ _ hc q=>by
 have h1:Zl<j:=hc.1;have h2:j<1073741824:=hc.2;exact floordiv_int L6 (by rw [Int.fdiv_eq_ediv_of_nonneg i (by omega)]; exact q) [T6,PyProof.noPylong_small L6]
theorem oP:OpR X (binaryOp .Mod) (rI (fun _ j=>0<j) fun i j=>[Va,i % j]):=opI fun i j _ _ _ _ _ hc q=>by
 have h1:Zl<j:=hc;exact mod_int' L6 (by rw [Int.fmod_eq_emod_of_nonneg i (by omega)]; exact q)
theorem JJ:OpR X (binaryOp .Pow) (rI LF fun i j=>[Va,i ^ j.toNat]):=opI fun _ _ _ _ _ _ _ hc q=>pow_int_small hc.1 hc.2.1 hc.2.2 q
theorem unI {f:[Q6,Sem Value]} {g:Int->Int}
  (rule:∀ (i:Int) (t:Tok) (s:Shared) (Q:Qc) (E:Qc),Q (.int (g i) s.toks) { s with toks:=s.toks+1 }->[SK,Uk,X.A,f (.int i t),Q,E]) :
  UnR X f (rU fun i=>[Va,g i]):=by
 intro pins s σ H x v Q I rx h;refine ar h fun i ze1 q=>?_;clear h;subst ze1;obtain ⟨t,rfl⟩:=rx;exact rule i t s _ _ (aB ([Va,g i]) H (SN) VT q)
theorem EJ:UnR X (unaryOp .USub) (rU fun i=>[Va,-i]):=unI fun _ _ _ _ _ q=>neg_int q
end
def KR:V->V->Bool
 | .non,.non=>true | .non,.int _=>true | .int _,.non=>true | .non,.bl _=>true | .bl _,.non=>true | .non,.str _=>true | .str _,.non=>true
 | .int _,.int _=>true | .bl _,.bl _=>true | .str _,.str _=>true | .byt _,.byt _=>true
 | .int _,.str _=>true | .str _,.int _=>true | .bl _,.str _=>true | .str _,.bl _=>true
 | _,_=>false
def rEq:R2:=[X8,KR x y=true/\Q (.bl ([N8,x=y])) H]
def rNe:R2:=[X8,KR x y=true/\Q (.bl (![N8,x=y])) H]
theorem Ar {i j:Int}:[N8,[W2,i]=[W2,j]]=(i == j):=by
 rw [VF];simp
theorem DE {i j:Bool}:[N8,V.bl i=V.bl j]=(i == j):=by
 rw [VF];simp
theorem A6 {i j:Str}:[N8,V.str i=V.str j]=(i == j):=by
 rw [VF];simp
theorem Ap {i j:Array UInt8}:[N8,V.byt i=V.byt j]=(i.toList == j.toList):=by
 rw [VF];cases i
 cases j
 simp
section
variable {X:Cx} {a b c:Expr} {ta tb tc:TE} {pos:Pos}
theorem cx {pins:Px} {σ:St} {H:Hp} {s:Shared} {Q:VK} {k k':Bool} (I:Rw) (q:Q (.bl k) H) (e:k=k'):EP X pins σ Q (.bool k') s:=by
 subst e;exact ([YU,.bl k,H,I,q])
theorem c8:OpR X [Ti,.Eq] rEq:=by
 intro pins s σ H x y v u Q I rx ry h;obtain ⟨hs,q⟩:=h;cases x with
 | non =>
  cases rx
  cases y with
  | non=>cases ry; exact PySem.EqNone.eq_none_none (cx I q Pz)
  | bl j=>cases ry; exact PySem.EqNone.eq_none_bool (cx I q Pz)
  | int j=>obtain ⟨t',rfl⟩:=ry; exact PySem.EqNone.eq_none_int (cx I q Pz)
  | str j=>obtain ⟨t',rfl⟩:=ry; exact PySem.EqNone.eq_none_str (cx I q Pz)
  | _=>exact [O9,[Yh,false=true,hs],MZ]
 | bl i =>
  cases rx
  cases y with
  | non=>cases ry; exact PySem.EqNone.eq_bool_none (cx I q Pz)
  | bl j=>cases ry; exact eq_bool (cx I q DE)
  | str j=>obtain ⟨t',rfl⟩:=ry; exact PySem.EqMixed.eq_bool_str (cx I q Pz)
  | _=>exact [O9,[Yh,false=true,hs],MZ]
 | int i =>
  obtain ⟨t,rfl⟩:=rx;cases y with
  | non=>cases ry; exact PySem.EqNone.eq_int_none (cx I q Pz)
  | int j=>obtain ⟨t',rfl⟩:=ry; exact eq_int (cx I q Ar)
  | str j=>obtain ⟨t',rfl⟩:=ry; exact PySem.EqMixed.eq_int_str (cx I q Pz)
  | _=>exact [O9,[Yh,false=true,hs],MZ]
 | str i =>
  obtain ⟨t,rfl⟩:=rx;cases y with
  | non=>cases ry; exact PySem.EqNone.eq_str_none (cx I q Pz)
  | bl j=>cases ry; exact PySem.EqMixed.eq_str_bool (cx I q Pz)
  | int j=>obtain ⟨t',rfl⟩:=ry; exact PySem.EqMixed.eq_str_int (cx I q Pz)
  | str j=>obtain ⟨t',rfl⟩:=ry; exact eq_str (cx I q A6)
  | _=>exact [O9,[Yh,false=true,hs],MZ]
 | byt i =>
  obtain ⟨t,rfl⟩:=rx;cases y with
  | byt j=>obtain ⟨t',rfl⟩:=ry; exact PySem.W.eq_bytes (cx I q Ap)
  | _=>exact [O9,[Yh,false=true,hs],MZ]
 | _=>cases y <;> exact [O9,[Yh,false=true,hs],MZ]
theorem wx:OpR X [Ti,.NotEq] rNe:=by
 intro pins s σ H x y v u Q I rx ry h;obtain ⟨hs,q⟩:=h;cases x with
 | non =>
  cases rx
  cases y with
  | non=>cases ry; exact PySem.EqNone.ne_none_none (cx I q Pz)
  | bl j=>cases ry; exact PySem.EqNone.ne_none_bool (cx I q Pz)
  | int j=>obtain ⟨t',rfl⟩:=ry; exact PySem.EqNone.ne_none_int (cx I q Pz)
  | str j=>obtain ⟨t',rfl⟩:=ry; exact PySem.EqNone.ne_none_str (cx I q Pz)
  | _=>exact [O9,[Yh,false=true,hs],MZ]
 | bl i =>
  cases rx
  cases y with
  | non=>cases ry; exact PySem.EqNone.ne_bool_none (cx I q Pz)
  | bl j=>cases ry; exact ne_bool (cx I q ([R5,not,DE]))
  | str j=>obtain ⟨t',rfl⟩:=ry; exact PySem.EqMixed.ne_bool_str (cx I q Pz)
  | _=>exact [O9,[Yh,false=true,hs],MZ]
 | int i =>
  obtain ⟨t,rfl⟩:=rx;cases y with
  | non=>cases ry; exact PySem.EqNone.ne_int_none (cx I q Pz)
  | int j=>obtain ⟨t',rfl⟩:=ry; exact ne_int (cx I q ([R5,not,Ar]))
  | str j=>obtain ⟨t',rfl⟩:=ry; exact PySem.EqMixed.ne_int_str (cx I q Pz)
  | _=>exact [O9,[Yh,false=true,hs],MZ]
 | str i =>
  obtain ⟨t,rfl⟩:=rx;cases y with
  | non=>cases ry; exact PySem.EqNone.ne_str_none (cx I q Pz)
  | bl j=>cases ry; exact PySem.EqMixed.ne_str_bool (cx I q Pz)
  | int j=>obtain ⟨t',rfl⟩:=ry; exact PySem.EqMixed.ne_str_int (cx I q Pz)
  | str j=>obtain ⟨t',rfl⟩:=ry; exact ne_str (cx I q ([R5,not,A6]))
  | _=>exact [O9,[Yh,false=true,hs],MZ]
 | byt i =>
  obtain ⟨t,rfl⟩:=rx;cases y with
  | byt j=>obtain ⟨t',rfl⟩:=ry; exact PySem.W.ne_bytes (cx I q ([R5,not,Ap]))
  | _=>exact [O9,[Yh,false=true,hs],MZ]
 | _=>cases y <;> exact [O9,[Yh,false=true,hs],MZ]
theorem t8:OpR X [Ti,.Lt] (rI0 fun i j=>.bl ([N8,i<j])):=GN fun _ _ _ _ _ _ _ q=>lt_int q
theorem hJ:OpR X [Ti,.LtE] (rI0 fun i j=>.bl ([N8,i<=j])):=GN fun _ _ _ _ _ _ _ q=>le_int q
theorem qK:OpR X [Ti,.Gt] (rI0 fun i j=>.bl ([N8,j<i])):=GN fun _ _ _ _ _ _ _ q=>gt_int q
theorem Lj:OpR X [Ti,.GtE] (rI0 fun i j=>.bl ([N8,j<=i])):=GN fun _ _ _ _ _ _ _ q=>ge_int q
theorem ud:OpR X [Ti,.In] ([X8,∃ i j,x=.str i/\y=.str j/\Q (.bl (!([QL,j,i,j.length,1]).isEmpty)) H]):=by
 intro pins s σ H x y v u Q I rx ry h;refine aX h fun i j ze6 ze7 q=>?_;clear h;subst ze6;subst ze7;obtain ⟨t,rfl⟩:=rx;obtain ⟨t',rfl⟩:=ry;exact in_str (cx I q rfl)
theorem j3:OpR X [Ti,.Is] ([X8,y=.non/\Q (.bl ([N8,x=.non])) H]):=by
 intro pins s σ H x y v u Q I rx ry h;obtain ⟨rfl,q⟩:=h;cases ry
 refine is_none_gen (cx I q ?_);cases x <;> first
  | (cases rx; rfl)
  | (obtain ⟨t,rfl⟩:=rx; rfl)
theorem vw:OpR X [Ti,.IsNot] ([X8,y=.non/\Q (.bl (![N8,x=.non])) H]):=by
 intro pins s σ H x y v u Q I rx ry h;obtain ⟨rfl,q⟩:=h;cases ry
 refine isnot_none_gen (cx I q ?_);cases x <;> first
  | (cases rx; rfl)
  | (obtain ⟨t,rfl⟩:=rx; rfl)
theorem bj (b:Expr) {op:CmpOp} (h:op≠.In:=by decide) (h2:op≠.NotIn:=by decide):[Vb,behindInMarks op b]:=by
 have e1:[Vb,op == CmpOp.In]:=by cases op <;> first | rfl | exact [O9,rfl,h]
 have e2:[Vb,op == CmpOp.NotIn]:=by cases op <;> first | rfl | exact [O9,rfl,h2]
 cases b <;> simp [behindInMarks,e1,e2]
theorem fE {op:CmpOp} {r:R2} (ho:OpR X [Ti,op] r) (ha:PE X a ta) (hb:PE X b tb) (hm:[Vb,behindInMarks op b]):PE X (.Compare a [op] [b] pos) (tOp r ta tb):=by
 intro pins s σ H Q I h;exact wpAny_Compare1 (J6 ha hb I h fun v u s2 x y H2 I2 rx ry q=>ho pins s2 σ H2 x y v u Q I2 rx ry q) hm
def IG (t:TE):TT:=[QS,t σ H fun x H'=>∃ k,x=.bl k/\Q k H']
theorem aZ {op:CmpOp} {r:R2} (ho:OpR X [Ti,op] r) (ha:PE X a ta) (hb:PE X b tb) (hm:[Vb,behindInMarks op b]):PT X (.Compare a [op] [b] pos) (IG (tOp r ta tb)):=by
 intro pins s σ H Q I h;refine wpAny_isTrue_Compare1 ([SX,ha pins s σ H _ I h,[P8,zr,[Y5,hb pins s1 σ H1 _ I1 q1,fun u s2 zr=>aX zr fun y H2 I2 r2 q2=>[Y5,ho pins s2 σ H2 x y v u _ I2 r1 r2 q2,fun c s3 zr=>aX zr fun z H3 I3 r3 zq0=>ar zq0 fun k e q3=>?_]]]]) hm;subst e;cases r3
 exact [SR,af H3 I3 q3]
def DD (r r':R2) (ta tb tc:TE):TE:=[QS,ta σ H [VW,tb σ H1 fun y H2=>r x y H2 fun z H3=>∃ k,z=.bl k/\ ([Mj,k=true,tc σ H3 fun w' H4=>r' y w' H4 Q,Q (.bl false) H3])]]
theorem Fm {op op':CmpOp} {r r':R2} (ho:OpR X [Ti,op] r) (ho':OpR X [Ti,op'] r') (ha:PE X a ta) (hb:PE X b tb) (hc:PE X c tc)
  (hm:[Vb,lastMarks [op,op'] [b,c]]:=by with_unfolding_all rfl):PE X (.Compare a [op,op'] [b,c] pos) (DD r r' ta tb tc):=by
 intro pins s σ H Q I h;refine Compare_chain ([SX,ha pins s σ H _ I h,[P8,zr,chain_link [ZS,hb pins s1 σ H1 _ I1 q1,fun u s2 zr=>aX zr fun y H2 I2 r2 q2=>[Y5,ho pins s2 σ H2 x y v u _ I2 r1 r2 q2,fun d s3 zr=>aX zr fun z H3 I3 r3 zq0=>ar zq0 fun k e q3=>?_]]]]) hm;subst e;cases r3
 refine [SR,?_];cases k with
 | false=>exact ite_ff ([YU,.bl false,H3,I3,q3])
 | true=>exact ite_tt (chain_last [ZS,hc pins s3 σ H3 _ I3 q3,fun w' s4 zr=>aX zr fun z' H4 I4 r4 q4=>ho' pins s4 σ H4 y z' u w' Q I4 r2 r4 q4])
theorem gN {op op':CmpOp} {r r':R2} (ho:OpR X [Ti,op] r) (ho':OpR X [Ti,op'] r') (ha:PE X a ta) (hb:PE X b tb) (hc:PE X c tc)
  (hm:[Vb,lastMarks [op,op'] [b,c]]:=by with_unfolding_all rfl):PT X (.Compare a [op,op'] [b,c] pos) (IG (DD r r' ta tb tc)):=by
 intro pins s σ H Q I h;refine isTrue_chain ([SX,ha pins s σ H _ I h,[P8,zr,test_link [ZS,hb pins s1 σ H1 _ I1 q1,fun u s2 zr=>aX zr fun y H2 I2 r2 q2=>[Y5,ho pins s2 σ H2 x y v u _ I2 r1 r2 q2,fun d s3 zr=>aX zr fun z H3 I3 r3 zq0=>ar zq0 fun k e q3=>?_]]]]) hm;subst e;cases r3
 refine [SR,?_];cases k with
 | false =>
  refine ar q3 fun k' e' q'=>?_;clear q3;cases e'
  exact ite_ff (af H3 I3 q')
 | true =>
  refine ite_tt (test_last [ZS,hc pins s3 σ H3 _ I3 q3,fun w' s4 zr=>aX zr fun z' H4 I4 r4 q4=>[Y5,ho' pins s4 σ H4 y z' u w' _ I4 r2 r4 q4,fun d' s5 zr=>aX zr fun z2 H5 I5 r5 zq0=>ar zq0 fun k2 e2 q5=>?_]]);subst e2;cases r5
  exact [SR,af H5 I5 q5]
theorem oa:(sizeLine:Nat)<2 ^ 63:=by rw [sizeLine_eq]; decide
theorem bV:OpR X (binaryOp .Add) ([X8,∃ i j,x=.str i/\y=.str j/\[N4,i.length+j.length]/\Q [XE,i++j] H]):=by
 intro pins s σ H x y v u Q I rx ry h;refine e9 h fun i j ze4 ze5 hz q=>?_;clear h;subst ze4;subst ze5;obtain ⟨t,rfl⟩:=rx;obtain ⟨t',rfl⟩:=ry;exact add_str (fun t' tk=>(aB [XE,i++j] H (SN) VT q)) hz
theorem vals1 {x:V} {us:MS} (r:[Vi,[x]]):∃ u,us=[u]/\[WE,x]:=by
 cases r with
 | cons r1 r2=>cases r2; exact [Mn,r1]
theorem vals2 {x y:V} {us:MS} (r:[Vi,[x,y]]):∃ u w',us=[u,w']/\[WE,x]/\RelV y w':=by
 cases r with
 | cons r1 r2 =>
  cases r2 with
  | cons r3 r4=>cases r4; exact ([Od,_,_,r1,r3])
theorem w9:dM X ([Sl,"abs"]) ([Tb,∃ i,xs=[RF]/\Q ([Va,[Mj,i<0,-i,i]]) H]):=by
 intro pins s σ H xs us Q I r h;refine ar h fun i ze0 q=>?_;clear h;subst ze0;refine [NC,Vw,fun u ze1 zq0=>iC zq0 fun t ze2=>?_];clear zq0;subst ze1;subst ze2;exact call_abs_int fun u tk=>(aB ([Va,[Mj,i<0,-i,i]]) H (SN) VT q)
theorem Bv (hc:X.calm=true):dM X ([Sl,"max"]) ([Tb,∃ i j,xs=[RF,.int j]/\Q ([Va,[Mj,j > i,j,i]]) H]):=by
 intro pins s σ H xs us Q I r h;refine bU h fun i j ze3 q=>?_;clear h;subst ze3;refine aX (vals2 r :) fun u w' ze4 zp5 zp6=>?_;subst ze4;obtain ⟨t,rfl⟩:=zp5;obtain ⟨t',rfl⟩:=zp6;refine max_two_ints (Q4) fun h' tk k=>(aB _ H (I.kept k) ?_ q)
 by_cases hj:j > i
 .rw [[P9,hj],[P9,hj]]; exact VT
 .rw [[Ph,hj],[Ph,hj]]; exact VT
theorem CQ (hc:X.calm=true):dM X ([Sl,"min"]) ([Tb,∃ i j,xs=[RF,.int j]/\Q ([Va,[Mj,j<i,j,i]]) H]):=by
 intro pins s σ H xs us Q I r h;refine bU h fun i j ze7 q=>?_;clear h;subst ze7;refine aX (vals2 r :) fun u w' ze8 zp9 zp0=>?_;subst ze8;obtain ⟨t,rfl⟩:=zp9;obtain ⟨t',rfl⟩:=zp0;refine min_two_ints (Q4) fun h' tk k=>(aB _ H (I.kept k) ?_ q)
 by_cases hj:j<i
 .rw [[P9,hj],[P9,hj]]; exact VT
 .rw [[Ph,hj],[Ph,hj]]; exact VT
theorem oH:dM X [Sx,"int"] ([Tb,(∃ i,xs=[RF]/\Q (RF) H)\/∃ k,xs=[.bl k]/\Q ([Va,[Mj,k,1,0]]) H]):=by
 intro pins s σ H xs us Q I r h;rcases h with ⟨i,rfl,q⟩ | ⟨k,rfl,q⟩
 .refine [NC,Vw,fun u ze1 zq0=>iC zq0 fun t ze2=>?_];clear zq0;subst ze1;subst ze2;exact call_int_int (aB (RF) H I VT q)
 .refine [NC,Vw,fun u ze3 r1=>?_];subst ze3;cases r1
  exact call_int_bool (aB ([Va,[Mj,k,1,0]]) H (SN) VT q)
theorem xn:dM X ([Sl,"divmod"]) ([Tb,∃ i j,xs=[RF,.int j]/\KY i j/\∀ p,H p=none->[Xi,p,([Rz,H,p,[[Va,i / j],[Va,i % j]]])]]):=by
 intro pins s σ H xs us Q I r h;refine aX h fun i j ze8 zp9 q=>?_;clear h;subst ze8;obtain ⟨h1,h2⟩:=zp9;refine aX (vals2 r :) fun u w' ze0 zp1 zp2=>?_;subst ze0;obtain ⟨t,rfl⟩:=zp1;obtain ⟨t',rfl⟩:=zp2;refine divmod_int L6 ?_ [T6,PyProof.noPylong_small L6];rw [Int.fdiv_eq_ediv_of_nonneg i L6,Int.fmod_eq_emod_of_nonneg i L6];have hn:H L7=none:=[S7,Tx];refine ([YU,Vv,_,?_,q _ hn]);refine I.laid ([RU,[M8,e]]) Tx (aH (Rv) [Yt,[.int (i / j) s.toks,.int (i % j) (s.toks+1)],.cons VT (.cons VT .nil)]);exact (aC _ ([MK,s.heap]) rfl (e8 0 rfl))
end
end L2
namespace L2
open PySem PySem.Spec PyProof.Rows
structure ObjM (h:Heap) (x dx C:Addr) (mA:Str->Option Value):Prop where
 obj:h.get? x=some (PySem.W.instObj C dx)
 ns:h.Ns1 dx mA
 ne:dx≠x
theorem Bu {h:Heap} {dx:Addr} {mA:Str->Ms} (n:h.Ns1 dx mA):∃ od,h.get? dx=some od/\∀ name,PySem.W.lookIn name od=[Mo,mA name]:=by
 refine fe n fun o es ep ho hd hk _ hm=>?_;clear n;refine (af o ho (fun name=>?_));have e:=hm name;unfold nsFind findBy at e;rw [<- Array.find?_toList] at e;unfold PySem.W.lookIn;rw [hd];dsimp only;split
 .rename_i y q;rw [q] at e;exact [R5,some,e]
 .rename_i q;rw [q] at e;have a:[Vb,es.toList.any (·.refKey)]:=by
   rw [List.any_eq_false];intro y hy;refine dW (hk y (Array.mem_toList_iff.mp hy) :) fun z t hkey=>?_
   simp [DictEntry.refKey,hkey]
  have a':¬ es.toList.any (·.refKey)=true:=by rw [a]; exact MZ
  rw [[Ph,a']];exact [R5,some,e]
theorem ObjM.look {h:Heap} {x dx C:Addr} {mA:Str->Ms} (I:ObjM h x dx C mA):∃ od,PySem.W.InstAt h x ([Xe,dx]) C (some od)/\∀ name,PySem.W.lookIn name od=[Mo,mA name] :=
 let ⟨od,ho,hl⟩:=Bu I.ns
 (af od ⟨I.obj,rfl,rfl,ho⟩ hl)
section
variable {prog:Program} {w:World} {A:Around} {E:Qc} {s:Shared} {K:M3} {x dx C f:Addr} {mA:Str->Ms} {name:Str} {v:Value}
theorem get_map {expr:Bool} {Q:Qc} (X:K.In s.heap) (I:ObjM s.heap x dx C mA) (hg:PySem.W.plainGet K C name=true) (hh:PySem.W.hasDictIn K C=true)
  (ha:[Pq,K,C,name]=OO) (hv:mA name=Nw) (hv':PySem.W.handedIn v=true) (h:Q v { s with toks:=s.toks+1 }) :
  [SK,Vl,A,getAttr [MT,x] name expr,Q,E]:=by
 refine ar I.look fun od J hl=>?_
 exact PySem.W.get_value X J (PySem.W.plainGet_of hg).1 (PySem.W.findObj_own hh ha rfl (by rw [hl,hv])) hv' h
theorem DT {pl:Sem Bool} {Q:Value×MS->NM} (X:K.In s.heap) (I:ObjM s.heap x dx C mA) (hg:PySem.W.plainGet K C name=true)
  (hf:[Pq,K,C,name]=[Mo,[Mv,f]]) (ht:[WW,[MT,f]]=true) (hv:mA name=none) (h:Q (.ref f,[Ya]) s) :
  [SK,Vl,A,getMethod [MT,x] name pl,Q,E]:=by
 refine ar I.look fun od J hl=>?_
 exact PySem.W.method_fn X J (PySem.W.plainGet_of hg).1 (PySem.W.plainGet_of hg).2 hf ([WD,ht]) (by show [Tr,PySem.W.lookIn name od,(·.isSome)]=RP; rw [hl,hv]; rfl) h
theorem G6 {ns:MB} {Q:Unit->NM} (X:K.In s.heap) (I:ObjM s.heap x dx C mA)
  (hs:[Pq,K,C,"__setattr__"]=[Mo,[Mo,[Sl,"object.__setattr__"]]]) (hp:PySem.W.plainOver K C=true) (ht:PySem.W.takerIn K C name=OO) (hh:PySem.W.hasDictIn K C=true)
  (hw:PySem.Within mA ns) (hsz:[N4,OY])
  (h:∀ h',ObjM h' x dx C (fun y=>[Mj,y=name,Nw,mA y])->[Tv,dx,h']->Q () { s with heap:=h',toks:=s.toks+2 }) :
  [SK,Vl,A,setAttr [MT,x] name v,Q,E]:=by
 refine ar I.look fun od J hl=>?_
 refine PySem.W.set_plain X J hs (PySem.W.osa_open (s:={ s with toks:=s.toks+1 }) (r:=none) X J hp ht fun b=>?_);refine [NC,PySem.W.any_some hh,fun cd hc hd'=>?_]
 have hx:[Nv,x]=some ⟨.ref C,some dx,.plain,#[]⟩:=I.obj;refine [O0,[MO,([O0,[O0,wpAny_loadPart hx ([O0,PySem.W.Looks.here (s:={ s with toks:=s.toks+1 }) (PySem.W.looks_clsIn X hc) ?_])]])]];rw [hd'];refine wpAny_pure (a:=some dx) ([O0,[MO,([M9,?_])]]);refine wpAny_nsSet1 (s:={ s with toks:=s.toks+1 }) I.ns fun h' hn2 hs2=>?_
 refine fP (hn2.count (PySem.Within.cons name v hw) :) fun oD esD epD hoD hdD hcD=>?_
 refine [O0,wpAny_lookBehind hoD (by rw [hdD]; exact pastItsLine_dict ([Qi,hcD,(by rw [List.length_cons]; omega)])) ?_];exact [MO,(h _ ⟨[Q9,hs2.2 _ [XS,I.ne],I.obj],hn2,I.ne⟩ hs2)]
theorem DQ {R:Result->NM} {vs:MS} {kw:[V3,Value]} (X:K.In s.heap) (hm:PySem.W.makesIn K C=true)
  (hi:[Pq,K,C,Ql]=[Mo,[Mv,f]]) (hf:PySem.W.typeIn K [MT,f]=[Mo,.type "function"])
  (h:codeAny Vl (A.under (.builtin "type.__call__" [Mw,.ref C::vs,kw])) (.call [MT,f] [Mw,.ref (L7+1)::vs,kw]) (PySem.W.InitBack (L7+1) R) { s with heap:=(R7).push ([Xe,L7]) }) :
  codeAny Vl A (.call [MT,C] [Mw,vs,kw]) R s:=by
 obtain ⟨hh,g,d,t,os⟩:=s;exact PySem.W.make_core (PySem.W.makes_of X hm) (PySem.W.looks_findIn X hi) (fun self=>PySem.W.bind_fn X self hf) (Qf) h
end
def kR (f:Str) (v:V):[V3,V]->[V3,V]
 | []=>[(f,v)]
 | (g,x)::r=>[Mj,g=f,(g,v)::r,(g,x)::kR f v r]
theorem pN (f g:Str) (v:V):∀ fs:[V3,V],(kR f v fs).lookup g=[Mj,g=f,Nw,fs.lookup g]
 | []=>by
  show List.lookup g [(f,v)]=_;by_cases h:g=f
  .have hb:(g == f)=true:=beq_iff_eq.mpr h;simp only [List.lookup,hb,if_pos h]
  .have hb:[Vb,g == f]:=[Wg,h];simp only [List.lookup,hb,if_neg h]
 | (k,x)::r=>by
  have ih:=pN f g v r;rw [[Nn,kR f v ((k,x)::r)=([Mj,k=f,(k,v)::r,(k,x)::kR f v r]),rfl]];by_cases hk:k=f
  .rw [[P9,hk]];by_cases h:g=k
   .have hb:(g == k)=true:=beq_iff_eq.mpr h;simp only [List.lookup,hb,if_pos (h.trans hk)]
   .have hb:[Vb,g == k]:=[Wg,h];simp only [List.lookup,hb,if_neg (fun e:g=f=>h (e.trans hk.symm))]
  .rw [[Ph,hk]];by_cases h:g=k
   .have hb:(g == k)=true:=beq_iff_eq.mpr h;simp only [List.lookup,hb,if_neg (fun e:g=f=>hk (h.symm.trans e))]
   .have hb:[Vb,g == k]:=[Wg,h];simp only [List.lookup,hb];exact ih
theorem oy (f:Str) (v:V):∀ fs:[V3,V],f∈[Tr,kR f v fs,OB]/\∀ g,g∈fs.map OB->g∈[Tr,kR f v fs,OB]
 | []=>[Mw,(by simp [kR]),fun g h=>by simp at h]
 | (k,x)::r=>by
  obtain ⟨i1,i2⟩:=oy f v r;rw [[Nn,kR f v ((k,x)::r)=([Mj,k=f,(k,v)::r,(k,x)::kR f v r]),rfl]];by_cases hk:k=f
  .rw [[P9,hk]];subst hk;exact [Mw,MJ,fun g h=>[Ml,h]]
  .rw [[Ph,hk]];refine [Mw,?_,fun g h=>?_]
   .rw [PH];exact [MX,i1]
   .rw [PH] at h ⊢;rcases List.mem_cons.mp h with e | e
    .exact List.mem_cons.mpr [T6,e]
    .exact [MX,i2 g e]
theorem pE (f:Str) (v:V):∀ fs:[V3,V],[MP,kR f v fs]<=V5+1
 | []=>by simp [kR]
 | (k,x)::r=>by
  have ih:=pE f v r;rw [[Nn,kR f v ((k,x)::r)=([Mj,k=f,(k,v)::r,(k,x)::kR f v r]),rfl]];by_cases hk:k=f
  .rw [[P9,hk],Pd,Pd]; omega
  .rw [[Ph,hk],Pd,Pd]; omega
theorem RelO.some_of {v:V} {o:Ms} (r:RelO (Nw) o):∃ u,o=NZ/\[WE,v]:=by
 cases o with
 | none=>exact ([Nn,False,r]).elim
 | some u=>exact [Ma,u,r]
theorem RelO.none_of {o:Ms} (r:RelO none o):o=none:=by
 cases o with
 | none=>rfl
 | some u=>exact ([Nn,False,r]).elim
theorem Cn {v:V} {u:Value} (r:[WE,v]):PySem.W.handedIn u=true:=by
 cases v with
 | non=>cases (show u=Value.none from r); rfl
 | bl b=>cases (show u=Value.bool b from r); rfl
 | int i=>obtain ⟨t,e⟩:=[Yh,∃ t,u=[Sy,i],r]; cases e; rfl
 | str x=>obtain ⟨t,e⟩:=[Yh,∃ t,u=Value.str x t,r]; cases e; rfl
 | byt b=>obtain ⟨t,e⟩:=[Yh,∃ t,u=Value.bytes b t,r]; cases e; rfl
 | flt b=>obtain ⟨t,e⟩:=[Yh,∃ t,u=Value.float b t,r]; cases e; rfl
 | ref a=>cases (show u=Value.ref a from r); rfl
 | ty n=>cases (show u=Value.type n from r); rfl
section
variable {P:Program} {w:World} {H H':Hp} {h h':Heap} {a C dx:Addr} {fs fs':[V3,V]}
theorem ql (hok:HOk P w H h) (e:H a=[Mo,[Ve,C,fs]]):∃ mA,ObjM h a dx C mA/\(∀ f,RelO (fs.lookup f) (mA f))/\PySem.Within mA (fs.map OB)/\V5<=1000/\H dx=[Mo,.own a]:=by
 refine dE ([Yh,ObjOk P w H h a ([Ve,C,fs]),hok a _ e] :) fun d z ne ob zq0=>bp zq0 fun mA n r q=>?_;clear zq0;exact (eY mA ⟨ob,n,ne⟩ r q z d)
end
structure Cls (K:PySem.W.Frag) (C:Addr):Prop where
 pg:PySem.W.plainGet K C Str.empty=true
 hd:PySem.W.hasDictIn K C=true
 po:PySem.W.plainOver K C=true
 sa:PySem.W.findIn K (.ref C) "__setattr__"=some (some (.builtin "object.__setattr__"))
theorem Cls.get {K:M3} {C:Addr} (c:Cls K C) (f:Str):PySem.W.plainGet K C f=true:=c.pg
def NoAttr (K:M3) (C:Addr) (f:Str):Prop:=[Pq,K,C,f]=OO
theorem NoAttr.taker {K:M3} {C:Addr} {f:Str} (n:NoAttr K C f):PySem.W.takerIn K C f=OO:=by
 unfold PySem.W.takerIn;rw [[Nn,[Pq,K,C,f]=OO,n]];rfl
structure Con (K:PySem.W.Frag) (C:Addr) (f:Str) (v:V) (u:Value):Prop where
 at_:PySem.W.findIn K (.ref C) f=some (some u)
 rel:RelV v u
 get:PySem.W.specialIn K u "__get__"=some none
 cp:PySem.W.copiedNames.contains f=false
structure Meth (K:PySem.W.Frag) (C:Addr) (m:Str) (f:Addr):Prop where
 at_:PySem.W.findIn K (.ref C) m=some (some (.ref f))
 fn:PySem.W.isFn K (.ref f)=true
 kp:PySem.W.keepIn K (.ref f)=true
section
variable {X:Cx} {pins:Px} {σ:St} {H:Hp} {s:Shared} {a C dx:Addr} {fs:[V3,V]} {f:Str} {v:V} {A:Around} {E:Qc}
theorem zY {b:Bool} {Q:Qc} (I:Rw) (e:H a=[Mo,[Ve,C,fs]]) (c:Cls X.K C) (n:NoAttr X.K C f) (l:fs.lookup f=Nw)
  (h:∀ u s',[Rm,s']->[WE,v]->Q u s'):[SK,Uk,A,getAttr VU f b,Q,E]:=by
 refine gq (ql I.hok e :) fun mA O r _ _ _=>?_
 refine [NC,(RelO.some_of (v:=v) (o:=mA f) (by rw [<- l]; exact r f)),Wd]
 exact get_map I.kIn O (c.get f) c.hd n hu (Cn ru) (h u _ (SN) ru)
theorem qw {m:Str} {g:Addr} {pl:Sem Bool} {Q:Value×MS->NM} (I:Rw) (e:H a=[Mo,[Ve,C,fs]]) (c:Cls X.K C) (k:Meth X.K C m g) (l:fs.lookup m=none)
  (h:Q (.ref g,[QM]) s):[SK,Uk,A,getMethod VU m pl,Q,E]:=by
 refine gq (ql I.hok e :) fun mA O r _ _ _=>?_
 have hn:mA m=none:=RelO.none_of (by rw [<- l]; exact r m);exact DT I.kIn O (c.get m) k.at_ k.fn hn h
theorem zc {y:V} {u:Value} {Q:Unit->NM} (I:Rw) (e:H a=[Mo,[Ve,C,fs]]) (c:Cls X.K C) (n:NoAttr X.K C f) (hl:V5<1000) (ry:[WE,y])
  (h:∀ s',[Qz,(upd H a ([Ve,C,kR f y fs])),s']->Q () s'):[SK,Uk,A,setAttr VU f u,Q,E]:=by
 refine gq (ql I.hok e :) fun mA O r wi _ ho=>?_
 have hz:[N4,[MP,fs.map OB]]:=by rw [List.length_map,sizeLine_eq]; omega
 refine G6 I.kIn O c.sa c.po n.taker c.hd wi hz fun h' O' sb=>h _ ?_
 have hd:∃ o,[QX,dx]=MN:=let ⟨o,_,_,e',_⟩:=O'.ns; [Mw,o,e'];refine I.write (x:=a) (e:=dx) (by rw [e]; exact Vo) (.inr ho) (fun b q hb z=>[Q9,sb.2 b hb,z]) hd ?_;refine (dv (by rw [aK O.ne]; exact ho) ?_ O.ne O'.obj (aC _ O'.ns (fun g=>?_) (fun g hg=>?_)))
 .have:=pE f y fs; omega
 .show RelO ((kR f y fs).lookup g) ([Mj,g=f,NZ,mA g]);rw [pN];by_cases q:g=f
  .rw [[P9,q],[P9,q]]; exact ry
  .rw [[Ph,q],[Ph,q]]; exact r g
 .by_cases q:g=f
  .rw [q]; exact (oy f y fs).1
  .refine (oy f y fs).2 g (wi g [OE,hg ?_]);show ([Mj,g=f,NZ,mA g])=none;rw [[Ph,q]]; exact z
theorem Inv.made (I:Rw):[Ts,X,σ,upd (upd H L7 (.own (L7+1))) (L7+1) (.ins C L7 []),s,(R7).push ([Xe,L7])]:=by
 have e1:(R7).get? L7=some PySem.W.emptyDict:=[MK,s.heap];have e2:((R7).push ([Xe,L7])).get? (L7+1)=[Mo,[Xe,L7]]:=by
  have:=Heap.get?_push_size (R7) (o:=[Xe,L7]) rfl;rwa [Zb] at this
 have e3:(R7).Ns L7 [Qe,none]:=(dh PySem.W.emptyDict (#[]) _ e1 rfl (fun e he=>[O9,he,Pz]) [Qe,rfl]);have I1:=I.laid (a:=s.heap.objs.size) (o:=.own (L7+1)) (h':=R7) (t':=s.toks) (fun b u q=>[M8,q]) Tx [T7,e1];refine I1.laid (a:=L7+1) (o:=.ins C L7 []) (t':=s.toks) (fun b u q=>[M8,q]) (Nat.le_of_eq (Heap.size_push _ _)) ?_;have ne:L7≠L7+1:=[Ol,Wv];refine (dv (by rw [aK ne,aq]) (OX) ne e2 (aC [Qe,none] ((Heap.Ns1.of_empty e3).at fun o q=>[M8,q]) [Qe,Vo] (fun y hy=>[O9,rfl,hy])))
theorem Hy {prog:Program} {w:World} {env:Env} {e:Expr} {f:Str} {pos:Pos} {s:Shared} {Q:Qc} (hb:attributeBase e f env (eval e env)=eval e env)
  (h:[SK,Vl,A,eval e env,(fun o s₁=>[Np,Vl,A,getAttr o f true,Q,E,s₁]),E]):[SK,Vl,A,eval (.Attribute e f pos) env,Q,E] :=
 Attribute_any_ h (by rw [arm_eval_Attribute,hb])
end
def Lz (K:M3) (ta:TE) (f:Str):TE:=[QS,ta σ H [VW,∃ a C dx fs v,x=QM/\H1 a=[Mo,[Ve,C,fs]]/\Cls K C/\NoAttr K C f/\fs.lookup f=Nw/\Q v H1]]
def L1 (K:M3) (ta tv:TE) (f:Str):TS:=fun D σ H=>tv σ H fun y H1=>ta σ H1 fun x H2=>∃ a C dx fs,x=QM/\H2 a=[Mo,[Ve,C,fs]]/\Cls K C/\NoAttr K C f/\V5<1000/\ [Yp,(upd H2 a ([Ve,C,kR f y fs]))]
section
variable {X:Cx} {o e value:Expr} {f:Str} {pos pos' tpos:Pos} {ta tv:TE}
theorem oE (he:PE X e ta) (hb:attributeBase e f X.env ([Oa,e])=[Oa,e]):PE X (.Attribute e f pos) (Lz X.K ta f):=by
 intro pins s σ H Q I h;refine Hy hb [ZS,he pins s σ H _ I h,fun u s1 zr=>aX zr fun x H1 I1 rx zq0=>bN zq0 fun a C dx fs zq1=>gq zq1 fun v ex ea c n zq2=>bZ zq2 fun l q=>?_];subst ex;obtain rfl:u=[Te,a]:=rx;exact zY I1 ea c n l fun u' s2 I2 ru=>(aB v H1 I2 ru q)
theorem zF (ha:PE X o ta) (hv:PE X value tv) (hs:swapsWith value ([Mo,.Attribute o f pos']) pos.line X.env=pure false):PS X (.Assign [.Attribute o f pos'] value pos) (L1 X.K ta tv f):=by
 intro pins s σ H D I h;refine plainObj_wpAny_Assign_Attribute [ZS,hv pins s σ H _ I h,fun u s1 zr=>aX zr fun y H1 I1 ry q=>[Y5,ha pins s1 σ H1 _ I1 q,fun ov s2 zr=>aX zr fun x H2 I2 rx zq0=>cZ zq0 fun a C dx fs ex ea c n zq1=>bZ zq1 fun l q2=>?_]] hs;subst ex;obtain rfl:ov=[Te,a]:=rx;exact zc I2 ea c n l ry fun s3 I3=>(bP σ _ I3 q2)
end
section
variable {X:Cx} {pins:Px} {σ:St} {H:Hp} {s:Shared} {A:Around} {E:Qc} {Q:Qc} {c:Value} {b:Bool}
inductive TyOf (K:PySem.W.Frag) (H:Hp):V->Value->Prop where
 | non:TyOf K H .non (.type "NoneType")
 | bl (x:Bool):TyOf K H (.bl x) (.type "bool")
 | int (i:Int):TyOf K H (.int i) (.type "int")
 | str (x:Str):TyOf K H (.str x) (.type "str")
 | flt (x:UInt64):TyOf K H (.flt x) (.type "float")
 | lst {a:Addr} {xs:List V} (e:H a=some (.lst xs)):TyOf K H (.ref a) (.type "list")
 | frz {a:Addr} {o:Obj} {xs:List V} (e:H a=some (.frz o (.lst xs))):TyOf K H (.ref a) (.type "list")
 | tup {a:Addr} {xs:List V} (e:H a=some (.tup xs)):TyOf K H (.ref a) (.type "tuple")
 | dK {a:Addr} {kvs:List (Key×V)} (e:H a=some (.dK kvs)):TyOf K H (.ref a) (.type "dict")
 | dT {a:Addr} {kvs:List (List Key×V)} (e:H a=some (.dT kvs)):TyOf K H (.ref a) (.type "dict")
 | ins {a C dx:Addr} {fs:List (Str×V)} (e:H a=some (.ins C dx fs)) (cl:Cls K C) (ha:PySem.W.findIn K (.ref C) "__class__"=some (some (.builtin "object.__class__")))
   (hn:PySem.W.specialIn K (.builtin "object.__class__") "__get__"=some (some (.builtin "getset_descriptor.__get__"))) (htk:PySem.W.takesIn K (.builtin "object.__class__")=some true)
   (hm:PySem.W.mroIn K C (.type "object")=some true):TyOf K H (.ref a) (.ref C)
theorem BK {x:V} {u t:Value} (I:Rw) (rx:[WE,x]) (ty:TyOf X.K H x t) (e:PySem.W.kitOne X.K t c=QZ) (h:∀ tk,Q (.bool b) { s with toks:=tk }) :
  [SK,Uk,A,call ([Sl,"isinstance"]) [u,c],Q,E]:=by
 cases ty with
 | non=>cases (show u=Value.none from rx); exact [RC,PySem.W.kitx_none,Vo,e,[UK,[PL,z]],h]
 | bl y=>cases (show u=Value.bool y from rx); exact [RC,PySem.W.kitx_bool,Vo,e,[UK,[PL,z]],h]
 | int i=>obtain ⟨t,q⟩:=[Yh,∃ t,u=[Sy,i],rx]; cases q; exact [RC,PySem.W.kitx_int,Vo,e,[UK,[PL,z]],h]
 | str y=>obtain ⟨t,q⟩:=[Yh,∃ t,u=Value.str y t,rx]; cases q; exact [RC,PySem.W.kitx_str,Vo,e,[UK,[PL,z]],h]
 | flt y=>obtain ⟨t,q⟩:=[Yh,∃ t,u=Value.float y t,rx]; cases q; exact [RC,PySem.W.kitx_float,Vo,e,[UK,[PL,z]],h]
 | @lst a xs ea =>
  cases (show u=Value.ref a from rx)
  refine bZ ([Yh,[V1,X.w,H,s.heap,a,[Pl,xs]],I.hok a _ ea] :) fun _ zq0=>bU zq0 fun _ n _ h1=>?_;clear zq0;exact [RC,PySem.W.kitx_list,([Yb,_,h1]),e,[UK,[PL,z]],h]
 | @frz a ob xs ea =>
  cases (show u=Value.ref a from rx)
  refine cb ([Yh,[V1,X.w,H,s.heap,a,(.frz ob [Pl,xs])],I.hok a _ ea] :) fun _ _ zq0=>bU zq0 fun _ n _ h1=>?_;clear zq0;exact [RC,PySem.W.kitx_list,([Yb,_,h1]),e,[UK,[PL,z]],h]
 | @tup a xs ea =>
  cases (show u=Value.ref a from rx)
  refine bZ ([Yh,[V1,X.w,H,s.heap,a,[Rj,xs]],I.hok a _ ea] :) fun _ zq0=>ar zq0 fun _ _ p=>?_;clear zq0;refine bp p fun o h1 h2 _=>?_;clear p;exact [RC,PySem.W.kitx_tuple,af o h1 h2,e,[UK,[PL,z]],h]
 | @dK a kvs ea =>
  cases (show u=Value.ref a from rx)
  refine cb ([Yh,[V1,X.w,H,s.heap,a,Yj],I.hok a _ ea] :) fun _ _ zq0=>ar zq0 fun vs _ p=>?_;clear zq0;refine fP p fun o es ep h1 h2 _=>?_;clear p;exact [RC,PySem.W.kitx_dict,af o h1 h2.1,e,[UK,[PL,z]],h]
 | @dT a kvs ea =>
  cases (show u=Value.ref a from rx)
  refine cb ([Yh,[V1,X.w,H,s.heap,a,.dT kvs],I.hok a _ ea] :) fun _ _ zq0=>ar zq0 fun xs _ zq1=>fP zq1 fun o es ep h1 h2 _=>?_;clear zq0 zq1;exact [RC,PySem.W.kitx_dict,af o h1 h2.1,e,[UK,[PL,z]],h]
 | @ins a C dx fs ea cl ha hn htk hm =>
  cases (show u=Value.ref a from rx)
  refine [NC,ql I.hok ea,fun mA O _=>?_]
  refine ar O.look fun od J _=>?_
  exact [RC,PySem.W.kitx_own (cl.get _) cl.hd ha hn htk hm,J,e,[UK,[PL,z]],h]
end
end L2
namespace L2
open PySem PySem.Spec PyProof.Rows
structure Room (k:Nat) (A:Around):Prop where
 hd:A.handled=none
 dp:A.depth+3 * k+5<recursionLimit
 un:A.units+16 * k+200<cLine
theorem Room.mono {j k:Nat} {A:Around} (r:Room k A) (h:j<=k):Room j A:=⟨r.hd,[NV,r.dp],[NV,r.un]⟩
theorem Room.deeper {k:Nat} {A:Around} (r:Room (k+1) A) (env:Env):Room k (A.deeper env) :=
 ⟨r.hd,by have:=r.dp; show A.depth+1+3 * k+5<_; omega,by have:=r.un; show A.units+3+16 * k+200<_; omega⟩
theorem zU {A:Around} {C:Addr} {us:MS} {kw:[V3,Value]}:(A.under (.builtin "type.__call__" [Mw,.ref C::us,kw])).depth=A.depth+1:=by
 first | rfl | simp [Around.under,Code.weight,Code.isCreation,Code.isGuard,Code.isCaller,Code.frames,Code.isFrame,guardIds]
theorem yU {A:Around} {C:Addr} {us:MS} {kw:[V3,Value]}:(A.under (.builtin "type.__call__" [Mw,.ref C::us,kw])).units=A.units+1:=by
 first | rfl | simp [Around.under,Code.cUnits,Code.frames,Code.isFrame]
theorem Room.make {k:Nat} {A:Around} (r:Room (k+1) A) (C:Addr) (us:MS) (kw:[V3,Value]):Room k (A.under (.builtin "type.__call__" [Mw,.ref C::us,kw])) :=
 ⟨r.hd,by have:=r.dp; rw [zU]; omega,by have:=r.un; rw [yU]; omega⟩
theorem Room.depth {k:Nat} {A:Around} (r:Room k A):A.depth<recursionLimit:=[NV,r.dp]
theorem Room.units {k:Nat} {A:Around} (r:Room k A):A.units+64<cLine:=[NV,r.un]
theorem Room.units0 {k:Nat} {A:Around} (r:Room k A):A.units<cLine:=[NV,r.un]
def HH:TA:=fun _ H Q=>Q [] H
def K5 (ta:TE) (tr:TA):TA:=[QS,ta σ H [VW,tr σ H1 fun xs H2=>Q (x::xs) H2]]
section
variable {X:Cx} {e:Expr} {es:OR} {te:TE} {t:TA} {pos:Pos}
theorem ah:PA X [] HH:=fun _ _ _ _ H Q I h=>Calls.spliced_nil (aB [] H I .nil h)
theorem ae (ha:PE X e te) (hr:PA X es t) (hs:[N3,e::es]=(false,[Oa,e])::Um:=by rfl):PA X (e::es) (K5 te t):=by
 intro pos pins s σ H Q I h;rw [hs];show [SK,_,_,spliced ((false,[Oa,e])::[Xf,Um]),_,_];refine Calls.spliced_cons [ZS,ha pins s σ H _ I h,fun u s1 zr=>[P8,zr,?_]];exact [Y5,hr pos pins s1 σ H1 _ I1 q1,fun us s2 zr=>aX zr fun xs H2 I2 r2 q2=>(aB (x::xs) H2 I2 (.cons r1 r2) q2)]
def LD (t:TA):TE:=[QS,t σ H fun xs H1=>[N4,Mh]/\∀ p,H1 p=none->[Xi,p,([Rz,H1,p,xs])]]
def LG (t:TA):TE:=[QS,t σ H fun xs H1=>[N4,Mh]/\∀ p,H1 p=none->[Xi,p,([Py,H1,p,xs])]]
theorem dB {x1} (h:PA X es t):PE X (.Tuple es x1 pos) (LD t):=by
 intro pins s σ H Q I hq;refine wpAny_Tuple_spliced [ZS,h pos pins s σ H _ I hq,fun us s1 zr=>e9 zr fun xs H1 I1 r z q=>[W4,by rw [<- r.length]; exact z]];have hf:H1 MD=none:=Up;refine ([YU,[MT,MD],([Rz,H1,MD,xs]),(I1.laid (t':=s1.toks) (fun b u e=>[M8,e]) Tx ?_),q _ hf]);exact (aH z (af us r (aC _ (Ub) rfl (e8 _ rfl))))
theorem cM (h:PA X es t):PE X (.List es pos) (LG t):=by
 intro pins s σ H Q I hq;refine wpAny_List_spliced [ZS,h pos pins s σ H _ I hq,fun us s1 zr=>e9 zr fun xs H1 I1 r z q=>[W4,by rw [<- r.length]; exact z]];have hf:H1 MD=none:=Up;refine ([YU,[MT,MD],([Py,H1,MD,xs]),(I1.laid (t':=s1.toks) (fun b u e=>[M8,e]) Tx ?_),q _ hf]);exact (aH z (bP us 0 r (Ub)))
end
abbrev Sp:=Nz->Hp->VK->[Qp,XK]
abbrev CXT:=Sk->Hp->[NK,XK->Qc]
structure Env0 (P:Program) (w:World) (K:PySem.W.Frag) (mg:Str->Option Value) (base:Heap) (A:Around) (outer:List Env) (s:Shared) (H:Hp):Prop where
 frames:A.frames=some outer
 mod:Mod K mg base
 bs:∀ b o,base.get? b=some o->s.heap.get? b=some o/\H b=none
 bsz:base.objs.size<=s.heap.objs.size
 funs:s.heap.FunFrames base outer
 frf:∀ b∈frs outer,H b=none
 hok:HOk P w H s.heap
 bare:AllBare s.gens
def CE (outer:Sk) (P:Program) (w:World) (H:Hp) (s:Shared) (Q:VK) (u:Value) (s':Shared):Prop :=
 ∃ v H',s'.os=s.os/\Yi/\Un (WH) [] H H' s.heap s'.heap/\HOk P w H' s'.heap/\[WE,v]/\Q v H'
def CR (CX:CXT) (outer:Sk) (P:Program) (w:World) (H:Hp) (s:Shared) (Q:VK) (E:XK) (r:Result) (s':Shared):Prop :=
 match r with
 | .ok (.ret u)=>CE outer P w H s Q u s'
 | .ok _=>False
 | .error e=>CX outer H s E e s'
structure FnOk (P:Program) (w:World) (K:PySem.W.Frag) (mg:Str->Option Value) (base:Heap) (CX:CXT) (k:Nat) (f:Addr) (fd:FuncData) (ps:List Str) (sp:Sp):Prop where
 len:∀ vs H Q E,sp vs H Q E->vs.length=ps.length
 run:∀ (A:Around) (outer:List Env) (s:Shared) (H:Hp) (args:Args) (us:List Value) (vs:List V) (Q:VK) (E:XK),Room k A->Env0 P w K mg base A outer s H->BindsTo s fd args (ps.zip us)->Vals vs us->sp vs H Q E->
  codeAny (model P w) A (.call (.ref f) args) (CR CX outer P w H s Q E) s
theorem Env0.make {P:Program} {w:World} {K:M3} {mg:Str->Ms} {base:Heap} {A:Around} {outer:Sk} {s:Shared} {H:Hp} (e:Env0 P w K mg base A outer s H) (C:Addr) (us:MS) (kw:[V3,Value]) :
  Env0 P w K mg base (A.under (.builtin "type.__call__" [Mw,.ref C::us,kw])) outer s H:=⟨by first | exact e.frames | (simpa [Around.under,Code.envs,Code.isFrame,pushEnvs] using e.frames),e.mod,e.bs,e.bsz,e.funs,e.frf,e.hok,e.bare⟩
section
variable {X:Cx} {pins:Px} {σ:St} {H:Hp} {s s':Shared}
theorem Inv.env0 (I:Rw):Env0 X.prog X.w X.K X.mg X.base X.A X.stack s H :=
 ⟨I.ok.frames,I.ok.mod,I.bs,[Qi,I.ok.bsz,I.sz],I.stack,I.stkFree,I.hok,I.bare⟩
theorem Inv.after {Q:VK} {u:Value} (I:Rw) (h:CE X.stack X.prog X.w H s Q u s'):EP X pins σ Q u s':=by
 refine fz h fun v H' os bare un hok zq0=>bZ zq0 fun r q=>?_;clear zq0 h;obtain ⟨hh,g,d,t,os'⟩:=s';obtain rfl:os'=s.os:=os;exact (aB v H' (I.call (h':=hh) (g':=g) (d':=d) (t':=t) (ch:=[]) un hok bare (fun b z=>[O9,z,Pz])) r q)
end
def AF (sp:Sp) (dvs:Nz) (E:XK) (t:TA):TE:=[QS,t σ H fun vs H1=>sp (vs++dvs) H1 Q E]
def Iy (C:Addr) (sp:Sp) (dvs:Nz) (E:XK) (t:TA):TE:=[QS,t σ H fun vs H1=>∀ x dx,H1 x=none->H1 dx=none->dx≠x-> sp (Ya::(vs++dvs)) (upd (upd H1 dx (.own x)) x ([Ve,C,[]])) (fun v H2=>v=.non/\[Xi,x,H2]) E]
def Binds (K:M3) (fd:FuncData) (ps:MB) (ds:MS):Prop :=
 ∀ (s:Shared) (us:MS),K.In s.heap->[MP,us++ds]=Rn->BindsTo s fd [Mw,us,[]] (ps.zip (us++ds))
theorem Binds.all {K:M3} {fd:FuncData} {ps:MB} (h:∀ us:MS,us.length=Rn->bindArgs fd [Mw,us,[]]=pure (ps.zip us)):[TB,K,fd,ps]:=fun s us _ hl=>by
 rw [WQ] at hl ⊢;exact .of_eq (h us hl)
def Passes (CX:CXT) (X:Cx) (E:XK):Prop:=∀ (pins:Px) (σ:St) (H:Hp) (s:Shared) (e:Value) (s':Shared),Rw->CX X.stack H s E e s'->X.xe e s'
section
variable {X:Cx} {CX:CXT} {k:Nat} {f C:Addr} {fd:FuncData} {ps:MB} {sp:Sp} {dvs:Nz} {ds:MS} {E:XK} {x m:Str} {p pos apos:Pos} {e o:Expr} {es:OR} {ta:TE} {t:TA}
theorem u6 {pins:Px} {σ:St} {H:Hp} {s:Shared} {Q:VK} {us:MS} {vs:Nz} (F:FnOk X.prog X.w X.K X.mg X.base CX k f fd ps sp) (hr:Room k X.A) (hb:Binds X.K fd ps ds) (hd:Vals dvs ds) (hx:Passes CX X E)
  (I:Rw) (r:[Vi,vs]) (h:sp (vs++dvs) H Q E):[SK,Uk,X.A,call [MT,f] us,EP X pins σ Q,X.xe]:=by
 have r2:Vals (vs++dvs) (us++ds):=r.append hd;have hl:[MP,us++ds]=Rn:=by rw [<- r2.length]; exact F.len _ _ _ _ h
 refine wpAny_call (codeAny_mono (F.run X.A X.stack s H [Mw,us,[]] (us++ds) (vs++dvs) Q E hr I.env0 (hb s us I.kIn hl) r2 h) fun r s' hq=>?_);cases r with
 | error e=>exact hx pins σ H s e s' I hq
 | ok fl =>
  cases fl with
  | ret u=>exact I.after hq
  | next=>exact [UZ,hq]
  | brk=>exact [UZ,hq]
  | cont=>exact [UZ,hq]
theorem AX (F:FnOk X.prog X.w X.K X.mg X.base CX k f fd ps sp) (hr:Room k X.A) (hg:Gl X x) (hm:X.mg x=[Mv,f]) (hk:[Rr,X.K,f]=true) (hb:Binds X.K fd ps ds) (hd:Vals dvs ds) (hx:Passes CX X E)
  (ha:PA X (e::es) t) (hdb:[Vb,x == Ry]:=by decide) (he:[N3,e::es]=(false,[Oa,e])::Um:=by rfl) (hpl:[Vb,([Xf,Um]).any OB]:=by rfl) :
  PE X ([UM,([Zs,p]),e::es,[]]) (AF sp dvs E t):=by
 intro pins s σ H Q I h;refine [WR,ie I hg hm ?_ hdb];refine PySem.W.callWith_K (h₀:=X.base) I.ok.mod.kin hk [ZS,ha pos pins s σ H _ I h,fun us s1 zr=>aX zr fun vs H1 I1 r q=>[W4,I1.kIn]] he hpl;exact u6 F hr hb hd hx I1 r q
structure Mk (K:PySem.W.Frag) (C f:Addr):Prop where
 makes:PySem.W.makesIn K C=true
 init:PySem.W.findIn K (.ref C) "__init__"=some (some (.ref f))
 fn:PySem.W.isFn K (.ref f)=true
 kp:PySem.W.keepIn K (.ref C)=true
theorem xt {pins:Px} {σ:St} {H:Hp} {s:Shared} {Q:VK} {us:MS} {vs:Nz} (M:Mk X.K C f) (F:FnOk X.prog X.w X.K X.mg X.base CX k f fd ps sp) (hr:Room (k+1) X.A) (hb:Binds X.K fd ps ds) (hd:Vals dvs ds)
  (hx:Passes CX X E) (I:Rw) (r:[Vi,vs])
  (h:∀ x dx,H x=none->H dx=none->dx≠x->sp (Ya::(vs++dvs)) (upd (upd H dx (.own x)) x ([Ve,C,[]])) (fun v H2=>v=.non/\[Xi,x,H2]) E) :
  [SK,Uk,X.A,call [MT,C] us,EP X pins σ Q,X.xe]:=by
 have hq:=h (L7+1) L7 ([S7,Nat.le_succ _]) ([S7,Tx]) ([Ol,Wv]);have I2:=Inv.made (C:=C) I;have r2:Vals (V.ref (L7+1)::(vs++dvs)) ([Te,L7+1]::(us++ds)):=.cons rfl (r.append hd);have hl:[MP,[Te,L7+1]::us++ds]=Rn:=by
  have e:=UA;rw [F.len _ _ _ _ hq] at e;exact e.symm
 refine wpAny_call (DQ (f:=f) I.kIn M.makes M.init ([WD,M.fn]) (codeAny_mono (F.run _ X.stack _ _ [Mw,[Te,L7+1]::us,[]] ([Te,L7+1]::(us++ds)) _ _ E (hr.make C us []) (I2.env0.make C us []) (hb _ ([Te,L7+1]::us) I2.kIn hl) r2 hq) fun r s' hq'=>?_))
 cases r with
 | error e=>exact hx pins σ _ _ e s' I2 hq'
 | ok fl =>
  cases fl with
  | ret u =>
   refine e9 (I2.after hq' :) fun v H' I3 rv ev q3=>?_
   subst ev;exact [Mw,rv,([YU,V.ref (L7+1),H',I3,q3])]
  | next=>exact [UZ,hq']
  | brk=>exact [UZ,hq']
  | cont=>exact [UZ,hq']
theorem pZ (M:Mk X.K C f) (F:FnOk X.prog X.w X.K X.mg X.base CX k f fd ps sp) (hr:Room (k+1) X.A) (hg:Gl X x) (hm:X.mg x=[Mv,C]) (hb:Binds X.K fd ps ds) (hd:Vals dvs ds) (hx:Passes CX X E)
  (ha:PA X (e::es) t) (hdb:[Vb,x == Ry]:=by decide) (he:[N3,e::es]=(false,[Oa,e])::Um:=by rfl) (hpl:[Vb,([Xf,Um]).any OB]:=by rfl) :
  PE X ([UM,([Zs,p]),e::es,[]]) (Iy C sp dvs E t):=by
 intro pins s σ H Q I h;refine [WR,ie I hg hm ?_ hdb];refine PySem.W.callWith_K (h₀:=X.base) I.ok.mod.kin M.kp [ZS,ha pos pins s σ H _ I h,fun us s1 zr=>aX zr fun vs H1 I1 r q=>[W4,I1.kIn]] he hpl;exact xt M F hr hb hd hx I1 r q
theorem qV (M:Mk X.K C f) (F:FnOk X.prog X.w X.K X.mg X.base CX k f fd ps sp) (hr:Room (k+1) X.A) (hg:Gl X x) (hm:X.mg x=[Mv,C]) (hb:Binds X.K fd ps ds) (hd:Vals dvs ds) (hx:Passes CX X E)
  (hdb:[Vb,x == Ry]:=by decide):PE X ([UM,([Zs,p]),[],[]]) (Iy C sp dvs E HH):=by
 intro pins s σ H Q I h;refine [WR,ie I hg hm ?_ hdb];exact PySem.W.callWith_K0 I.kIn M.kp (xt (us:=[]) M F hr hb hd hx I .nil h)
end
section
variable {X:Cx} {CX:CXT} {k:Nat} {f C:Addr} {fd:FuncData} {ps ks:MB} {sp:Sp} {E:XK} {x m:Str} {p pos apos kpos:Pos} {e o:Expr} {es:OR} {kws:List Keyword} {te ta:TE} {t tk:TA} {nm:[OM,Str]}
structure KBinds (K:PySem.W.Frag) (fd:FuncData) (ps ks:List Str) (g:List Value->List Value->List Value) (gV:List V->List V->List V):Prop where
 to:∀ (s:Shared) (us ws:List Value),K.In s.heap->(g us ws).length=ps.length->BindsTo s fd ⟨us,ks.zip ws⟩ (ps.zip (g us ws))
 rel:∀ {vs:List V} {us:List Value} {zs:List V} {ws:List Value},Vals vs us->Vals zs ws->Vals (gV vs zs) (g us ws)
variable {g:MS->MS->MS} {gV:Nz->Nz->Nz}
end
structure FnScope (N P:List Str) (sc:Scope):Prop where
 kind:sc.kind=.function
 co:sc.isCoroutine=false
 gen:sc.isGenerator=false
 nd:N.Nodup
 pre:N.take P.length=P
 par:∀ x∈P,sc.names.lookup x=some .local\/sc.names.lookup x=some .cell
 nofree:∀ y∈sc.names,y.2≠.free
theorem uB {kindOf:Str->[OM,NameKind]} {x:Str}:∀ {binds:[V3,Value]} {m:Str->Ms},(∀ v,(x,v)∉binds)->bindL kindOf binds m x=m x
 | [],_,_=>rfl
 | (n,v)::r,m,h=>by
  unfold bindL;rw [uB fun w hw=>h w ([MX,hw])];split
  .have:x≠n:=by rintro rfl; exact h v ME
   simp [this]
  .rfl
theorem t5 {kindOf:Str->[OM,NameKind]} {x:Str}:∀ {binds:[V3,Value]} {m:Str->Ms},(∀ v,(x,v)∉binds)->bindC kindOf binds m x=m x
 | [],_,_=>rfl
 | (n,v)::r,m,h=>by
  unfold bindC;rw [t5 fun w hw=>h w ([MX,hw])];split
  .rfl
  .have:x≠n:=by rintro rfl; exact h v ME
   simp [this]
theorem uF {kindOf:Str->[OM,NameKind]} {x:Str} {v:Value}:∀ {P:MB} {vs:MS} {i:Nat} {m:Str->Ms},P.Nodup->P[i]?=OV->vs[i]?=Nw->kindOf x=U6-> bindL kindOf (P.zip vs) m x=Nw
 | [],_,_,_,_,h,_,_=>by simp at h
 | _::_,[],_,_,_,_,h,_=>by simp at h
 | p::P,w::vs,0,m,nd,h1,h2,hk=>by
  simp at h1 h2; subst h1; subst h2;show bindL kindOf ((p,w)::P.zip vs) m p=_;unfold bindL;rw [uB fun v hv=>(Zu).1 (List.of_mem_zip hv).1,[P9,hk]];simp
 | p::P,w::vs,i+1,m,nd,h1,h2,hk=>by
  show bindL kindOf ((p,w)::P.zip vs) m x=_;unfold bindL;exact uF (i:=i) (Zu).2 [Zh,h1] [Zh,h2] hk
theorem ug {kindOf:Str->[OM,NameKind]} {x:Str} {v:Value}:∀ {P:MB} {vs:MS} {i:Nat} {m:Str->Ms},P.Nodup->P[i]?=OV->vs[i]?=Nw->kindOf x≠U6-> bindC kindOf (P.zip vs) m x=Nw
 | [],_,_,_,_,h,_,_=>by simp at h
 | _::_,[],_,_,_,_,h,_=>by simp at h
 | p::P,w::vs,0,m,nd,h1,h2,hk=>by
  simp at h1 h2; subst h1; subst h2;show bindC kindOf ((p,w)::P.zip vs) m p=_;unfold bindC;rw [t5 fun v hv=>(Zu).1 (List.of_mem_zip hv).1,[Ph,hk]];simp
 | p::P,w::vs,i+1,m,nd,h1,h2,hk=>by
  show bindC kindOf ((p,w)::P.zip vs) m x=_;unfold bindC;exact ug (i:=i) (Zu).2 [Zh,h1] [Zh,h2] hk
def start (N:MB) (vs:Nz):St:=vs.map some++[OW,N.length - Ro,none]
def jK (CX:CXT) (P:Program) (w:World) (K:M3) (mg:Str->Ms) (base:Heap) (N:MB) (qual:Str) (scope:Scope) (f:Addr) (cd:Value) (A:Around) (outer:Sk) (s:Shared) (H:Hp) (E:XK):Cx where
 prog:=P
 w:=w
 K:=K
 mg:=mg
 base:=base
 A:=A.deeper (envOfC qual scope L7 f cd)
 N:=N
 s₀:=s
 H₀:=H
 env:=envOfC qual scope L7 f cd
 outer:=outer
 stack:=envOfC qual scope L7 f cd::outer
 ex:=[]
 calm:=true
 fn:=fun _=>true
 pn:=[]
 xe:=fun e s'=>[Np,model P w,A.deeper (envOfC qual scope L7 f cd),leaving (envOfC qual scope L7 f cd) e,(fun _ s''=>CX outer H s E e s''),(fun e' s''=>CX outer H s E e' s''),s']
theorem qU {sc:Scope} {n:Nat} {x:Str} (h:WV=VS):∃ c,(cellsFrom n sc.names []).lookup x=Qj:=by
 have q:=PySem.W.cellsFrom_some sc.names n [] [T6,h];exact Option.isSome_iff_exists.mp q
theorem BQ {CX:CXT} {P:Program} {w:World} {K:M3} {mg:Str->Ms} {base:Heap} {N ps:MB} {qual:Str} {scope:Scope} {f:Addr} {cd:Value} {A:Around} {outer:Sk} {s s1:Shared} {H:Hp} {E:XK} {us:MS} {vs:Nz}
  (S:FnScope N ps scope) (hd:TZ=none) (e0:Env0 P w K mg base A outer s H) (hl:Ro=Rn) (r:[Vi,vs])
  (x:InCallC s L7 (bindL (envOfC qual scope L7 f cd).kindOf (ps.zip us) fun _=>none) (cellsFrom (L7+1) R0 []) (bindC (envOfC qual scope L7 f cd).kindOf (ps.zip us) fun _=>none) s1) :
  Inv (jK CX P w K mg base N qual scope f cd A outer s H E) [] (start N vs) H s1:=by
 have hpl:Rn<=N.length:=by have:=[R5,X9,S.pre]; rw [List.length_take] at this; omega
 refine bU x.done fun h1 tk ze3 hk=>?_;subst ze3;have noA:∀ b:Addr,b∉(jK CX P w K mg base N qual scope f cd A outer s H E).ex:=fun b z=>[O9,[Yh,b∈([]:RY),z],Pz]
 refine ⟨⟨e0.mod,S.kind,rfl,rfl,Mm,fun y z c h1 h2=>?_,fun y hy=>?_,fun y c _ h=>?_,fun _=>hd,Around.frames_deeper e0.frames,.inr [Nl,rfl],fun b z=>[O9,z,noA b],e0.bs,e0.bsz,fun b _ _=>noA b,fun b z=>[O9,z,noA b],e0.funs,e0.frf⟩, rfl,e0.bare,Un.kept hk,(af _ x.toInCall.ns (fun i y v h1 h2 h3=>?_)),fun y c h=>[T7,x.cell y c h],e0.hok.fresh Tx,fun y c h=>?_,[VV,[O9,[Yh,p∈([]:Px),hp],Pz]],e0.hok.kept hk,?_⟩
 .exact name_of_addr x.apart ([RX,h1]) ([RX,h2])
 .have hy:[Sm,y]=VS\/[Sm,y]=some .free:=hy;rcases hy with hy | hy
  .exact qU hy
  .exact [O9,rfl,(S.nofree _ ([RX,hy]))]
 .exact Nat.le_of_lt (x.above y c ([RX,h]))
 .have hi:i<Ro:=by
   unfold start at h2;by_cases hi:i<Ro
   .exact hi
   .rw [[S9,[Zh,hi]]] at h2;rw [Rp] at h2;split at h2 <;> cases h2
  have ha:vs[i]?=Nw:=by
   unfold start at h2;rw [[OP,[Zh,hi]],Mz] at h2;cases e:vs[i]? with
   | none=>rw [e] at h2; cases h2
   | some a=>rw [e] at h2; cases h2; rfl
  refine [NC,r.get ha,fun u hu rv=>?_]
  have hp:ps[i]?=VI:=by
   rw [<- S.pre,List.getElem?_take_of_lt L6]; exact h1
  have ndP:ps.Nodup:=by rw [<- S.pre]; exact S.nd.sublist (List.take_sublist _ _)
  refine [Yt,u,rv];rcases S.par y (List.mem_of_getElem? hp) with k | k
  .exact .inl [Mw,k,uF ndP hp hu k]
  .obtain ⟨c,e⟩:=qU (n:=L7+1) k;refine [PY,aH [T6,k] [Yt,c,e]];have q:=x.cell y c e;rw [ug ndP hp hu (by show [Sm,y]≠_; rw [k]; decide)] at q;exact q
 .exact e0.hok.fresh (Nat.le_of_lt (x.above y c ([RX,h])))
 .unfold start;show _=N.length;rw [Na,Mc,Qo];omega
theorem IA {CX:CXT} {P:Program} {w:World} {K:M3} {mg:Str->Ms} {base:Heap} {k:Nat} {f:Addr} {name qual:Str} {params:Arguments} {body:WG} {scope:Scope} {dV kV doc pm cdv ct oc:Value} {an od:SH}
  {osl:Array (Ms)} {N ps:MB} {sp:Sp} (lk:K.lookup f=some ⟨oc,od,.func (PySem.W.fnOf name qual params body scope dV kV doc pm an cdv ct),osl⟩) (hcd:PySem.W.codeIn K cdv qual=true) (S:FnScope N ps scope)
  (len:∀ vs H Q E,sp vs H Q E->Ro=Rn)
  (hbody:∀ (A:Around) (outer:Sk) (s:Shared) (H:Hp) (vs:Nz) (Q:VK) (E:XK),Room k (A.deeper (envOfC qual scope L7 f cdv))->sp vs H Q E-> ∃ t,PSs (jK CX P w K mg base N qual scope f cdv A outer s H E) body t/\t { nx:=fun _ H'=>Q .non H',rt:=Q } (start N vs) H) :
  FnOk P w K mg base CX (k+1) f (PySem.W.fnOf name qual params body scope dV kV doc pm an cdv ct) ps sp:=by
 refine [Mw,len,fun A outer s H args us vs Q E hr e0 hb r hsp=>?_];have hl:=len _ _ _ _ hsp;have KX:K.In s.heap:=e0.mod.kin.keeps [RU,(e0.bs b o e).1]
 have lim:s.heap.NoLimit:=e0.mod.nolimit.keeps [RU,(e0.bs b o e).1]
 have hkind:∀ y∈ps.zip us,[Sm,y.1]=U6\/([Sm,y.1]=VS/\((cellsFrom (L7+1) R0 []).lookup y.1).isSome=true):=fun ⟨n,v⟩ hy=>by
  rcases S.par n (List.of_mem_zip hy).1 with q | q
  .exact .inl q
  .exact .inr [Mw,q,PySem.W.cellsFrom_some _ _ _ [T6,q]]
 refine codeAny_call_function hr.depth (KX _ _ lk) rfl S.co S.gen rfl (PySem.W.codeRec_of KX hcd) (hb _ _ _ _ ?_);refine wpAny_newFunctionEnv_cells S.kind hkind fun env he s1 x=>?_
 subst he;refine [Mw,lim.keeps x.toInCall.keep,codeAny_func ?_];refine [NC,hbody A outer s H vs Q E (hr.deeper _) hsp,fun t ht hq=>?_]
 have I:Inv (jK CX P w K mg base N qual scope f cdv A outer s H E) [] (start N vs) H s1:=BQ S hr.hd e0 hl r x;refine [UY,ht [] s1 (start N vs) H _ I hq,fun fl s' hs=>?_,fun e s' hs=>hs]
 have fin:∀ {σ':St} {H':Hp} {v:V} {u:Value},Inv (jK CX P w K mg base N qual scope f cdv A outer s H E) [] YL H' s'->[WE,v]->Q v H'->CE outer P w H s Q u s' :=
  fun {σ' H' v u} J rv q=>(cD v H' J.os J.bare J.base J.hok (aH rv q))
 cases fl with
 | ret u =>
  refine fP hs fun v σ' H' J rv q=>?_;clear hs;exact fin J rv q
 | next =>
  refine bU hs fun σ' H' J q=>?_;clear hs;exact fin (v:=V.non) (u:=Value.none) J rfl q
 | brk =>
  refine bU hs fun _ _ _ q=>?_;clear hs;exact [UZ,q]
 | cont =>
  refine bU hs fun _ _ _ q=>?_;clear hs;exact [UZ,q]
end L2
namespace L2
open PySem PySem.Spec PyProof.Rows
section
variable {X:Cx} {x:Str} {p pos:Pos} {e:Expr} {es:OR} {t:TA} {id T:String} {r:Nz->Hp->Sr}
def tCB (r:Nz->Hp->Sr) (t:TA):TE:=[QS,t σ H fun vs H1=>r vs H1 Q]
theorem aL (hc:dM X ([Sl,id]) r) (hg:Gl X x) (hm:X.mg x=none) (hv:bootBuiltins x=[Mo,[Sl,id]]) (ha:PA X (e::es) t) (hn:x≠"__name__":=by decide) (hdb:[Vb,x == Ry]:=by decide)
  (he:[N3,e::es]=(false,[Oa,e])::Um:=by rfl) (hpl:[Vb,([Xf,Um]).any OB]:=by rfl):PE X ([UM,([Zs,p]),e::es,[]]) (tCB r t):=by
 intro pins s σ H Q I h;refine [WR,iy I hg hm hv ?_ hn hdb];exact PyProof.Rows.callWith_builtin1 [ZS,ha pos pins s σ H _ I h,fun us s1 zr=>aX zr fun vs H1 I1 r1 q1=>hc pins s1 σ H1 vs us Q I1 r1 q1] he hpl
theorem bX (hc:dM X [Sx,T] r) (hg:Gl X x) (hm:X.mg x=none) (hv:bootBuiltins x=[Mo,.type T]) (ha:PA X (e::es) t) (hn:x≠"__name__":=by decide) (hdb:[Vb,x == Ry]:=by decide)
  (he:[N3,e::es]=(false,[Oa,e])::Um:=by rfl) (hpl:[Vb,([Xf,Um]).any OB]:=by rfl):PE X ([UM,([Zs,p]),e::es,[]]) (tCB r t):=by
 intro pins s σ H Q I h;refine [WR,iy I hg hm hv ?_ hn hdb];exact [Rh,[ZS,ha pos pins s σ H _ I h,fun us s1 zr=>aX zr fun vs H1 I1 r1 q1=>hc pins s1 σ H1 vs us Q I1 r1 q1],he,hpl]
end
end L2
namespace HT
open PySem PyProof.Rows
section
open PySem.SeqAt
open PySem.AutoSeq1 (wpAny_loadPart')
open PySem.MeetsSeq PySem.MeetsSeq2 PySem.MeetsSeq3
end
section
variable {prog:Program} {w:World} {A:Around} {E:Qc} {s:Shared}
def sIx (n d:Nat):M7->Nat
 | none=>d
 | some v=>[Mj,v<0,[TF,v+Pp],min v.toNat n]
theorem iP (n d:Nat):sIx n d none=d:=rfl
theorem mx (n d k:Nat):sIx n d (some PZ)=min k n:=by
 show ([Mj,PZ<0,[TF,PZ+Pp],min (k:Int).toNat n])=min k n;rw [[Ph,L6],ZF]
theorem EH (n d:Nat) (hd:d<=n) (o:M7):sIx n d o<=n:=by
 cases o with
 | none=>exact hd
 | some v =>
  show ([Mj,v<0,[TF,v+Pp],min v.toNat n])<=n;by_cases hv:v<0
  .rw [[P9,hv]]; omega
  .rw [[Ph,hv]]; exact Nat.min_le_right _ _
theorem A8 (v:Int) (n d:Nat):([Mj,v<0,max (v+Pp) 0,min v Pp])=[RK,sIx n d (Nw)]:=by
 show ([Mj,v<0,max (v+Pp) 0,min v Pp])=[RK,([Mj,v<0,[TF,v+Pp],min v.toNat n])];by_cases hv:v<0
 .simp only [if_pos hv]; omega
 .simp only [if_neg hv]; omega
theorem zC (lo hi:M7) (n:Nat):Builtin.Slice.sliceAdjust lo hi 1 Pp=([RK,sIx n 0 lo],[RK,sIx n n hi]):=by
 have h1:¬ ([My,1]<0):=Mr
 unfold Builtin.Slice.sliceAdjust;simp only [h1,if_false];refine Prod.ext ?_ ?_
 .cases lo with
  | none=>rfl
  | some v=>exact A8 v n 0
 .cases hi with
  | none=>rfl
  | some v=>exact A8 v n n
theorem yI (i j:Nat):Builtin.Slice.slicePlaces X4 YB 1=j - i:=by
 unfold Builtin.Slice.slicePlaces;have h1:[My,1] > 0:=Mr
 simp only [h1,if_true,Int.ediv_one];split <;> omega
theorem qy {v:Value} {o:M7} {Q:M7->NM} (p:IsPart v o) (h:Q o s):[SK,Vl,A,Builtin.Slice.slicePartIndex v,Q,E]:=by
 cases p with
 | none=>exact slicePart_none h
 | int i t=>exact slicePart_int h
theorem iM {sl:Addr} {vl vu:Value} {lo hi:M7} {n:Nat} {Q:Int×Int×Nat->NM} (hs:s.heap.IsSliceOf sl vl vu .none) (pl:IsPart vl lo) (pu:IsPart vu hi)
  (h:Q ([RK,sIx n 0 lo],1,sIx n n hi - sIx n 0 lo) s):[SK,Vl,A,Builtin.Slice.sliceApplied [MT,sl] (pure Pp),Q,E]:=by
 refine bp (id hs :) fun os hos hcs hds=>?_
 unfold Builtin.Slice.sliceApplied Builtin.Slice.sliceFields;refine [O0,[O0,wpAny_field hos hds (x:=vl) rfl ([O0,wpAny_field hos hds (x:=vu) rfl ([O0,[OU,hos,hds,.none,RG]])])]];refine [O0,slicePart_none ?_];show [SK,_,_,[Mj,([My,1] == 0)=true,_,_],_,_];rw [[Ph,M0]];refine [O0,qy pl ([O0,qy pu ([O0,RG])])];show wpAny _ _ (match Builtin.Slice.sliceAdjust lo hi 1 (n:Int) with | (lo,hi)=>pure (lo,(1:Int),Builtin.Slice.slicePlaces lo hi 1)) _ _ s;rw [zC lo hi n];show [SK,_,_,pure ([RK,sIx n 0 lo],[My,1],Builtin.Slice.slicePlaces [RK,sIx n 0 lo] [RK,sIx n n hi] 1),_,_];rw [yI];exact [MO,h]
theorem FH (xs:Nr) (i k:Nat):(([RQ,k]).filterMap fun (m:Nat)=>xs[[TF,X4+[My,m] * 1]]?).toArray=((xs.toList.drop i).take k).toArray:=by
 have e:(fun (m:Nat)=>xs[[TF,X4+[My,m] * 1]]?)=fun m=>xs[i+m]?:=by
  funext m;have:[TF,X4+[My,m] * 1]=i+m:=Mr
  rw [this]
 rw [e];have:=pick_run xs i k;rw [List.filterMap_map] at this;have e2:(([Z2,xs[x]?]) ∘ [Z2,i+x])=fun m=>xs[i+m]?:=rfl;rw [e2] at this;rw [this]
theorem me {t sl:Addr} {items:Nr} {vl vu:Value} {lo hi:M7} {Q:Qc} (ht:IsTup s.heap t items) (hs:s.heap.IsSliceOf sl vl vu .none) (pl:IsPart vl lo) (pu:IsPart vu hi)
  (hw:¬ (sIx Ni 0 lo=0/\sIx Ni Ni hi=Ni))
  (h:[Pu,Vv,[Nf,"tuple",.seq (([Xq,sIx Ni 0 lo]).take (sIx Ni Ni hi - sIx Ni 0 lo)).toArray]])
  (hsz:[N4,Ni]):[SK,Vl,A,getItem [MT,t] [MT,sl],Q,E]:=by
 have htake:sizeOk (.seq (([Xq,sIx Ni 0 lo]).take (sIx Ni Ni hi - sIx Ni 0 lo)).toArray):=by
  show [N4,(([Xq,sIx Ni 0 lo]).take (sIx Ni Ni hi - sIx Ni 0 lo)).toArray.size];rw [OJ,Nc,SU,Array.length_toList];omega
 have hj:sIx Ni Ni hi<=Ni:=EH _ _ Tx hi;refine bp (id hs :) fun os hos hcs hds=>?_
 have hTs:[ZZ,[MT,sl],"slice"]:=(af os hos hcs);unfold getItem;try with_reducible refine [SS,?_]
 first | refine [O0,RG] | skip
 refine [O0,wpAny_sequenceKey Xa M0 ?_];refine [O0,[Og,"__getitem__",Xa,UU,([Sa,UU,Xa,entry_tuple_getitem,?_,args_tuple_getitem _ _])]]
 show [SK,_,_,Builtin.Tuple.tupleItemsOf [MT,t] >>= _,_,_];refine [O0,tupleItemsOf_ ht ?_];refine [O0,wpAny_typeOf hTs ?_];rw [[P9,M0]];refine [O0,iM hs pl pu ?_];have hno:¬ (([RK,sIx Ni 0 lo] == 0 && [My,1] == 1 && (sIx Ni Ni hi - sIx Ni 0 lo) == Ni)=true):=by
  intro q;rw [Oo,Oo] at q;have q1:[RK,sIx Ni 0 lo]=0:=eq_of_beq q.1.1;have q2:sIx Ni Ni hi - sIx Ni 0 lo=Ni:=eq_of_beq q.2;exact hw [Mw,Mr,Mr]
 show [SK,_,_,[Mj,([RK,sIx Ni 0 lo] == 0 && [My,1] == 1 && (sIx Ni Ni hi - sIx Ni 0 lo) == Ni)=true,_,_],_,_];rw [[Ph,hno],FH];first
  | exact wpAny_bind (m:=Xj) ([U9,([MO,[Mu,[MO,h]]]),htake])
  | exact wpAny_bind (m:=Xj) ([U9,([O0,[MO,([MO,⟨_,rfl,[MO,h]⟩])]]),htake])
  | exact [O0,wpAny_bind (m:=Xj) ([U9,([MO,([MO,⟨_,rfl,[MO,h]⟩])]),htake])]
  | exact [O0,wpAny_bind (m:=Xj) ([U9,([MO,⟨_,rfl,[MO,h]⟩]),htake])]
end
end HT
namespace L2
open PySem PySem.Spec PyProof.Rows
abbrev TO:=St->Hp->[Qp,M7->Qr]
def PO (X:Cx) (e:[OM,Expr]) (t:TO):Prop :=
 ∀ (pins:Px) (s:Shared) (σ:St) (H:Hp) (Q:M7->Qr),Rw->t σ H Q-> [SK,Uk,X.A,evalPart e X.env,(fun u s'=>∃ o H',[Qz,H',s']/\IsPart u o/\Q o H'),X.xe]
def Gy:TO:=fun _ H Q=>Q none H
def Kv (t:TE):TO:=[QS,t σ H [VW,∃ i,x=RF/\Q (some i) H1]]
theorem intsAre_of {ns:Nk}:∀ {us:MS},[Vi,NS]->IntsAre us ns:=by
 induction ns with
 | nil=>intro us r; rw [List.map_nil] at r; cases r; exact .nil
 | cons n ns ih =>
  intro us r;rw [List.map_cons] at r;cases r with
  | cons r1 r2 =>
   obtain ⟨t,e⟩:=r1;subst e;exact .cons n t (ih r2)
section
variable {X:Cx} {e:Expr} {te:TE} {lo hi:[OM,Expr]} {tl th:TO} {pos p2:Pos}
theorem iu:PO X none Gy:=by
 intro pins s σ H Q I h;rw [evalPart_none];exact [MO,aB none H I .none h]
theorem ia (h:PE X e te):PO X (some e) (Kv te):=by
 intro pins s σ H Q I hw;rw [evalPart_some];refine [Y5,h pins s σ H _ I hw,fun u s1 zr=>[P8,zr,?_]]
 refine ar q1 fun i ze8 q=>?_;clear q1;subst ze8;obtain ⟨t,rfl⟩:=r1;exact (aB (some i) H1 I1 (.int i t) q)
def SlR (X:Cx) (r:V->M7->M7->Hp->Sr):Prop :=
 ∀ (pins:Px) (s:Shared) (σ:St) (H:Hp) (x:V) (v vl vu:Value) (lo hi:M7) (sl:Addr) (Q:VK),Rw->RelV x v->s.heap.IsSliceOf sl vl vu .none->IsPart vl lo->IsPart vu hi->r x lo hi H Q-> ∃ T id,typeLookup [Sx,T] "__getitem__"=pure ([Mo,[Sl,id]])/\[ZZ,v,T]/\[SK,Uk,X.A,getItem v [MT,sl],EP X pins σ Q,X.xe]
def tSl (r:V->M7->M7->Hp->Sr) (te:TE) (tl th:TO):TE:=[QS,te σ H [VW,tl σ H1 fun l H2=>th σ H2 fun u H3=>r x l u H3 Q]]
theorem gc {r:V->M7->M7->Hp->Sr} (hr:SlR X r) (he:PE X e te) (hl:PO X lo tl) (hu:PO X hi th):PE X (.Subscript e (.Slice lo hi none p2) pos) (tSl r te tl th):=by
 intro pins s σ H Q I h;refine Subscript_ ([SX,he pins s σ H _ I h,[P8,zr,?_]]);refine wpAny_Slice [ZS,hl pins s1 σ H1 _ I1 q1,fun vl s2 zr=>aX zr fun l H2 I2 pl q2=>[Y5,hu pins s2 σ H2 _ I2 q2,fun vu s3 zr=>aX zr fun u H3 I3 pu q3=>?_]];rw [evalPart_none];refine RG;have I4:[Ts,X,σ,H3,s3,s3.heap.push { cls:=.type "slice",data:=[S5,#[vl,vu,.none]] }]:=I3.kept (t':=s3.toks) fun b ob q=>[M8,q]
 refine aX (hr pins { s3 with heap:=s3.heap.push { cls:=.type "slice",data:=[S5,#[vl,vu,.none]] } } σ H3 x v vl vu l u s3.heap.objs.size Q I4 r1 (Heap.IsSliceOf.new ..) pl pu q3 :) fun T id hT ht hg=>?_
 show wpAny Uk X.A (subscriptTail e (.Slice lo hi none p2) v [MT,s3.heap.objs.size]) (EP X pins σ Q) X.xe { s3 with heap:=s3.heap.push { cls:=.type "slice",data:=[S5,#[vl,vu,.none]] } };exact tail_any (ops:=[.ref s3.heap.objs.size,v]) ht hT hg (by with_unfolding_all rfl)
def jJ (xs:Nz) (lo hi:M7):Nz:=(xs.drop ([YC,0,lo])).take ([YC,Mh,hi] - [YC,0,lo])
theorem pH (xs:Nz) (lo hi:M7):[MP,jJ xs lo hi]<=Mh:=by
 unfold jJ;rw [Nc,SU];omega
def LO (K:M3):V->M7->M7->Hp->Sr:=fun x lo hi H Q=>∃ a xs,x=QM/\SqT K H a xs/\ ¬ ([YC,0,lo]=0/\[YC,Mh,hi]=Mh)/\∀ p,H p=none->[Xi,p,([Rz,H,p,jJ xs lo hi])]
theorem JK:SlR X (LO X.K):=by
 intro pins s σ H x v vl vu lo hi sl Q I rx hs pl pu h;refine e9 h fun a xs ze9 hx hw q=>?_;clear h;subst ze9;cases rx
 refine bp [SY,hx] fun its r ht hz=>?_
 have hlen:P1=Mh:=by rw [List.size_toArray]; exact r.length.symm
 refine (aB "tuple" _ PyProof.Rows.slot_tuple_getitem.lookup Xa ?_);refine HT.me ht hs pl pu (by rw [hlen]; exact hw) ?_ (by rw [hlen]; exact hz);rw [hlen];refine ([YU,Vv,_,(I.laid (t':=s.toks) (o:=.tup (jJ xs lo hi)) (fun b ob q=>[M8,q]) Tx ?_),(q _ ([S7,Tx]))]);exact (aH ([Qi,pH xs lo hi,hz]) (af _ ((r.drop ([YC,0,lo])).take ([YC,Mh,hi] - [YC,0,lo])) (IsTup.new _ _)))
end
end L2
namespace L2
open PySem PySem.Spec PyProof.Rows
def ixN (n:Nat) (i:Int):R8:=[Mj,0<=i,([Mj,i<n,some i.toNat,none]),[Mj,-Pp<=i,some [TF,i+n],none]]
def atI {α:Type} (xs:QY) (i:Int):[OM,α]:=(ixN Mh i).bind fun j=>xs[j]?
theorem A3 {n:Nat} {i:Int} {j:Nat} (h:ixN n i=some j):seqIndex? i n=some j/\j<n/\-Pp<=i/\i<n:=by
 unfold ixN at h;by_cases h0:0<=i
 .rw [[P9,h0]] at h;by_cases h1:i<n
  .rw [[P9,h1]] at h;have e:i.toNat=j:=[Mq,h];exact (fI (by rw [seqIndex_of h0 h1,e]) L6 L6 h1)
  .rw [[Ph,h1]] at h; cases h
 .rw [[Ph,h0]] at h;by_cases h1:-Pp<=i
  .rw [[P9,h1]] at h;have e:[TF,i+n]=j:=[Mq,h];exact (fI (by rw [seqIndex_neg (by omega) h1,e]) L6 h1 L6)
  .rw [[Ph,h1]] at h; cases h
theorem u9 {α:Type} {xs:QY} {i:Int} {v:α} (h:atI xs i=Nw):∃ j,seqIndex? i Mh=some j/\xs[j]?=Nw/\j<Mh/\-[My,Mh]<=i/\i<Mh:=by
 unfold atI at h;cases e:ixN xs.length i with
 | none=>rw [e] at h; cases h
 | some j =>
  rw [e] at h;refine fX (A3 e :) fun h1 h2 h3 h4=>?_
  exact (eY j h1 h h2 h3 h4)
theorem bh {α:Type} {xs:QY} {j:Nat} {v:α} (h:xs[j]?=Nw):atI xs YB=Nw:=by
 have hj:j<Mh:=[L8,h];have e:ixN Mh YB=some j:=by
  unfold ixN;rw [[P9,L6],[P9,L6]]; simp
 unfold atI; rw [e]; exact h
def Hh (b:Expr):Prop:=∀ o i,subscripted b false o i=operate [o,i] (getItem o i)
def IxR (X:Cx) (r:R2):Prop :=
 ∀ (value slice:Expr) (pins:Px) (s:Shared) (σ:St) (H:Hp) (x y:V) (v u:Value) (Q:VK),Rw->RelV x v->[WE,y]->r x y H Q-> subscripted slice false v u=operate [v,u] (getItem v u)->[SK,Uk,X.A,subscriptTail value slice v u,EP X pins σ Q,X.xe]
def MtR (X:Cx) (id:String) (r:V->Nz->Hp->Sr):Prop :=
 ∀ (pins:Px) (s:Shared) (σ:St) (H:Hp) (x:V) (xs:Nz) (v:Value) (us:MS) (Q:VK),Rw->RelV x v->[Vi,xs]->r x xs H Q-> [SK,Uk,X.A,call ([Sl,id]) (v::us),EP X pins σ Q,X.xe]
section
variable {X:Cx} {a b:Expr} {ta tb:TE} {pos:Pos}
theorem aG {r:R2} (hr:IxR X r) (ha:PE X a ta) (hb:PE X b tb) (hs:Hh b):PE X (.Subscript a b pos) (tOp r ta tb):=by
 intro pins s σ H Q I h;exact Subscript_ (J6 ha hb I h fun v u s2 x y H2 I2 rx ry q=>hr a b pins s2 σ H2 x y v u Q I2 rx ry q (hs _ _))
def KA (K:M3):R2:=[X8,∃ p xs i v,x=TN/\y=RF/\SqL K H p xs/\atI xs i=Nw/\Q v H]
def Lq (K:M3):R2:=[X8,∃ p xs i v,x=TN/\y=RF/\SqT K H p xs/\atI xs i=Nw/\Q v H]
def LR:R2:=[X8,∃ z i c,x=R9/\y=RF/\[N4,z.length]/\atI NI i=Qj/\Q [XE,Ss] H]
theorem aU:IxR X (KA X.K):=by
 intro value slice pins s σ H x y v u Q I rx ry h hs;refine cZ h fun p xs i z ze6 ze7 hq he q=>?_;clear h;subst ze6;subst ze7;cases rx
 obtain ⟨t,rfl⟩:=ry;refine [Yo,hq,fun its r pl hz=>?_]
 refine gq (u9 he :) fun j h1 h2 h3 h4 h5=>?_
 refine [NC,r.get h2,fun w ew rw'=>?_]
 have hl:=r.length;have hn:=oa;have fin:EP X pins σ Q w s:=(aB z H I rw' q);by_cases h0:0<=i
 .have hj:i.toNat=j:=by
   rw [seqIndex_of h0 h5] at h1;exact [Mq,h1]
  exact item_listR V6 h0 L6 (by rw [hj]; simpa using ew) fin hs
 .have hj:[TF,i+[My,P1]]=j:=by
   rw [seqIndex_neg L6 h4] at h1;rw [OJ,<- hl];exact [Mq,h1]
  exact subscriptTail_builtinR (x:=w) pl.isList.typeIs slot_list_getitem.lookup (wpAny_getItem_list_neg (Q:=fun r s'=>r=w/\EP X pins σ Q r s') V6 L6 (by rw [List.size_toArray] <;> omega) L6 (by rw [hj]; simpa using ew) [P7,fin]) hs
theorem bo:IxR X (Lq X.K):=by
 intro value slice pins s σ H x y v u Q I rx ry h hs;refine cZ h fun p xs i z ze8 ze9 hq he q=>?_;clear h;subst ze8;subst ze9;cases rx
 obtain ⟨t,rfl⟩:=ry;refine bp [SY,hq] fun its r pl hz=>?_
 refine gq (u9 he :) fun j h1 h2 h3 h4 h5=>?_
 refine [NC,r.get h2,fun w ew rw'=>?_]
 have hl:=r.length;have hn:=oa;have fin:EP X pins σ Q w s:=(aB z H I rw' q);exact subscriptTail_builtinR (x:=w) pl.typeIs slot_tuple_getitem.lookup (getItem_tuple (j:=j) (Q:=fun r s'=>r=w/\EP X pins σ Q r s') pl L6 L6 (by rw [List.size_toArray,<- hl]; exact h1) [Zh,ew] [P7,fin]) hs
theorem uL:IxR X LR:=by
 intro value slice pins s σ H x y v u Q I rx ry h hs;refine fe h fun z i c ze0 ze1 hz he q=>?_;clear h;subst ze0;subst ze1;obtain ⟨t,rfl⟩:=rx;obtain ⟨t',rfl⟩:=ry;refine gq (u9 he :) fun j h1 h2 h3 h4 h5=>?_
 have hl:z.cps.toList.length=z.length:=by simp [Str.length]
 rw [hl] at h1 h4 h5;have hn:=oa;exact tail_any (typeIs_str s z t) slot_str_getitem.lookup (getItem_str (c:=c) (by
  have e1:[Vb,[N8,i < -[My,2 ^ 63]]]:=[NJ,L6];have e2:[Vb,[N8,i ≥ 2 ^ 63]]:=[NJ,L6];rw [e1,e2,Bool.or_false]) (by rw [h1]; simpa using h2) (aB [XE,Ss] H (SN) VT q)) hs
theorem yy (its:MS) (n j:Nat) (u:Value):Obj.mapSeq (·.setIfInBounds j u) { cls:=PF,data:=.seq Ox n }={ cls:=PF,data:=.seq (its.set j u).toArray n }:=by
 simp [Obj.mapSeq]
theorem Inv.lst {pins:Px} {σ:St} {H:Hp} {s:Shared} {p:Addr} {xs:Nz} (I:Rw) (h:H p=[MI,xs]) :
  ∃ (its:MS) (n:Nat),Vals xs its/\[Nv,p]=[Qk,PF,.seq Ox n]/\[N4,Mh]:=by
 refine bZ (I.hok p _ h :) fun z zq0=>bU zq0 fun its n r e=>?_;clear zq0;exact (aB its n r e z)
theorem Inv.lstUpd {pins:Px} {σ:St} {H:Hp} {s:Shared} {p:Addr} {xs ys:Nz} {its its':MS} {n n':Nat} {f:Obj->Obj} (I:Rw) (h:H p=[MI,xs])
  (ho:[Nv,p]=[Qk,PF,.seq Ox n]) (hf:f { cls:=PF,data:=.seq Ox n }={ cls:=PF,data:=.seq its'.toArray n' }) (r:Vals ys its') (hz:[N4,NQ]) (t:Nat) :
  [NP,X,σ,([Py,H,p,ys]),s,s.heap.update p f,t]:=by
 have e:(s.heap.update p f).get? p=[Qk,PF,.seq its'.toArray n']:=by
  rw [[XZ,f,ho,(by rw [hf] <;> rfl)],hf]
 refine I.write (x:=p) (e:=p) (by rw [h]; trivial) (Qf) (fun b u hb q=>[Q9,[SE,_,_,[XS,hb]],q]) [T7,e] ?_;exact (aH hz (bP its' n' r e))
def KJ:V->V->V->Hp->[Qp,Qr]:=fun o i v H Q=>∃ p xs k j,o=TN/\i=.int k/\H p=[MI,xs]/\ixN Mh k=some j/\Q ([Py,H,p,xs.set j v])
theorem set_list:La X KJ:=by
 intro pins s σ H o i v ov iv u Q I ro ri rv h;refine cZ h fun p xs k j ze2 ze3 hp hj q=>?_;clear h;subst ze2;subst ze3;cases ro
 obtain ⟨t,rfl⟩:=ri;refine aX (I.lst hp :) fun its n r ho hz=>?_
 refine fX (A3 hj :) fun h1 h2 h3 h4=>?_
 have hl:=r.length;have hn:=oa;have I':[Ts,X,σ,([Py,H,p,xs.set j v]),s,s.heap.update p (Obj.mapSeq (·.setIfInBounds j u))] :=
  I.lstUpd hp ho (yy its n j u) (r.set rv j) ([WS,hz]) s.toks
 by_cases h0:0<=k
 .have hk:k.toNat=j:=by
   rw [seqIndex_of h0 h4] at h1;exact [Mq,h1]
  exact PySem.W.ki_setAt ho h0 L6 (by rw [List.size_toArray,<- hl]; exact h4) (by rw [hk]; exact (af _ I' q))
 .have hk:[TF,k+[My,P1]]=j:=by
   rw [seqIndex_neg L6 h3] at h1;rw [OJ,<- hl];exact [Mq,h1]
  exact PySem.W.ki_setBack ho L6 (by rw [List.size_toArray,<- hl]; exact h3) L6 (by rw [hk]; exact (af _ I' q))
theorem vF (lo hi:M7) (n:Nat):(sliceBounds lo hi none n).1=[RK,HT.sIx n 0 lo]/\(sliceBounds lo hi none n).2.1=[RK,HT.sIx n n hi]/\(sliceBounds lo hi none n).2.2=1:=by
 refine (bM ?_ ?_ rfl)
 .cases lo with
  | none=>simp [sliceBounds,HT.sIx]
  | some i =>
   simp only [sliceBounds,HT.sIx,Option.getD_none,show (1:Int) > 0 by decide,if_true];by_cases h:i<0
   .simp only [h,if_true] <;> omega
   .simp only [h,if_false] <;> omega
 .cases hi with
  | none=>simp [sliceBounds,HT.sIx]
  | some i =>
   simp only [sliceBounds,HT.sIx,Option.getD_none,show (1:Int) > 0 by decide,if_true];by_cases h:i<0
   .simp only [h,if_true] <;> omega
   .simp only [h,if_false] <;> omega
theorem tG (its:MS) (lo hi:M7):slicePick Ox lo hi none=((its.drop (HT.sIx X1 0 lo)).take (HT.sIx X1 X1 hi - HT.sIx X1 0 lo)).toArray:=by
 refine cb (vF lo hi P1 :) fun h1 h2 h3=>?_
 unfold slicePick;rw [h1,h2,h3];simp only [sliceRange_one,pick_run,List.size_toArray] <;> rfl
def L0 (K:M3):V->M7->M7->Hp->Sr:=fun x lo hi H Q=>∃ a xs,x=QM/\SqL K H a xs/\∀ p,H p=none->[Xi,p,([Py,H,p,jJ xs lo hi])]
theorem qi:SlR X (L0 X.K):=by
 intro pins s σ H x v vl vu lo hi sl Q I rx hs pl pu h;refine aX h fun a xs ze4 hx q=>?_;clear h;subst ze4;cases rx
 refine [Yo,hx,fun its r ht hz=>?_]
 have hlen:=r.length;refine (aB "list" _ slot_list_getitem.lookup ht.isList.typeIs ?_);refine wpAny_getItem_list_slice ht.isList hs pl pu .none Pz ?_ (by rw [List.size_toArray] <;> omega);rw [tG,<- hlen];refine ([YU,Vv,_,(I.laid (t':=s.toks) (o:=.lst (jJ xs lo hi)) (fun b ob q=>[M8,q]) Tx ?_),(q _ ([S7,Tx]))]);exact (aH ([Qi,pH xs lo hi,hz]) (bP _ 0 ((r.drop ([YC,0,lo])).take ([YC,Mh,hi] - [YC,0,lo])) (Ub)))
def gD:V->Bool
 | .non=>true
 | .bl _=>true
 | .int _=>true
 | .str _=>true
 | _=>false
def eqV:V->V->Bool
 | .non,.non=>true
 | .bl a,.bl b=>a == b
 | .bl a,.int b=>([Mj,a,1,0]) == b
 | .int a,.bl b=>a == ([Mj,b,1,0])
 | .int a,.int b=>a == b
 | .str a,.str b=>a == b
 | _,_=>false
theorem zy {A:Around} {s:Shared} {y x:V} {u v:Value} (ry:[WE,y]) (rx:RelV x v) (fy:gD y=true) (fx:gD x=true):SeqAt.EqAt A s u v (eqV y x):=by
 cases y with
 | non =>
  cases ry
  cases x with
  | non=>cases rx; exact SeqAt.EqAt.same _
  | bl b=>cases rx; exact SeqAt.EqAt.none_bool b
  | int b=>obtain ⟨t,rfl⟩:=rx; exact SeqAt.EqAt.none_int b t
  | str b=>obtain ⟨t,rfl⟩:=rx; exact SeqAt.EqAt.none_str b t
  | _=>exact [O9,[Yh,false=true,fx],MZ]
 | bl a =>
  cases ry
  cases x with
  | non=>cases rx; exact SeqAt.EqAt.bool_none a
  | bl b=>cases rx; exact SeqAt.EqAt.bool_bool a b
  | int b=>obtain ⟨t,rfl⟩:=rx; exact SeqAt.EqAt.bool_int a b t
  | str b=>obtain ⟨t,rfl⟩:=rx; exact SeqAt.EqAt.bool_str a b t
  | _=>exact [O9,[Yh,false=true,fx],MZ]
 | int a =>
  obtain ⟨t',rfl⟩:=ry;cases x with
  | non=>cases rx; exact SeqAt.EqAt.int_none a t'
  | bl b=>cases rx; exact SeqAt.EqAt.int_bool a t' b
  | int b=>obtain ⟨t,rfl⟩:=rx; exact SeqAt.EqAt.int_int a t' b t
  | str b=>obtain ⟨t,rfl⟩:=rx; exact SeqAt.EqAt.int_str a t' b t
  | _=>exact [O9,[Yh,false=true,fx],MZ]
 | str a =>
  obtain ⟨t',rfl⟩:=ry;cases x with
  | non=>cases rx; exact SeqAt.EqAt.str_none a t'
  | bl b=>cases rx; exact SeqAt.EqAt.str_bool a t' b
  | int b=>obtain ⟨t,rfl⟩:=rx; exact SeqAt.EqAt.str_int a t' b t
  | str b=>obtain ⟨t,rfl⟩:=rx; exact SeqAt.EqAt.str_str a t' b t
  | _=>exact [O9,[Yh,false=true,fx],MZ]
 | _=>exact [O9,[Yh,false=true,fy],MZ]
def eqU (x:V) (u:Value):Bool:=match u with
 | .none=>eqV .non x
 | .bool b=>eqV (.bl b) x
 | .int i _=>eqV (.int i) x
 | .str z _=>eqV (.str z) x
 | _=>false
theorem Ea {x y:V} {u:Value} (r:[WE,y]) (f:gD y=true):eqU x u=eqV y x:=by
 cases y with
 | non=>cases r; rfl
 | bl b=>cases r; rfl
 | int i=>obtain ⟨t,rfl⟩:=r; rfl
 | str z=>obtain ⟨t,rfl⟩:=r; rfl
 | _=>exact [O9,[Yh,false=true,f],MZ]
theorem mC {x:V}:∀ {xs:Nz} {us:MS},[Vi,xs]->xs.all gD=true->us.any (eqU x)=xs.any fun y=>eqV y x
 | _,_,.nil,_=>rfl
 | y::xs,u::us,.cons r t,f=>by
  rw [List.all_cons,Oo] at f;rw [Yd,Yd,Ea r f.1,mC t f.2]
theorem j7 {A:Around} {s:Shared} {x:V} {v:Value} (rx:RelV x v) (fx:gD x=true):∀ {xs:Nz} {us:MS},[Vi,xs]->xs.all gD=true->∀ u∈us,SeqAt.EqAt A s u v (eqU x u)
 | _,_,.nil,_=>fun u hu=>by cases hu
 | y::xs,u::us,.cons r t,f=>fun u' hu=>by
  rw [List.all_cons,Oo] at f;rcases List.mem_cons.mp hu with rfl | hu
  .rw [Ea r f.1]; exact zy r rx f.1 fx
  .exact j7 rx fx t f.2 u' hu
def inV (x:V) (xs:Nz):Bool:=xs.any fun y=>eqV y x
def rIn (K:M3) (neg:Bool):R2:=[X8,∃ p xs,y=TN/\(SqL K H p xs\/SqT K H p xs)/\gD x=true/\xs.all gD=true/\Q (.bl (if neg then !inV x xs else inV x xs)) H]
theorem nH:OpR X [Ti,.In] (rIn X.K false):=by
 intro pins s σ H x y v u Q I rx ry h;refine fz h fun p xs ze5 hq fx fs q=>?_;clear h;subst ze5;cases ry
 rcases hq with hq | hq
 .refine [Yo,hq,fun its r pl hz=>?_]
  refine SeqAt.in_listAt (eqU x) V6 (fun w hw=>j7 rx fx r fs w [Zh,hw]) ([YU,.bl _,H,I,?_]);rw [show its.toArray.any (eqU x)=its.any (eqU x) by simp,mC r fs];exact q
 .refine bp [SY,hq] fun its r pl hz=>?_
  refine SeqAt.in_tupleAt (eqU x) pl (fun w hw=>j7 rx fx r fs w [Zh,hw]) ([YU,.bl _,H,I,?_]);rw [show its.toArray.any (eqU x)=its.any (eqU x) by simp,mC r fs];exact q
theorem mQ:OpR X [Ti,.NotIn] (rIn X.K true):=by
 intro pins s σ H x y v u Q I rx ry h;refine fz h fun p xs ze6 hq fx fs q=>?_;clear h;subst ze6;cases ry
 rcases hq with hq | hq
 .refine [Yo,hq,fun its r pl hz=>?_]
  refine SeqAt.notIn_listAt (eqU x) V6 (fun w hw=>j7 rx fx r fs w [Zh,hw]) ([YU,.bl _,H,I,?_]);rw [show its.toArray.any (eqU x)=its.any (eqU x) by simp,mC r fs];exact q
 .refine bp [SY,hq] fun its r pl hz=>?_
  refine SeqAt.notIn_tupleAt (eqU x) pl (fun w hw=>j7 rx fx r fs w [Zh,hw]) ([YU,.bl _,H,I,?_]);rw [show its.toArray.any (eqU x)=its.any (eqU x) by simp,mC r fs];exact q
theorem bz:dM X ([Sl,"len"]) ([Tb,∃ p ys,xs=[TN]/\(SqL X.K H p ys\/SqT X.K H p ys)/\Q (.int NQ) H]):=by
 intro pins s σ H xs us Q I r h;refine aX h fun p ys ze9 hq q=>?_;clear h;subst ze9;refine [NC,Vw,fun u ze0 rx=>?_];subst ze0;cases rx
 have hn:=oa;rcases hq with hq | hq
 .refine [Yo,hq,fun its r' pl hz=>?_]
  have hlen:=r'.length;exact Calls.call_len_list V6 (by simp only [List.size_toArray] <;> omega) (aB (.int NQ) H (SN) [Mw,s.toks+1,by rw [List.size_toArray,hlen]] q)
 .refine bp [SY,hq] fun its r' pl hz=>?_
  have hlen:=r'.length;exact len_tuple pl (by simp only [List.size_toArray] <;> omega) (aB (.int NQ) H (SN) [Mw,s.toks+1,by rw [List.size_toArray,hlen]] q)
theorem gJ:dM X ([Sl,"len"]) ([Tb,∃ z,xs=[R9]/\[N4,z.length]/\Q (.int z.length) H]):=by
 intro pins s σ H xs us Q I r h;refine bp h fun z ze1 hz q=>?_;clear h;subst ze1;refine [NC,Vw,fun u ze2 zq0=>iC zq0 fun t ze3=>?_];clear zq0;subst ze2;subst ze3;have hn:=oa;exact len_str L6 (aB (.int z.length) H (SN) VT q)
theorem eS:dM X (OS) ([Tb,∃ p ys,xs=[TN]/\((SqL X.K H p ys/\∀ l,H l=none->[Xi,l,([Rz,H,l,ys])])\/(SqT X.K H p ys/\[Xi,p,H]))]):=by
 intro pins s σ H xs us Q I r h;obtain ⟨p,ys,rfl,h⟩:=h;obtain ⟨u,rfl,rx⟩:=Vw;cases rx
 rcases h with ⟨hq,q⟩ | ⟨hq,q⟩
 .refine [Yo,hq,fun its r' pl hz=>?_]
  have hlen:=r'.length;refine call_tuple_list V6 (fun h' kp=>?_) (by simp only [List.size_toArray] <;> omega);have I1:[Ts,X,σ,H,s,h']:=I.kept (t':=s.toks) kp;have I2:[Ts,X,σ,([Rz,H,Wl,ys]),s,h'.push { cls:=OS,data:=.seq Ox }] :=
   I1.laid (t':=s.toks) ([RU,[M8,e]]) Tx [Yh,[V1,X.w,_,_,_,[Rj,ys]],aH hz (af its r' (IsTup.new _ _))]
  exact ([YU,[MT,Wl],_,I2,q _ (Up)])
 .refine bp [SY,hq] fun its r' pl hz=>?_
  exact call_tuple_same pl ([YU,[MT,p],H,I,q])
def tyV (K:M3) (T:String) (x:V) (H:Hp):Prop:=match x with
 | .str _=>T="str"
 | .int _=>T="int"
 | .ref p=>(T="list"/\∃ xs,SqL K H p xs)\/(T="tuple"/\∃ o,K.lookup p=some o/\o.cls=.type "tuple"/\o.dict=none)\/
   (T="dict"/\((∃ kvs,H p=some (.dK kvs))\/∃ kvs,H p=some (.dT kvs)))\/(T="set"/\∃ S n,H p=some (.set S n))
 | _=>False
theorem Dy {pins:Px} {σ:St} {H:Hp} {s:Shared} {T:String} {x:V} {v:Value} (I:Rw) (r:RelV x v) (ty:tyV X.K T x H) :
  [ZZ,v,T]/\∀ a,v=QM->∃ ob,[Nv,a]=some ob/\ob.dict=none:=by
 cases x with
 | str z =>
  obtain ⟨t,rfl⟩:=r;cases (show T="str" from ty)
  exact [Mw,typeIs_str s z t,fun _ e=>[PL,e]]
 | int i =>
  obtain ⟨t,rfl⟩:=r;cases (show T="int" from ty)
  exact [Mw,typeIs_int s i t,fun _ e=>[PL,e]]
 | ref p =>
  cases r
  rcases ty with ⟨rfl,xs,hq⟩ | ⟨rfl,o,hk,hc,hd⟩ | ⟨rfl,hk⟩ | ⟨rfl,S,n,hk⟩
  .refine [Yo,hq,fun its _ pl _=>?_]
   refine [Mw,pl.isList.typeIs,fun a e=>?_];cases e
   refine e9 pl fun o n e c hd _=>?_;clear pl;exact (af o e hd)
  .refine [Mw,af o (I.kIn p o hk) hc,fun a e=>?_];cases e
   exact (af o (I.kIn _ o hk) hd)
  .have z:∃ o,[Nv,p]=MN/\o.ExactDict:=by
    rcases hk with ⟨kvs,hk⟩ | ⟨kvs,hk⟩
    .refine cb (I.hok p _ hk :) fun _ _ zq0=>ar zq0 fun _ _ zq1=>fP zq1 fun o _ _ e ex _=>?_;clear zq0 zq1;exact (af o e ex)
    .refine cb (I.hok p _ hk :) fun _ _ zq0=>ar zq0 fun _ _ zq1=>fP zq1 fun o _ _ e ex _=>?_;clear zq0 zq1;exact (af o e ex)
   refine ar z fun o e ex=>?_;clear z;refine [Mw,af o e ex.1,fun a e2=>?_];cases e2
   exact (af o e ex.2.1)
  .refine wN (I.hok p _ hk :) fun o _ _ _ e ex _=>?_
   refine [Mw,af o e ex.1,fun a e2=>?_];cases e2
   exact (af o e ex.2.1)
 | _=>exact [UZ,ty]
def LU (K:M3) (T:String) (r:V->Nz->Hp->Sr) (to:TE):TE:=[QS,to σ H [VW,tyV K T x H1/\r x [] H1 Q]]
def tBM (K:M3) (T:String) (r:V->Nz->Hp->Sr) (to:TE) (t:TA):TE:=[QS,to σ H [VW,tyV K T x H1/\t σ H1 fun xs H2=>r x xs H2 Q]]
variable {o e:Expr} {es:OR} {to:TE} {t:TA} {name:Str} {apos cpos:Pos} {T id:String} {r:V->Nz->Hp->Sr}
theorem IH (pa:PlainAttrs T) (slot:Slot T name id) (hty:typeOf ([Sl,id])=pure [Sx,"method_descriptor"]) (hm:MtR X id r) (ho:PE X o to)
  (hbase:attributeBase o name X.env ([Oa,o])=[Oa,o]:=by rfl) (hline:(apos.endLine == cpos.line)=true:=by rfl):PE X (.Call ([Tp,o,name]) [] [] cpos) (LU X.K T r to):=by
 intro pins s σ H Q I h;refine wpAny_Call_method0_late hbase hline ([SX,ho pins s σ H _ I h,e9 zr fun x H1 I1 r1 ty q1=>?_]);obtain ⟨h1,h2⟩:=Dy I1 r1 ty;exact (cD T id pa slot hty h1 (aH h2 (Calls.callWith_builtin rfl (PySem.evalArgs_none (hm pins s1 σ H1 x [] v [] Q I1 r1 .nil q1)))))
theorem dr (pa:PlainAttrs T) (slot:Slot T name id) (hty:typeOf ([Sl,id])=pure [Sx,"method_descriptor"]) (hm:MtR X id r) (ho:PE X o to) (ha:PA X (e::es) t)
  (hbase:attributeBase o name X.env ([Oa,o])=[Oa,o]:=by rfl)
  (hfew:((backTo cpos ([N3,e::es])).all (fun x=>!x.1) && (backToKw cpos (keywordEach [] X.env)).all ([Z2,x.1.isSome]) && [N8,[MP,e::es]+([]:List Keyword).length+([Mj,([]:List Keyword).isEmpty,0,1])<30])=true:=by rfl)
  (hline:(apos.endLine == cpos.line)=true:=by rfl) (hs:[N3,e::es]=(false,[Oa,e])::Um:=by rfl) (hplain:[Vb,(backTo cpos (Um)).any OB]:=by rfl) :
  PE X (.Call ([Tp,o,name]) (e::es) [] cpos) (tBM X.K T r to t):=by
 intro pins s σ H Q I h;refine wpAny_Call_method_late hbase hfew hline rfl ([SX,ho pins s σ H _ I h,e9 zr fun x H1 I1 r1 ty q1=>?_]);obtain ⟨h1,h2⟩:=Dy I1 r1 ty;refine (cD T id pa slot hty h1 (aH h2 ?_));have hA:=ha cpos pins s1 σ H1 _ I1 q1;rw [hs] at hA ⊢;refine Calls.callWith_builtin (by show [Vb,(false || (backTo cpos (Um)).any OB)]; rw [hplain] <;> rfl) (Calls.evalArgs_plain ?_);exact thn hA fun us s2 zr=>aX zr fun vs H2 I2 r2 q2=>hm pins s2 σ H2 x vs v us Q I2 r1 r2 q2
end
end L2
namespace L2
open PySem PySem.Spec PyProof.Rows
def MtM (X:Cx) (id:String) (r:V->Nz->Hp->Sr):Prop :=
 ∀ (pins:Px) (s:Shared) (σ:St) (H:Hp) (x:V) (xs:Nz) (v:Value) (us:MS) (Q:VK),Rw->RelV x v->[Vi,xs]->r x xs H Q-> [SK,Uk,X.A,call ([Sl,id]) (v::us),EP X pins σ Q,X.xe]
theorem Vals.one:∀ {x:V} {us:MS},[Vi,[x]]->∃ u,us=[u]/\[WE,x]
 | _,_,.cons r .nil=>[Mn,r]
theorem Vals.two:∀ {x y:V} {us:MS},[Vi,[x,y]]->∃ u v,us=[u,v]/\[WE,x]/\RelV y v
 | _,_,_,.cons r (.cons q .nil)=>([Od,_,_,r,q])
theorem Vals.zero:∀ {us:MS},[Vi,[]]->us=[]
 | _,.nil=>rfl
theorem Vals.dropLast {xs:Nz} {us:MS} (h:[Vi,xs]):Vals xs.dropLast us.dropLast:=by
 induction h with
 | nil=>exact .nil
 | cons r t ih =>
  cases t with
  | nil=>exact .nil
  | cons q t'=>exact .cons r ih
theorem yM {α:Type} (l:QY):l.eraseIdx (l.length - 1)=l.dropLast:=by
 induction l with
 | nil=>rfl
 | cons a r ih =>
  cases r with
  | nil=>rfl
  | cons b r =>
   have e:(a::b::r).length - 1=((b::r).length - 1)+1:=by
    have h1:(a::b::r).length=r.length+2:=rfl;have h2:(b::r).length=r.length+1:=rfl;omega
   rw [e,List.eraseIdx_cons_succ,ih];all_goals rfl
section
variable {X:Cx} {pins:Px} {σ:St} {H:Hp} {s:Shared} {l b:Addr} {xs ys zs:Nz}
theorem Inv.lset {its its':MS} {n:Nat} {f:Nr->Nr} {t':Nat} (I:Rw) (hH:H l=[MI,xs])
  (e:[Nv,l]=[Qk,PF,.seq Ox n]) (hf:f Ox=its'.toArray) (hv:Vals ys its') (hz:[N4,NQ]) :
  [NP,X,σ,([Py,H,l,ys]),s,s.heap.update l (Obj.mapSeq f),t']:=by
 have q:=PySem.IsL.update e f;rw [hf] at q;refine I.write (x:=l) (e:=l) (by rw [hH]; exact trivial) (Qf) (fun b' u hb hu=>[Q9,[SE,s.heap,Obj.mapSeq f,[XS,hb]],hu]) [T7,q] ?_;exact (aH hz (bP its' _ hv q))
theorem Inv.lnew {its:MS} {t':Nat} (I:Rw) (hv:Vals ys its) (hz:[N4,NQ]) :
  [NP,X,σ,([Py,H,L7,ys]),s,[Nf,"list",.seq Ox],t'] :=
 I.laid (fun _ _ q=>[M8,q]) Tx (aH hz (bP its 0 hv (Ub)))
theorem Inv.fresh (I:Rw):H L7=none:=[S7,Tx]
theorem Inv.lstM (I:Rw) (hH:H l=[MI,xs]):[N4,Mh]/\∃ (its:MS) (n:Nat),Vals xs its/\Mh=X1/\[Nv,l]=[Qk,PF,.seq Ox n]:=by
 refine bZ (I.hok l _ hH :) fun z zq0=>bU zq0 fun its n r e=>?_;clear zq0;exact (aH z (aB its n r r.length e))
theorem EE {n:Nat} (h:[N4,n]):[Vb,Builtin.List.listTooLong n]:=by
 unfold Builtin.List.listTooLong;exact [NJ,L6]
end
section
variable {X:Cx}
def Hv:V->Nz->Hp->Sr:=fun x vs H Q=>∃ l xs y,x=X5/\vs=[y]/\H l=[MI,xs]/\Mh<sizeLine/\Q .non ([Py,H,l,xs++[y]])
theorem dq:MtM X "list.append" Hv:=by
 intro pins s σ H x vs v us Q I rx rv h;refine fe h fun l xs y ze6 ze7 hH hz q=>?_;clear h;subst ze6;subst ze7;cases rx
 refine ar rv.one fun u ze8 ru=>?_;subst ze8;refine bZ (I.lstM hH :) fun z zq0=>aX zq0 fun its n r hl e=>?_;clear zq0;refine call_meets F.slot_list_append ([Yb,_,e]) F.entry_list_append (F.args_list_append_2 _ _) (PySem.list_append l Ox n u (by rw [List.size_toArray]; omega)) [W4,e];refine ([YU,.non,_,I.lset (its':=its++[u]) hH e Pz (r.append (.cons ru .nil)) ?_,q]);rw [Na,List.length_singleton];omega
def GB:V->Nz->Hp->Sr:=fun x vs H Q=>∃ l b xs zs,x=X5/\vs=[.ref b]/\H l=[MI,xs]/\H b=[MI,zs]/\[N4,Mh+Qy]/\Q .non ([Py,H,l,xs++zs])
theorem Kr:MtM X "list.extend" GB:=by
 intro pins s σ H x vs v us Q I rx rv h;refine cZ h fun l b xs zs ze9 ze0 hH hB zq0=>bZ zq0 fun hz q=>?_;clear zq0 h;subst ze9;subst ze0;cases rx
 refine ar rv.one fun u ze1 ru=>?_;subst ze1;cases ru
 refine bZ (I.lstM hH :) fun z zq0=>aX zq0 fun its n r hl e=>?_;clear zq0;refine bZ (I.lstM hB :) fun z2 zq0=>aX zq0 fun its2 n2 r2 hl2 e2=>?_;clear zq0;have hsz:[N4,P1+its2.toArray.size]:=by rw [List.size_toArray,List.size_toArray]; omega
 have hlong:¬ (!its.toArray.isEmpty && Builtin.List.listTooLong (P1+its2.toArray.size))=true:=by
  rw [EE hsz,Zc];exact MZ
 refine call_meets F.slot_list_extend ([Yb,_,e]) F.entry_list_extend (F.args_list_extend_2 _ _) (AutoSeq1.list_extend_list_list_0 l Ox n b its2.toArray n2 hlong (by rw [List.size_toArray]; omega) L6) (bM e e2 ?_)
 refine ([YU,.non,_,I.lset (its':=its++its2) hH e Pz (r.append r2) ?_,q]);rw [Na];omega
def LP:V->Nz->Hp->Sr:=fun x vs H Q=>∃ l xs y,x=X5/\vs=[]/\H l=[MI,xs]/\xs[Mh - 1]?=VI/\Q y ([Py,H,l,xs.dropLast])
theorem Kh:MtM X "list.pop" LP:=by
 intro pins s σ H x vs v us Q I rx rv h;refine fe h fun l xs y ze2 ze3 hH hy q=>?_;clear h;subst ze2;subst ze3;cases rx
 have hus:=rv.zero;subst hus;refine bZ (I.lstM hH :) fun z zq0=>aX zq0 fun its n r hl e=>?_;clear zq0;refine [NC,r.get hy,Wd]
 have hy':Ox[P1 - 1]?=NZ:=by
  show Ox[X1 - 1]?=NZ;rw [<- Array.getElem?_toList,<- hl];exact hu
 refine call_meets F.slot_list_pop ([Yb,_,e]) F.entry_list_pop (F.args_list_pop_1 _) (MeetsSeq.list_pop_last l Ox n u hy' (by rw [List.size_toArray]; omega)) [W4,e];refine (aB y _ (I.lset (its':=its.dropLast) hH e ?_ r.dropLast ?_) ru q)
 .show its.toArray.eraseIdxIfInBounds (P1 - 1)=its.dropLast.toArray;rw [OJ,List.eraseIdxIfInBounds_toArray,yM]
 .rw [List.length_dropLast];omega
def LK:R2:=[X8,∃ l b xs zs,x=X5/\y=.ref b/\H l=[MI,xs]/\H b=[MI,zs]/\[N4,Mh+Qy]/\∀ p,H p=none->[Xi,p,([Py,H,p,xs++zs])]]
theorem zG:OpR X (binaryOp .Add) LK:=by
 intro pins s σ H x y v u Q I rx ry h;refine cZ h fun l b xs zs ze1 ze2 hH hB zq0=>bZ zq0 fun hz q=>?_;clear zq0 h;subst ze1;subst ze2;cases rx
 cases ry
 refine bZ (I.lstM hH :) fun z zq0=>aX zq0 fun its n r hl e=>?_;clear zq0;refine bZ (I.lstM hB :) fun z2 zq0=>aX zq0 fun its2 n2 r2 hl2 e2=>?_;clear zq0;refine PySem.P.add_list e e2 ?_ (by rw [List.size_toArray,List.size_toArray]; omega);have ea:Ox++its2.toArray=(its++its2).toArray:=MJ
 rw [ea];exact ([YU,[MT,_],_,(I.lnew (t':=s.toks) (r.append r2) (by rw [List.length_append]; omega)),q _ I.fresh])
end
section
variable {prog:Program} {w:World} {A:Around} {E:Qc} {s:Shared}
end
section
variable {X:Cx}
end
end L2
namespace Att
open PySem PySem.W PySem.Calls PyProof.Rows
theorem pX {P:Params} {h:Heap}:∀ (ns:Nk) (vs:MS),WellAll P h vs (ns.map WData.int)->IntsAre vs ns:=by
 intro ns;induction ns with
 | nil =>
  intro vs w;rw [List.map_nil] at w;cases w
  exact .nil
 | cons n ns ih =>
  intro vs w;rw [List.map_cons] at w;cases w with
  | cons a b =>
   cases a
   exact .cons _ _ (ih _ b)
theorem Ce {l:OpenLaw} {n:Nat} (hn:l.most=some n) {P:Params} {h:Heap} {args:List WData} {vals:MS}
  (hpre:l.row.toRowW.claim.pre args=true) (hwl:WellAll P h vals args) :
  ∃ a vs ns,vals=[[Te,a]]/\args=[WData.list (ns.map WData.int)]/\RO=[Qk,PF,.seq Zd]/\IntsAre vs ns/\OY<=n:=by
 have hsh:WShape.hasAll [] args [.list .int]=true:=(pre_splitW hpre).1;have hc:l.pre.holds [] { args:=args }=true:=(pre_splitW hpre).2;refine aX (hasAllW_cons hsh :) fun d r ze5 h1 h2=>?_;subst ze5;obtain rfl:=hasAllW_nil h2;refine [NC,hasW_list h1,fun xs ze6 h3=>?_];subst ze6;obtain ⟨ns,rfl⟩:=items_int h3;have hlen:OY<=n:=by
  unfold OpenLaw.pre at hc;have h4:(WTm.not (.lt (.lit ([MH,n])) (.len (.arg 0)))).holds [] { args:=[.list (ns.map .int)] }=true:=by
   have h4:=(holds_andW hc).1;rw [hn] at h4;exact h4
  have h5:=condW_of h4 (w_not (w_lt w_lit (w_len_list (w_arg rfl))));rw [Mc] at h5;refine Nat.le_of_not_lt fun q=>?_
  have q':Pp<[RK,OY]:=Mr
  first
   | (rw [[MA,q']] at h5; exact [O9,h5,M0])
   | (simp at h5; omega)
 cases hwl with
 | cons w1 w2 =>
  cases w2
  cases w1 with
  | list ho hall=>exact ([SO,_,_,ns,rfl,ho,pX ns _ hall,hlen])
theorem Cg (l:OpenLaw) (args:List WData):l.row.toRowW.claim.post args (YD) args=true :=
 postW_of (r:=l.row.toRowW) (X:=(true == true)) (show WShape.has [] (YD) .bool=true by first | rfl | decide | simp [WShape.has,WShape.arms,WShape.armsAll]) [Yh,(WTm.eq .res (.lit (YD))).value [] { args:=args,res:=[Mo,YD],after:=args }=[Mo,.bool (true == true)],w_eq_bool (w_res rfl) w_lit] rfl
theorem xA {l:OpenLaw} {n:Nat} {q:Program} {loose:MB} {XP:(Str->Ms)->[Qp,Heap]} {YP:World->[Qp,Heap]} {d:DefRec}
  (hn:l.most=some n) (hdf:d.params.defaults=[])
  (call:∀ (w:World) (s₀ s₁:Shared) (mg mb:Str->Ms) (fa:Addr) (o:Obj) (pm cd doc:Value) (a:Addr) (vs:MS) (ns:Nk), Ground q loose [] XP w s₀ mg mb s₁.heap->YP w s₁.heap-> s₁.heap.get? fa=MN->o.data=.func (docDef d.name d.params d.body d.scope pm cd doc)->s₁.heap.CodeRec cd d.name->mg d.name=[Mv,fa]-> s₁.heap.get? a=[Qk,PF,.seq Zd]->IntsAre vs ns->OY<=n->s₁.gens=#[]-> codeAny (model l.prog w) callerA (.call [MT,fa] [Mw,[QM],[]]) (fun r s'=>r=.ok (.ret (YD))/\OldK s₁.heap s'.heap/\s'.os=s₁.os/\Yi) s₁) :
  WalkO q loose XP YP l.row.toRowW d [] (fun f vs=>PySem.call f vs):=by
 intro w s₀ s₁ mg mb G Y fa o pm cd doc dV kV ho hd hcd hD hmg hg args vals as hpre hlay hrd hwl hlo;obtain rfl:dV=.none:=Dflts.none hD hdf;obtain rfl:kV=.none:=Dflts.noKw hD;refine fe (Ce hn hpre hwl :) fun a vs ns ze0 ze1 hobj hints hlen=>?_;subst ze0;subst ze1;refine enter_call (codeAny_mono (call w s₀ s₁ mg mb fa o pm cd doc a vs ns G Y ho (fd_plain hd) hcd hmg hobj hints hlen hg) fun r s' hq=>?_);refine fX hq fun ze2 h2 h3 h4=>?_;clear hq;subst ze2;exact (fI [T6,([SO,YD,YD,[],[Qe,rfl],YD,Cg l _,[Qe,[Mw,List.Pairwise.nil,fun _ hm=>([PL,hm])]]])] h2 h3 h4)
section
variable {prog:Program} {w:World} {A:Around} {E:Qc} {s:Shared} {K:Frag}
def ledger (h:Heap) (L d:Addr):Px:=([RQ,T9]).filterMap fun a=>[Mj,a=L\/a=d,none,[Tr,RO,fun o=>(a,o)]]
end
end Att
namespace L2
open PySem PySem.Spec PyProof.Rows
theorem kx:∀ {vs:MS} {ns:Nk},IntsAre vs ns->Vals (NS) vs
 | _,_,.nil=>.nil
 | _,_,.cons n t h=>.cons [Nl,t] (kx h)
def Hb (H:Hp):Prop:=∀ b,H b=none\/∃ o xs,H b=[Mo,.frz o [Pl,xs]]
theorem Dw {P:Program} {w:World} {K:M3} {mg mb:Str->Ms} {CX:CXT} {k:Nat} {fa a:Addr} {fd:FuncData} {x:Str} {sp:Sp} {s₁:Shared} {vs:MS} {ns:Nk}
  (KX:K.In s₁.heap) (hns:s₁.heap.Ns mainGlobals mg) (hb:s₁.heap.Ns builtinsNs mb) (hbb:∀ x:Str,x≠"__name__"->mb x=bootBuiltins x) (hlim:s₁.heap.NoLimit) (hg:s₁.gens=#[])
  (ha:s₁.heap.get? a=[Qk,PF,.seq Zd]) (hi:IntsAre vs ns) (hl:[N4,OY]) (hr:Room k callerA)
  (F:∀ base:Heap,K.In base->[XA,mg]->FnOk P w K mg base CX k fa fd [x] sp) (hbind:∀ (s:Shared) (u:Value),BindsTo s fd [Mw,[u],[]] [(x,u)])
  (hsp:∀ H:Hp,Hb H->SqL K H a (NS)->sp [QM] H (fun v _=>v=.bl true) fun _ _ _=>False)
  (hCX:∀ H e s',CX [] H s₁ (fun _ _ _=>False) e s'->False) :
  codeAny (model P w) callerA (.call [MT,fa] [Mw,[QM],[]]) (fun r s'=>r=.ok (.ret (YD))/\OldK s₁.heap s'.heap/\s'.os=s₁.os/\Yi) s₁:=by
 have rv:=kx hi;have lenV:=hi.length;have core:∀ H:Hp,Hb H->SqL K H a (NS)->HOk P w H s₁.heap->(∀ b,H b≠none->b=a)->(H a≠none->K.lookup a=none)-> codeAny (model P w) callerA (.call [MT,fa] [Mw,[QM],[]]) (fun r s'=>r=.ok (.ret (YD))/\OldK s₁.heap s'.heap/\s'.os=s₁.os/\Yi) s₁:=by
  intro H hO hS hok hA hK;have base_of:∀ {b:Addr} {o:Obj},s₁.heap.get? b=MN->H b=none->(vR s₁.heap H).get? b=MN:=fun e n=>EG e n
  have noA:∀ {b:Addr} {o:Obj} {es:Array DictEntry} {ep:Nat},s₁.heap.get? b=MN->o.data=.dict es ep->H b=none:=fun {b o es ep} e d=>by
   cases q:H b with
   | none=>rfl
   | some u =>
    have e':b=a:=hA b (by rw [q]; simp);subst e';rw [ha] at e; cases e
    have d':Data.seq Zd _=Data.dict es ep:=d;cases d'
  have nsK:∀ {b:Addr} {m:Str->Ms},s₁.heap.Ns b m->(vR s₁.heap H).Ns b m:=fun {b m} ⟨o,es,ep,e,d,r⟩=>(iR o es ep (base_of e (noA e d)) d r)
  have hKb:K.In (vR s₁.heap H):=[RU,base_of (KX b o e) (by
   cases q:H b with
   | none=>rfl
   | some u =>
    have e':b=a:=hA b (by rw [q]; simp);subst e';rw [hK (by rw [q]; simp)] at e; cases e)]
  have hM:Mod K mg (vR s₁.heap H):=⟨hKb,nsK hns,(af mb (nsK hb) hbb),let ⟨mc,h1,h2⟩:=hlim; (af mc (nsK h1) h2)⟩;have e0:Env0 P w K mg (vR s₁.heap H) callerA [] s₁ H:=⟨rfl,hM,[RU,Gj e],Nat.le_of_eq (CF _ _),trivial,[Pg,[O9,[Yh,b∈([]:RY),hb],Pz]],hok,.of_eq hg⟩;refine codeAny_mono ((F _ hKb (nsK hns)).run callerA [] s₁ H [Mw,[QM],[]] [QM] [QM] _ _ hr e0 (hbind s₁ VU) (.cons rfl .nil) (hsp H hO hS)) fun r s' h=>?_
  cases r with
  | error e=>exact (hCX H e s' h).elim
  | ok fl =>
   cases fl with
   | next=>exact [UZ,h]
   | brk=>exact [UZ,h]
   | cont=>exact [UZ,h]
   | ret u =>
    refine fz h fun v H' os bare un hok' zq0=>bZ zq0 fun r' q=>?_;clear zq0 h;have q':v=.bl true:=q;subst q';obtain rfl:u=Value.bool true:=r';refine (fI rfl (OldK.of_keep [RU,?_]) os bare);cases q:H b with
    | none=>exact un.keep b o e q (by intro z; exact [O9,[Yh,b∈([]:RY),z],Pz]) Pz
    | some u =>
     rcases hO b with z | ⟨ob,xs,z⟩
     .rw [q] at z; cases z
     .have z2:=un.frzs b ob _ z;obtain ⟨e1,_⟩:=hok b _ z;obtain ⟨e2,_⟩:=hok' b _ z2;rw [e] at e1; cases e1
      exact e2
 cases hk:K.lookup a with
 | some o =>
  have e:=KX a o hk;rw [ha] at e;cases e
  refine core [Qe,none] [Qe,Qf] ([PY,cj _ Zd _ hk rfl rfl rfl (aH (by rw [List.size_toArray,lenV]; exact hl) [Zh,rv])]) (fun b u z=>by have z':(none:[OM,HO])=NZ:=z; cases z') (fun b z=>[O9,rfl,z]) [OE,[O9,rfl,z]]
 | none =>
  refine core (fun b=>[Mj,b=a,[Mo,.frz { cls:=PF,data:=.seq Zd } [Pl,NS]],none]) (fun b=>?_) [T6,(.inr ⟨{ cls:=PF,data:=.seq Zd },U2⟩)] (fun b u z=>?_) (fun b z=>?_) fun _=>hk
  .by_cases hb:b=a
   .exact [PY,pQ _ _ ([P9,hb])]
   .exact .inl ([Ph,hb])
  .by_cases hb:b=a
   .have z':=([P9,hb]).symm.trans z;cases z'
    subst hb;exact (bM ha ([PQ,hl]) (bP vs _ rv ha))
   .have z':=([Ph,hb]).symm.trans z;cases z'
  .by_cases hb:b=a
   .exact hb
   .exact [O9,([Ph,hb]),z]
end L2
namespace L2
open PySem PySem.Spec PyProof.Rows
abbrev KOf {K:M3} {h:Heap} (_:K.In h):M3:=K
theorem G8 {l:PySem.W.OpenLaw} {n k:Nat} {q:Program} {loose:MB} {XP:(Str->Ms)->[Qp,Heap]} {YP:World->[Qp,Heap]} {d:DefRec} {K:Params->M3} {CX:World->CXT} {sp:World->Sp} {x:Str}
  (hn:l.most=some n) (hn2:[N4,n]) (hdf:d.params.defaults=[]) (hr:Room k callerA)
  (hY:∀ (w:World) (h:Heap),YP w h->(VJ).In h)
  (F:∀ (w:World) (mg:Str->Ms) (fa:Addr) (h:Heap),(VJ).In h->[Y2,mg]->mg d.name=[Mv,fa]-> ∃ fd:FuncData,(∀ (s:Shared) (u:Value),BindsTo s fd [Mw,[u],[]] [(x,u)])/\ ∀ base:Heap,(VJ).In base->[XA,mg]->FnOk l.prog w (VJ) mg base (CX w) k fa fd [x] (sp w))
  (hsp:∀ (w:World) (H:Hp) (a:Addr) (ns:Nk),OY<=n->Hb H->SqL (VJ) H a (NS)->sp w [QM] H (fun v _=>v=.bl true) fun _ _ _=>False)
  (hCX:∀ (w:World) (H:Hp) (s:Shared) (e:Value) (s':Shared),CX w [] H s (fun _ _ _=>False) e s'->False) :
  PySem.W.WalkO q loose XP YP l.row.toRowW d [] (fun f vs=>PySem.call f vs):=by
 refine Att.xA hn hdf fun w s₀ s₁ mg mb fa o pm cd doc a vs ns G Y ho hd hcd hmg hobj hints hlen hg=>?_
 have KX:=hY w _ Y;refine [NC,F w mg fa _ KX G.T.g hmg,fun fd hb hF=>?_]
 exact Dw KX G.T.g G.T.b G.T.builtins G.T.nolimit hg hobj hints ([Qi,hlen,hn2]) hr hF hb (fun H hO hS=>hsp w H a ns hlen hO hS) fun H e s'=>hCX w H s₁ e s'
theorem Dx {l:PySem.W.OpenLaw} {n k:Nat} {q:Program} {loose:MB} {XP:(Str->Ms)->[Qp,Heap]} {YP:World->[Qp,Heap]} {d:DefRec} {K:Params->M3} {CX:CXT} {sp:M3->Sp} {x:Str}
  (hn:l.most=some n) (hn2:[N4,n]) (hdf:d.params.defaults=[]) (hr:Room k callerA)
  (hY:∀ (w:World) (h:Heap),YP w h->(VJ).In h)
  (F:∀ (w:World) (mg:Str->Ms) (fa:Addr) (h:Heap),(VJ).In h->[Y2,mg]->mg d.name=[Mv,fa]-> ∃ fd:FuncData,(∀ (s:Shared) (u:Value),BindsTo s fd [Mw,[u],[]] [(x,u)])/\ ∀ base:Heap,(VJ).In base->[XA,mg]->FnOk l.prog w (VJ) mg base CX k fa fd [x] (sp (VJ)))
  (hsp:∀ (K:M3) (H:Hp) (a:Addr) (ns:Nk),OY<=n->Hb H->SqL K H a (NS)->sp K [QM] H (fun v _=>v=.bl true) fun _ _ _=>False)
  (hCX:∀ (H:Hp) (s:Shared) (e:Value) (s':Shared),CX [] H s (fun _ _ _=>False) e s'->False) :
  PySem.W.WalkO q loose XP YP l.row.toRowW d [] (fun f vs=>PySem.call f vs) :=
 G8 (K:=K) (CX:=fun _=>CX) (sp:=fun w=>sp (VJ)) hn hn2 hdf hr hY F (fun w H a ns h1 h2 h3=>hsp (VJ) H a ns h1 h2 h3) fun _ H s e s'=>hCX H s e s'
end L2
namespace L2
open PySem PySem.Spec PyProof.Rows
def inClass (s:Stmt) (j:Nat):Stmt:=match s with
 | .ClassDef _ _ _ body _ _ _ _ _ _ _=>body.getD j (.Pass ⟨0,0,0,0⟩)
 | _=>.Pass ⟨0,0,0,0⟩
def f6 (s:Stmt):Arguments:=match s with
 | .FunctionDef _ a _ _ _ _ _ _ _ _=>a
 | _=>{ posonlyargs:=[],args:=[],vararg:=none,kwonlyargs:=[],kw_defaults:=[],kwarg:=none,defaults:=[] }
def eX (s:Stmt):WG:=match s with
 | .FunctionDef _ _ b _ _ _ _ _ _ _=>b
 | _=>[]
def ay (s:Stmt):Scope:=match s with
 | .FunctionDef _ _ _ _ _ _ sc _ _ _=>sc
 | _=>{ kind:=.function,names:=[],isGenerator:=false,isCoroutine:=false }
abbrev CX0:CXT:=fun _ _ _ _ _ _=>False
abbrev E0:XK:=fun _ _ _=>False
theorem dJ {X:Cx}:Passes CX0 X E0:=fun _ _ _ _ _ _ _ h=>h.elim
structure Fun (K:PySem.W.Frag) (x qual:Str) (st:Stmt) (f:Addr) (fd:FuncData):Prop where
 ex:∃ (oc:Value) (od:Option Addr) (kV doc pm:Value) (an:Option Addr) (cdv ct:Value) (osl:Array (Option Value)),
  fd=PySem.W.fnOf x qual (f6 st) (eX st) (ay st) .none kV doc pm an cdv ct/\K.lookup f=some ⟨oc,od,.func fd,osl⟩/\PySem.W.codeIn K cdv qual=true
 kp:PySem.W.keepIn K (.ref f)=true
section
variable {P:Program} {w:World} {K:M3} {mg:Str->Ms} {base:Heap}
theorem Fun.ok {x qual:Str} {st:Stmt} {f:Addr} {fd:FuncData} {N ps:MB} {k:Nat} {sp:Sp} (F:[UG,x,qual,st]) (S:[QI,N,ps,st]) (len:∀ vs H Q E,sp vs H Q E->Ro=Rn)
  (hbody:∀ (cdv:Value) (A:Around) (outer:Sk) (s:Shared) (H:Hp) (vs:Nz) (Q:VK) (E:XK),Room k (A.deeper (envOfC qual (ay st) L7 f cdv))->sp vs H Q E-> ∃ t,PSs (jK CX0 P w K mg base N qual (ay st) f cdv A outer s H E).nox (eX st) t/\t { nx:=fun _ H'=>Q .non H',rt:=Q } (start N vs) H):FnOk P w K mg base CX0 (k+1) f fd ps sp:=by
 refine bN F.ex fun oc od kV doc zq0=>bN zq0 fun pm an cdv ct zq1=>bp zq1 fun osl ze6 lk hcd=>?_;clear zq0 zq1;subst ze6;refine IA lk hcd S len fun A outer s H vs Q E hr hsp=>?_
 refine [NC,hbody cdv A outer s H vs Q E hr hsp,fun t h q=>?_]
 exact (af t h.nox q)
theorem Fun.binds {x qual:Str} {st:Stmt} {f:Addr} {fd:FuncData} {ps:MB} (F:[UG,x,qual,st])
  (h:∀ (kV doc pm:Value) (an:SH) (cdv ct:Value) (us:MS),us.length=Rn->bindArgs (PySem.W.fnOf x qual (f6 st) (eX st) (ay st) .none kV doc pm an cdv ct) [Mw,us,[]]=pure (ps.zip us)):[TB,K,fd,ps]:=by
 refine bN F.ex fun oc od kV doc zq0=>bN zq0 fun pm an cdv ct zq1=>bp zq1 fun osl ze7 lk hcd=>?_;clear zq0 zq1;subst ze7;exact .all (h kV doc pm an cdv ct)
theorem Ai {x qual:Str} {st:Stmt} {f:Addr} {oc:Value} {od an:SH} {osl:Array (Ms)} {kV doc pm cdv ct:Value} (l:K.lookup f=some ⟨oc,od,.func (PySem.W.fnOf x qual (f6 st) (eX st) (ay st) .none kV doc pm an cdv ct),osl⟩)
  (c:PySem.W.codeIn K cdv qual=true) (k:[Rr,K,f]=true):Fun K x qual st f (PySem.W.fnOf x qual (f6 st) (eX st) (ay st) .none kV doc pm an cdv ct):=[Mw,(cf oc od kV doc (cf pm an cdv ct ([Oz,osl,l,c]))),k]
end
theorem wb {A:Around} {k:Nat} (hr:Room k A):A.units+1<cLine:=Nat.lt_of_le_of_lt (Nat.add_le_add_left (Tt:1<=64) _) hr.units
theorem aM {n:Nat} (h:n<=1000):n<sizeLine:=Nat.lt_of_le_of_lt h M0
section
variable {X:Cx}
theorem pv (i:Nat) {x:Str} {pos:Pos} (hN:X.N[i]?=OV:=by rfl) (hv:Vis X7 x:=by first | exact Mp | exact Or.inr OG | exact Or.inr (Yq)) (hd:[Vb,x == Ry]:=by decide)
  (hcd:[Vb,(x == [Rk,"__classdict__"])]:=by decide):PE X ([Zs,pos]) (Lc i):=Ji hN hv hd hcd
end
theorem cw {A B:Prop} (h:B):[Mj,false=true,A,B]:=by
 rw [[Ph,MZ]];exact h
theorem cv {A B:Prop} (h:A):[Mj,true=true,A,B]:=by
 rw [U2];exact h
theorem dC {c A B:Prop} [Decidable c] (h1:c->A) (h2:¬ c->B):[Mj,c,A,B]:=by
 by_cases h:c
 .rw [[P9,h]];exact h1 h
 .rw [[Ph,h]];exact h2 h
def Same (H H':Hp):Prop:=[Ym,H b=MN,H' b=MN]
theorem Same.refl (H:Hp):[Pc,H]:=fun _ _ h=>h
theorem Same.trans {H H1 H2:Hp} (a:[Pc,H1]) (b:Same H1 H2):[Pc,H2]:=fun c o h=>b c o (a c o h)
theorem Same.free {H H':Hp} (e:Pk) {l:Addr} (h:H' l=Option.none):H l=Option.none:=by
 cases q:H l with
 | none=>rfl
 | some o =>
  rw [e l o q] at h;cases h
theorem Same.seq {K:M3} {H H':Hp} {a:Addr} {xs:Nz} (e:Pk) (h:SqL K H a xs):SqL K H' a xs:=by
 rcases h with (h | ⟨o,h⟩) | h
 .exact .inl [T6,e _ _ h]
 .exact .inl (.inr [Mw,o,e _ _ h])
 .exact .inr h
end L2
set_option maxHeartbeats 4000000
namespace L2
open PySem PySem.Spec PyProof.Rows
def Big (i:Int):Prop:=i.natAbs<2 ^ 4000
theorem log2_lt_of {n m:Nat} (h:n<2 ^ m) (hm:0<m):n.log2<m:=by
 rcases Nat.eq_zero_or_pos n with h0 | hp
 .rw [h0];exact Nat.lt_of_le_of_lt M0 hm
 .exact (Nat.log2_lt ([Uw,hp])).mpr h
def Kx (_ j:Int):Prop:=0<j/\Big j
section
variable {X:Cx}
theorem wj:OpR X (binaryOp .FloorDiv) (rI Kx fun i j=>[Va,i / j]):=opI fun i j _ _ _ _ _ hc q=>by
 have h1:Zl<j:=hc.1;have h2:j.natAbs.log2<4000:=log2_lt_of hc.2 M0;exact floordiv_int L6 (by rw [Int.fdiv_eq_ediv_of_nonneg i (by omega)]; exact q) [T6,PyProof.noPylong_of_log2 L6]
theorem xC:dM X ([Sl,"isinstance"]) ([Tb,∃ (x c:V) (t:Value) (b:Bool),xs=[x,c]/\TyOf X.K H x t/\(∃ u,[WE,c]/\(∀ u',RelV c u'->u'=u)/\PySem.W.kitOne X.K t u=QZ)/\Q (.bl b) H]):=by
 intro pins s σ H xs us Q I r h;refine F3 h fun x c t b eq1 ty pp2 q=>?_;clear h;subst eq1;obtain ⟨u,_,hu,e⟩:=pp2;refine aX (vals2 r :) fun u1 u2 eq3 r1 r2=>?_;subst eq3;have e2:=hu u2 r2;subst e2;exact BK I r1 ty e fun tk=>([YU,.bl b,H,SN,q])
def Ls (K:M3) (n:String):Nz->Hp->Sr:=[Tb,∃ (x:V) (t:Value) (b:Bool),xs=[x,.ty n]/\TyOf K H x t/\[Om,t,[Sx,n]]=QZ/\Q (.bl b) H]
theorem dI (n:String):dM X ([Sl,"isinstance"]) (Ls X.K n):=by
 intro pins s σ H xs us Q I r h;refine jF h fun x t b eq4 ty e q=>?_;clear h;subst eq4;exact xC pins s σ H _ us Q I r (rL x (.ty n) t b rfl ty ([Oz,[Sx,n],(fun u' h'=>h'),e]) q)
theorem Inv.turnedNew {pins:Px} {σ:St} {H:Hp} {s:Shared} {h':Heap} {t':Nat} {ch:RY} {a:Addr} {o:HO} (I:Rw) (k:∀ b u,b∉ch->Xz=NZ->Zk=NZ)
  (hf:[Ru,ch,kS X pins H b]) (hp:L7<=a) (new:[V1,X.w,upd H a o,h',a,o]):[NP,X,σ,upd H a o,s,h',t']:=by
 have na:H a=none:=[S7,hp];have nch:∀ b u,H b=NZ->b∉ch:=fun b u e z=>by
  have:=(hf b z).1;rw [this] at e;cases e
 refine I.step (g':=s.gens) (d':=s.drawn) (ch:=ch) ([Pg,?_]) (fun b u _ _ hc e _=>k b u hc e) (fun b u _ _ hc e _=>[Mw,u.slots,k b u hc e]) (fun b u _ e n=>?_) (fun b u hc e=>[Mw,u,k b u hc e]) (fun b xs e=>by rw [aK (aV e na)]; exact e) (fun b u v e=>by rw [aK (aV e na)]; exact e) (fun b ps e=>[Mw,#[],by rw [aK (aV e na),e]; simp]) (fun m hm=>?_) (fun b u e=>?_) I.bare
 .refine dE (hf b hb :) fun _ f1 _ f3 pq0=>bZ pq0 Uz;clear pq0;exact (fI f3 f1 f4 f5)
 .have hne:b≠a:=[Ol,([NR,Vt,hp])];rw [aK hne];exact n
 .refine dZ hm fun ob es ep ho r=>?_;clear hm;exact (pU ob es ep (k _ ob [UK,(hf _ z).2.1 rfl] ho) r)
 .by_cases hb:b=a
  .subst hb;rw [aq] at e;cases e
   exact new
  .rw [aK hb] at e;refine (I.hok b u e).stay (fun c v hc q=>k c v ?_ q) (fun c q=>by rw [aK (aV q na)]; exact q) fun c xs q=>by rw [aK (aV q na)]; exact q
   rcases hc with z | z
   .rw [z]; exact nch b u e
   .exact nch c _ z
theorem Inv.turnedL {pins:Px} {σ:St} {H:Hp} {s:Shared} {h':Heap} {t':Nat} {ch:RY} (I:Rw) (k:∀ b u,b∉ch->Xz=NZ->Zk=NZ)
  (hf:[Ru,ch,kS X pins H b]):[NP,X,σ,H,s,h',t']:=by
 have nch:∀ b u,H b=NZ->b∉ch:=fun b u e z=>by
  have:=(hf b z).1;rw [this] at e;cases e
 refine I.step (g':=s.gens) (d':=s.drawn) (ch:=ch) ([Pg,?_]) (fun b u _ _ hc e _=>k b u hc e) (fun b u _ _ hc e _=>[Mw,u.slots,k b u hc e]) (fun b u _ e n=>n) (fun b u hc e=>[Mw,u,k b u hc e]) (fun b xs e=>e) (fun b u v e=>e) (fun b ps e=>[Mw,#[],by rw [e]; simp]) (fun m hm=>?_) (fun b u e=>?_) I.bare
 .refine dE (hf b hb :) fun _ f1 _ f3 pq0=>bZ pq0 Uz;clear pq0;exact (fI f3 f1 f4 f5)
 .refine dZ hm fun ob es ep ho r=>?_;clear hm;exact (pU ob es ep (k _ ob [UK,(hf _ z).2.1 rfl] ho) r)
 .refine (I.hok b u e).stay (fun c v hc q=>k c v ?_ q) (fun c q=>q) fun c xs q=>q
  rcases hc with z | z
  .rw [z]; exact nch b u e
  .exact nch c _ z
end
def Ite (K:M3) (a:Addr):It :=
 ⟨fun i H=>∃ xs x,SqL K H a xs/\xs[i]?=OV,fun i H v H'=>∃ T x,H T=none/\H'=[Rz,H,T,[[MH,i],x]]/\v=.ref T/\∀ xs,SqL K H a xs->xs[i]?=OV,fun i H=>∃ xs,SqL K H a xs/\Mh<=i⟩
theorem B7 {P:Program} {w:World} {K:M3} {elts:OR} {x1:Nat} {tp:Pos} (a e it:Addr) (hei:e≠it) :
  Turn P w K (.Tuple elts x1 tp) (Ite K a) [e,it] e (fun i h=>(∃ old,IsEnum h e it i old)/\h.IsListIter it a i) where
 mem:=MJ
 obj:=fun i h st b hb=>by
  obtain ⟨⟨old,he⟩,⟨o,e1,c,d⟩⟩:=st;rcases List.mem_cons.mp hb with z | z
  .subst z;exact (af _ he (fun v q=>[PL,q]))
  .have z':b=it:=[Ml,z]
   subst z';exact (af o e1 (fun v q=>by rw [d] at q; cases q))
 keep:=fun i h h' st k=>[Mw,st.1.elim fun old he=>[Mw,old,k e Pz _ he],st.2.at fun o q=>k it Pz o q]
 item:=by
  intro X hP hw hK hc i pins s σ H E I hf st hg;subst hP hw hK;refine bU hg fun xs x hq hx=>?_;clear hg;refine [Yo,hq,Wq]
  refine [NC,rv.get hx,Wd]
  obtain ⟨⟨old,he⟩,hit⟩:=st;refine wpAny_pyNext_enum_item he hit p.isList (x:=u) [Zh,hu] hei fun h' ho hit' hT hsz hk=>?_
  have helt:e<L7:=[Nm,he];have hilt:it<L7:=by refine ar hit fun _ q _=>?_;clear hit; exact [Nm,q]
  refine ND;refine wpAny_letOwnedTupleGo_enum ho fun h2 he2 hs2=>?_
  have k2:[Ym,b∉[e,it],Xz=MN->h2.get? b=MN]:=fun b o hb q=>by
   have n1:b≠e:=[OE,hb (YK)]
   have n2:b≠it:=[OE,hb (YK)]
   exact [Q9,hs2.2 b n1,hk b o n1 n2 q]
  have t2:h2.get? L7=[Qk,OS,.seq #[.int i s.toks,u]]:=[Q9,hs2.2 _ ([Uw,helt]),hT];have hn:H L7=none:=[S7,Tx];have new:[V1,X.w,([Rz,H,L7,[[MH,i],x]]),h2,L7,[Rj,[[MH,i],x]]] :=
   (aH (Rv) (af [.int i s.toks,u] (.cons VT (.cons ru .nil)) (aC _ t2 rfl (e8 _ rfl))))
  have I2:[NP,X,σ,([Rz,H,L7,[[MH,i],x]]),s,h2,s.toks+1]:=I.turnedNew k2 hf Tx new;refine (cD Vv _ I2 rfl (bJ L7 x hn rfl rfl (fun ys hy=>by rw [I.list_inj hy hq]; exact hx)) [Mw,[W4,u],hit'.at fun o q=>[Q9,hs2.2 it hei.symm,q]] ([Pg,?_]))
  .simpa using he2
  .have hb1:b≠L7:=by
    rcases List.mem_cons.mp hb with z | z
    .rw [z]; exact [Ol,helt]
    .have z':b=it:=[Ml,z]
     rw [z']; exact [Ol,hilt]
   rw [aK hb1];exact (hf b hb).1
 done:=by
  intro X hP hw hK hc i pins s σ H E I hf st hg;subst hP hw hK;refine ar hg fun xs hq hx=>?_;clear hg;refine [Yo,hq,Wq]
  obtain ⟨⟨old,he⟩,hit⟩:=st;have hl:=Y4;refine wpAny_pyNext_enum_end (Q4) he hit p.isList (by simp; omega) fun h' eb=>[P7,?_]
  exact I.turnedL (t':=s.toks) (fun b o hb q=>eb b o [UK,hb (YK)] q) hf
 self:=fun _ _ _ _ _ st h=>by
  obtain ⟨⟨old,he⟩,_⟩:=st;exact wpAny_pyIter_enum he h
section
variable {X:Cx}
def Lr (K:M3) (ta:TA):TI:=fun σ H R=>ta σ H fun vs H1=>∃ a,vs=[QM]/\(∃ xs,SqL K H1 a xs)/\R (Ite K a) H1
theorem HZ {a:Expr} {ta:TA} {p pos tp:Pos} {elts:OR} {x1:Nat} (hg:Gl X U5) (hm:X.mg U5=none) (ha:PA X [a] ta) (hs:[N3,[a]]=[(false,[Oa,a])]:=by rfl) :
  PI X (.Tuple elts x1 tp) ([UM,.Name U5 p,[a],[]]) (Lr X.K ta):=by
 intro pins s σ H R I h;refine Call_ (iy I hg hm boot_enumerate ([Rh,[ZS,ha pos pins s σ H _ I h,fun us s1 pr=>aX pr fun vs H1 I1 r1 q1=>?_],hs,rfl]));refine bp q1 fun l e pp6 q=>?_;clear q1;obtain ⟨xs,hx⟩:=pp6;subst e;refine [NC,vals1 r1,fun u eq7 ru=>?_];subst eq7;cases ru
 refine bp (I1.list hx :) fun its rv pl hz=>?_
 refine call_enumerate_list V6 fun h' he hit hsz hk=>?_
 refine wpAny_pyIter_enum he ?_;have hfp:[Ru,[MD+1,MD],kS X pins H1 b]:=[Pg,by
  have hge:MD<=b:=by
   rcases List.mem_cons.mp hb with z | z
   .omega
   .have z':b=MD:=[Ml,z]
    omega
  exact I1.fpOk hge (I1.hok.fresh hge)]
 exact (cf (MD+1) [MD+1,MD] _ _ (eY H1 rfl (I1.kept (t':=s1.toks) hk) (B7 l _ _ (Nat.succ_ne_self _)) [Mw,[T7,he],hit] (aH hfp q)))
end
theorem Fs {K:M3} {a:Addr} {xs:Nz} {g:TG} {tb:TS} {D:Ends} {σ:St} {H:Hp} (Pv:Nat->St->Qr) (h0:Pv 0 σ H) (hl:∀ i σ H,i<=Mh->Pv i σ H->SqL K H a xs)
  (hs:∀ i x σ H T,xs[i]?=OV->Pv i σ H->H T=none->g [MT,T] σ ([Rz,H,T,[[MH,i],x]]) [Of,D,Pv (i+1),Pv (i+1),D.nx,σ2,H2]) (hd:∀ σ H,Pv Mh σ H->[Yp,H]) :
  ∃ W:Nat->Nat->St->Qr,(∃ m,W 0 m σ H)/\∀ i m σ H,W i m σ H-> ((Ite K a).stop i H/\[Yp,H])\/((Ite K a).go i H/\∃ N:St->Qr,(∀ σ' H',N YL H'->∃ m',m'<m/\W (i+1) m' YL H')/\∀ x H',(Ite K a).yld i H x H'->g x σ H' [Of,D,N,N,D.nx,σ2,H2]):=by
 refine [Yt,(fun i m σ H=>m=Mh - i/\i<=Mh/\Pv i σ H),aC Mh Pz (OX) h0];intro i m σ H pr;refine cb pr fun eq8 hi p=>?_;clear pr;subst eq8;have q:=hl i σ H hi p;by_cases hlt:i<Mh
 .refine .inr ⟨⟨xs,xs[i],q,by simp [hlt]⟩,Pv (i+1),fun σ' H' p'=>⟨Mh - (i+1),Mr,rfl,hlt,p'⟩,fun v H' y=>?_⟩;obtain ⟨T,x,hT,e1,e2,y⟩:=y;subst e1 e2;exact hs i x σ H T (y xs q) p hT
 .have e:i=Mh:=Mr
  subst e;exact .inl [Mw,af xs q Tx,hd σ H p]
section
variable {prog:Program} {w:World} {A:Around} {E:Qc} {s:Shared}
theorem sS {it l:Addr} {items:Nr} (hne:l≠it):∀ (n i:Nat) (s:Shared) (Q:MS->NM),s.heap.IsListIter it l i->s.heap.IsList l items->i+n<=Ni-> (∀ h',h'.IsListIter it l (i+n)->[Tv,it,h']->[Pu,(([Xq,i]).take n),h'])->[SK,Vl,A,draw ZP n,Q,E]
 | 0,i,s,Q,hit,_,_,hQ=>by
  show [SK,_,_,pure [],Q,E];exact [MO,[Zh,hQ s.heap hit (Heap.SameBut.refl ..)]]
 | n+1,i,s,Q,hit,ht,hle,hQ=>by
  have hlt:i<Ni:=Mr
  show [SK,_,_,pyNext ZP >>= _,Q,E];refine [O0,wpAny_pyNext_list_item hit ht (x:=items[i]) (by simp [hlt]) fun h₁ hit₁ hs₁=>?_];refine [O0,[SS,(sS hne n (i+1) _ _ hit₁ (ht.extBut hs₁.extBut hne) L6 fun h₂ hit₂ hs₂=>RG)]];have hd:[Xq,i]=items[i]::[Xq,i+1]:=by simp [List.drop_eq_getElem_cons,hlt]
  have:=hQ h₂ (by rw [show i+(n+1)=i+1+n by omega]; exact hit₂) (hs₁.trans hs₂);rw [hd,List.take_succ_cons] at this;exact this
theorem nq {t:Addr} {items:Nr} {Q:MS->NM} (hh:TZ=none) (ht:s.heap.IsList t items)
  (hQ:∀ h',[WM,L7,h']->[Pu,items.toList,h']):[SK,Vl,A,unpackItems [MT,t] Ni none,Q,E]:=by
 have hlt:t≠L7:=by refine ar ht fun o ho _=>?_;clear ht; exact [Ol,([Nm,ho])]
 unfold unpackItems;refine [M9,?_]
 .unfold notIterableAtAll;refine [O0,wpAny_specialOf Xa F.slot_list_iter.lookup ?_];refine RG;simp only [Bool.false_eq_true,if_false];refine [O0,[SS,([XY,ht,?_])]];have hpush:∀ o,Heap.IsList ([YE,o]) t items:=fun o=>ht.at fun o' e=>[M8,e]
  refine [O0,[SS,(sS hlt Ni 0 _ _ (aC _ (Ub) rfl rfl) (hpush _) L6 fun h₁ hit₁ hs₁=>?_)]];have hall:List.take Ni (List.drop 0 items.toList)=items.toList:=by
   rw [Ze]; exact [Oy,Pz]
  rw [hall];rw [[Ph,Pz]];have ht₁:h₁.IsList t items:=(hpush _).extBut hs₁.extBut hlt;refine [O0,[SS,(wpAny_pyNext_list_end hh hit₁ ht₁ Pz fun h₂ he₂=>?_)]];simp only [Option.isSome_none,Bool.false_eq_true,if_false];refine [MO,(hQ h₂ [Wk,he₂ b o hb (hs₁.extBut b o hb ([M8,e]))])]
theorem vU {t:Addr} {items:Nr} {targets:[Pe,Bool,([Q6,Sem Unit])]} {Q:Unit->NM} (hh:TZ=none) (ht:s.heap.IsList t items)
  (hn:targets.length=Ni) (hstar:targets.findIdx? OB=none)
  (h:∀ h',[WM,L7,h']->wpAny Vl A (assignInOrder (targets.map (·.2)) items.toList) Q E { s with heap:=h' }) :
  [SK,Vl,A,unpack [MT,t] targets,Q,E]:=by
 unfold unpack;rw [hn,hstar];exact [O0,[SS,nq hh ht h]]
end
section
variable {X:Cx} {pos:Pos}
def Ll (K:M3) (n:Nat) (t:TGs):TG:=fun v σ H Q=>∃ a xs,v=QM/\SqL K H a xs/\Mh=n/\t xs σ H Q
theorem Ih {es:OR} {k:Nat} {t:TGs} {n:Nat} (hc:X.calm=true) (h:PGs X es t)
  (hn:[MP,[Us,es]]=n:=by rfl) (hst:([Us,es]).findIdx? OB=none:=by rfl):PG X (.Tuple es k pos) (Ll X.K n t):=by
 intro pins s σ H v u Q I r hw;obtain ⟨a,xs,e1,hq,hl,hw⟩:=hw;subst e1;cases r
 obtain ⟨its,rv,ht,hz⟩:=I.list hq;rw [assign_Tuple];refine [O0,wpAny_standAt (vU (Q4) ht.isList (by simp [hn,<- hl,rv.length]) hst fun h' hx=>?_)];have I1:[Ts,X,σ,H,s,h']:=I.kept (t':=s.toks) [RU,hx b o ([Ol,Vt]) e]
 exact h pins _ σ H xs _ Q I1 [Zh,rv] hw
end
structure Cal (P:Program) (w:World) (K:PySem.W.Frag) (mg:Str->Option Value) (base:Heap) (k:Nat) (x:Str) (ps:List Str) (sp:Sp):Prop where
 ex:∃ (f:Addr) (fd:FuncData),FnOk P w K mg base CX0 k f fd ps sp/\Binds K fd ps []/\PySem.W.keepIn K (.ref f)=true/\mg x=some (.ref f)
section
variable {X:Cx} {k j:Nat} {x:Str} {ps:MB} {sp:Sp} {p pos:Pos} {e:Expr} {es:OR} {t:TA}
theorem aW (C:Cal X.prog X.w X.K X.mg X.base k x ps sp) (hr:Room j X.A) (hj:k<=j) (hg:Gl X x) (ha:PA X (e::es) t) (hdb:[Vb,x == Ry]:=by decide) (he:[N3,e::es]=(false,[Oa,e])::Um:=by rfl) (hpl:[Vb,([Xf,Um]).any OB]:=by rfl) :
  PE X ([UM,([Zs,p]),e::es,[]]) (AF sp [] E0 t):=by
 refine e9 C.ex fun f fd G b kp m=>?_
 exact AX G (hr.mono hj) hg m kp b .nil dJ ha hdb he hpl
end
theorem aw {H:Hp} {p:Addr} (h:H p=none) (o:HO):[Pc,upd H p o]:=fun b u q=>by rw [aK (aV q h)]; exact q
theorem Same.upd {H H1:Hp} {p:Addr} (s:[Pc,H1]) (h:H p=none) (o:HO):[Pc,upd H1 p o]:=fun b u q=>by rw [aK (aV q h)]; exact s b u q
theorem small {n:Nat} (h:n<=1000):[N4,n]:=Nat.le_of_lt (aM h)
end L2
namespace L2
open PySem PySem.Spec PyProof.Rows
structure FunAt (K:PySem.W.Frag) (x:Str) (st:Stmt):Prop where
 ex:∃ (f:Addr) (fd:FuncData),Fun K x x st f fd/\PySem.W.nsIn K mainGlobals x=some (some (.ref f))
theorem Ex {K:M3} {x:Str} {st:Stmt} {f:Addr} {oc:Value} {od an:SH} {osl:Array (Ms)} {kV doc pm cdv ct:Value} (a:[MW,K,x]=[Mo,[Mv,f]])
  (l:K.lookup f=some ⟨oc,od,.func (PySem.W.fnOf x x (f6 st) (eX st) (ay st) .none kV doc pm an cdv ct),osl⟩)
  (c:PySem.W.codeIn K cdv x=true) (k:[Rr,K,f]=true):[QA,x,st]:=⟨f,_,Ai (st:=st) l c k,a⟩
theorem FunAt.cal {P:Program} {w:World} {K:M3} {h base:Heap} {mg:Str->Ms} {x:Str} {st:Stmt} {ps:MB} {k:Nat} {sp:Sp} (F:[QA,x,st]) (X:K.In h) (G:[Y2,mg])
  (hb:∀ (kV doc pm:Value) (an:SH) (cdv ct:Value) (us:MS),us.length=Rn->bindArgs (PySem.W.fnOf x x (f6 st) (eX st) (ay st) .none kV doc pm an cdv ct) [Mw,us,[]]=pure (ps.zip us))
  (ok:∀ (f:Addr) (fd:FuncData),[UG,x,x,st]->FnOk P w K mg base CX0 k f fd ps sp):[R3,k,x,ps,sp]:=by
 refine bU F.ex fun f fd F1 a=>?_
 exact ⟨f,fd,ok f fd F1,F1.binds hb,F1.kp,[SJ,G,a]⟩
theorem FunAt.law {P:Program} {w:World} {K:M3} {h:Heap} {mg:Str->Ms} {x p:Str} {st:Stmt} {fa:Addr} {k:Nat} {sp:Sp} (F:[QA,x,st]) (X:K.In h) (G:[Y2,mg]) (hfa:mg x=[Mv,fa])
  (hb:∀ (kV doc pm:Value) (an:SH) (cdv ct:Value) (u:Value),bindArgs (PySem.W.fnOf x x (f6 st) (eX st) (ay st) .none kV doc pm an cdv ct) [Mw,[u],[]]=pure [(p,u)])
  (ok:∀ (base:Heap),K.In base->[XA,mg]->∀ (f:Addr) (fd:FuncData),[UG,x,x,st]->FnOk P w K mg base CX0 k f fd [p] sp) :
  ∃ fd:FuncData,(∀ (s:Shared) (u:Value),BindsTo s fd [Mw,[u],[]] [(p,u)])/\∀ base:Heap,K.In base->[XA,mg]->FnOk P w K mg base CX0 k fa fd [p] sp:=by
 refine bU F.ex fun f fd F1 a=>?_
 have e:=hfa.symm.trans ([SJ,G,a]);cases e
 refine (af fd (fun s u=>?_) (fun base kb nb=>ok base kb nb _ fd F1));refine bN F1.ex fun oc od kV doc pq0=>bN pq0 fun pm an cdv ct pq1=>bp pq1 fun osl eq1 lk hcd=>?_;clear pq0 pq1;subst eq1;exact .of_eq (hb kV doc pm an cdv ct u)
end L2
namespace L2
open PySem PySem.Spec PyProof.Rows
theorem hU {K:M3} {x qual:Str} {st:Stmt} {f:Addr} {oc:Value} {od an:SH} {osl:Array (Ms)} {kV doc pm cdv ct:Value}
  (l:K.lookup f=some ⟨oc,od,.func (PySem.W.fnOf x qual (f6 st) (eX st) (ay st) .none kV doc pm an cdv ct),osl⟩)
  (c:PySem.W.codeIn K cdv qual=true) (k:[Rr,K,f]=true):∃ fd,[UG,x,qual,st]:=[T7,Ai (st:=st) l c k]
end L2
namespace L2
open PySem PySem.Spec PyProof.Rows
theorem d9:∀ (names:[V3,NameKind]) (n:Nat) (acc:[V3,Addr]),cellsFrom n names acc=cellsFrom n names []++acc
 | [],_,_=>rfl
 | (x,k)::r,n,acc=>by
  unfold cellsFrom;split
  .rw [d9 r (n+1) ((x,n)::acc),d9 r (n+1) [(x,n)],QK];rfl
  .exact d9 r n acc
theorem gU {y:Str}:∀ (names:[V3,NameKind]) (n:Nat),(∀ k,(y,k)∈names->k≠.cell)->(cellsFrom n names []).lookup y=none
 | [],_,_=>rfl
 | (x,k)::r,n,h=>by
  have hr:∀ k,(y,k)∈r->k≠.cell:=fun k' hk=>h k' ([MX,hk])
  unfold cellsFrom;split
  .rename_i hk;rw [d9,X2,gU r (n+1) hr];have hne:[Vb,y == x]:=by
    cases e:(y == x) with
    | false=>rfl
    | true =>
     have e':y=x:=[WD,e];subst e';exact [O9,([WD,hk]),h k ME]
   show Option.or none (List.lookup y [(x,n)])=none;rw [List.lookup_cons,hne];rfl
  .exact gU r n hr
theorem jE {env:Env} (f:Str×NameKind->[V3,Addr]->Sem (ForInStep ([V3,Addr])))
  (hf:∀ name kind cs,f (name,kind) cs=[Mj,kind == .free,(do let a <- cellOf env name; pure (.yield ((name,a)::cs))),pure (.yield cs)]) :
  ∀ (names:[V3,NameKind]) (acc:[V3,Addr]),(∀ y∈names,y.2=.free->∃ c,[VB,y.1]=Qj)->(∀ y c,acc.lookup y=Qj->[VB,y]=Qj)-> ∃ cl,forIn names acc f=pure cl/\(∀ y c,cl.lookup y=Qj->[VB,y]=Qj)/\(∀ y c,acc.lookup y=Qj->∃ c',cl.lookup y=some c')/\∀ y∈names,y.2=.free->∃ c,cl.lookup y.1=Qj
 | [],acc,_,ha=>(cC acc (by rw [List.forIn_nil]) ha (fun y c e=>[Mw,c,e]) (fun y hy=>[PL,hy]))
 | (x,k)::r,acc,hc,ha=>by
  have hr:∀ y∈r,y.2=.free->∃ c,[VB,y.1]=Qj:=fun y hy=>hc y ([MX,hy])
  by_cases hk:k=.free
  .obtain ⟨c,ec⟩:=hc (x,k) ME hk;have ha':∀ y d,((x,c)::acc).lookup y=some d->[VB,y]=some d:=fun y d e=>by
    rw [List.lookup_cons] at e;cases q:(y == x) with
    | true =>
     rw [q] at e;have e1:c=d:=[Mq,e];rw [[WD,q],<- e1];exact ec
    | false=>rw [q] at e; exact ha y d e
   refine iD (jE f hf r ((x,c)::acc) hr ha' :) fun cl h1 h2 h3 h4=>?_
   refine (cC cl ?_ h2 (fun y d e=>?_) (fun y hy hf=>?_))
   .rw [VG,hf,[P9,(by rw [hk]; rfl)]];have:cellOf env x=pure c:=by unfold cellOf; rw [ec]
    rw [this];simp only [pure_bind];exact h1
   .cases q:(y == x) with
    | true=>exact h3 y c (by rw [List.lookup_cons,q])
    | false=>exact h3 y d (by rw [List.lookup_cons,q]; exact e)
   .rcases List.mem_cons.mp hy with z | z
    .subst z;exact h3 x c (by rw [List.lookup_cons]; simp)
    .exact h4 y z hf
  .refine iD (jE f hf r acc hr ha :) fun cl h1 h2 h3 h4=>?_
   refine (cC cl ?_ h2 h3 (fun y hy hf=>?_))
   .rw [VG,hf,[Ph,(by intro z; exact hk ([WD,z]))]];simp only [pure_bind];exact h1
   .rcases List.mem_cons.mp hy with z | z
    .subst z;exact [O9,hf,hk]
    .exact h4 y z hf
theorem tu {scope:Scope} {env:Env} (hc:∀ y∈R0,y.2=.free->∃ c,[VB,y.1]=Qj) :
  ∃ cl,closureFor scope env=pure cl/\(∀ y c,cl.lookup y=Qj->[VB,y]=Qj)/\∀ y∈R0,y.2=.free->∃ c,cl.lookup y.1=Qj:=by
 unfold closureFor;refine iD (jE (env:=env) (fun (x:Str×NameKind) (r:List (Str×Addr))=>[Mj,x.2 == .free,(do let a <- cellOf env x.1; pure (.yield ((x.1,a)::r))),pure (.yield r)]) (fun _ _ _=>rfl) R0 [] hc (fun y c e=>by cases e) :) fun cl h1 h2 _ h4=>?_
 refine (aC cl ?_ h2 h4);have e:∀ (f:Str×NameKind->[V3,Addr]->Sem (ForInStep ([V3,Addr]))),(∀ x r,f x r=[Mj,x.2 == .free,(do let a <- cellOf env x.1; pure (.yield ((x.1,a)::r))),pure (.yield r)])->(forIn R0 ([]:[V3,Addr]) f >>= fun cs=>pure cs)=(pure cl:Sem _):=fun f hf=>by
  have:f=fun (x:Str×NameKind) (r:List (Str×Addr))=>[Mj,x.2 == .free,(do let a <- cellOf env x.1; pure (.yield ((x.1,a)::r))),pure (.yield r)]:=by
   funext x r;exact hf x r
  rw [this,h1];rfl
 refine e _ fun x r=>?_
 obtain ⟨n,k⟩:=x;cases hk:k == NameKind.free <;> simp [hk]
section
variable {prog:Program} {w:World} {A:Around} {E:Qc} {R:Result->NM} {s:Shared}
theorem CL {elt target iter:Expr} {ifs:OR} {scope:Scope} {pos:Pos} {it acc:Value} {env:Env} (I:Nat->NM)
  (turn:∀ n s,I n s->[SK,Vl,A,pyNext it,(fun r s₁=>match r with
   | none=>R (.ok .next) s₁
   | some v=>wpAny (model prog w) A (letOwnedTupleGo target it v) (fun _ s₁'=>wpAny (model prog w) A (assign target env v) (fun _ s₂ =>
     wpAny (model prog w) A (forIn ifs true fun c r=>if r=true then do let ok <- isTrue c env (eval c env); pure (ForInStep.yield ok) else pure (ForInStep.yield r)) (fun ok s₃ =>
      if ok=true then wpAny (model prog w) A (eval elt env) (fun x s₄ =>
       wpAny (model prog w) A (call (.builtin "list.append") [acc,x]) (fun _ s₅=>∃ m,m<n/\I m s₅) (fun _ _=>False) s₄) (fun _ _=>False) s₃
      else ∃ m,m<n/\I m s₃) (fun _ _=>False) s₂) (fun _ _=>False) s₁') (fun _ _=>False) s₁),Vf])
  (n:Nat) (h:I n s) :
  codeAny Vl A (.compLoop (.ListComp elt [⟨target,iter,ifs,0⟩] scope pos) 0 it acc env) R s:=by
 refine codeAny_loop rfl I (fun n s hI=>?_) n h;show [SK,_,A,(compTurn (.ListComp elt [⟨target,iter,ifs,0⟩] scope pos) 0 it acc env).onRaise (fun x=>do noteFrame x env; theTreesLotGoes x),_,_];refine wpAny_noted ?_;rw [compTurn_list];refine wpAny_mono (E:=Vf) ?_ ([Tz,z]) [Tz,z.elim]
 refine [O0,wpAny_standAt ([O0,[UY,turn n s hI,fun r s₁ h₁=>?_,fun _ _ h'=>h']])];cases r with
 | none=>exact [MO,h₁]
 | some v =>
  refine [O0,[UY,h₁,fun _ s₁' h₁'=>?_,fun _ _ h'=>h']];refine [O0,[UY,h₁',fun _ s₂ h₂=>[O0,[UY,h₂,fun ok s₃ h₃=>?_,fun _ _ h'=>h']],fun _ _ h'=>h']];cases ok with
  | false=>exact [MO,[P7,h₃]]
  | true =>
   exact [O0,[O0,[UY,h₃,fun x s₄ h₄=>[O0,[UY,h₄,fun _ s₅ h₅=>[MO,([MO,[P7,h₅]])],fun _ _ h'=>h']],fun _ _ h'=>h']]]
theorem F4 {scope:Scope} {env:Env} {cl:[V3,Addr]} {Q:Env->NM}
  (hQ:Q { scope:=scope,locals:=L7,globals:=env.globals,cells:=cellsFrom (L7+1) R0 cl,qual:=env.qual,func:=none,code:=env.code,frame:=env.frame,builtins:=env.builtins } { s with heap:=pushCells ([Nf,"dict",.dict #[]]) R0 }) :
  [SK,Vl,A,newFunctionEnv scope env.globals cl [] env.qual none .none (some env),Q,E]:=by
 simp only [newFunctionEnv,Option.isSome_some,if_true];refine [O0,wpAny_alloc ?_];refine [O0,wpAny_layCells _ (fun name kind cells=>by cases hkc:kind == NameKind.cell <;> simp [hkc]) _ _ _ _ ?_];rw [[Nn,({ s with heap:=[Nf,"dict",.dict #[]] }:Shared).heap.objs.size=L7+1,Heap.size_push ..]];rw [List.forIn_nil];exact [O0,[MO,([MO,hQ])]]
end
end L2
namespace L2
open PySem PySem.Spec PyProof.Rows
def iF (X:Cx) (scope:Scope) (C:Addr) (cells:[V3,Addr]) (N':MB) (fp:RY) (s:Shared) (H:Hp):Cx where
 prog:=X.prog
 w:=X.w
 K:=X.K
 mg:=X.mg
 base:=X.base
 A:=X.A
 N:=N'
 s₀:=s
 H₀:=H
 env:={ scope:=[Zm,X.env],locals:=C,globals:=X.env.globals,cells:=cells,qual:=X.env.qual,func:=none,code:=X.env.code,frame:=X.env.frame,builtins:=X.env.builtins }
 outer:=X.stack
 stack:=X.stack
 ex:=fp
 fn:=fun y=>[N8,[Sm,y]=VS]
 calm:=X.calm
 pn:=[]
 xe:=Vf
def wY:[OM,NameKind]->Bool
 | some .cell=>true
 | some .free=>true
 | _=>false
theorem mV {o:[OM,NameKind]} (h:wY o=true):o=VS\/o=some .free:=by
 cases o with
 | none=>cases h
 | some k=>cases k <;> first | exact Qf | exact .inr rfl | cases h
def AI (env:Env) (scope:Scope) (y:Str):Bool:=wY (env.scope.names.lookup y) && wY (([Zm,env]).names.lookup y) && [YN,[UK,!(z.1 == y) || !(z.2 == .cell)]] && scope.names.any [OE,z.1 == y && z.2 == .free]
def PTs (X:Cx) (ifs:OR) (t:TT):Prop :=
 ∀ (pins:Px) (s:Shared) (σ:St) (H:Hp) (Q:Bool->Qr),Rw->t σ H Q-> [SK,Uk,X.A,forIn ifs true fun c r=>if r=true then do let ok <- isTrue c X.env (eval c X.env); pure (ForInStep.yield ok) else pure (ForInStep.yield r),TP X pins σ Q,X.xe]
def ID:TT:=fun _ H Q=>Q true H
theorem bQ {X:Cx}:PTs X [] ID:=fun pins s σ H Q I h=>by
 rw [List.forIn_nil];exact [MO,af H I h]
theorem An {X:Cx} {c:Expr} {t:TT} (h:PT X c t):PTs X [c] t:=fun pins s σ H Q I hw=>by
 rw [VG];simp only [if_true];refine [O0,[O0,[Y5,h pins s σ H Q I hw,fun b s1 q=>RG]]];show [Np,_,_,forIn [] b _,_,_,s1];rw [List.forIn_nil];exact [MO,q]
def capσ (nv:Nat) (ix:N7) (σ:St):St:=[OW,nv,none]++ix.map fun i=>(σ[i]?).getD none
def lC (J:It) (g:TG) (tt:TT) (te:TE) (nv:Nat) (ix:N7) (σ:St) (Q:VK) (H1:Hp) (D:Addr):Prop:=∃ W:Nat->Nat->Qr,(∃ m,W 0 m ([Py,H1,D,[]]))/\∀ i m H2,W i m H2-> (J.stop i H2/\[Xi,D,H2])\/(J.go i H2/\∃ Nx:Qr,(∀ H',Nx H'->∃ m',m'<m/\W (i+1) m' H')/\∀ x H',J.yld i H2 x H'->g x ([XW,nv,σ]) H' fun σ2 H3=>σ2.drop nv=([XW,nv,σ]).drop nv/\tt σ2 H3 fun b H4 => [Mj,b=true,te σ2 H4 fun v H5=>∃ xs,H5 D=[MI,xs]/\Mh<sizeLine/\Nx ([Py,H5,D,xs++[v]]),Nx H4])
def Iz (wi:TI) (g:TG) (tt:TT) (te:TE) (nv:Nat) (ix:N7):TE:=[QS,wi σ H fun J H1=>∀ D,H1 D=none->lC J g tt te nv ix σ Q H1 D]
section
variable {X:Cx} {elt target iter:Expr} {ifs:OR} {scope:Scope} {pos:Pos} {g:TG} {tt:TT} {te:TE}
theorem qY {pins:Px} {σ:St} {H:Hp} {s:Shared} {J:It} {fp:RY} {it:Addr} {tn:Nat->[Qp,Heap]} {Q:VK} {E:Qc} {RR:[Q6,Addr->Result->NM]} {cl:[V3,Addr]} (xs capN:MB) (ix:N7) (hc:X.calm=true)
  (hg:[Zq,PG (iF X scope C cells (xs++capN) fp s H) target g]) (ht:[Zq,PTs (iF X scope C cells (xs++capN) fp s H) ifs tt]) (he:[Zq,PE (iF X scope C cells (xs++capN) fp s H) elt te])
  (hix:ix.map (fun i=>X.N[i]?)=capN.map some) (hcap:capN.all (AI X.env scope)=true) (hfree:[YN,[UK,!(z.2 == .free) || wY ([PN,z.1])]]=true) (hkind:scope.kind=.function)
  (hclo:∀ y c,cl.lookup y=Qj->[RM,y]=Qj) (hclh:∀ y∈R0,y.2=.free->∃ c,cl.lookup y.1=Qj)
  (I:Rw) (T:Turn X.prog X.w X.K target J fp it tn) (st:tn 0 s.heap) (hf:[Ru,fp,kS X pins H b])
  (h:∀ D,H D=none->lC J g tt te Mh ix σ Q H D)
  (hRR:∀ D C s' H' m,[Qz,H',s']->kS X pins H' C->s'.heap.Ns C m->[Xi,D,H']->RR [MT,D] C (.ok .next) s') :
  [SK,Uk,X.A,newList [],(fun acc s₃=>[Np,Uk,X.A,newFunctionEnv scope X.env.globals cl [] X.env.qual none .none (some X.env),(fun cenv s₄ => codeAny Uk X.A (.compStart (.ListComp elt [⟨target,iter,ifs,0⟩] scope pos) 0 ZP acc { cenv with scope:=[Zm,X.env] }) (RR acc cenv.locals) s₄),E,s₃]),E]:=by
 refine wpAny_newObj_type (F4 ?_);generalize hD:s.heap.objs.size=D;have nD:H D=none:=[S7,Nat.le_of_eq hD];generalize hH1:s.heap.push { cls:=.type "list",dict:=none,data:=.seq ([]:List Value).toArray }=h1;have z1:Wm=D+1:=by rw [<- hH1,Heap.size_push,hD]
 have k1:[Ym,Xz=MN,h1.get? b=MN]:=[RU,by rw [<- hH1]; exact [M8,e]]
 have l1:h1.get? D=some { cls:=PF,dict:=none,data:=.seq ([]:MS).toArray }:=by rw [<- hH1,<- hD]; exact Ub
 show codeAny _ _ _ (RR [MT,D] Wm) { s with heap:=pushCells (h1.push { cls:=.type "dict",data:=.dict #[] }) R0 };rw [z1];generalize hH2:h1.push { cls:=.type "dict",data:=.dict #[] }=h2;have z2:h2.objs.size=D+2:=by rw [<- hH2,Heap.size_push,z1]
 have k2:[Ym,h1.get? b=MN,h2.get? b=MN]:=[RU,by rw [<- hH2]; exact [M8,e]]
 have n2:h2.Ns (D+1) [Qe,none]:=by rw [<- hH2,<- z1]; exact Heap.Ns.new h1 [Sx,"dict"]
 have ok:=cellsFrom_ok R0 h2 (D+2) [] [Mw,fun _ _ hm=>([PL,hm]),List.Pairwise.nil] (Nat.le_of_eq z2.symm);rw [z2] at ok;have k3:=pushCells_keeps R0 h2;have n3:(pushCells h2 R0).Ns (D+1) [Qe,none]:=n2.keeps k3;generalize hH3:pushCells h2 scope.names=h3 at ok k3 n3;have kk:[Ym,Xz=MN,h3.get? b=MN]:=[RU,k3 b o (k2 b o (k1 b o e))]
 have l3:h3.get? D=some { cls:=PF,dict:=none,data:=.seq ([]:MS).toArray }:=k3 _ _ (k2 _ _ l1);rw [d9];generalize hcs:cellsFrom (D+2) scope.names []=cs at ok;have csn:∀ y,(∀ k,(y,k)∈R0->k≠.cell)->cs.lookup y=none:=fun y hy=>by rw [<- hcs]; exact gU _ _ hy
 have csh:∀ y,[Sm,y]=VS->∃ c,cs.lookup y=Qj:=fun y hy=>by rw [<- hcs]; exact qU hy
 have cells_or:∀ y c,(cs++cl).lookup y=Qj->(cs.lookup y=Qj)\/(cs.lookup y=none/\cl.lookup y=Qj):=fun y c e=>by
  rw [X2] at e;cases q:cs.lookup y with
  | some d=>rw [q] at e; exact .inl e
  | none=>rw [q] at e; exact .inr [P7,e]
 have newc:∀ y c,cs.lookup y=Qj->D+2<=c/\h3.IsCell c none:=fun y c e=>[Mw,(ok.empty y c ([RX,e])).2,(ok.empty y c ([RX,e])).1]
 have oldc:∀ y c,cl.lookup y=Qj->D > c/\(∃ v,h3.IsCell c v)/\H c=none:=fun y c e=>by
  obtain ⟨v,q⟩:=I.cell y c (hclo y c e);exact (bM (by rw [<- hD]; exact q.lt) [Mw,v,q.keeps kk] (I.freeC y c (hclo y c e)))
 have szD:L7<=D:=Nat.le_of_eq hD;have szC:L7<=D+1:=Mr
 let X':Cx:=iF X scope (D+1) (cs++cl) (xs++capN) fp s H;have fpD:[Ru,fp,D > b]:=[Pg,by
  refine [NC,T.obj 0 s.heap st b hb,fun o e _=>?_]
  rw [<- hD];exact Vt]
 have okX:X'.Ok:=by
  refine ⟨I.ok.mod,?_,I.ok.glob,I.ok.blt,szC,fun x y c h1 h2=>?_,ZQ,fun x c hx hl=>?_,fun _=>Q4,I.ok.frames,Qf,[Pg,[Mw,?_,fun x c hl z=>?_]],[RU,[Mw,(I.bs b o e).1,(I.bs b o e).2]],[Qi,I.ok.bsz,I.sz],fun b o e hb=>?_,fun b hb hz=>?_,I.stack,I.stkFree⟩
  .show ([Zm,X.env]).kind=.function;exact hkind
  .rcases cells_or x c h1 with e1 | ⟨_,e1⟩ <;> rcases cells_or y c h2 with e2 | ⟨_,e2⟩
   .exact name_of_addr ok.apart ([RX,e1]) ([RX,e2])
   .have a1:=(newc x c e1).1;have a2:=(oldc y c e2).1;omega
   .have a1:=(newc y c e2).1;have a2:=(oldc x c e1).1;omega
   .exact I.ok.inj x y c (hclo x c e1) (hclo y c e2)
  .
   have hm:∃ k,(x,k)∈R0/\(k=.free\/k=.cell):=by
    have hx':([Zm,X.env]).names.lookup x=VS\/([Zm,X.env]).names.lookup x=some .free:=hx;have mem:∀ k,([Zm,X.env]).names.lookup x=some k->(x,k)∈([Zm,X.env]).names:=fun k e=>[RX,e]
    rcases hx' with e | e
    .refine [UJ,mem _ e,fun pp1 h1 h2=>?_];obtain ⟨n,k⟩:=pp1;by_cases q:(k == NameKind.free && A06 == .function && X.env.kindOf n == VS)=true
     .simp only [q,if_true] at h2;cases h2
      simp only [Bool.and_eq_true] at q;exact (af k h1 [T6,([WD,q.1.1])])
     .simp only [q] at h2;cases h2
      exact (af _ h1 (.inr rfl))
    .refine [UJ,mem _ e,fun pp2 h1 h2=>?_];obtain ⟨n,k⟩:=pp2;by_cases q:(k == NameKind.free && A06 == .function && X.env.kindOf n == VS)=true
     .simp only [q,if_true] at h2;cases h2
     .simp only [q] at h2;cases h2
      exact (af _ h1 (Qf))
   refine ar hm fun k hk hk2=>?_;clear hm;show ∃ c,(cs++cl).lookup x=Qj;rw [X2];cases q:cs.lookup x with
   | some d=>exact [Nl,d]
   | none =>
    rcases hk2 with z | z
    .subst z;obtain ⟨c,e⟩:=hclh _ hk rfl;exact [Mw,c,e]
    .subst z;exfalso;have:∀ (names:[V3,NameKind]) (n:Nat),(x,NameKind.cell)∈names->(cellsFrom n names []).lookup x≠none:=by
      intro names;induction names with
      | nil=>intro n hm; cases hm
      | cons p r ih =>
       intro n hm;obtain ⟨a,b⟩:=p;unfold cellsFrom;split
       .rw [d9,List.lookup_append];rcases List.mem_cons.mp hm with z | z
        .cases z
         cases (cellsFrom (n+1) r []).lookup x with
         | some d=>intro z; cases z
         | none=>simp
        .cases e:(cellsFrom (n+1) r []).lookup x with
         | some d=>intro z; cases z
         | none=>exact absurd e (ih (n+1) z)
       .rename_i hb;rcases List.mem_cons.mp hm with z | z
        .cases z
         exact absurd rfl hb
        .exact ih n z
     exact this R0 (D+2) hk (by rw [hcs]; exact q)
  .have hx':[Sm,x]=VS:=[MF,hx];rcases cells_or x c hl with e1 | ⟨e0,_⟩
   .have:=(newc x c e1).1;show L7<=c;omega
   .obtain ⟨d,e⟩:=csh x hx';rw [e0] at e;cases e
  .exact [Ol,([W3,fpD b hb])]
  .rcases cells_or x c hl with e1 | ⟨_,e1⟩
   .have a1:=(newc x c e1).1;have a2:=fpD b hb;subst z;omega
   .exact (hf b hb).2.2.2.2.1 x c (hclo x c e1) z
  .refine dE (hf b hb :) fun f0 f1 f2 f3 _=>?_
   rcases f3 with z | z
   .exact I.ok.noex b o e z
   .have a1:=(I.ok.bs b o e).1;exact [O9,([NR,([Nm,a1]),z]),WC]
  .have z:=I.stkSub b hz;rcases List.mem_cons.mp z with q | q
   .exact (hf b hb).2.1 q
   .exact (hf b hb).2.2.1 q
 have hgens:AllBare s.gens:=I.bare;have capl:capN.length=ix.length:=by
  have:=[R5,X9,hix];rw [Mc,Mc] at this;exact this.symm
 have I0:Inv X' [] ([XW,Mh,σ]) ([Py,H,D,[]]) { s with heap:=h3 }:=by
  refine ⟨okX,rfl,hgens,Un.laid kk szD nD,(af _ n3 (fun i y v e1 e2 e3=>?_)),fun y c e=>?_,?_,fun y c e=>?_,[VV,[O9,hp,(by show p∉([]:Px)++[]; simp)]],I.hok.laid kk szD (aH M0 (bP [] 0 .nil l3)),?_⟩
  .
   have e1':(xs++capN)[i]?=VI:=e1;have e2':([OW,Mh,none]++ix.map fun i=>(σ[i]?).getD none)[i]?=V2:=e2;by_cases hi:i<Mh
   .rw [[OP,[Zh,hi]],Rp] at e2';rw [[P9,hi]] at e2';cases e2'
   .rw [[S9,L6]] at e1';rw [[S9,[Zh,hi]],Qo,Mz] at e2';generalize i - xs.length=j at e1' e2';cases ej:ix[j]? with
    | none=>rw [ej] at e2'; cases e2'
    | some k =>
     rw [ej] at e2';have e2'':(σ[k]?).getD none=Nw:=[Mq,e2'];have hs:σ[k]?=V2:=by
      cases q:σ[k]? with
      | none=>rw [q] at e2''; cases e2''
      | some o=>rw [q] at e2''; exact [R5,some,e2'']
     have hN:X.N[k]?=VI:=by
      have q:=[R5,(fun l=>l[j]?),hix];simp only [List.getElem?_map,ej,e1',Option.map_some] at q;exact [Mq,q]
     have hyc:=[RI,hcap,y,[Xg,e1']];unfold AI at hyc;simp only [Bool.and_eq_true] at hyc;obtain ⟨⟨⟨c1,c2⟩,c3⟩,c4⟩:=hyc;have vis:Vis X7 y:=(mV c1).elim [UK,[PY,.inl z]] [OE,[PY,.inr z]]
     refine ar I.loc fun m0 _ hl0=>?_
     refine [NC,hl0 k y v hN hs vis,fun u ru lk=>?_]
     refine (af u ru (.inr [W4,mV c2]));rcases lk with ⟨q,_⟩ | ⟨_,c,ec,hcell⟩
     .have q':[PN,y]=U6:=q;rw [q'] at c1;cases c1
     .have no:cs.lookup y=none:=csn y fun k hk z=>by
       have:=[RI,c3,_,hk];subst z;simp at this
      refine [NC,List.any_eq_true.mp c4,fun z hz hz2=>?_]
      simp only [Bool.and_eq_true] at hz2;have ez:z.1=y:=[WD,hz2.1];obtain ⟨d,ed⟩:=hclh z hz ([WD,hz2.2]);rw [ez] at ed;have:d=c:=[Mq,(hclo y d ed).symm.trans ec];subst this;refine (af d ?_ (hcell.keeps kk));show (cs++cl).lookup y=some d;rw [X2,no];exact ed
  .rcases cells_or y c e with e1 | ⟨_,e1⟩
   .exact [Mw,none,(newc y c e1).2]
   .exact (oldc y c e1).2.1
  .show ([Py,H,D,[]]) (D+1)=none;rw [aK (Nat.succ_ne_self D)];exact [S7,szC]
  .rcases cells_or y c e with e1 | ⟨_,e1⟩
   .have a1:=(newc y c e1).1;rw [aK ([Uw,(Mr:D<c)])];exact [S7,L6]
   .have a1:=oldc y c e1;rw [aK ([Ol,a1.1])];exact a1.2.2
  .show [MP,[XW,Mh,σ]]=[MP,xs++capN];unfold capσ;rw [Na,Qo,Mc,Na,capl]
 have st3:tn 0 h3:=T.keep 0 s.heap h3 st fun b _ o e=>kk b o e
 refine [NC,h D nD,fun W pp3 turn=>?_];obtain ⟨m0,w0⟩:=pp3;have fpX:∀ {pins':Px} {H':Hp},([Ru,fp,H' b=none])->(∀ p∈pins',[Ru,fp,p.1≠b])->[Ru,fp,kS X' pins' H' b]:=fun {pins' H'} hn hp b hb=>by
  refine (dv (hn b hb) (okX.exf b hb).1 (okX.exfs b hb) [T6,hb] (aH (okX.exf b hb).2 (fun p hp'=>?_)));rcases List.mem_append.mp hp' with q | q
  .exact [O9,[Yh,p∈([]:Px),q],Pz]
  .exact hp p q b hb
 have noHP:∀ {H':Hp},([Ru,fp,H' b=none])->[Ru,fp,kS X' [] H' b]:=fun hn=>fpX hn [VV,[O9,hp,Pz]]
 have loop:∀ s₃:Shared,s₃={ s with heap:=h3 }->codeAny Uk X.A (.compLoop (.ListComp elt [⟨target,iter,ifs,0⟩] scope pos) 0 ZP [MT,D] X'.env) (RR [MT,D] (D+1)) s₃:=by
  rintro s₃ rfl;refine CL (fun n s'=>∃ i H',Inv X' [] ([XW,Mh,σ]) H' s'/\tn i s'.heap/\([Ru,fp,H' b=none])/\W i n H') ?_ m0 (bJ 0 _ I0 st3 ([Pg,?_]) w0)
  .intro n s' pr;refine e9 pr fun i H' I' st' fr' w'=>?_;clear pr;rcases turn i n H' w' with ⟨stop,q⟩ | ⟨go,Nx,hN,step⟩
   .refine [Y5,T.done X' rfl rfl rfl hc i [] s' _ H' _ I' (noHP fr') st' stop,fun r s4 ⟨hr,I4⟩=>?_]
    subst hr;refine ar I4.loc fun m hn4 _=>?_
    have u4:Un (frs X.stack) fp H H' s.heap s4.heap:=I4.base;have J4:[Qz,H',s4]:=I.call' I4.os u4 I4.hok I4.bare [Pg,by
     refine dE (hf b hb :) fun f0 f1 f2 f3 pq0=>bZ pq0 Uz;clear pq0;exact (fI f3 f1 f4 f5)]
    refine hRR D (D+1) s4 H' m J4 (dv I4.free ?_ ?_ ([PY,[Qi,I.sz,szC]]) (aH (fun x c e z=>?_) (fun p hp z=>?_))) hn4 q
    .exact [Uw,([NR,I.lt,szC])]
    .exact I.nofs szC
    .obtain ⟨v,qq⟩:=I.cell x c e;exact Nat.ne_of_lt ([NR,qq.lt,szC]) z
    .exact Nat.ne_of_lt ([NR,([Nm,(I.pin p hp).1]),szC]) z
   .refine [Y5,T.item X' rfl rfl rfl hc i [] s' _ H' _ I' (noHP fr') st' go,fun r s4 pr=>ar pr fun u hr h4=>?_]
    subst hr;refine thn h4 fun _ s5 pr=>fz pr fun x H5 I5 r5 y5 st5 fr5=>?_
    have I5':=I5.pinned (noHP fr5) (T.obj _ _ st5);have back:∀ {σ7:St} {H7:Hp} {s7:Shared},Inv X' ([]++sY fp s5.heap) σ7 H7 s7->(∀ (j:Nat) v,([XW,Mh,σ])[j]?=V2->σ7[j]?=V2)->Nx H7->∃ m,m<n/\∃ i H',Inv X' [] ([XW,Mh,σ]) H' s7/\tn i s7.heap/\([Ru,fp,H' b=none])/\W i m H':=fun {σ7 H7 s7} I7 hσ n7=>by
     refine [NC,hN H7 n7,fun m' hm w7=>?_]
     have I8:Inv X' [] ([XW,Mh,σ]) H7 s7:=(I7.weak (by rw [I7.len]; exact I0.len) hσ).pins_of [VV,[O9,hp,Pz]]
     refine (af m' hm (bJ (i+1) H7 I8 (T.keep _ _ _ st5 fun b hb o e=>(I7.pin (b,o) ([NH,([NH,je hb e])])).1) ([Pg,?_]) w7));refine [NC,T.obj _ _ st5 b hb,fun o e d=>?_]
     exact (I7.pin (b,o) ([NH,([NH,je hb e])])).2.1
    have conv:∀ σ7:St,σ7.drop Mh=([XW,Mh,σ]).drop Mh->∀ (j:Nat) v,([XW,Mh,σ])[j]?=V2->σ7[j]?=V2:=fun σ7 e j v q=>by
     by_cases hj:j<Mh
     .unfold capσ at q;rw [[OP,[Zh,hj]],Rp,[P9,hj]] at q;cases q
     .have e2:=[R5,(fun l=>l[j - Mh]?),e];simp only [List.getElem?_drop] at e2;rw [[MM,Mh+(j - Mh)=j]] at e2;rw [e2];exact q
    refine [Y5,hg _ _ _ _ _ _ s5 _ H5 x u _ I5' r5 (step x H5 y5),fun _ s6 pr=>aX pr fun σ6 H6 I6 hσ q6=>?_]
    refine [Y5,ht _ _ _ _ _ _ s6 σ6 H6 _ I6 q6,fun b s7 pr=>ar pr fun H7 I7 q7=>?_]
    cases b with
    | false =>
     rw [[Ph,MZ]];rw [[Ph,MZ]] at q7;exact back I7 (conv σ6 hσ) q7
    | true =>
     rw [U2];rw [U2] at q7;refine [Y5,he _ _ _ _ _ _ s7 σ6 H7 _ I7 q7,fun v s8 pr=>aX pr fun y H8 I8 r8 pq0=>bp pq0 fun ys hy hl q8=>?_]
     refine [Y5,dq _ s8 σ6 H8 [MT,D] [y] [MT,D] [v] (fun _ H9=>Nx H9) I8 rfl (.cons r8 .nil) ([SO,D,ys,y,rfl,hy,hl,q8]),fun _ s9 pr=>aX pr fun _ H9 I9 _ q9=>?_]
     exact back I9 (conv σ6 hσ) q9
  .rw [aK ([Ol,fpD b hb])];exact (hf b hb).1
 exact codeAny_compStart_list (loop _ rfl) ([UY,T.self X.A 0 _ _ (Vf) st3 (loop _ rfl),[Tz,z],[Tz,z.elim]])
theorem cz {wi:TI} (xs capN:MB) (ix:N7) (hc:X.calm=true) (hi:PI X target iter wi)
  (hg:[Zq,PG (iF X scope C cells (xs++capN) fp s H) target g]) (ht:[Zq,PTs (iF X scope C cells (xs++capN) fp s H) ifs tt]) (he:[Zq,PE (iF X scope C cells (xs++capN) fp s H) elt te])
  (hix:ix.map (fun i=>X.N[i]?)=capN.map some:=by rfl) (hcap:capN.all (AI X.env scope)=true:=by rfl) (hfree:[YN,[UK,!(z.2 == .free) || wY ([PN,z.1])]]=true:=by rfl) (hkind:scope.kind=.function:=by rfl)
  (hnames:[YN,[UK,!(z.2 == .local) || [Sm,z.1] == U6]]=true:=by decide +kernel) (hs:∀ x,foldedSetIterable iter X.env x=pure x:=by intro _; rfl) :
  PE X (.ListComp elt [⟨target,iter,ifs,0⟩] scope pos) (Iz wi g tt te Mh ix):=by
 intro pins s σ H Q I h;have hcf:∀ y∈R0,y.2=.free->∃ c,[RM,y.1]=Qj:=fun y hy hf=>by
  have:=[RI,hfree,y,hy];rw [hf] at this;exact I.ok.has y.1 (mV (show wY ([PN,y.1])=true by simpa using this))
 refine bp (tu hcf :) fun cl hcl h2 h3=>?_
 rw [eval_ListComp];refine wpAny_comprehension_free (use:=none) rfl hs hcl hkind (fun x hx hl=>?_) [ZS,hi pins s σ H _ I h,fun v s1 h1=>thn h1 fun itv s2 pr=>bN pr fun it fp tn J pq0=>gq pq0 fun H2 e I2 T st pq1=>bZ pq1 fun hf q=>?_]
 .have:=[RI,hnames,x,hx];rw [hl] at this;simpa using this
 subst e;refine qY (RR:=fun acc C=>compPost Uk X.A X.xe none (EP X pins σ Q) acc C) xs capN ix hc hg ht he hix hcap hfree hkind h2 h3 I2 T st hf q ?_;intro D C s' H' m I' fC hn q';refine (af m hn (fun h' hs'=>([YU,[MT,D],H',?_,q'])));refine dE fC fun f0 f1 f2 f3 pq0=>bZ pq0 Uz;clear pq0 fC;exact I'.turned (t':=s'.toks) ([Wk,[Q9,hs'.2 b hb,e]]) f0 f1 f3 f4 f5
end
end L2
namespace L2
open PySem PySem.Spec PyProof.Rows
section
variable {X:Cx} {elt target iter:Expr} {ifs:OR} {scope:Scope} {pos spos px:Pos} {g:TG} {tt:TT} {te:TE}
theorem cU {wi:TI} {i:Nat} {x:Str} (xs capN:MB) (ix:N7) (hc:X.calm=true) (hN:X.N.Nodup) (hxi:X.N[i]?=OV) (hx:Loc X7 x) (hi:PI X target iter wi)
  (hg:[Zq,PG (iF X scope C cells (xs++capN) fp s H) target g]) (ht:[Zq,PTs (iF X scope C cells (xs++capN) fp s H) ifs tt]) (he:[Zq,PE (iF X scope C cells (xs++capN) fp s H) elt te])
  (hix:ix.map (fun i=>X.N[i]?)=capN.map some:=by rfl) (hcap:capN.all (AI X.env scope)=true:=by rfl) (hfree:[YN,[UK,!(z.2 == .free) || wY ([PN,z.1])]]=true:=by rfl) (hkind:scope.kind=.function:=by rfl)
  (hnames:[YN,[UK,!(z.2 == .local) || [Sm,z.1] == U6]]=true:=by decide +kernel) (hs:∀ x,foldedSetIterable iter X.env x=pure x:=by intro _; rfl)
  (hsw:swapsWith (.ListComp elt [⟨target,iter,ifs,0⟩] scope pos) ([Mo,[Zs,px]]) spos.line X.env=pure true:=by rfl)
  (hf:X.fn x=true\/[PN,x]=U6:=by first | exact Qf | exact .inr rfl | assumption) :
  PS X (.Assign [[Zs,px]] (.ListComp elt [⟨target,iter,ifs,0⟩] scope pos) spos) (J7 (Iz wi g tt te Mh ix) (As i)):=by
 intro pins s σ H D I h;have hcf:∀ y∈R0,y.2=.free->∃ c,[RM,y.1]=Qj:=fun y hy hf=>by
  have:=[RI,hfree,y,hy];rw [hf] at this;exact I.ok.has y.1 (mV (show wY ([PN,y.1])=true by simpa using this))
 refine bp (tu hcf :) fun cl hcl h2 h3=>?_
 rw [exec_Assign_Name_used _ _ _ _ hsw];refine [O0,wpAny_standAt ([M9,?_])];show wpAny _ X.A (do let _ <- comprehension (.ListComp elt [⟨target,iter,ifs,0⟩] scope pos) scope X.env _ (newList []) false (eval iter X.env) (some (assign (.Name x px) X.env))) _ _ s;refine [O0,[UY,(wpAny_comprehension_free (use:=[Mo,assign ([Zs,px]) X.env]) (Q:=fun _ s'=>SP X pins D .next s') rfl hs hcl hkind (fun x hx hl=>?_) [ZS,hi pins s σ H _ I h,fun v s1 h1=>thn h1 fun itv s2 pr=>bN pr fun it fp tn J pq0=>gq pq0 fun H2 e I2 T st pq1=>bZ pq1 fun hf' q=>?_]),fun _ s' hq=>[MO,([MO,hq])],fun _ _ e=>e]]
 .have:=[RI,hnames,x,hx];rw [hl] at this;simpa using this
 subst e;refine qY (Q:=fun v H1=>As i v σ H1 D.nx) (RR:=fun acc C=>compPost Uk X.A X.xe ([Mo,assign ([Zs,px]) X.env]) (fun _ s'=>SP X pins D .next s') acc C) xs capN ix hc hg ht he hix hcap hfree hkind h2 h3 I2 T st hf' q ?_;intro E C s' H' m I' fC hn q';refine dE fC fun f0 f1 f2 f3 pq0=>bZ pq0 Uz;clear pq0 fC;refine fP hn fun oC es ep hoC hdC r=>?_;clear hn;have I'':Inv X (pins++[(C,oC)]) σ H' s':=I'.pins_of [VV,by
  rcases List.mem_append.mp hp with z | z
  .exact I'.pin p ([NH,z])
  .have e:p=(C,oC):=[Ml,z]
   subst e;exact (dv hoC f0 f1 f2 (fun v z=>by rw [hdC] at z; cases z))]
 show [Np,_,X.A,assign ([Zs,px]) X.env [MT,E],_,_,s'];refine [Y5,aE hN hxi hx hf _ s' σ H' [MT,E] [MT,E] _ I'' rfl q',fun _ s4 pr=>bU pr fun σ2 H4 I4 q4=>?_]
 have hp4:=I4.pin (C,oC) ([NH,([NH,Pz])]);refine (af m (iR oC es ep hp4.1 hdC r) (fun h' hs'=>(bP σ2 H4 ?_ q4)));have I5:[N5,X,σ2,H4,s4]:=I4.unpinned;exact I5.turned (t':=s4.toks) ([Wk,[Q9,hs'.2 b hb,e]]) hp4.2.1 f1 f3 f4 f5
end
theorem cX {K:M3} {a:Addr} {xs:Nz} {g:TG} {tt:TT} {te:TE} {nv:Nat} {ix:N7} {σ:St} {D:Addr} {H:Hp} {Q:VK} (Pv:Nat->Nz->Qr) (h0:Pv 0 [] ([Py,H,D,[]])) (hl:∀ i ys H,i<=Mh->Pv i ys H->SqL K H a xs)
  (hs:∀ i x ys H,xs[i]?=OV->Pv i ys H->H D=ZR->g x ([XW,nv,σ]) H fun σ2 H3=>σ2.drop nv=([XW,nv,σ]).drop nv/\tt σ2 H3 fun b H4 => [Mj,b=true,te σ2 H4 fun v H5=>∃ zs,H5 D=[MI,zs]/\Qy<sizeLine/\(∃ ys',Pv (i+1) ys' ([Py,H5,D,zs++[v]])/\([Py,H5,D,zs++[v]]) D=[MI,ys']),∃ ys',Pv (i+1) ys' H4/\H4 D=[MI,ys']])
  (hd:∀ ys H,Pv Mh ys H->H D=ZR->[Xi,D,H]) :
  lC (Itl K a) g tt te nv ix σ Q H D:=by
 refine [Yt,(fun i m H2=>m=Mh - i/\i<=Mh/\∃ ys,Pv i ys H2/\H2 D=ZR),aC Mh Pz (OX) (af [] h0 aq)];intro i m H2 pr;refine cb pr fun eq1 hi pq0=>[W5,fun ys p hD=>?_];clear pq0 pr;subst eq1;have q:=hl i ys H2 hi p;by_cases hlt:i<Mh
 .refine [PY,aH (bP xs (xs[i]) q (by simp [hlt])) (af (fun H'=>∃ ys,Pv (i+1) ys H'/\H' D=ZR) (fun H' p'=>(cC (Mh - (i+1)) L6 rfl hlt p')) (fun x H' y=>?_))];obtain ⟨e,y⟩:=y;subst e;exact hs i x ys _ (y xs q) p hD
 .have e:i=Mh:=Mr
  subst e;exact .inl [Mw,af xs q Tx,hd ys H2 p hD]
theorem jx {lo:Int} {n:Nat} {g:TG} {tt:TT} {te:TE} {nv:Nat} {ix:N7} {σ:St} {D:Addr} {H:Hp} {Q:VK} (Pv:Nat->Nz->Qr) (h0:Pv 0 [] ([Py,H,D,[]]))
  (hs:∀ i ys H,i<n->Pv i ys H->H D=ZR->g ([Va,lo+i]) ([XW,nv,σ]) H fun σ2 H3=>σ2.drop nv=([XW,nv,σ]).drop nv/\tt σ2 H3 fun b H4 => [Mj,b=true,te σ2 H4 fun v H5=>∃ zs,H5 D=[MI,zs]/\Qy<sizeLine/\(∃ ys',Pv (i+1) ys' ([Py,H5,D,zs++[v]])/\([Py,H5,D,zs++[v]]) D=[MI,ys']),∃ ys',Pv (i+1) ys' H4/\H4 D=[MI,ys']])
  (hd:∀ ys H,Pv n ys H->H D=ZR->[Xi,D,H]) :
  lC (Itr lo n) g tt te nv ix σ Q H D:=by
 refine [Yt,(fun i m H2=>m=n - i/\i<=n/\∃ ys,Pv i ys H2/\H2 D=ZR),aC n Pz (OX) (af [] h0 aq)];intro i m H2 pr;refine cb pr fun eq2 hi pq0=>[W5,fun ys p hD=>?_];clear pq0 pr;subst eq2;by_cases hlt:i<n
 .refine [PY,aH hlt (af (fun H'=>∃ ys,Pv (i+1) ys H'/\H' D=ZR) (fun H' p'=>(cC (n - (i+1)) L6 rfl hlt p')) (fun x H' y=>?_))];obtain ⟨e,y⟩:=y;subst e y;exact hs i ys _ hlt p hD
 .have e:i=n:=Mr
  subst e;exact .inl [Mw,Mm,hd ys H2 p hD]
end L2
namespace L2
open PySem PySem.Spec PyProof.Rows
def eqL:Nz->Nz->Bool
 | [],[]=>true
 | x::xs,y::ys=>eqV x y && eqL xs ys
 | _,_=>false
def eqJ (xs ys:Nz) (j:Nat):Bool:=match xs[j]?,ys[j]? with
 | some a,some b=>eqV a b
 | _,_=>false
theorem vq:∀ (xs ys:Nz),Mh=NQ->([RQ,Mh]).all (eqJ xs ys)=eqL xs ys
 | [],[],_=>rfl
 | x::xs,y::ys,h=>by
  have ih:=vq xs ys (Nat.succ.inj h);rw [Pd,List.range_succ_eq_map,List.all_cons,List.all_map];show (eqV x y && ([RQ,Mh]).all (eqJ xs ys))=(eqV x y && eqL xs ys);rw [ih]
theorem uJ:∀ {xs ys:Nz},¬ Mh=NQ->[Vb,eqL xs ys]
 | [],[],h=>[O9,rfl,h]
 | [],_::_,_=>rfl
 | _::_,[],_=>rfl
 | x::xs,y::ys,h=>by
  unfold eqL;rw [uJ ([UT,h ([R5,(·+1),e])]),Zc]
section
variable {X:Cx}
def K8 (K:M3) (neg:Bool):R2:=[X8,∃ a b xs ys,x=QM/\y=.ref b/\SqL K H a xs/\SqL K H b ys/\xs.all gD=true/\ys.all gD=true/\Q (.bl (if neg then !eqL xs ys else eqL xs ys)) H]
theorem Eu {A:Around} {s:Shared} {xs ys:Nz} {us ws:MS} (r:[Vi,xs]) (r':Vals ys ws) (f:xs.all gD=true) (f':ys.all gD=true) :
  ∀ j (h1:j<us.toArray.size) (h2:j<ws.toArray.size),SeqAt.EqAt A s us.toArray[j] ws.toArray[j] (eqJ xs ys j):=fun j h1 h2=>by
 have l1:=r.length;have l2:=r'.length;simp only [List.size_toArray] at h1 h2;have e1:xs[j]?=some xs[j]:=[M4,L6];have e2:ys[j]?=some ys[j]:=[M4,L6];refine [NC,r.get e1,Wd]
 refine [NC,r'.get e2,fun v hv rv=>?_]
 have fu:=[RI,f,_,[Xg,e1]];have fv:=[RI,f',_,[Xg,e2]];have eu:us.toArray[j]=u:=by
  have:us[j]?=some us[j]:=[M4,h1];rw [this] at hu;exact [Mq,hu]
 have ev:ws.toArray[j]=v:=by
  have:ws[j]?=some ws[j]:=[M4,h2];rw [this] at hv;exact [Mq,hv]
 rw [eu,ev];unfold eqJ;rw [e1,e2];exact zy ru rv fu fv
theorem Jg (hu:V7<cLine):OpR X [Ti,.Eq] (K8 X.K false):=by
 intro pins s σ H x y v u Q I rx ry h;refine cZ h fun a b xs ys eq1 eq2 ha hb pq0=>cb pq0 fun fa fb q=>?_;clear pq0 h;subst eq1;subst eq2;cases rx
 cases ry
 refine [Yo,ha,Ul]
 refine [Yo,hb,Uc]
 have l1:=V8;have l2:=UA;by_cases hl:Mh=NQ
 .refine SeqAt.eq_listAt Xc Xb (VH) hu (Eu r1 r2 fa fb) (aB (.bl (eqL xs ys)) H I ?_ q);show QV=QV;rw [OJ,<- l1,vq _ _ hl]
 .refine SeqAt.eq_list_lengthsAt Xc Xb (Tu) hu (aB (.bl (eqL xs ys)) H I ?_ q);show QV=QV;rw [uJ hl]
theorem JP (hu:V7<cLine):OpR X [Ti,.NotEq] (K8 X.K true):=by
 intro pins s σ H x y v u Q I rx ry h;refine cZ h fun a b xs ys eq3 eq4 ha hb pq0=>cb pq0 fun fa fb q=>?_;clear pq0 h;subst eq3;subst eq4;cases rx
 cases ry
 refine [Yo,ha,Ul]
 refine [Yo,hb,Uc]
 have l1:=V8;have l2:=UA;by_cases hl:Mh=NQ
 .refine SeqAt.RcNeAt.lists Xc Xb (VH) hu (Eu r1 r2 fa fb) _ _ _ _ (aB (.bl (!eqL xs ys)) H I ?_ q);show QV=QV;rw [OJ,<- l1,vq _ _ hl]
 .refine SeqAt.RcNeAt.lists_lengths Xc Xb (Tu) hu _ _ _ _ (aB (.bl (!eqL xs ys)) H I ?_ q);show QV=QV;rw [uJ hl];rfl
theorem wt:dM X ([Sl,"sorted"]) ([Tb,∃ (p:Addr) (ns:Nk),xs=[TN]/\SqL X.K H p (NS)/\OY<64/\∀ (l:Addr) (ns':Nk),H l=none->ns'.Perm ns->ns'.Pairwise (·<=·)->[Xi,l,([Py,H,l,ns'.map V.int])]]):=by
 intro pins s σ H xs us Q I r h;refine e9 h fun p ns eq5 hp hl q=>?_;clear h;subst eq5;refine [NC,Vw,fun u eq6 ru=>?_];subst eq6;cases ru
 refine [Yo,hp,fun its rv pl hz=>?_]
 have hlen:=Y4;rw [Mc] at hlen;refine sorted_ints V6 (intsAre_of rv) L6 fun out ns' a1 a2 a3=>?_
 obtain ⟨e,he⟩:=sortedAll_at s.heap its out;have hn:H (L7+1)=none:=[S7,Nat.le_succ _];refine ([YU,[MT,L7+1],_,(I.laid (t':=s.toks) (o:=.lst (ns'.map V.int)) (fun _ _=>sortedAll_old) (Nat.le_succ _) ?_),q _ ns' hn a2 a3]);refine (aH ?_ (bP out.toList e (kx a1) ?_))
 .rw [Mc,a2.length_eq];exact small L6
 .simpa using he
theorem rK:∀ {bs:List Bool} {us:MS},[Vi,bs.map V.bl]->∀ (i:Nat) v,us[i]?=Nw->∃ b,bs[i]?=QZ/\v=.bool b
 | [],_,r,i,v,e=>by cases r; simp at e
 | b::bs,_,.cons r t,0,v,e=>by
  simp at e;subst e;exact [Ma,b,r]
 | b::bs,_,.cons r t,i+1,v,e=>by
  refine [NC,rK t i v [Zh,e],fun c h1 h2=>?_]
  exact (af c [Zh,h1] h2)
theorem hV (hc:X.calm=true):dM X ([Sl,UB]) ([Tb,∃ (p:Addr) (bs:List Bool),xs=[TN]/\SqL X.K H p (bs.map V.bl)/\Q (.bl (bs.all id)) H]):=by
 intro pins s σ H xs us Q I r h;refine aX h fun p bs eq0 hp q=>?_;clear h;subst eq0;refine [NC,Vw,fun u eq1 ru=>?_];subst eq1;cases ru
 refine [Yo,hp,fun its rv pl hz=>?_]
 have hl:=V6;have hlt:p<L7:=by refine ar hl fun _ e _=>?_;clear hl; exact Vt
 have hlen:=Y4;rw [Mc] at hlen;refine call_all_walk ([XY,hl,?_]);refine ⟨L7,[L7,p],[L7],P1,_,_,fun i=>(bs[i]?).getD true,rfl,Walks.list (A:=X.A.in1) (Q4) _ p ([Ol,hlt]) Ox, [Mw,aC _ (Ub) rfl rfl,hl.push _],fun i v s' Q' E' hP hQ=>?_,fun h' tk hk=>?_⟩
 .refine [NC,rK rv i v [Zh,hP],fun b e eq2=>?_];subst eq2;simp only [e,Option.getD_some] at hQ;exact [SR,hQ]
 .have e:(([RQ,P1]).all fun i=>(bs[i]?).getD true)=bs.all id:=by
   rw [OJ,<- hlen,VF,Wn,Wn];constructor
   .intro z b hb;obtain ⟨i,hi,rfl⟩:=[TH,hb];have:=z i (List.mem_range.mpr hi);show bs[i]=true;simpa only [List.getElem?_eq_getElem hi,Option.getD_some] using this
   .intro z i hi;have hi':=[Xs,hi];have z2:bs[i]=true:=z _ ([QN,hi']);simpa only [List.getElem?_eq_getElem hi',Option.getD_some] using z2
  refine (aB (.bl (bs.all id)) H (I.kept fun b o x=>hk b o (fun hm=>?_) ([M8,x])) (by rw [e]; rfl) q);rw [[MQ,hm]] at x;exact Nat.lt_irrefl _ ([Nm,x])
end
structure ClsFn (K:PySem.W.Frag) (C:Addr) (m:Str) (g:Addr):Prop where
 rd:PySem.W.readsIn K C (.type "type")=true
 at_:PySem.W.findCls K (.ref C) (.type "type") m=some (.val (.ref g))
 sp:PySem.W.specialIn K (.ref C) "__getattribute__"=some (some (.builtin "type.__getattribute__"))
 kp:PySem.W.keepIn K (.ref g)=true
section
variable {X:Cx} {CX:CXT} {k:Nat} {f C:Addr} {fd:FuncData} {ps:MB} {sp:Sp} {dvs:Nz} {ds:MS} {E:XK} {x m:Str} {p pos apos:Pos} {e:Expr} {es:OR} {t:TA}
theorem iL {pl:Sem Bool} (hg:Gl X x) (hm:X.mg x=[Mv,C]) (c:ClsFn X.K C m f) (F:FnOk X.prog X.w X.K X.mg X.base CX k f fd ps sp) (hr:Room k X.A) (hb:Binds X.K fd ps ds) (hd:Vals dvs ds) (hx:Passes CX X E) (ha:PA X (e::es) t)
  (hdb:[Vb,x == Ry]:=by decide) (hst:[N3,e::es]=(false,[Oa,e])::Um:=by rfl) (hpl:[Vb,([Xf,Um]).any OB]:=by rfl)
  (ht:[Oa,([UM,([Tp,([Zs,p]),m]),e::es,[]])]=(do
   let ov <- eval (.Name x p) X.env
   standAt apos.atName
   let (f,first) <- holding [ov] (getMethod ov m pl)
   callWith pos f first (backTo pos (starEach (e::es) X.env)) (backToKw pos (keywordEach [] X.env))):=by rfl) :
  PE X ([UM,([Tp,([Zs,p]),m]),e::es,[]]) (AF sp dvs E t):=by
 intro pins s σ H Q I h;refine PySem.W.methodCall_KW (pl:=pl) (ie I hg hm ?_ hdb) ht;refine PySem.W.method_cls I.kIn c.sp (PySem.W.cls_value I.kIn c.rd c.at_ rfl ?_);have I1:Inv X pins σ H { s with toks:=s.toks+1 }:=SN;refine PySem.W.callWith_K (first:=[]) (h₀:=X.base) I.ok.mod.kin c.kp [ZS,ha pos pins _ σ H _ I1 h,fun us s2 pr=>aX pr fun vs H2 I2 r q2=>[W4,I2.kIn]] hst hpl;exact u6 (us:=us) (vs:=vs) F hr hb hd hx I2 r q2
end
end L2
namespace L2
open PySem PySem.Spec PyProof.Rows
def XAt (B h:Heap) (x:Addr) (C:Value) (d:SH) (vs:Nr):Prop:=B.get? x=none/\∃ sl,h.get? x=some ⟨C,d,[S5,vs],sl⟩
def TAt (B h:Heap) (x:Addr) (vs:Nr) (fl:Value):Prop:=∃ (T:Addr) (oT:Obj) (ts:Nr),vs[1]?=[Mv,T]/\T≠x/\B.get? T=none/\h.get? T=some oT/\oT.data=[S5,ts]/\ts[3]?=some fl
structure Moved (l:List Env) (B h h':Heap):Prop where
 stay:B.StaysIn h'
 funs:h'.FunFrames B l
 slot:∀ b∈frs l,∀ o,h.get? b=some o->∃ sl,h'.get? b=some { o with slots:=sl }
theorem Moved.trans {l:Sk} {B h h1 h2:Heap} (a:Moved l B h h1) (b:Moved l B h1 h2):Moved l B h h2 :=
 ⟨b.stay,b.funs,fun c hc o e=>by
  obtain ⟨sl,e1⟩:=a.slot c hc o e;obtain ⟨sl2,e2⟩:=b.slot c hc _ e1;exact [Mw,sl2,e2]⟩
section
variable {M:Model} {A:Around} {E:Qc} {s:Shared} {B:Heap} {l:Sk} {x:Addr} {C:Value} {d:SH} {vs:Nr}
theorem kq {h:Heap} (hl:h.FunFrames B l) {b:Addr} {o:Obj} {ws:Nr} (e:Vu=MN) (hd:o.data=[S5,ws]):b∉frs l:=fun hb=>by
 obtain ⟨_,o',e',n⟩:=hl.mem hb;rw [e] at e';cases e'
 exact n ws hd
theorem i8 {h:Heap} (hs:B.StaysIn h) (hl:h.FunFrames B l) {b:Addr} {o:Obj} {ws:Nr} (e:Vu=MN) (hd:o.data=[S5,ws]) (hb:B.get? b=none) (f:Obj->Obj):Moved l B h (h.update b f):=by
 have nf:=kq hl e hd;refine ⟨fun c u q=>?_,hl.of_keeps fun c u q n=>⟨u,?_,rfl⟩,fun c hc u q=>[W4,u.slots]⟩
 .have hne:b≠c:=[OE,by rw [z,q] at hb; cases hb]
  rw [[SE,_,_,hne]];exact hs c u q
 .have hne:b≠c:=[OE,by
   subst z;rw [e] at q;cases q
   exact n ws hd]
  rw [[SE,_,_,hne]];exact q
 .have hne:b≠c:=[OE,nf (by rw [z]; exact hc)]
  rw [[SE,_,_,hne]];exact q
theorem jR {fl:Value} {Q:Unit->NM} (hs:Zz) (hl:[X0,B,l]) (hx:XAt B s.heap x C d vs) (ht:TAt B s.heap x vs fl)
  (h:∀ h',XAt B h' x C d vs->TAt B h' x vs .none->Moved l B s.heap h'->[Pu,(),h']):[SK,M,A,setFlight [MT,x] none,Q,E]:=by
 obtain ⟨bx,sl,ex⟩:=hx;obtain ⟨T,oT,ts,v1,hne,bT,eT,dT,t3⟩:=ht;have h3:3<ts.size:=([Ug,t3]).1;unfold setFlight;refine [O0,wpAny_field ex rfl v1 ?_];rw [[P9,(show ([Te,T] != W8)=true by simp)]];refine [Y6,eT,dT,h3,(h _ [Pw,bx,sl] ?_ (i8 hs hl eT dT bT _))]
 .rw [[SE,_,_,hne]];exact ex
 .have dN:=[Zf,dT,(·.setIfInBounds 3 Value.none)];exact ⟨T,_,_,v1,hne,bT,[XZ,_,eT,([Zw,dN])],dN,by simp [h3]⟩
theorem uC {env:Env} {outer:Sk} {L:Addr} {head:Value} {hadNext:Bool} {Q:Unit->NM} (hfr:A.frames=[Mo,env::outer]) (hf:env.frame=some L) (hs:Zz) (hl:[X0,B,env::outer])
  (hx:XAt B s.heap x C d vs) (h1:1<vs.size)
  (h:∀ h' ws,ws[0]?=vs[0]?->XAt B h' x C d ws->TAt B h' x ws (rawInt L)->Moved (env::outer) B s.heap h'->[Pu,(),h']) :
  wpAny M A (do let a <- frameOf env; let pl <- entryPlaceOf L hadNext; let b <- EntryCells.newEntry head a .none (rawInt L) .none pl; setField (.ref x) 1 b) Q E s:=by
 obtain ⟨bx,sl,ex⟩:=hx;have nx:=kq hl ex rfl;refine [O0,wpAny_frameOf_fun hfr hl hf fun g1 k1=>?_];have ex1:g1.get? x=some ⟨C,d,[S5,vs],sl⟩:=[Q9,k1.2.1 x nx,ex];have hs1:B.StaysIn g1:=fun b o q=>[Q9,(k1.2.1 b fun hb=>by have z:=(hl.mem hb).1; rw [q] at z; cases z),hs b o q]
 have m1:Moved (env::outer) B s.heap g1:=⟨hs1,hl.of_keeps fun b o q _=>let ⟨sl',z⟩:=k1.2.2 b o q; ⟨_,z,rfl⟩,fun b _ o q=>k1.2.2 b o q⟩;refine [O0,wpAny_entryPlaceOf fun pl hpl=>?_];unfold EntryCells.newEntry newFields;refine [O0,[U9,?_,hpl.sizeOk5 _ _ _ _ _]];generalize hts:([head,Value.ref L,Value.none,rawInt L,Value.none]++(if pl.isEmpty then List.replicate 6 Value.none else pl)).toArray=ts;have t3:ts[3]?=[Mo,rawInt L]:=by
  rw [<- hts];simp
 have hTx:g1.objs.size≠x:=[Uw,([Nm,ex1])];have m2:Moved (env::outer) B g1 (g1.push ⟨.type "traceback",none,[S5,ts],#[]⟩) :=
  ⟨fun b o q=>[M8,hs1 b o q],m1.funs.of_keeps fun b o q _=>⟨o,[M8,q],rfl⟩,fun b _ o q=>[Mw,o.slots,[M8,q]]⟩
 have ex2:=Heap.get?_push_of_some (h:=g1) ⟨.type "traceback",none,[S5,ts],#[]⟩ ex1;refine [Y6,ex2,rfl,h1,(h _ (vs.setIfInBounds 1 [MT,g1.objs.size]) ?_ [Pw,bx,sl] ?_ ([Q9,m1.trans m2,i8 m2.stay m2.funs ex2 rfl bx _]))]
 .rw [Array.getElem?_setIfInBounds_ne M0]
 .exact [XZ,Obj.mapFields (·.setIfInBounds 1 (Value.ref g1.objs.size)),ex2,rfl]
 .refine ⟨g1.objs.size,⟨.type "traceback",none,[S5,ts],#[]⟩,ts,by simp [h1],hTx,hs1.fresh,?_,rfl,t3⟩;rw [[SE,_,_,[XS,hTx]]];exact Ub
theorem qC {env:Env} {outer:Sk} {L:Addr} {Q:Unit->NM} (hfr:A.frames=[Mo,env::outer]) (hf:env.frame=some L) (hs:Zz) (hl:[X0,B,env::outer])
  (hx:XAt B s.heap x C d vs) (ht:vs[1]?=some .none\/TAt B s.heap x vs .none)
  (h:∀ h' ws,ws[0]?=vs[0]?->XAt B h' x C d ws->TAt B h' x ws (rawInt L)->Moved (env::outer) B s.heap h'->[Pu,(),h']) :
  [SK,M,A,noteFrame [MT,x] env,Q,E]:=by
 obtain ⟨bx,sl,ex⟩:=id hx;unfold noteFrame;simp only [hf];rcases ht with v1 | ⟨T,oT,ts,v1,hne,bT,eT,dT,t3⟩
 .refine [O0,wpAny_field ex rfl v1 ?_];rw [[Ph,M0]];exact uC hfr hf hs hl hx ([Ug,v1]).1 h
 .refine [O0,wpAny_field ex rfl v1 ?_];rw [[P9,(show ([Te,T] != W8)=true by simp)]];refine [O0,wpAny_field eT dT t3 ?_];rw [[Ph,(show ¬ ((W8 == rawInt L)=true) by simp [rawInt])]];refine [O0,[Y6,eT,dT,([Ug,t3]).1,?_]];have mv:=i8 hs hl eT dT bT (Obj.mapFields (·.setIfInBounds 3 Value.none));refine uC (s:={ s with heap:=s.heap.update T (Obj.mapFields (·.setIfInBounds 3 Value.none)) }) hfr hf mv.stay mv.funs [Pw,bx,sl] ([Ug,v1]).1 fun h' ws a b c e=>h h' ws a b c (mv.trans e)
  show (s.heap.update T _).get? x=_;rw [[SE,_,_,hne]];exact ex
theorem pO {env:Env} {outer:Sk} {L:Addr} {Q:Unit->NM} (hfr:A.frames=[Mo,env::outer]) (hf:env.frame=some L) (hs:Zz) (hl:[X0,B,env::outer])
  (hx:XAt B s.heap x C d vs) (ht:vs[1]?=some .none\/TAt B s.heap x vs .none)
  (h:∀ h' ws,ws[0]?=vs[0]?->XAt B h' x C d ws->TAt B h' x ws .none->Moved (env::outer) B s.heap h'->[Pu,(),h']) :
  [SK,M,A,leaving env [MT,x],Q,E]:=by
 unfold leaving;refine [O0,qC hfr hf hs hl hx ht fun g1 ws a b c e=>?_];exact jR (s:={ s with heap:=g1 }) e.stay e.funs b c fun g2 b2 c2 e2=>h g2 ws a b2 c2 (e.trans e2)
end
end L2
namespace L2
open PySem PySem.Spec PyProof.Rows
theorem HOk.tracked {P:Program} {w:World} {H:Hp} {h h':Heap} (ok:HOk P w H h) (k:∀ b u o,H b=NZ->Vu=MN->Zk=MN):HOk P w H h':=fun b u e=>by
 refine (ok b u e).stay (fun c v hc q=>?_) (fun _ q=>q) fun _ _ q=>q
 rcases hc with z | z
 .subst z;exact k _ u v e q
 .exact k c _ v z q
theorem ObjOk.there {P:Program} {w:World} {H:Hp} {h:Heap} {a:Addr} {o:HO} (x:ObjOk P w H h a o):∃ u,RO=NZ:=by
 cases o with
 | lst xs=>refine bZ x fun _ pq0=>bU pq0 fun _ _ _ e=>?_;clear pq0 x; exact [T7,e]
 | tup xs=>refine bZ x fun _ pq0=>[W5,fun _ _ p=>?_];clear pq0 x; refine ar p fun u e _=>?_;clear p; exact [Mw,u,e]
 | dK kvs=>refine cb x fun _ _ pq0=>[W5,fun _ _ pq1=>dZ pq1 fun u _ _ e _=>?_];clear pq0 pq1 x; exact [Mw,u,e]
 | dT kvs=>refine cb x fun _ _ pq0=>[W5,fun _ _ pq1=>dZ pq1 fun u _ _ e _=>?_];clear pq0 pq1 x; exact [Mw,u,e]
 | set S n=>refine fB x fun u _ _ _ e _=>?_;clear x; exact [Mw,u,e]
 | ins C dx fs=>exact [T7,x.2.2.2.1]
 | own y=>exact x
 | xd fs=>refine ar x fun _ pp1 _=>?_;clear x;obtain ⟨u,_,_,e,_⟩:=pp1; exact [Mw,u,e]
 | met f y=>exact [T7,x]
 | rng lo hi=>refine lD x fun _ _ _ e=>?_;clear x; exact [T7,e]
 | frz u v=>exact [Mw,u,x.1]
 | tbl ps=>exact [T7,x]
 | ext φ=>exact x.2.1
theorem pI {h B B':Heap}:∀ {l:Sk},([Ru,frs l,B'.get? b=none])->h.FunFrames B l->h.FunFrames B' l
 | [],_,_=>trivial
 | env::r,hn,⟨hk,⟨L,o,hf,_,ho,hd⟩,hr⟩=>by
  have e:frs (env::r)=L::frs r:=by
   unfold frs;rw [List.filterMap_cons,hf]
  exact (bM hk (bJ L o hf (hn L (by rw [e]; exact ME)) ho hd) (pI ([Pg,hn b (by rw [e]; exact [MX,hb])]) hr))
structure Fly (P:Program) (w:World) (outer:List Env) (H H':Hp) (g B:Heap) (x C:Addr) (d:Option Addr) (h':Heap):Prop where
 un:Un (frs outer) [] H H' g h'
 hok:HOk P w H' h'
 stay:B.StaysIn h'
 funs:h'.FunFrames B outer
 cov:∀ b o,g.get? b=some o->b∉frs outer->∃ o',B.get? b=some o'
 covT:∀ b o,H' b=some o->∃ o',B.get? b=some o'
 exc:∃ vs,XAt B h' x (.ref C) d vs/\TAt B h' x vs .none
def CXE (P:Program) (w:World):CXT:=fun outer H s E e s'=>∃ (x C:Addr) (d:SH) (H':Hp) (B:Heap),e=Ya/\s'.os=s.os/\Yi/\Fly P w outer H H' s.heap B x C d s'.heap/\E [MT,C] d H'
section
variable {P:Program} {w:World} {outer:Sk} {H H':Hp} {g B h h':Heap} {x C:Addr} {d:SH}
theorem Fly.noX (F:Fly P w outer H H' g B x C d h):H' x=none:=by
 refine ar F.exc fun _ pp2 _=>?_;obtain ⟨bx,_⟩:=pp2;cases q:H' x with
 | none=>rfl
 | some o =>
  obtain ⟨o',z⟩:=F.covT x o q;rw [z] at bx;cases bx
theorem su (un:Un (WH) [] H H' g h) (hs:B.StaysIn h) (hl:h.FunFrames B outer) (cov:[Ym,g.get? b=MN,b∉WH->∃ o',B.get? b=some o']) (m:Moved outer B h h'):Un (WH) [] H H' g h' where
 keep:=fun b o e n hb hx=>by
  have e1:=un.keep b o e n hb hx;obtain ⟨o',e2⟩:=cov b o e hb;have e3:=hs b o' e2;rw [e1] at e3;cases e3
  exact m.stay b _ e2
 slot:=fun b o e n hb hx=>by
  obtain ⟨sl,e1⟩:=un.slot b o e n hb hx;obtain ⟨sl2,e2⟩:=m.slot b hb _ e1;exact [Mw,sl2,e2]
 free:=un.free
 there:=fun b o e hx=>by
  by_cases hb:b∈WH
  .obtain ⟨o1,e1⟩:=un.there b o e hx;obtain ⟨sl,e2⟩:=m.slot b hb o1 e1;exact [T7,e2]
  .obtain ⟨o',e2⟩:=cov b o e hb;exact [Mw,o',m.stay b o' e2]
 tups:=un.tups
 frzs:=un.frzs
 tbls:=un.tbls
theorem nE (ok:HOk P w H' h) (hs:B.StaysIn h) (covT:[Ym,H' b=MN,∃ o',B.get? b=some o']) (m:B.StaysIn h'):HOk P w H' h' :=
 ok.tracked fun b u o e q=>by
  obtain ⟨o',e2⟩:=covT b u e;have e3:=hs b o' e2;rw [q] at e3;cases e3
  exact m b _ e2
theorem Fly.moved (F:Fly P w outer H H' g B x C d h) {vs:Nr} (m:Moved outer B h h') (hx:XAt B h' x [MT,C] d vs) (ht:TAt B h' x vs .none):Fly P w outer H H' g B x C d h' :=
 ⟨su F.un F.stay F.funs F.cov m,nE F.hok F.stay F.covT m.stay,m.stay,m.funs,F.cov,F.covT,vs,hx,ht⟩
end
def Fc (X:Cx) (E:XK):Prop:=∀ (pins:Px) (σ:St) (H:Hp) (s:Shared) (h':Heap) (x C:Addr) (sl:Array (Ms)) (vs:Nr),Rw->([Ym,Xz=MN,Zk=MN])-> [Nv,x]=none->[QX,x]=some ⟨.ref C,none,[S5,vs],sl⟩->vs[1]?=some .none->E [MT,C] none H->X.xe [MT,x] { s with heap:=h' }
section
variable {P:Program} {w:World} {K:M3} {mg:Str->Ms} {base:Heap} {N:MB} {qual:Str} {scope:Scope} {f:Addr} {cd:Value} {A:Around} {outer:Sk} {s₀:Shared} {H₀:Hp} {E:XK}
theorem uw {X:Cx} {env:Env} {outer:Sk} {L:Addr} (e:X.stack=env::outer) (hf:env.frame=some L):frs X.stack=L::WH:=by
 rw [e];unfold frs;rw [List.filterMap_cons,hf]
theorem xV {H1 H2:Hp} {g0 g1 h' B:Heap} {L:Addr} (hL:g0.objs.size<=L) (a:Un (WH) [] H₀ H1 g0 g1) (b:Un (L::WH) [] H1 H2 g1 h'):Un (WH) [] H₀ H2 g0 h':=by
 have nL:∀ c o,g0.get? c=MN->c≠L:=fun c o e=>[Ol,([NR,Vt,hL])]
 have n0:∀ c:Addr,c∉([]:RY):=fun c=>MJ
 refine ⟨fun c o e n hc hx=>?_,fun c o e n hc hx=>?_,fun c o e n hx=>?_,fun c o e hx=>?_,fun c xs e=>b.tups c xs (a.tups c xs e),fun c o u e=>b.frzs c o u (a.frzs c o u e),fun c ps e=>?_⟩
 .exact b.keep c o (a.keep c o e n hc hx) (a.free c o e n hx) [UK,(List.mem_cons.mp z).elim (nL c o e) hc] (n0 c)
 .obtain ⟨sl,e1⟩:=a.slot c o e n hc hx;obtain ⟨sl2,e2⟩:=b.slot c _ e1 (a.free c o e n hx) ([MX,hc]) (n0 c);exact [Mw,sl2,e2]
 .obtain ⟨o1,e1⟩:=a.there c o e hx;exact b.free c o1 e1 (a.free c o e n hx) (n0 c)
 .obtain ⟨o1,e1⟩:=a.there c o e hx;exact b.there c o1 e1 (n0 c)
 .obtain ⟨m1,e1⟩:=a.tbls c ps e;obtain ⟨m2,e2⟩:=b.tbls c _ e1;exact [Mw,m1++m2,by rw [e2,Array.append_assoc]]
theorem BW:Passes (CXE P w) (jK (CXE P w) P w K mg base N qual scope f cd A outer s₀ H₀ E) E:=by
 intro pins σ H s e s' I hx;refine bN hx fun x C d H' pq0=>gq pq0 fun B eq3 os bare F q=>?_;clear pq0 hx;subst eq3;refine ar F.exc fun vs xa ta=>?_
 show [Np,_,_,leaving _ _,_,_,s'];have hfr:=I.ok.frames;have hsf:frs (jK (CXE P w) P w K mg base N qual scope f cd A outer s₀ H₀ E).stack=s₀.heap.objs.size::WH:=uw rfl rfl;refine pO (L:=s₀.heap.objs.size) hfr rfl F.stay F.funs xa (.inr ta) fun h' ws _ xa' ta' m=>?_
 refine ⟨x,C,d,H',B,rfl,os.trans I.os,bare,⟨?_,nE F.hok F.stay F.covT m.stay,m.stay,m.funs.2.2,fun b o e hb=>?_,F.covT,ws,xa',ta'⟩,q⟩
 .have u2:=su F.un F.stay F.funs F.cov m;exact xV (L:=s₀.heap.objs.size) (B:=B) Tx I.base (hsf▸u2)
 .obtain ⟨o1,e1⟩:=I.base.there b o e [UK,by simp [jK] at z];refine F.cov b o1 e1 [OE,?_]
  rw [hsf] at z;exact (List.mem_cons.mp z).elim ([Ol,Vt]) hb
theorem uc:Fc (jK (CXE P w) P w K mg base N qual scope f cd A outer s₀ H₀ E) E:=by
 intro pins σ H s h' x C sl vs I kp nx hx v1 q;show [Np,_,_,leaving _ _,_,_,_];have hfr:=I.ok.frames;have hsf:frs (jK (CXE P w) P w K mg base N qual scope f cd A outer s₀ H₀ E).stack=s₀.heap.objs.size::WH:=uw rfl rfl;let B:=PySem.W.hideAll s.heap (frs (jK (CXE P w) P w K mg base N qual scope f cd A outer s₀ H₀ E).stack);have hB:Zz:=[RU,PySem.W.of_hideAll _ e]
 have hB':B.StaysIn h':=[RU,kp b o (hB b o e)]
 have bget:[Ym,Xz=MN,b∉frs (jK (CXE P w) P w K mg base N qual scope f cd A outer s₀ H₀ E).stack->B.get? b=MN]:=fun b o e n=>PySem.W.hideAll_get _ e n
 have bx:B.get? x=none:=by
  cases z:B.get? x with
  | none=>rfl
  | some o =>
   have:=hB x o z;rw [nx] at this;cases this
 have fn:h'.FunFrames B (jK (CXE P w) P w K mg base N qual scope f cd A outer s₀ H₀ E).stack:=(pI ([Pg,PySem.W.hideAll_none _ hb]) I.stack).of_keeps fun b o e _=>([Yb,o,kp b o e])
 have covT:[Ym,H b=MN,∃ o',B.get? b=some o']:=[RU,by
  have hlt:=(I.hok b o e).lt;obtain ⟨u,hu⟩:∃ u,Xz=NZ:=(I.hok b o e).there;refine [Mw,u,bget b u hu fun hb=>?_];rw [I.stkFree b hb] at e;cases e]
 have un0:Un (frs (jK (CXE P w) P w K mg base N qual scope f cd A outer s₀ H₀ E).stack) [] H H s.heap h':=Un.kept kp;have cov1:[Ym,Xz=MN,b∉frs (jK (CXE P w) P w K mg base N qual scope f cd A outer s₀ H₀ E).stack->∃ o',B.get? b=some o']:=fun b o e n=>[Mw,o,bget b o e n]
 refine pO (s:={ s with heap:=h' }) (B:=B) (L:=s₀.heap.objs.size) hfr rfl hB' fn (aH bx (e8 sl hx)) [T6,v1] fun h2 ws _ xa' ta' m=>?_
 refine ⟨x,C,none,H,B,rfl,I.os,I.bare,⟨?_,nE (I.hok.kept kp) hB' covT m.stay,m.stay,m.funs.2.2,fun b o e hb=>?_,covT,ws,xa',ta'⟩,q⟩
 .have u2:=su un0 hB' fn cov1 m;exact xV (L:=s₀.heap.objs.size) (B:=B) Tx I.base (hsf▸u2)
 .obtain ⟨o1,e1⟩:=I.base.there b o e [UK,by simp [jK] at z];refine cov1 b o1 e1 [OE,?_]
  rw [hsf] at z;exact (List.mem_cons.mp z).elim ([Ol,Vt]) hb
end
end L2
namespace L2
open PySem PySem.Spec PyProof.Rows
section
variable {P:Program} {w:World} {K:M3} {mg:Str->Ms} {base:Heap} {k:Nat} {f:Addr} {fd:FuncData} {ps:MB} {sp:Sp}
theorem Fun.okX {x qual:Str} {st:Stmt} {N:MB} (F:[UG,x,qual,st]) (S:[QI,N,ps,st]) (len:∀ vs H Q E,sp vs H Q E->Ro=Rn)
  (hbody:∀ (cdv:Value) (A:Around) (outer:Sk) (s:Shared) (H:Hp) (vs:Nz) (Q:VK) (E:XK),Room k (A.deeper (envOfC qual (ay st) L7 f cdv))->sp vs H Q E-> ∃ t,PSs (jK (CXE P w) P w K mg base N qual (ay st) f cdv A outer s H E) (eX st) t/\t { nx:=fun _ H'=>Q .non H',rt:=Q } (start N vs) H):FnOk P w K mg base (CXE P w) (k+1) f fd ps sp:=by
 refine bN F.ex fun oc od kV doc pq0=>bN pq0 fun pm an cdv ct pq1=>bp pq1 fun osl eq1 lk hcd=>?_;clear pq0 pq1;subst eq1;exact IA lk hcd S len fun A outer s H vs Q E hr hsp=>hbody cdv A outer s H vs Q E hr hsp
end
structure CalX (P:Program) (w:World) (K:PySem.W.Frag) (mg:Str->Option Value) (base:Heap) (k:Nat) (x:Str) (ps:List Str) (sp:Sp):Prop where
 ex:∃ f fd,FnOk P w K mg base (CXE P w) k f fd ps sp/\Binds K fd ps []/\PySem.W.keepIn K (.ref f)=true/\mg x=some (.ref f)
abbrev TX:=St->Hp->VK->[Qp,XK]
def FX (X:Cx) (pins:Px) (σ:St) (E:XK) (v:Value) (s':Shared):Prop:=∃ H1 s1,[Qz,H1,s1]/\CXE X.prog X.w X.stack H1 s1 E v s'
def PX (X:Cx) (e:Expr) (t:TX):Prop :=
 ∀ (pins:Px) (s:Shared) (σ:St) (H:Hp) (Q:VK) (E:XK),Rw->t σ H Q E->[SK,Uk,X.A,[Oa,e],EP X pins σ Q,FX X pins σ E]
section
variable {X:Cx} {k j:Nat} {f:Addr} {fd:FuncData} {ps:MB} {sp:Sp} {E:XK} {x:Str} {p pos:Pos} {e:Expr} {es:OR} {t:TA}
theorem IY (C:CalX X.prog X.w X.K X.mg X.base k x ps sp) (hx:Passes (CXE X.prog X.w) X E) (hr:Room j X.A) (hj:k<=j) (hg:Gl X x) (ha:PA X (e::es) t) (hdb:[Vb,x == Ry]:=by decide) (he:[N3,e::es]=(false,[Oa,e])::Um:=by rfl) (hpl:[Vb,([Xf,Um]).any OB]:=by rfl) :
  PE X ([UM,([Zs,p]),e::es,[]]) (AF sp [] E t):=by
 refine e9 C.ex fun f fd F b kp m=>?_
 exact AX F (hr.mono hj) hg m kp b .nil hx ha hdb he hpl
theorem Kw (C:CalX X.prog X.w X.K X.mg X.base k x ps sp) (hr:Room j X.A) (hj:k<=j) (hg:Gl X x) (ha:PA X.nox (e::es) t) (hdb:[Vb,x == Ry]:=by decide) (he:[N3,e::es]=(false,[Oa,e])::Um:=by rfl) (hpl:[Vb,([Xf,Um]).any OB]:=by rfl) :
  PX X ([UM,([Zs,p]),e::es,[]]) (fun σ H Q E=>t σ H fun vs H1=>sp vs H1 Q E):=by
 refine e9 C.ex fun f fd F b kp m=>?_
 intro pins s σ H Q E I h;refine [WR,ie I hg m ?_ hdb];have h1:=ha pos pins s σ H _ (I.wish _) h;refine PySem.W.callWith_K (h₀:=X.base) I.ok.mod.kin kp ([UY,h1,fun us s1 pr=>aX pr fun vs H1 I1 r q=>[W4,I1.kIn],[Tz,z.elim]]) he hpl;have I2:=I1.unwish;have hl:[MP,us++[]]=Rn:=by rw [List.append_nil,<- r.length]; exact F.len _ _ _ _ q
 have hb2:=b s1 us I2.kIn hl;rw [WQ] at hb2;refine wpAny_call (codeAny_mono (F.run X.A X.stack s1 H1 [Mw,us,[]] us vs Q E (hr.mono hj) I2.env0 hb2 r q) fun r s' hq=>?_);cases r with
 | error e=>exact (bP H1 s1 I2 hq)
 | ok fl =>
  cases fl with
  | ret u=>exact I2.after hq
  | next=>exact [UZ,hq]
  | brk=>exact [UZ,hq]
  | cont=>exact [UZ,hq]
end
def VE:MS:=[.type "ValueError",.type "Exception",.type "BaseException",.type "object"]
def yC (K:M3) (C:Addr):Prop:=PySem.W.excIn K C VE "ValueError.__new__"=true
theorem Gw {K:M3} {h:Heap} {C:Addr} (q:yC K C) (X:K.In h):∃ bm N nm q bs hdct sn sub ab col dd k0 k1 k2 k3 k5 mN,h.get? C=[Mo,excClassObj nm q C N bs bm hdct sn sub ab col dd k0 k1 k2 k3 k5 "ValueError.__new__"]/\h.Ns N mN/\mN Ql=none/\OwnTail h VE bm:=by
 unfold yC PySem.W.excIn at q;split at q
 .rename_i dd cd sl ho;split at q
  .rename_i C' bm k0 k1 k2 k3 n k5 hm hs;simp only [Bool.and_eq_true,beq_iff_eq,Bool.not_eq_true'] at q;obtain ⟨⟨⟨⟨⟨rfl,rfl⟩,hdel⟩,ht⟩,hok⟩,hni⟩:=q;obtain ⟨nm,bs,mro,ns,qn,hd,sn,sub,ab,col,del⟩:=cd;dsimp only at hm hdel hok hni;subst hm hdel;have hsl:sl=#[k0,k1,k2,k3,[Mo,[Sl,"ValueError.__new__"]],k5]:=by
    obtain ⟨l⟩:=sl;simp only at hs;rw [hs]
   subst hsl;exact (cf bm ns nm qn (cf bs hd sn sub (cf ab col dd k0 (cf k1 k2 k3 k5 (cC _ (X _ _ ho) (.of_isNs (PySem.W.isNs_of_in X hok)) (PySem.W.nsMap_none_of_in X hok hni) (PySem.W.tail_of_in X ht))))))
  .cases q
 .cases q
def Gr (E:XK) (C:Addr):TS:=fun _ _ H=>E [MT,C] none H
theorem tY {X:Cx} {E:XK} {x:Str} {C:Addr} {np cpos pos:Pos} (hs:Fc X E) (hc:X.calm=true) (hg:Gl X x) (hm:X.mg x=[Mv,C]) (q:yC X.K C) (hd:[Vb,x == Ry]:=by decide) :
  PS X (.Raise ([Mo,.Call ([Zs,np]) [] [] cpos]) none pos) (Gr E C):=by
 intro pins s σ H D I h;refine bN (Gw q I.kIn :) fun tl N nm q pq0=>bN pq0 fun bs hdct sn sub pq1=>bN pq1 fun ab col dd k0 pq2=>bN pq2 fun k1 k2 k3 k5 pq3=>iD pq3 fun mN hC hN hni T=>?_;clear pq0 pq1 pq2 pq3;refine wpAny_Raise_call_subT (C:=C) (nm:=nm) (q:=q) (N:=N) (bs:=bs) (bm:=tl) (hdct:=hdct) (sn:=sn) (sub:=sub) (ab:=ab) (col:=col) (dd:=dd) (k0:=k0) (k1:=k1) (k2:=k2) (k3:=k3) (k5:=k5) PySem.F.excBase_ValueError (mN:=mN) (T.hasType PySem.F.excBase_ValueError.hasBase) (Q4) rfl hni (ie I hg hm [P7,?_] hd)
 refine evalArgs_empty (dv rfl (OX) hC hN (aH T (fun h' e made=>?_)));refine bp made.there fun t ht _ _=>?_
 exact hs pins σ H s h' e C #[] _ I made.keeps made.new ht rfl h
end L2
namespace L2
open PySem PySem.Spec PyProof.Rows
abbrev TSX:=Ends->XK->St->Qr
def PSX (X:Cx) (st:Stmt) (t:TSX):Prop :=
 ∀ (pins:Px) (s:Shared) (σ:St) (H:Hp) (D:Ends) (E:XK),Rw->t D E σ H->[SK,Uk,X.A,exec st X.env,SP X pins D,FX X pins σ E]
section
variable {X:Cx} {e:Expr} {tx:TX} {pos:Pos}
def IM (tx:TX):TSX:=fun D E σ H=>tx σ H (fun _ H1=>[Yp,H1]) E
theorem DG (he:PX X e tx) (hs:swapsWith e none pos.line X.env=pure false:=by rfl):PSX X (.Expr e pos) (IM tx):=by
 intro pins s σ H D E I h;exact wpAny_Expr_any [ZS,he pins s σ H _ E I h,fun v s1 pr=>[P8,pr,bP σ H1 I1 q1]] I.quiet hs
end
def ExO (a C:Addr) (d:SH):HO:=.ext fun h=>∃ vs sl,RO=some ⟨.ref C,d,[S5,vs],sl⟩
theorem JV {P:Program} {w:World} {H:Hp} {h:Heap} {a C:Addr} {d:SH} {vs:Nr} {sl:Array (Ms)} (e:RO=some ⟨.ref C,d,[S5,vs],sl⟩):ObjOk P w H h a (ExO a C d) :=
 (bM (pQ vs sl e) [T7,e] (fun _ _ ⟨vs,sl,q⟩ k=>(pQ vs sl (k _ q))))
section
variable {P:Program} {w:World} {outer:Sk} {H H':Hp} {g B h:Heap} {x C:Addr} {d:SH}
theorem Fly.fresh (F:Fly P w outer H H' g B x C d h):g.get? x=none:=by
 refine ar F.exc fun vs pp1 _=>?_;obtain ⟨bx,sl,ex⟩:=pp1;cases q:g.get? x with
 | none=>rfl
 | some o =>
  obtain ⟨o',z⟩:=F.cov x o q (kq F.funs ex rfl);rw [z] at bx;cases bx
theorem Fly.track (F:Fly P w outer H H' g B x C d h):Un (WH) [] H (upd H' x (ExO x C d)) g h/\HOk P w (upd H' x (ExO x C d)) h:=by
 have nx:=F.noX;have gx:=F.fresh;refine ar F.exc fun vs pp2 _=>?_;obtain ⟨_,sl,ex⟩:=pp2;have ne:[Ym,H' b=MN,b≠x]:=[RU,aV e nx]
 refine [Mw,⟨F.un.keep,F.un.slot,fun b o e n hx=>?_,F.un.there,fun b xs e=>?_,fun b o u e=>?_,fun b ps e=>?_⟩,[RU,?_]]
 .have hb:b≠x:=[OE,by rw [z,gx] at e; cases e]
  rw [aK hb];exact F.un.free b o e n hx
 .have q:=F.un.tups b xs e;rw [aK (ne b _ q)];exact q
 .have q:=F.un.frzs b o u e;rw [aK (ne b _ q)];exact q
 .obtain ⟨m,q⟩:=F.un.tbls b ps e;exact [Mw,m,by rw [aK (ne b _ q)]; exact q]
 .by_cases hb:b=x
  .subst hb;rw [aq] at e;cases e
   exact JV ex
  .rw [aK hb] at e;exact (F.hok b o e).stay (fun _ _ _ q=>q) (fun c q=>by rw [aK (ne c _ q)]; exact q) fun c xs q=>by rw [aK (ne c _ q)]; exact q
end
abbrev Cx.held (X:Cx) (x:Addr):Cx:={ X with A:=X.A.mark ([Mv,x]),calm:=false,xe:=Vf }
section
variable {X:Cx} {pins:Px} {σ:St} {H:Hp} {s:Shared} {x:Addr}
theorem Inv.held (I:Rw) (x:Addr):[Oi,X.held x,H,s] :=
 ⟨⟨I.ok.mod,I.ok.kind,I.ok.glob,I.ok.blt,Y3,I.ok.inj,I.ok.has,I.ok.cab,[UK,[PL,z]],I.ok.frames,I.ok.stk,I.ok.exf,I.ok.bs,I.ok.bsz,I.ok.noex,I.ok.exfs,I.ok.funs,I.ok.frf⟩, I.os,I.bare,I.base,I.loc,I.cell,I.free,I.freeC,I.pin,I.hok,I.len⟩
theorem Inv.unheld (ok:X.Ok) (I:[Oi,X.held x,H,s]):Rw:=⟨ok,I.os,I.bare,I.base,I.loc,I.cell,I.free,I.freeC,I.pin,I.hok,I.len⟩
theorem SP.unheld (ok:X.Ok) {D:Ends} {f:Flow} {s':Shared} (h:SP (X.held x) pins D f s'):SP X pins D f s':=by
 cases f with
 | next=>refine bU h fun σ' H' I q=>?_;clear h; exact (bP YL H' (I.unheld ok) q)
 | brk=>refine bU h fun σ' H' I q=>?_;clear h; exact (bP YL H' (I.unheld ok) q)
 | cont=>refine bU h fun σ' H' I q=>?_;clear h; exact (bP YL H' (I.unheld ok) q)
 | ret u=>refine fP h fun v σ' H' I r q=>?_;clear h; exact (iR v YL H' (I.unheld ok) r q)
theorem ET {E:XK} {e:Value} {s':Shared} {R:Qc} {Ee:Qc} (hst:X.stack=X.env::X.outer) (hf:X.env.frame=some Qa) (h:FX X pins σ E e s')
  (k:∀ (x C:Addr) (d:SH) (H1 H':Hp) (s1 s'':Shared) (B:Heap),e=Ya->[Qz,H1,s1]->s''.os=s1.os->AllBare s''.gens->Fly X.prog X.w X.stack H1 H' s1.heap B x C d s''.heap->E [MT,C] d H'->R e s'') :
  [Np,Uk,X.A,noteFrame e X.env,(fun _ s2=>[Np,Uk,X.A,setFlight e none,(fun _ s3=>R e s3),Ee,s2]),Ee,s']:=by
 refine bU h fun H1 s1 I1 pq0=>bN pq0 fun x C d H' pq1=>gq pq1 fun B eq3 os bare F q=>?_;clear pq0 pq1 h;subst eq3;have hfr:X.A.frames=[Mo,X.env::X.outer]:=by rw [I1.ok.frames,hst]
 refine ar F.exc fun vs xa ta=>?_
 have fu:=F.funs;rw [hst] at fu;refine qC hfr hf F.stay fu xa (.inr ta) fun g1 ws _ xa1 ta1 m1=>?_
 refine jR (s:={ s' with heap:=g1 }) m1.stay m1.funs xa1 ta1 fun g2 xa2 ta2 m2=>?_
 have m:=m1.trans m2;rw [<- hst] at m;exact k x C d H1 H' s1 _ B rfl I1 os bare (F.moved m xa2 ta2) q
theorem Cs {C:Addr} {d:SH} {H1 H':Hp} {s1 s':Shared} {B:Heap} {R:NM} {A:Around} {Ee:Qc} (F:Fly X.prog X.w X.stack H1 H' s1.heap B x C d s'.heap)
  (k:∀ h',Fly X.prog X.w X.stack H1 H' s1.heap B x C d h'->R { s' with heap:=h' }):[Np,Uk,A,setFlight [MT,x] none,(fun _ s3=>R s3),Ee,s']:=by
 refine ar F.exc fun vs xa ta=>?_
 exact jR F.stay F.funs xa ta fun h' xa' ta' m=>k h' (F.moved m xa' ta')
end
theorem Jf {M:Model} {P:Program} {w:World} {outer:Sk} {H H':Hp} {g B h:Heap} {x C:Addr} {d:SH} (F:Fly P w outer H H' g B x C d h):PySem.W.Looks M h (typeOf [MT,x]) [MT,C]:=by
 refine ar F.exc fun vs pp4 _=>?_;obtain ⟨_,sl,ex⟩:=pp4;exact (PySem.W.Looks.ld ex).andThen .now
section
variable {X:Cx} {st b0:Stmt} {suite:WG} {c n:Str} {C0:Addr} {np hpos pos:Pos} {tb:TSX} {ts:TS}
def LS (K:M3) (C0:Addr) (tb:TSX) (ts:TS):TS:=fun D σ H=>tb D (fun c d H'=>PySem.W.exmOne K c [MT,C0]=Ys/\∀ a C,c=.ref C->H' a=none->ts D σ (upd H' a (ExO a C d))) σ H
theorem JD (hst:X.stack=X.env::X.outer) (hf:X.env.frame=some Qa) (hg:Gl X c) (hm:X.mg c=[Mv,C0]) (hb:PSX X st tb) (hs:∀ x,PSs (X.held x) (b0::suite) ts) (hd:[Vb,c == Ry]:=by decide) :
  PS X (.Try [st] [.ExceptHandler ([Mo,.Name c np]) none (b0::suite) hpos] [] [] pos) (LS X.K C0 tb ts):=by
 intro pins s σ H D I h;refine wpAny_Try_except (wpAny_execs_cons ([UY,hb pins s σ H D _ I h,fun fl s1 q=>?_,fun e s1 q=>?_]))
 .cases fl with
  | next=>exact [YM,([YM,q])]
  | ret v=>exact q
  | brk=>exact q
  | cont=>exact q
 refine ET (R:=fun e s3=>[Np,Uk,X.A,handleBy e X.env [.ExceptHandler ([Mo,.Name c np]) none (b0::suite) hpos],SP X pins D,X.xe,s3]) hst hf q fun x C d H1 H' s1 s'' B ee I1 os bare F ⟨hx,q2⟩=>?_
 subst ee;obtain ⟨un,hok⟩:=F.track;have I2:[Qz,upd H' x (ExO x C d),s'']:=I1.call' os un hok bare ([Pg,[PL,hb]]);refine wpAny_handleBy_cons (codeAny_handlers_test (ie (X:=X.held x) (I2.held x) hg hm ?_ hd)) (by intro q; cases q);refine PySem.W.Looks.here (PySem.W.exm_one I2.kIn (Jf F) hx) ?_;refine codeAny_handlers_suite (Cs (X:=X) F fun h' F'=>?_);obtain ⟨un',hok'⟩:=F'.track;have I3:[Ts,X,σ,upd H' x (ExO x C d),s'',h']:=I1.call' os un' hok' bare ([Pg,[PL,hb]]);refine [UY,hs x pins _ σ _ D (I3.held x) (q2 x C rfl F.noX),fun fl s3 q3=>?_,[Tz,z.elim]]
 exact q3.unheld I.ok
end
end L2
namespace L2
open PySem PySem.Spec PyProof.Rows
section
variable {X:Cx} {pins:Px} {σ:St} {H:Hp} {s:Shared}
end
section
variable {X:Cx} {st b0:Stmt} {suite:WG} {c n:Str} {C0:Addr} {np hpos pos:Pos} {tb:TSX} {ts:TS} {i:Nat}
end
end L2
namespace L2
open PySem PySem.Spec PyProof.Rows PySem.W
structure XCls (K:PySem.W.Frag) (C:Addr):Prop where
 ga:findIn K (.ref C) "__getattribute__"=some (some (.builtin "BaseException.__getattribute__"))
 gh:findIn K (.ref C) "__getattr__"=some none
 bx:subIn K (.ref C) (.type "BaseException")=some true
 hd:hasDictIn K C=true
 ca:findIn K (.ref C) "__class__"=some (some (.builtin "object.__class__"))
 cg:specialIn K (.builtin "object.__class__") "__get__"=some (some (.builtin "getset_descriptor.__get__"))
 ct:takesIn K (.builtin "object.__class__")=some true
 ob:mroIn K C (.type "object")=some true
section
variable {prog:Program} {w:World} {A:Around} {E:Qc} {s:Shared} {K:M3} {x C:Addr} {ox:Obj} {od:[OM,Obj]} {name:Str} {tk:Tok}
end
end L2
namespace L2
open PySem PySem.Spec PyProof.Rows
section
variable {X:Cx} {pins:Px} {σ:St} {H:Hp} {s:Shared}
end
theorem br {σ:St} {H:Hp} {A B:Qr} (h:A H):ID σ H (fun b H4=>[Mj,b=true,A H4,B H4]):=cv (A:=A H) (B:=B H) h
theorem El {X:Cx} {K:M3} {tg:Expr} (hK:X.K=K) {l:Expr} {tl:TE} (hl:PE X l tl):PI X tg l (IB K tl):=hK▸de hl
theorem Am {X:Cx} {K:M3} {tg:Expr} (hK:X.K=K) {l:Expr} {tl:TE} (hl:PE X l tl):PI X tg l (Lk K tl):=hK▸dj hl
theorem tN {X:Cx} {K:M3} (hK:X.K=K):dM X ([Sl,"len"]) ([Tb,∃ p ys,xs=[TN]/\(SqL K H p ys\/SqT K H p ys)/\Q (.int (NQ:Nat)) H]):=hK▸bz
theorem qu {X:Cx} {K:M3} (hK:X.K=K):IxR X (KA K):=hK▸aU
theorem dO {X:Cx} {K:M3} (hK:X.K=K):IxR X (Lq K):=hK▸bo
end L2
namespace L2
open PySem PySem.Spec PyProof.Rows
section
variable {X:Cx} {e:Expr} {es:OR} {te:TE} {t:TA} {x:Str} {p pos:Pos} {id T:String} {r:Nz->Hp->Sr} {k j:Nat} {ps:MB} {sp:Sp}
end
end L2
namespace L2
open PySem PySem.Spec PyProof.Rows
theorem FunAt.calX {P:Program} {w:World} {K:M3} {h base:Heap} {mg:Str->Ms} {x:Str} {st:Stmt} {ps:MB} {k:Nat} {sp:Sp} (F:[QA,x,st]) (X:K.In h) (G:[Y2,mg])
  (hb:∀ (kV doc pm:Value) (an:SH) (cdv ct:Value) (us:MS),us.length=Rn->bindArgs (PySem.W.fnOf x x (f6 st) (eX st) (ay st) .none kV doc pm an cdv ct) [Mw,us,[]]=pure (ps.zip us))
  (ok:∀ (f:Addr) (fd:FuncData),[UG,x,x,st]->FnOk P w K mg base (CXE P w) k f fd ps sp):CalX P w K mg base k x ps sp:=by
 obtain ⟨f,fd,F1,a⟩:=F.ex;exact ⟨f,fd,ok f fd F1,F1.binds hb,F1.kp,[SJ,G,a]⟩
end L2
namespace L2
open PySem PySem.Spec PyProof.Rows
inductive EqH (K:PySem.W.Frag) (H:Hp):Nat->V->V->Bool->Prop
 | flat {n:Nat} {x y:V} (fx:gD x=true) (fy:gD y=true):EqH K H n x y (eqV x y)
 | same {n:Nat} {a:Addr}:EqH K H n (.ref a) (.ref a) true
 | lst {n:Nat} {a b:Addr} {xs ys:List V} (e:Nat->Bool) (hne:a≠b) (ha:SqL K H a xs) (hb:SqL K H b ys) (hl:xs.length=ys.length) (he:∀ (i:Nat) x y,xs[i]?=some x->ys[i]?=some y->EqH K H n x y (e i)):EqH K H (n+1) (.ref a) (.ref b) ((List.range xs.length).all e)
 | len {n:Nat} {a b:Addr} {xs ys:List V} (hne:a≠b) (ha:SqL K H a xs) (hb:SqL K H b ys) (hl:¬ xs.length=ys.length):EqH K H (n+1) (.ref a) (.ref b) false
 | tup {n:Nat} {a b:Addr} {xs ys:List V} (e:Nat->Bool) (hne:a≠b) (ha:SqT K H a xs) (hb:SqT K H b ys) (he:∀ (i:Nat) x y,xs[i]?=some x->ys[i]?=some y->EqH K H n x y (e i)):EqH K H (n+1) (.ref a) (.ref b) ((List.range (min xs.length ys.length)).all e && xs.length == ys.length)
theorem IsTup.tup {h:Heap} {a:Addr} {its:Nr} (t:IsTup h a its):h.IsTuple a its:=by
 refine bp t fun o h1 h2 h3=>?_;clear t;exact (aC o h1 h2 h3)
section
variable {X:Cx} {pins:Px} {σ:St} {H:Hp} {s:Shared}
theorem jh {A:Around} {xs ys:Nz} {us ws:MS} {e:Nat->Bool} (r:[Vi,xs]) (r':Vals ys ws) (he:∀ (i:Nat) x y u v,xs[i]?=OV->ys[i]?=VI->[WE,x]->RelV y v->SeqAt.EqAt A s u v (e i)) :
  ∀ j (h1:j<us.toArray.size) (h2:j<ws.toArray.size),SeqAt.EqAt A s us.toArray[j] ws.toArray[j] (e j):=fun j h1 h2=>by
 have l1:=r.length;have l2:=r'.length;simp only [List.size_toArray] at h1 h2;have e1:xs[j]?=some xs[j]:=[M4,L6];have e2:ys[j]?=some ys[j]:=[M4,L6];refine [NC,r.get e1,Wd]
 refine [NC,r'.get e2,fun v hv rv=>?_]
 have eu:us.toArray[j]=u:=by
  have:us[j]?=some us[j]:=[M4,h1];rw [this] at hu;exact [Mq,hu]
 have ev:ws.toArray[j]=v:=by
  have:ws[j]?=some ws[j]:=[M4,h2];rw [this] at hv;exact [Mq,hv]
 rw [eu,ev];exact he j _ _ _ _ e1 e2 ru rv
theorem EqH.at (I:Rw) {n:Nat} {x y:V} {b:Bool} (h:EqH X.K H n x y b):∀ {A:Around} {u v:Value},A.units+n<cLine->[WE,x]->RelV y v->SeqAt.EqAt A s u v b:=by
 induction h with
 | flat fx fy=>intro A u v hu rx ry; exact zy rx ry fx fy
 | same=>intro A u v hu rx ry; cases rx; cases ry; exact SeqAt.EqAt.same _
 | @lst n a b xs ys e hne ha hb hl he ih =>
  intro A u v hu rx ry;cases rx
  cases ry
  refine bp (I.list ha :) fun us r1 p1 _=>?_
  refine bp (I.list hb :) fun ws r2 p2 _=>?_
  have l1:=r1.length;have l2:=r2.length;have:=SeqAt.EqAt.of_refs hne (SeqAt.RcAt.lists p1.isList p2.isList (by simp only [List.size_toArray]; omega) (by omega) (jh (A:=A.in1) r1 r2 fun i x y u v e1 e2 ru rv=>ih i x y e1 e2 (by show A.units+1+n<cLine; omega) ru rv));rw [List.size_toArray,<- l1] at this;exact this
 | @len n a b xs ys hne ha hb hl =>
  intro A u v hu rx ry;cases rx
  cases ry
  refine bp (I.list ha :) fun us r1 p1 _=>?_
  refine bp (I.list hb :) fun ws r2 p2 _=>?_
  have l1:=r1.length;have l2:=r2.length;exact SeqAt.EqAt.of_refs hne (SeqAt.RcAt.lists_lengths p1.isList p2.isList (by simp only [List.size_toArray,bne_iff_ne]; omega) (by omega))
 | @tup n a b xs ys e hne ha hb he ih =>
  intro A u v hu rx ry;cases rx
  cases ry
  refine bp (I.tuple ha :) fun us r1 p1 _=>?_
  refine bp (I.tuple hb :) fun ws r2 p2 _=>?_
  have l1:=r1.length;have l2:=r2.length;have:=SeqAt.EqAt.of_refs hne (SeqAt.RcAt.tuples (e:=e) (IsTup.tup p1) (IsTup.tup p2) (by omega) (jh (A:=A.in1) r1 r2 fun i x y u v e1 e2 ru rv=>ih i x y e1 e2 (by show A.units+1+n<cLine; omega) ru rv));rw [List.size_toArray,List.size_toArray,<- l1,<- l2] at this;exact this
def Lh (K:M3) (neg:Bool):R2:=[X8,∃ (n:Nat) (b:Bool) (p q:Addr),x=TN/\y=.ref q/\p≠q/\n<=32/\EqH K H n x y b/\Q (.bl (if neg then !b else b)) H]
theorem JS (hu:V7+64<cLine):OpR X [Ti,.Eq] (Lh X.K false):=by
 intro pins s σ H x y v u Q I rx ry h;refine cZ h fun n b p q eq1 eq2 hpq hn pq0=>bZ pq0 fun he hq=>?_;clear pq0 h;subst eq1;subst eq2;cases rx
 cases ry
 cases he with
 | flat fx fy=>cases fx
 | same=>exact [O9,rfl,hpq]
 | lst e hne ha hb hl he =>
  refine [Yo,ha,Ul]
  refine [Yo,hb,Uc]
  have l1:=V8;have l2:=UA;refine SeqAt.eq_listAt Xc Xb (VH) L6 (jh r1 r2 fun i x y u v e1 e2 ru rv=>(he i x y e1 e2).at I ([NF,V7+1+_<cLine]) ru rv) (aB (.bl _) H I ?_ hq);show QV=QV;rw [OJ,<- l1];rfl
 | len hne ha hb hl =>
  refine [Yo,ha,Ul]
  refine [Yo,hb,Uc]
  have l1:=V8;have l2:=UA;exact SeqAt.eq_list_lengthsAt Xc Xb (Tu) L6 ([YU,.bl _,H,I,hq])
 | tup e hne ha hb he =>
  refine bp [SY,ha] Ul
  refine bp [SY,hb] Uc
  have l1:=V8;have l2:=UA;refine SeqAt.eq_tupleAt (e:=e) ([Ye,p1]) ([Ye,p2]) L6 (jh r1 r2 fun i x y u v e1 e2 ru rv=>(he i x y e1 e2).at I ([NF,V7+1+_<cLine]) ru rv) (aB (.bl _) H I ?_ hq);show QV=QV;rw [OJ,OJ,<- l1,<- l2];rfl
theorem Jn (hu:V7+64<cLine):OpR X [Ti,.NotEq] (Lh X.K true):=by
 intro pins s σ H x y v u Q I rx ry h;refine cZ h fun n b p q eq3 eq4 hpq hn pq0=>bZ pq0 fun he hq=>?_;clear pq0 h;subst eq3;subst eq4;cases rx
 cases ry
 cases he with
 | flat fx fy=>cases fx
 | same=>exact [O9,rfl,hpq]
 | lst e hne ha hb hl he =>
  refine [Yo,ha,Ul]
  refine [Yo,hb,Uc]
  have l1:=V8;have l2:=UA;refine SeqAt.RcNeAt.lists Xc Xb (VH) L6 (jh r1 r2 fun i x y u v e1 e2 ru rv=>(he i x y e1 e2).at I ([NF,V7+1+_<cLine]) ru rv) _ _ _ _ (aB (.bl _) H I ?_ hq);show QV=QV;rw [OJ,<- l1];rfl
 | len hne ha hb hl =>
  refine [Yo,ha,Ul]
  refine [Yo,hb,Uc]
  have l1:=V8;have l2:=UA;exact SeqAt.RcNeAt.lists_lengths Xc Xb (Tu) L6 _ _ _ _ ([YU,.bl _,H,I,hq])
 | tup e hne ha hb he =>
  refine bp [SY,ha] Ul
  refine bp [SY,hb] Uc
  have l1:=V8;have l2:=UA;refine SeqAt.RcNeAt.tuples (e:=e) ([Ye,p1]) ([Ye,p2]) L6 (jh r1 r2 fun i x y u v e1 e2 ru rv=>(he i x y e1 e2).at I ([NF,V7+1+_<cLine]) ru rv) _ _ _ _ (aB (.bl _) H I ?_ hq);show QV=QV;rw [OJ,OJ,<- l1,<- l2];rfl
end
end L2
namespace L2
open PySem PySem.Spec PyProof.Rows
def zE {α:Type} (l:QY) (lo hi:M7):QY:=(l.drop (HT.sIx l.length 0 lo)).take (HT.sIx l.length l.length hi - HT.sIx l.length 0 lo)
theorem wo (v:M7) (n d:Nat):(match v with | none=>((d:Nat):Int) | some i=>max 0 (min (if i<0 then i+(n:Int) else i) (n:Int)))=[RK,HT.sIx n d v]:=by
 cases v with
 | none=>rfl
 | some i =>
  show max 0 (min ([Mj,i<0,i+Pp,i]) Pp)=[RK,([Mj,i<0,[TF,i+Pp],min i.toNat n])];by_cases h:i<0
  .simp only [if_pos h]; omega
  .simp only [if_neg h]; omega
theorem JF (lo hi:M7) (n:Nat):Builtin.Str.strSliceIndices lo hi 1 n=sliceRange [RK,HT.sIx n 0 lo] [RK,HT.sIx n n hi] 1:=by
 unfold Builtin.Str.strSliceIndices;simp only [show (1:Int) > 0 by decide,if_true];rw [<- wo lo n 0,<- wo hi n n];rfl
theorem iU (x:Str) (lo hi:M7):[NU,[A00,x,lo,hi]]=zE Ob lo hi:=by
 have hn:x.cps.toList.length=x.length:=by simp [Str.length]
 unfold Txt.slice zE;rw [JF,sliceRange_one,hn];generalize ha:HT.sIx x.length 0 lo=a;generalize hb:HT.sIx x.length x.length hi=b;have hb':b<=x.length:=by rw [<- hb]; exact HT.EH _ _ Tx _
 split
 .rename_i h;simp only [List.length_map,List.length_range,Bool.and_eq_true,beq_iff_eq] at h;by_cases hz:x.length=0
  .have e:Ob=[]:=[Tf,L6];rw [e];simp
  .have e1:a=0:=Mr
   have e2:b=x.length:=Mr
   subst e1 e2;rw [Ze,Nat.sub_zero,[Oy,L6]]
 .rw [pick_run]
theorem cu (x:Str):x.cps.toList.length=x.length:=by simp [Str.length]
section
variable {X:Cx}
def LN:V->M7->M7->Hp->Sr:=fun x lo hi H Q=>∃ z,x=R9/\[N4,z.length]/\Q [XE,([A00,z,lo,hi])] H
theorem part_of {v:Value} {o:M7} (p:IsPart v o):∃ l:[OM,Int×Tok],v=partValue l/\l.map OB=o:=by
 cases p with
 | none=>exact ⟨none,rfl,rfl⟩
 | int i t=>exact ⟨some (i,t),rfl,rfl⟩
theorem Aj:SlR X LN:=by
 intro pins s σ H x v vl vu lo hi sl Q I rx hs pl pu h;obtain ⟨z,rfl,hz,q⟩:=h;obtain ⟨t,rfl⟩:=rx;obtain ⟨l,e1,e2⟩:=part_of pl;obtain ⟨u,e3,e4⟩:=part_of pu;refine ⟨Z3,_,PySem.F.slot_str_getitem.lookup,typeIs_str _ _ _,?_⟩;obtain ⟨o,h1,h2,h3⟩:=hs;subst e1 e3 e2 e4;refine wpAny_getItem_str_slice (l:=l) (u:=u) (st:=none) ⟨o,h1,h2,h3⟩ rfl ?_;refine post_val_or_str [Mw,[Qi,Txt.slice_le z _ _,hz],fun t' k=>?_];exact ⟨.str _,H,SN,VT,q⟩
end
end L2
namespace L2
open PySem PySem.Spec PyProof.Rows
section
variable {prog:Program} {w:World} {A:Around} {E:Qc} {s:Shared}
theorem yt {it t:Addr} {i:Nat} {its:Nr} {x:Value} {Q:Qc} (a:s.heap.IsTupleIter it t i) (b:s.heap.IsTuple t its) (c:its[i]?=OV) (d:∀ h',h'.IsTupleIter it t (i+1)->[Tv,it,h']->[Pu,x,h']):[SK,Vl,A,[Pa,it],Q,E]:=by
 refine bp (id a :) fun u e1 e2 e3=>?_
 refine bp b fun v f1 _ pq0=>iC pq0 fun m f3=>?_;clear pq0 b;unfold Builtin.SmallTypes.nextOf;refine [O0,[Og,Yw,a.typeIs,W9,([Sa,W9,a.typeIs,F.entry_tuple_iterator_next,?_,F.args_tuple_iterator_next_1 _])]];show [SK,_,_,field ZP 0 >>= _,_,_]; refine [O0,[OU,e1,e3,.ref t,?_]];show [SK,_,_,[Mj,([Te,t] == W8)=true,_,_],_,_]; rw [[Ph,[Yh,¬ (([Te,t] == W8)=true),MZ]]];show [SK,_,_,field ZP 1 >>= _,_,_]; refine [O0,[OU,e1,e3,.int i 0,?_]];show [SK,_,_,seqItems? [MT,t] >>= _,_,_]; refine [S6,f1,f3,?_];simp only [Int.toNat_natCast,c];refine [O0,[Y6,e1,e3,Pz,([MO,[Ma,x,([MO,(d _ (aC _ ([XZ,_,e1,([Zw,([Zf,e3,_])])]) ([Q9,Obj.cls_mapFields ..,e2]) ?_) (Heap.SameBut.update ..))])]])]];rw [Obj.data_mapFields e3]; simp [rawInt]
theorem Au {it t:Addr} {i:Nat} {its:Nr} {Q:Qc} (hh:TZ=none) (a:s.heap.IsTupleIter it t i) (b:s.heap.IsTuple t its) (c:its[i]?=none)
  (d:∀ h' e,[WM,it,h']->(∃ o,[QX,e]=MN/\o.cls=.type Wh)->E [MT,e] { s with heap:=h' }):[SK,Vl,A,[Pa,it],Q,E]:=by
 refine bp (id a :) fun u e1 e2 e3=>?_
 refine bp b fun v f1 _ pq0=>iC pq0 fun m f3=>?_;clear pq0 b;unfold Builtin.SmallTypes.nextOf;refine [O0,[Og,Yw,a.typeIs,W9,([Sa,W9,a.typeIs,F.entry_tuple_iterator_next,?_,F.args_tuple_iterator_next_1 _])]];show [SK,_,_,field ZP 0 >>= _,_,_]; refine [O0,[OU,e1,e3,.ref t,?_]];show [SK,_,_,[Mj,([Te,t] == W8)=true,_,_],_,_]; rw [[Ph,[Yh,¬ (([Te,t] == W8)=true),MZ]]];show [SK,_,_,field ZP 1 >>= _,_,_]; refine [O0,[OU,e1,e3,.int i 0,?_]];show [SK,_,_,seqItems? [MT,t] >>= _,_,_]; refine [S6,f1,f3,?_];simp only [Int.toNat_natCast,c];refine [O0,wpAny_rule ([O0,[Y6,e1,e3,Pz,?_]])];show [Np,_,_,newExc [Sx,Wh] [] >>= _,_,_,_]; refine [M9,?_];simp only [newExc,newTuple]; refine [O0,[U9,?_,(by size_fits)]];refine wpAny_bind (m:=firstArgMember _ _) (wpAny_of_eq (a:=Value.none) (by first | rfl | (simp only [firstArgMember]; rfl)) ([U9,?_,(by size_fits)]));simp only [raiseNew]; refine [O0,wpAny_handled ?_];rw [[Nn,A.in1.handled=none,hh]];exact [O0,[MO,(wpAny_throw (d _ _ (((Heap.SameBut.update ..).extBut.push _).push _) ([Yb,_,Ub])))]]
theorem Ep (hh:TZ=none) (it t:Addr) (hne:t≠it) (its:Nr):Draws prog w A it [it,t] its.size (fun i v=>its[i]?=Nw) (fun i h=>h.IsTupleIter it t i/\h.IsTuple t its) where
 live:=fun _ _ st=>by
  obtain ⟨⟨o,e,_⟩,_⟩:=st;exact [Mw,o,e]
 frame:=fun _ _ _ st k=>by
  obtain ⟨⟨o,e,r⟩,⟨o2,e2,r2⟩⟩:=st;exact [Mw,af o (k it Pz o e) r,af o2 (k t Pz o2 e2) r2]
 item:=fun i s Q E hi st d=>yt st.1 st.2 (x:=its[i]) (by simp [hi]) fun h' a b=>d _ h' s.toks (by simp [hi]) [Mw,a,st.2.extBut b.extBut hne] b
 done:=fun s Q E st d=>Au hh st.1 st.2 Pz d
theorem xo (l:Addr) (its:Nr) (n:Nat) (dc:SH) (sl:Array (Ms)) :
  Meets (Builtin.«enumerate.__new__» [Mw,[.type U5,X5],[]]) (fun _ R s=>[Nv,l]=some { cls:=OS,dict:=dc,data:=.seq its n,slots:=sl }/\ R (.ok (.ret [MT,[Pr,[Nf,X3,[S5,#[X5,.int 0 0]]]]])) { s with heap:=([Nf,X3,[S5,#[X5,.int 0 0]]]).push { cls:=.type U5,data:=[S5,#[.none,Ww,.ref L7,rawInt 0,.none,.none]] } }) :=
 .of_wp fun prog w A R s h=>by
  obtain ⟨hp,g,d,tk,os⟩:=s; obtain ⟨a1,h⟩:=h;have sb:=sub_enumerate;have a2:Heap.IsTuple ([XT,⟨hp,g,d,tk,os⟩]) l its:=(aC _ a1 rfl (e8 n rfl));wp_walk using A09;refine wpAny_stack_any fun st=>RG
  split
  .rename_i c _ _ _ _ _;cases (c == Value.type "enumerate") <;> (wp_walk using A09,[WT,a2]; exact [Mn,h])
  .wp_walk using A09,[WT,a2]; exact [Mn,h]
theorem zm {l:Addr} {its:Nr} {Q:Qc} (a:s.heap.IsTuple l its)
  (k:∀ h',IsEnum h' (L7+1) L7 0 .none->h'.IsTupleIter L7 l 0->Wl=L7+2->([Ym,Xz=MN,Zk=MN])->[Pu,[MT,L7+1],h']) :
  [SK,Vl,A,call [Sx,U5] [X5],Q,E]:=by
 refine bp a fun pp1 a1 a2 pq0=>iC pq0 fun n a3=>?_;clear pq0 a;obtain ⟨c,dc,dt,sl⟩:=pp1;replace a2:c=OS:=a2; replace a3:dt=.seq its n:=a3;subst a2 a3;refine callType_new F.called_enumerate M0 (F.typeCall_enumerate_1 _) (F.newCall_enumerate_1 _) (fun obj=>F.args_object_init_2 obj _) F.entry_enumerate_new (xo l its n dc sl) [W4,a1];have z:[Pr,[Nf,X3,[S5,#[X5,.int 0 0]]]]=L7+1:=Heap.size_push ..;show _/\_; rw [z];have e:=Heap.get?_push_size ([Nf,X3,[S5,#[X5,.int 0 0]]]) (o:={ cls:=.type U5,data:=[S5,#[.none,Ww,.ref L7,rawInt 0,.none,.none]] }) rfl;rw [z] at e;exact [Mw,([Yb,_,e]),k _ e (aC _ ([M8,Ub]) rfl rfl) (by rw [Heap.size_push,z]) fun b o x=>[M8,([M8,x])]]
end
def Dl (K:M3) (a:Addr):It :=
 ⟨fun i H=>∃ xs x,SqT K H a xs/\xs[i]?=OV,fun i H v H'=>∃ T x,H T=none/\H'=[Rz,H,T,[[MH,i],x]]/\v=.ref T/\∀ xs,SqT K H a xs->xs[i]?=OV,fun i H=>∃ xs,SqT K H a xs/\Mh=i⟩
theorem Aa {P:Program} {w:World} {K:M3} {elts:OR} {x1:Nat} {tp:Pos} (a e it:Addr) (hei:e≠it) (hea:e≠a) (hai:a≠it) :
  Turn P w K (.Tuple elts x1 tp) (Dl K a) [e,it] e (fun i h=>(∃ old,IsEnum h e it i old)/\h.IsTupleIter it a i) where
 mem:=MJ
 obj:=fun i h st b hb=>by
  obtain ⟨⟨old,he⟩,⟨o,e1,c,d⟩⟩:=st;rcases List.mem_cons.mp hb with z | z
  .subst z;exact (af _ he (fun v q=>[PL,q]))
  .have z':b=it:=[Ml,z]
   subst z';exact (af o e1 (fun v q=>by rw [d] at q; cases q))
 keep:=fun i h h' st k=>[Mw,st.1.elim fun old he=>[Mw,old,k e Pz _ he],st.2.elim fun o r=>(af o (k it Pz o r.1) r.2)]
 item:=by
  intro X hP hw hK hc i pins s σ H E I hf st hg;subst hP hw hK;refine bU hg fun xs x hq hx=>?_;clear hg;refine bp [SY,hq] Wq
  refine [NC,rv.get hx,Wd]
  obtain ⟨⟨old,he⟩,hit⟩:=st;have hlen:=Y4;have hlt:i<P1:=by rw [List.size_toArray,<- hlen]; exact [L8,hx]
  refine wpAny_pyNext_enum_itemD (Ep (A:=X.A.in1) [Yh,X.A.in1.handled=none,Q4] it a hai Ox) he [Mw,hit,[Ye,p]] hlt hei (by simp [hei,hea]) fun v h' tk hv ho hst hT hsz hk=>?_
  obtain rfl:v=u:=by
   have:its[i]?=Nw:=[Ml,hv]
   rw [hu] at this;exact [YH,this]
  have helt:e<L7:=[Nm,he];have hilt:it<L7:=by refine ar hit fun _ q _=>?_;clear hit; exact [Nm,q]
  refine ND;refine wpAny_letOwnedTupleGo_enum ho fun h2 he2 hs2=>?_
  have k2:[Ym,b∉[e,it],Xz=MN->h2.get? b=MN]:=fun b o hb q=>by
   have n1:b≠e:=[OE,hb (YK)]
   have n2:b≠it:=[OE,hb (YK)]
   exact [Q9,hs2.2 b n1,hk b o n1 n2 q]
  have t2:h2.get? L7=[Qk,OS,.seq #[.int i tk,v]]:=[Q9,hs2.2 _ ([Uw,helt]),hT];have hn:H L7=none:=[S7,Tx];have new:[V1,X.w,([Rz,H,L7,[[MH,i],x]]),h2,L7,[Rj,[[MH,i],x]]] :=
   (aH (Rv) (af [.int i tk,v] (.cons VT (.cons ru .nil)) (aC _ t2 rfl (e8 _ rfl))))
  have I2:[NP,X,σ,([Rz,H,L7,[[MH,i],x]]),s,h2,tk+1]:=I.turnedNew k2 hf Tx new;refine (cD Vv _ I2 rfl (bJ L7 x hn rfl rfl (fun ys hy=>by rw [I.tuple_inj hy hq]; exact hx)) [Mw,[W4,v],hst.1.elim fun o r=>(af o ([Q9,hs2.2 it hei.symm,r.1]) r.2)] ([Pg,?_]))
  .simpa using he2
  .have hb1:b≠L7:=by
    rcases List.mem_cons.mp hb with z | z
    .rw [z]; exact [Ol,helt]
    .have z':b=it:=[Ml,z]
     rw [z']; exact [Ol,hilt]
   rw [aK hb1];exact (hf b hb).1
 done:=by
  intro X hP hw hK hc i pins s σ H E I hf st hg;subst hP hw hK;refine ar hg fun xs hq hx=>?_;clear hg;refine bp [SY,hq] Wq
  obtain ⟨⟨old,he⟩,hit⟩:=st;have e:i=P1:=by rw [List.size_toArray,<- rv.length]; exact hx.symm
  subst e;refine wpAny_pyNext_enum_endD (Ep (A:=X.A.in1) [Yh,X.A.in1.handled=none,Q4] it a hai Ox) he [Mw,hit,[Ye,p]] fun h' eb=>[P7,?_]
  exact I.turnedL (t':=s.toks) (fun b o hb q=>eb b o [UK,hb (YK)] q) hf
 self:=fun _ _ _ _ _ st h=>by
  obtain ⟨⟨old,he⟩,_⟩:=st;exact wpAny_pyIter_enum he h
section
variable {X:Cx}
def IX (K:M3) (ta:TA):TI:=fun σ H R=>ta σ H fun vs H1=>∃ a,vs=[QM]/\(∃ xs,SqT K H1 a xs)/\R (Dl K a) H1
theorem mE {a:Expr} {ta:TA} {p pos tp:Pos} {elts:OR} {x1:Nat} (hg:Gl X U5) (hm:X.mg U5=none) (ha:PA X [a] ta) (hs:[N3,[a]]=[(false,[Oa,a])]:=by rfl) :
  PI X (.Tuple elts x1 tp) ([UM,.Name U5 p,[a],[]]) (IX X.K ta):=by
 intro pins s σ H R I h;refine Call_ (iy I hg hm boot_enumerate ([Rh,[ZS,ha pos pins s σ H _ I h,fun us s1 pr=>aX pr fun vs H1 I1 r1 q1=>?_],hs,rfl]));refine bp q1 fun l e pp2 q=>?_;clear q1;obtain ⟨xs,hx⟩:=pp2;subst e;refine [NC,vals1 r1,fun u eq3 ru=>?_];subst eq3;cases ru
 refine bp (I1.tuple hx :) fun its rv pl hz=>?_
 have hl:l<MD:=by refine [NC,[Ye,pl],fun o z _=>?_]; exact [Nm,z]
 refine zm ([Ye,pl]) fun h' he hit hsz hk=>?_
 refine wpAny_pyIter_enum he ?_;have hfp:[Ru,[MD+1,MD],kS X pins H1 b]:=[Pg,by
  have hge:MD<=b:=by
   rcases List.mem_cons.mp hb with z | z
   .omega
   .have z':b=MD:=[Ml,z]
    omega
  exact I1.fpOk hge (I1.hok.fresh hge)]
 exact (cf (MD+1) [MD+1,MD] _ _ (eY H1 rfl (I1.kept (t':=s1.toks) hk) (Aa l _ _ (Nat.succ_ne_self _) ([Uw,([W3,hl])]) ([Ol,hl])) [Mw,[T7,he],hit] (aH hfp q)))
end
theorem kB {K:M3} {a:Addr} {xs:Nz} {g:TG} {tb:TS} {D:Ends} {σ:St} {H:Hp} (Pv:Nat->St->Qr) (h0:Pv 0 σ H) (hl:∀ i σ H,i<=Mh->Pv i σ H->SqT K H a xs)
  (hs:∀ i x σ H T,xs[i]?=OV->Pv i σ H->H T=none->g [MT,T] σ ([Rz,H,T,[[MH,i],x]]) [Of,D,Pv (i+1),Pv (i+1),D.nx,σ2,H2]) (hd:∀ σ H,Pv Mh σ H->[Yp,H]) :
  ∃ W:Nat->Nat->St->Qr,(∃ m,W 0 m σ H)/\∀ i m σ H,W i m σ H-> ((Dl K a).stop i H/\[Yp,H])\/((Dl K a).go i H/\∃ N:St->Qr,(∀ σ' H',N YL H'->∃ m',m'<m/\W (i+1) m' YL H')/\∀ x H',(Dl K a).yld i H x H'->g x σ H' [Of,D,N,N,D.nx,σ2,H2]):=by
 refine [Yt,(fun i m σ H=>m=Mh - i/\i<=Mh/\Pv i σ H),aC Mh Pz (OX) h0];intro i m σ H pr;refine cb pr fun eq4 hi p=>?_;clear pr;subst eq4;have q:=hl i σ H hi p;by_cases hlt:i<Mh
 .refine .inr ⟨⟨xs,xs[i],q,by simp [hlt]⟩,Pv (i+1),fun σ' H' p'=>⟨Mh - (i+1),Mr,rfl,hlt,p'⟩,fun v H' y=>?_⟩;obtain ⟨T,x,hT,e1,e2,y⟩:=y;subst e1 e2;exact hs i x σ H T (y xs q) p hT
 .have e:i=Mh:=Mr
  subst e;exact .inl [Mw,([Yb,xs,q]),hd σ H p]
end L2
namespace L2
open PySem PySem.Spec PyProof.Rows
def sgn (c:Nat):V:=.str Ss
def ItS (z:Str):It:=⟨fun i _=>i<SV,fun i H x H'=>H'=H/\∃ c,z.cps[i]?=Qj/\x=sgn c,fun i _=>i=SV⟩
theorem Fl {prog:Program} {w:World} {A:Around} {E:Qc} {s:Shared} {it:Addr} {z:Str} {t:Tok} {i c:Nat} {Q:Ms->NM} (a:s.heap.IsStrIter it (strIterType z) z t i) (b:z.cps[i]?=Qj)
  (k:∀ h',h'.IsStrIter it (strIterType z) z t (i+1)->[Tv,it,h']->Q ([Mo,.str Ss s.toks]) { s with heap:=h',toks:=s.toks+1 }):[SK,Vl,A,pyNext ZP,Q,E]:=by
 unfold strIterType at a k;split at a
 .rename_i e;rw [[P9,e]] at k;exact wpAny_pyNext_ascii_item a b k
 .rename_i e;rw [[Ph,e]] at k;exact wpAny_pyNext_wide_item a b k
theorem Hd {prog:Program} {w:World} {A:Around} {E:Qc} {s:Shared} {it:Addr} {z:Str} {t:Tok} {i:Nat} {Q:Ms->NM} (hh:TZ=none) (a:s.heap.IsStrIter it (strIterType z) z t i) (b:z.cps[i]?=none)
  (k:∀ h',[WM,it,h']->[Pu,none,h']):[SK,Vl,A,pyNext ZP,Q,E]:=by
 unfold strIterType at a;split at a
 .exact wpAny_pyNext_ascii_end hh a b k
 .exact wpAny_pyNext_wide_end hh a b k
theorem KQ (z:Str):[Vb,[U5,"zip","dict_itemiterator","dict_reverseitemiterator","odict_iterator","itertools.zip_longest","itertools.pairwise"].contains (strIterType z)]:=by
 unfold strIterType;split <;> decide
theorem C7 {P:Program} {w:World} {K:M3} {tg:Expr} (z:Str) (t:Tok) (it:Addr):Turn P w K tg (ItS z) [it] it (fun i h=>h.IsStrIter it (strIterType z) z t i) where
 mem:=MJ
 obj:=fun i h st b hb=>by
  have e:b=it:=[Ml,hb]
  subst e;refine bp st fun o e c d=>?_;clear st;exact (af o e (fun v q=>by rw [d] at q; cases q))
 keep:=fun i h h' st k=>st.elim fun o r=>(af o (k it Pz o r.1) r.2)
 item:=by
  intro X hP hw hK hc i pins s σ H E I hf st hg;subst hP hw hK;have hg':i<SV:=hg;have hx:z.cps[i]?=some z.cps[i]:=[XU,hg'];refine dE (hf it Pz :) fun f0 f1 f2 f3 pq0=>bZ pq0 Uz;clear pq0;refine Fl st hx fun h' st' sb=>?_
  have I1:[NP,X,σ,H,s,h',s.toks+1]:=I.turned (t':=s.toks+1) ([Wk,[Q9,sb.2 b hb,e]]) f0 f1 f3 f4 f5;refine bp (id st' :) fun o e c d=>?_
  exact [Mu,yq (s:={ s with heap:=h',toks:=s.toks+1 }) e c d (KQ z) (cD (sgn z.cps[i]) H I1 VT ([QW,([Yb,_,hx])]) st' ([Pg,(hf b hb).1]))]
 done:=by
  intro X hP hw hK hc i pins s σ H E I hf st hg;subst hP hw hK;refine dE (hf it Pz :) fun f0 f1 f2 f3 pq0=>bZ pq0 Uz;clear pq0;have hx:z.cps[i]?=none:=by simp [show i=z.cps.size from hg]
  exact Hd (Q4) st hx fun h' eb=>[P7,I.turned (t':=s.toks) ([Wk,eb b o hb e]) f0 f1 f3 f4 f5]
 self:=fun _ _ _ _ _ st h=>by
  unfold strIterType at st;split at st
  .exact wpAny_pyIter_striter_ascii st h
  .exact wpAny_pyIter_striter_wide st h
section
variable {X:Cx} {tg:Expr}
def LX (tl:TE):TI:=fun σ H R=>tl σ H [VW,∃ z,x=R9/\R (ItS z) H1]
theorem Dh {l:Expr} {tl:TE} (hl:PE X l tl):PI X tg l (LX tl):=by
 intro pins s σ H R I h;refine [Y5,hl pins s σ H _ I h,fun v s1 pr=>[P8,pr,?_]]
 refine ar q1 fun z eq1 q=>?_;clear q1;subst eq1;obtain ⟨t,rfl⟩:=r1;refine wpAny_pyIter_strU ?_;refine (cf MD [MD] _ _ (eY H1 rfl (I1.kept (t':=s1.toks) [RU,[M8,e]]) (C7 z t _) (aC _ (Ub) rfl rfl) (aH ([Pg,?_]) q)));have e:b=MD:=[Ml,hb]
 subst e;exact I1.fpOk Tx (Up)
end
theorem x5 {z:Str} {g:TG} {tt:TT} {te:TE} {nv:Nat} {ix:N7} {σ:St} {D:Addr} {H:Hp} {Q:VK} (Pv:Nat->Nz->Qr) (h0:Pv 0 [] ([Py,H,D,[]]))
  (hs:∀ i c ys H,z.cps[i]?=Qj->Pv i ys H->H D=ZR->g (sgn c) ([XW,nv,σ]) H fun σ2 H3=>σ2.drop nv=([XW,nv,σ]).drop nv/\tt σ2 H3 fun b H4 => [Mj,b=true,te σ2 H4 fun v H5=>∃ zs,H5 D=[MI,zs]/\Qy<sizeLine/\(∃ ys',Pv (i+1) ys' ([Py,H5,D,zs++[v]])/\([Py,H5,D,zs++[v]]) D=[MI,ys']),∃ ys',Pv (i+1) ys' H4/\H4 D=[MI,ys']])
  (hd:∀ ys H,Pv SV ys H->H D=ZR->[Xi,D,H]) :
  lC (ItS z) g tt te nv ix σ Q H D:=by
 refine [Yt,(fun i m H2=>m=SV - i/\i<=SV/\∃ ys,Pv i ys H2/\H2 D=ZR),aC SV Pz (OX) (af [] h0 aq)];intro i m H2 pr;refine cb pr fun eq2 hi pq0=>[W5,fun ys p hD=>?_];clear pq0 pr;subst eq2;by_cases hlt:i<SV
 .refine [PY,aH hlt (af (fun H'=>∃ ys,Pv (i+1) ys H'/\H' D=ZR) (fun H' p'=>(cC (SV - (i+1)) L6 rfl hlt p')) (fun x H' y=>?_))];refine bZ y fun e pq0=>[W5,fun c hc e2=>?_];clear pq0 y;subst e e2;exact hs i c ys _ hc p hD
 .have e:i=SV:=Mr
  subst e;exact .inl [P7,hd ys H2 p hD]
theorem cJ {K:M3} {a:Addr} {xs:Nz} {g:TG} {tt:TT} {te:TE} {nv:Nat} {ix:N7} {σ:St} {D:Addr} {H:Hp} {Q:VK} (Pv:Nat->Nz->Qr) (h0:Pv 0 [] ([Py,H,D,[]])) (hl:∀ i ys H,i<=Mh->Pv i ys H->SqT K H a xs)
  (hs:∀ i x ys H,xs[i]?=OV->Pv i ys H->H D=ZR->g x ([XW,nv,σ]) H fun σ2 H3=>σ2.drop nv=([XW,nv,σ]).drop nv/\tt σ2 H3 fun b H4 => [Mj,b=true,te σ2 H4 fun v H5=>∃ zs,H5 D=[MI,zs]/\Qy<sizeLine/\(∃ ys',Pv (i+1) ys' ([Py,H5,D,zs++[v]])/\([Py,H5,D,zs++[v]]) D=[MI,ys']),∃ ys',Pv (i+1) ys' H4/\H4 D=[MI,ys']])
  (hd:∀ ys H,Pv Mh ys H->H D=ZR->[Xi,D,H]) :
  lC (Itt K a) g tt te nv ix σ Q H D:=by
 refine [Yt,(fun i m H2=>m=Mh - i/\i<=Mh/\∃ ys,Pv i ys H2/\H2 D=ZR),aC Mh Pz (OX) (af [] h0 aq)];intro i m H2 pr;refine cb pr fun eq3 hi pq0=>[W5,fun ys p hD=>?_];clear pq0 pr;subst eq3;have q:=hl i ys H2 hi p;by_cases hlt:i<Mh
 .refine [PY,aH (bP xs (xs[i]) q (by simp [hlt])) (af (fun H'=>∃ ys,Pv (i+1) ys H'/\H' D=ZR) (fun H' p'=>(cC (Mh - (i+1)) L6 rfl hlt p')) (fun x H' y=>?_))];obtain ⟨e,y⟩:=y;subst e;exact hs i x ys _ (y xs q) p hD
 .have e:i=Mh:=Mr
  subst e;exact .inl [Mw,af xs q Tx,hd ys H2 p hD]
theorem oR (c:Nat):[RJ,Ss]=1:=rfl
theorem a9 (a b:Str):[MP,a++b]=a.length+b.length:=by
 show (a.cps++b.cps).size=a.cps.size+b.cps.size;simp
theorem mZ (z:Str) (l:MB):inV (R9) (l.map V.str)=[N8,z∈l]:=by
 unfold inV;induction l with
 | nil=>rfl
 | cons x r ih =>
  rw [List.map_cons,List.any_cons,ih];show ((x == z) || _)=_;by_cases h:x=z
  .subst h;simp
  .have h':¬ z=x:=fun e=>h e.symm
   simp [h,h']
theorem kK (l:MB):(l.map V.str).all gD=true:=by
 rw [Wn];intro x hx;refine [UJ,hx,fun o _ eq4=>?_];subst eq4;rfl
end L2
namespace L2
open PySem PySem.Spec PyProof.Rows
section
variable {X:Cx} {CX:CXT} {k:Nat} {f:Addr} {fd:FuncData} {ps:MB} {sp:Sp} {dvs:Nz} {ds:MS} {E:XK} {m:Str} {pos apos:Pos} {e o:Expr} {es:OR} {ta:TE} {t:TA}
def uH (K:M3) (f:Addr) (m:Str) (sp:Sp) (dvs:Nz) (E:XK) (ta:TE) (t:TA):TE:=[QS,ta σ H [VW,∃ C a dx fs,x=QM/\H1 a=[Mo,[Ve,C,fs]]/\Cls K C/\Meth K C m f/\fs.lookup m=none/\t σ H1 fun vs H2=>sp (x::(vs++dvs)) H2 Q E]]
theorem eV {pl:Sem Bool} (he:PE X o ta) (F:FnOk X.prog X.w X.K X.mg X.base CX k f fd ps sp) (hr:Room k X.A) (hb:Binds X.K fd ps ds) (hd:Vals dvs ds) (hx:Passes CX X E) (ha:PA X (e::es) t)
  (hst:[N3,e::es]=(false,[Oa,e])::Um:=by rfl) (hpl:[Vb,([Xf,Um]).any OB]:=by rfl)
  (ht:[Oa,([UM,([Tp,o,m]),e::es,[]])]=(do let ov <- eval o X.env; standAt apos.atName; let (f,first) <- holding [ov] (getMethod ov m pl); callWith pos f first (backTo pos (starEach (e::es) X.env)) (backToKw pos (keywordEach [] X.env))):=by rfl) :
  PE X ([UM,([Tp,o,m]),e::es,[]]) (uH X.K f m sp dvs E ta t):=by
 intro pins s σ H Q I h;refine PySem.W.methodCall_KW (pl:=pl) [ZS,he pins s σ H _ I h,fun u s1 pr=>aX pr fun x H1 I1 rx pq0=>cZ pq0 fun C a dx fs ex ea c hm pq1=>bZ pq1 fun l q=>?_] ht;subst ex; obtain rfl:u=[Te,a]:=rx;refine qw I1 ea c hm l ?_;refine PySem.W.callWith_K (first:=[QM]) (h₀:=X.base) I.ok.mod.kin hm.kp [ZS,ha pos pins s1 σ H1 _ I1 q,fun us s2 pr=>aX pr fun vs H2 I2 r q2=>[W4,I2.kIn]] hst hpl;exact u6 (us:=QM::us) (vs:=QM::vs) F hr hb hd hx I2 (.cons rfl r) q2
end
end L2
namespace L2
open PySem PySem.Spec PyProof.Rows
def ItAt (tp:Bool) (h:Heap) (i l:Addr) (k:Nat) (xs:Nr):Prop:=match tp with
 | false=>h.IsListIter i l k/\h.IsList l xs
 | true=>h.IsTupleIter i l k/\h.IsTuple l xs
theorem ItAt.at {tp:Bool} {h h':Heap} {i l:Addr} {k:Nat} {xs:Nr} (a:ItAt tp h i l k xs) (k1:∀ o,h.get? i=MN->[QX,i]=MN) (k2:∀ o,h.get? l=MN->[QX,l]=MN):ItAt tp h' i l k xs:=by
 cases tp with
 | false=>exact [Mw,a.1.at k1,a.2.at k2]
 | true=>obtain ⟨⟨o,e,r⟩,⟨o2,e2,r2⟩⟩:=a; exact [Mw,af o (k1 o e) r,af o2 (k2 o2 e2) r2]
theorem ItAt.ext {tp:Bool} {h h':Heap} {i l b:Addr} {k:Nat} {xs:Nr} (a:ItAt tp h i l k xs) (x:Heap.ExtBut b h h') (n1:i≠b) (n2:l≠b):ItAt tp h' i l k xs:=a.at ([Zp,x i o n1 e]) ([Zp,x l o n2 e])
section
variable {prog:Program} {w:World} {A:Around} {E:Qc} {s:Shared}
theorem ItAt.nx {tp:Bool} {i l:Addr} {k:Nat} {xs:Nr} {x:Value} {Q:Qc} (a:[YV,tp,i,l,k,xs]) (hne:l≠i) (c:xs[k]?=OV) (d:∀ h',ItAt tp h' i l (k+1) xs->[Tv,i,h']->[Pu,x,h']):[SK,Vl,A,[Pa,i],Q,E]:=by
 cases tp with
 | false=>exact wpAny_nextOf_list_item a.1 a.2 c fun h' b sb=>d h' [Mw,b,a.2.extBut sb.extBut hne] sb
 | true=>exact yt a.1 a.2 c fun h' b sb=>d h' [Mw,b,a.2.extBut sb.extBut hne] sb
theorem ItAt.nxE {tp:Bool} {i l:Addr} {k:Nat} {xs:Nr} {Q:Qc} (hh:TZ=none) (a:[YV,tp,i,l,k,xs]) (c:xs[k]?=none) (d:∀ h' e,[WM,i,h']->(∃ o,[QX,e]=MN/\o.cls=.type Wh)->E [MT,e] { s with heap:=h' }):[SK,Vl,A,[Pa,i],Q,E]:=by
 cases tp with
 | false=>exact wpAny_nextOf_list_end hh a.1 a.2 c d
 | true=>exact Au hh a.1 a.2 c d
theorem CT {t1 t2:Bool} {z TI TO i1 i2 l1 l2:Addr} {k1 k2:Nat} {xs ys:Nr} {x y a b:Value} {Q:Qc} (D:ZipApart z TI TO i1 i2 l1 l2) (gz:[US,s.heap,z,TO,.none]) (gI:[Ud,TI,[MT,i1],[MT,i2]]) (gO:[Ud,TO,a,b])
  (g1:[YV,t1,i1,l1,k1,xs]) (g2:[YV,t2,i2,l2,k2,ys]) (hx:xs[k1]?=OV) (hy:ys[k2]?=VI) (d:∀ h',[US,h',z,TO,rawInt L7]->[Z9,h',x,y]->ItAt t1 h' i1 l1 (k1+1) xs->ItAt t2 h' i2 l2 (k2+1) ys->IsPair h' L7 x y->Wl=L7+1-> (∀ c o,c≠z->c≠TO->c≠i1->c≠i2->[Nv,c]=MN->[QX,c]=MN)->[Pu,Vv,h']):[SK,Vl,A,Builtin.«zip.__next__» [Mw,[.ref z],[]],(fun fin s'=>∃ v,fin=.done (.ret v)/\Q v s'),E]:=by
 show [Np,_,_,field [MT,z] 2 >>= _,_,_,_]; refine [O0,[OU,gz,rfl,Ww,?_]];show [Np,_,_,field [MT,z] 3 >>= _,_,_,_]; refine [O0,[OU,gz,rfl,.ref TI,?_]];refine [S6,gI,rfl,?_];show [Np,_,_,[UQ,[MT,z]] >>= _,_,_,_]; refine [M9,?_]; unfold Builtin.SmallTypes.ownedTupleIsFree;refine [O0,[OU,gz,rfl,.none,RG]]; simp only [if_true];refine [O0,wpAny_rule ?_]; refine [O0,[OU,gz,rfl,.ref TO,?_]];refine [O0,[Ra,gz,fun u1 gz1 s1=>?_]]; replace gz1:[US,u1,z,TO,Xt]:=gz1;refine [M9,?_]; simp only [List.zipIdx_cons,List.zipIdx_nil,List.forIn_cons,List.forIn_nil];refine [O0,[O0,X6]]; show [Np,_,_,[Pa,i1] >>= _,_,_,_];refine [O0,(g1.ext s1.extBut D.i1z D.l1z).nx D.l1i1 hx fun u2 g12 s2=>RG];have gO2:[Z9,u2,a,b]:=s2.extBut _ _ D.TOi1 (s1.extBut _ _ D.TOz gO);refine [S6,gO2,rfl,?_]; refine [O0,[Y7,gO2,fun u3 gO3 s3=>?_]]; replace gO3:[Z9,u3,x,b]:=gO3;refine [O0,wpAny_letGo (RG)];refine [O0,[O0,X6]]; show [Np,_,_,[Pa,i2] >>= _,_,_,_];refine [O0,(((g2.ext s1.extBut D.i2z D.l2z).ext s2.extBut D.i12.symm D.l2i1).ext s3.extBut D.TOi2.symm D.l2TO).nx D.l2i2 hy fun u4 g24 s4=>RG];have gO4:[Z9,u4,x,b]:=s4.extBut _ _ D.TOi2 gO3;refine [S6,gO4,rfl,?_]; refine [O0,[Y7,gO4,fun u5 gO5 s5=>?_]]; replace gO5:[Z9,u5,x,y]:=gO5;refine [O0,wpAny_letGo ([MO,RG])]; refine [S6,gO5,rfl,?_]; refine [O0,wpAny_newTuple ?_];have hsz:Ri=L7:=by rw [s5.1,s4.1,s3.1,s2.1,s1.1]
 have gz5:[US,u5,z,TO,Xt]:=s5.extBut _ _ D.TOz.symm (s4.extBut _ _ D.i2z.symm ([Za,_,D.TOz.symm,s2.extBut _ _ D.i1z.symm gz1]));have k5:∀ c o,c≠z->c≠TO->c≠i1->c≠i2->[Nv,c]=MN->u5.get? c=MN:=fun c o c1 c2 c3 c4 e=>s5.extBut _ _ c2 (s4.extBut _ _ c4 ([Za,_,c2,s2.extBut _ _ c3 (s1.extBut _ _ c1 e)]))
 have g15:ItAt t1 u5 i1 l1 (k1+1) xs:=((g12.ext s3.extBut D.TOi1.symm D.l1TO).ext s4.extBut D.i12 D.l1i2).ext s5.extBut D.TOi1.symm D.l1TO;have g25:ItAt t2 u5 i2 l2 (k2+1) ys:=g24.ext s5.extBut D.TOi2.symm D.l2TO;have zlt:z<Ri:=[Nm,gz5];show [Np,_,_,Builtin.SmallTypes.ownedTupleHandOut [MT,z] [MT,Ri] >>= _,_,_,_]; refine [M9,?_]; unfold Builtin.SmallTypes.ownedTupleHandOut;have gz6:[US,(u5.push { cls:=OS,data:=.seq #[x,y] }),z,TO,Xt]:=[M8,gz5];refine [O0,[Ra,gz6,fun u7 gz7 s7=>?_]]; replace gz7:[US,u7,z,TO,rawInt Ri]:=gz7;refine [Ra,gz7,fun u8 gz8 s8=>?_]; replace gz8:[US,u8,z,TO,rawInt Ri]:=gz8;have up:∀ c o,c≠z->u5.get? c=MN->u8.get? c=MN:=fun c o c1 e=>s8.extBut _ _ c1 (s7.extBut _ _ c1 ([M8,e]))
 have gT:IsPair u8 Ri x y:=s8.extBut _ _ ([Uw,zlt]) (s7.extBut _ _ ([Uw,zlt]) (Ub));have z8:u8.objs.size=Ri+1:=by rw [s8.1,s7.1,Heap.size_push]
 rw [hsz] at gz8 gT z8;refine [MO,ND]; show [Xi,Ri,_]; rw [hsz];exact d u8 gz8 (up _ _ D.TOz gO5) (g15.at ([Zp,up _ o D.i1z e]) [Zp,up _ o D.l1z e]) (g25.at ([Zp,up _ o D.i2z e]) [Zp,up _ o D.l2z e]) gT z8 fun c o c1 c2 c3 c4 e=>up c o c1 (k5 c o c1 c2 c3 c4 e)
theorem Dv {t1 t2:Bool} {z TI TO i1 i2 l1 l2:Addr} {k1 k2:Nat} {xs ys:Nr} {a b:Value} {Q:Fin->NM} (hh:TZ=none) (D:ZipApart z TI TO i1 i2 l1 l2) (gz:[US,s.heap,z,TO,.none]) (gI:[Ud,TI,[MT,i1],[MT,i2]]) (gO:[Ud,TO,a,b])
  (g1:[YV,t1,i1,l1,k1,xs]) (g2:[YV,t2,i2,l2,k2,ys]) (hend:xs[k1]?=none\/ys[k2]?=none)
  (d:∀ h' e,(∀ c o,c≠z->c≠TO->c≠i1->c≠i2->[Nv,c]=MN->[QX,c]=MN)->(∃ o,[QX,e]=MN/\o.cls=.type Wh)->E [MT,e] { s with heap:=h' }):[SK,Vl,A,Builtin.«zip.__next__» [Mw,[.ref z],[]],Q,E]:=by
 show [Np,_,_,field [MT,z] 2 >>= _,_,_,_]; refine [O0,[OU,gz,rfl,Ww,?_]];show [Np,_,_,field [MT,z] 3 >>= _,_,_,_]; refine [O0,[OU,gz,rfl,.ref TI,?_]];refine [S6,gI,rfl,?_];show [Np,_,_,[UQ,[MT,z]] >>= _,_,_,_]; refine [M9,?_]; unfold Builtin.SmallTypes.ownedTupleIsFree;refine [O0,[OU,gz,rfl,.none,RG]]; simp only [if_true];refine [O0,wpAny_rule ?_]; refine [O0,[OU,gz,rfl,.ref TO,?_]];refine [O0,[Ra,gz,fun u1 gz1 s1=>?_]]; replace gz1:[US,u1,z,TO,Xt]:=gz1;refine [M9,?_]; simp only [List.zipIdx_cons,List.zipIdx_nil,List.forIn_cons,List.forIn_nil];refine [O0,[O0,X6]]; show [Np,_,_,[Pa,i1] >>= _,_,_,_];cases hx:xs[k1]? with
 | none =>
  refine [O0,(g1.ext s1.extBut D.i1z D.l1z).nxE hh hx fun u2 e s2 he=>?_];refine ar he fun oe hoe hce=>?_;clear he;have gz2:[US,u2,z,TO,Xt]:=s2 _ _ D.i1z.symm gz1;have hez:e≠z:=[Z2,by subst x; rw [gz2] at hoe; cases hoe; simp at hce]
  refine [Ra,gz2,fun u3 _ s3=>d u3 e (fun c o c1 _ c3 _ x=>[Za,_,c1,s2 _ _ c3 (s1.extBut _ _ c1 x)]) (af oe ([Za,_,hez,hoe]) hce)]
 | some x =>
  have hy:ys[k2]?=none:=by rcases hend with h | h; rw [hx] at h; cases h; exact h
  refine [O0,(g1.ext s1.extBut D.i1z D.l1z).nx D.l1i1 hx fun u2 g12 s2=>RG];have gO2:[Z9,u2,a,b]:=s2.extBut _ _ D.TOi1 (s1.extBut _ _ D.TOz gO);refine [S6,gO2,rfl,?_]; refine [O0,[Y7,gO2,fun u3 gO3 s3=>?_]];refine [O0,wpAny_letGo (RG)]; refine [O0,[O0,X6]]; show [Np,_,_,[Pa,i2] >>= _,_,_,_];refine [O0,(((g2.ext s1.extBut D.i2z D.l2z).ext s2.extBut D.i12.symm D.l2i1).ext s3.extBut D.TOi2.symm D.l2TO).nxE hh hy fun u4 e s4 he=>?_];refine ar he fun oe hoe hce=>?_;clear he;have gz4:[US,u4,z,TO,Xt]:=s4 _ _ D.i2z.symm ([Za,_,D.TOz.symm,s2.extBut _ _ D.i1z.symm gz1]);have hez:e≠z:=[Z2,by subst x; rw [gz4] at hoe; cases hoe; simp at hce]
  refine [Ra,gz4,fun u5 _ s5=>d u5 e (fun c o c1 c2 c3 c4 x=>s5.extBut _ _ c1 (s4 _ _ c4 ([Za,_,c2,s2.extBut _ _ c3 (s1.extBut _ _ c1 x)]))) (af oe (s5.extBut _ _ hez hoe) hce)]
theorem zN {t1 t2:Bool} {z TI TO i1 i2 l1 l2:Addr} {k1 k2:Nat} {xs ys:Nr} {x y a b:Value} {Q:Ms->NM} (D:ZipApart z TI TO i1 i2 l1 l2) (gz:[US,s.heap,z,TO,.none]) (gI:[Ud,TI,[MT,i1],[MT,i2]]) (gO:[Ud,TO,a,b])
  (g1:[YV,t1,i1,l1,k1,xs]) (g2:[YV,t2,i2,l2,k2,ys]) (hx:xs[k1]?=OV) (hy:ys[k2]?=VI) (d:∀ h',[US,h',z,TO,rawInt L7]->[Z9,h',x,y]->ItAt t1 h' i1 l1 (k1+1) xs->ItAt t2 h' i2 l2 (k2+1) ys->IsPair h' L7 x y->Wl=L7+1-> (∀ c o,c≠z->c≠TO->c≠i1->c≠i2->[Nv,c]=MN->[QX,c]=MN)->[Pu,([Mv,L7]),h']):[SK,Vl,A,pyNext [MT,z],Q,E]:=by
 have hT:[ZZ,[MT,z],"zip"]:=([Yb,_,gz]); unfold pyNext;exact [O0,wpAny_attempt ([Og,Yw,hT,UC,([Sa,UC,hT,A07,(CT D gz gI gO g1 g2 hx hy fun h' a1 a2 a3 a4 a5 a6 a7=>[MO,d h' a1 a2 a3 a4 a5 a6 a7]),A0a])])]
theorem B6 {t1 t2:Bool} {z TI TO i1 i2 l1 l2:Addr} {k1 k2:Nat} {xs ys:Nr} {a b:Value} {Q:Ms->NM} (hh:TZ=none) (D:ZipApart z TI TO i1 i2 l1 l2) (gz:[US,s.heap,z,TO,.none]) (gI:[Ud,TI,[MT,i1],[MT,i2]]) (gO:[Ud,TO,a,b])
  (g1:[YV,t1,i1,l1,k1,xs]) (g2:[YV,t2,i2,l2,k2,ys]) (hend:xs[k1]?=none\/ys[k2]?=none) (d:∀ h',(∀ c o,c≠z->c≠TO->c≠i1->c≠i2->[Nv,c]=MN->[QX,c]=MN)->[Pu,none,h']):[SK,Vl,A,pyNext [MT,z],Q,E]:=by
 have hT:[ZZ,[MT,z],"zip"]:=([Yb,_,gz]); unfold pyNext;refine [O0,wpAny_attempt ([Og,Yw,hT,UC,([Sa,UC,hT,A07,(Dv hh D gz gI gO g1 g2 hend fun h' e hk he=>?_),A0a])])];refine ar he fun o ho hc=>?_;clear he; refine [O0,wpAny_isInstance (T:=Wh) (b:=true) (af o ho hc) isSubtype_stop ?_]; exact [MO,d _ hk]
abbrev Il (tp:Bool):String:=[Mj,tp,X3,"list_iterator"]
def pD (tp:Bool) (h:Heap) (l:Addr) (xs:Nr):Prop:=match tp with
 | false=>h.IsList l xs
 | true=>h.IsTuple l xs
abbrev zP (h:Heap) (tp:Bool) (l:Addr):Heap:=h.push { cls:=.type (Il tp),data:=[S5,#[X5,.int 0 0]] }
abbrev zQ (h:Heap) (t1 t2:Bool) (l1 l2:Addr):Heap:=(zP (zP h t1 l1) t2 l2).push { cls:=OS,data:=.seq #[.ref T9,.ref [Pr,zP h t1 l1]] }
abbrev zR (h:Heap) (t1 t2:Bool) (l1 l2:Addr):Heap:=(zQ h t1 t2 l1 l2).push { cls:=OS,data:=.seq #[.none,.none] }
abbrev zS (h:Heap) (t1 t2:Bool) (l1 l2:Addr):Heap:=(zR h t1 t2 l1 l2).push { cls:=.type "zip",data:=[S5,#[.none,Ww,Ww,.ref [Pr,zP (zP h t1 l1) t2 l2],.ref [Pr,zQ h t1 t2 l1 l2]]] }
theorem zM (t1 t2:Bool) (l1 l2:Addr) (xs ys:Nr):Meets (Builtin.«zip.__new__» [Mw,[.type "zip",.ref l1,.ref l2],[]]) (fun _ R s=>pD t1 s.heap l1 xs/\pD t2 s.heap l2 ys/\R (.ok (.ret [MT,[Pr,zR s.heap t1 t2 l1 l2]])) { s with heap:=zS s.heap t1 t2 l1 l2 }) :=
 .of_wp fun prog w A R s h=>by
  obtain ⟨hp,g,d,tk,os⟩:=s; obtain ⟨g1,g2,h⟩:=h;have sb:=sub_zip;cases t1 <;> cases t2
  .have a1:Heap.IsList ([XT,⟨hp,g,d,tk,os⟩]) l1 xs:=g1;have a2:Heap.IsList ([XT,⟨hp.push { cls:=.type "list_iterator",data:=[S5,#[.ref l1,.int 0 0]] },g,d,tk,os⟩]) l2 ys:=Heap.IsList.push g2 _;wp_walk using [Zr,a1],[Zr,a2]; exact ⟨_,rfl,h⟩
  .have a1:Heap.IsList ([XT,⟨hp,g,d,tk,os⟩]) l1 xs:=g1;have a2:Heap.IsTuple ([XT,⟨hp.push { cls:=.type "list_iterator",data:=[S5,#[.ref l1,.int 0 0]] },g,d,tk,os⟩]) l2 ys:=by obtain ⟨o,e,r⟩:=g2; exact ⟨o,[M8,e],r⟩
   wp_walk using [Zr,a1],[WT,a2]; exact ⟨_,rfl,h⟩
  .have a1:Heap.IsTuple ([XT,⟨hp,g,d,tk,os⟩]) l1 xs:=g1;have a2:Heap.IsList ([XT,⟨hp.push { cls:=.type X3,data:=[S5,#[.ref l1,.int 0 0]] },g,d,tk,os⟩]) l2 ys:=Heap.IsList.push g2 _;wp_walk using [WT,a1],[Zr,a2]; exact ⟨_,rfl,h⟩
  .have a1:Heap.IsTuple ([XT,⟨hp,g,d,tk,os⟩]) l1 xs:=g1;have a2:Heap.IsTuple ([XT,⟨hp.push { cls:=.type X3,data:=[S5,#[.ref l1,.int 0 0]] },g,d,tk,os⟩]) l2 ys:=by obtain ⟨o,e,r⟩:=g2; exact ⟨o,[M8,e],r⟩
   wp_walk using [WT,a1],[WT,a2]; exact ⟨_,rfl,h⟩
theorem rp {tp:Bool} {h h':Heap} {i l:Addr} {xs:Nr} (g:pD tp h l xs) (e:[QX,i]=[Qk,.type (Il tp),[S5,#[X5,.int 0 0]]]) (k:∀ c o,h.get? c=MN->[QX,c]=MN):ItAt tp h' i l 0 xs:=by
 cases tp with
 | false=>exact [Mw,aC _ e rfl rfl,g.at fun o x=>k _ o x]
 | true=>refine ar g fun o x r=>?_;clear g; exact [Mw,aC _ e rfl rfl,af o (k _ o x) r]
theorem CY {t1 t2:Bool} {l1 l2:Addr} {xs ys:Nr} {Q:Qc} (g1:pD t1 s.heap l1 xs) (g2:pD t2 s.heap l2 ys)
  (k:∀ h',IsZip h' (L7+4) (L7+2) (L7+3) .none->IsPair h' (L7+2) Vv [MT,L7+1]->IsPair h' (L7+3) .none .none->ItAt t1 h' L7 l1 0 xs->ItAt t2 h' (L7+1) l2 0 ys-> (∀ c o,[Nv,c]=MN->[QX,c]=MN)->[Pu,[MT,L7+4],h']):[SK,Vl,A,call [Sx,"zip"] [.ref l1,.ref l2],Q,E]:=by
 refine callType_new F.called_zip M0 (F.typeCall_zip_2 _ _) (F.newCall_zip_2 _ _) (fun obj=>F.args_object_init_3 obj _ _) F.entry_zip_new (zM t1 t2 l1 l2 xs ys) (bM g1 g2 ?_);have z1:[Pr,zP s.heap t1 l1]=L7+1:=Heap.size_push ..;have z2:[Pr,zP (zP s.heap t1 l1) t2 l2]=L7+2:=by rw [Heap.size_push,z1]
 have z3:[Pr,zQ s.heap t1 t2 l1 l2]=L7+3:=by rw [Heap.size_push,z2]
 have z4:[Pr,zR s.heap t1 t2 l1 l2]=L7+4:=by rw [Heap.size_push,z3]
 have e5:(zS s.heap t1 t2 l1 l2).get? [Pr,zR s.heap t1 t2 l1 l2]=some _:=Ub;have e4:(zS s.heap t1 t2 l1 l2).get? [Pr,zQ s.heap t1 t2 l1 l2]=some _:=[M8,Ub];have e3:(zS s.heap t1 t2 l1 l2).get? [Pr,zP (zP s.heap t1 l1) t2 l2]=some _:=[M8,([M8,Ub])];have e2:(zS s.heap t1 t2 l1 l2).get? [Pr,zP s.heap t1 l1]=some _:=[M8,([M8,([M8,Ub])])];have e1:(zS s.heap t1 t2 l1 l2).get? L7=some _:=[M8,([M8,([M8,([M8,Ub])])])];show _/\_;rw [z2,z3,z4] at e5; rw [z1,z2] at e3; rw [z3] at e4; rw [z1] at e2; rw [z4];have up:∀ c o,[Nv,c]=MN->(zS s.heap t1 t2 l1 l2).get? c=MN:=fun c o x=>[M8,([M8,([M8,([M8,([M8,x])])])])]
 exact [Mw,([Yb,_,e5]),k _ e5 e3 e4 (rp g1 e1 up) (rp g2 e2 up) up]
end
end L2
namespace L2
open PySem PySem.Spec PyProof.Rows
def SqX (tp:Bool) (K:M3) (H:Hp) (a:Addr) (xs:Nz):Prop:=match tp with
 | false=>SqL K H a xs
 | true=>SqT K H a xs
theorem Inv.seqX {X:Cx} {pins:Px} {σ:St} {H:Hp} {s:Shared} {tp:Bool} {a:Addr} {xs:Nz} (I:Rw) (h:SqX tp X.K H a xs):∃ its:MS,Vals xs its/\pD tp s.heap a Ox:=by
 cases tp with
 | false=>refine [Yo,h,fun its r p _=>?_]; exact (af its r p.isList)
 | true=>refine bp [SY,h] fun its r p _=>?_; exact (af its r ([Ye,p]))
def CI (K:M3) (t1 t2:Bool) (a b:Addr):It :=
  ⟨fun i H=>∃ xs ys x y,SqX t1 K H a xs/\SqX t2 K H b ys/\xs[i]?=OV/\ys[i]?=VI, fun i H v H'=>∃ T x y,H T=none/\H'=[Rz,H,T,[x,y]]/\v=.ref T/\∀ xs ys,SqX t1 K H a xs->SqX t2 K H b ys->xs[i]?=OV/\ys[i]?=VI, fun i H=>∃ xs ys,SqX t1 K H a xs/\SqX t2 K H b ys/\(xs[i]?=none\/ys[i]?=none)⟩
def IterAt (tp:Bool) (h:Heap) (i l:Addr) (k:Nat):Prop:=match tp with
 | false=>h.IsListIter i l k
 | true=>h.IsTupleIter i l k
theorem IterAt.it {tp:Bool} {h:Heap} {i l:Addr} {k:Nat} {xs:Nr} (a:IterAt tp h i l k) (b:pD tp h l xs):ItAt tp h i l k xs:=by
 cases tp with
 | false=>exact [Mw,a,b]
 | true=>exact [Mw,a,b]
theorem ItAt.iter {tp:Bool} {h:Heap} {i l:Addr} {k:Nat} {xs:Nr} (a:ItAt tp h i l k xs):IterAt tp h i l k:=by
 cases tp with
 | false=>exact a.1
 | true=>exact a.1
theorem IterAt.at {tp:Bool} {h h':Heap} {i l:Addr} {k:Nat} (a:IterAt tp h i l k) (k1:∀ o,h.get? i=MN->[QX,i]=MN):IterAt tp h' i l k:=by
 cases tp with
 | false=>refine ar a fun o e r=>?_;clear a; exact (af o (k1 o e) r)
 | true=>refine ar a fun o e r=>?_;clear a; exact (af o (k1 o e) r)
theorem IterAt.obj {tp:Bool} {h:Heap} {i l:Addr} {k:Nat} (a:IterAt tp h i l k):∃ o,h.get? i=MN/\∀ v,o.data≠.cell v:=by
 cases tp with
 | false=>refine bp a fun o e _ d=>?_;clear a; exact (af o e (fun v q=>by rw [d] at q; cases q))
 | true=>refine bp a fun o e _ d=>?_;clear a; exact (af o e (fun v q=>by rw [d] at q; cases q))
theorem vE {X:Cx} {pins:Px} {σ:St} {H:Hp} {s:Shared} {tp:Bool} {a:Addr} {xs ys:Nz} (I:Rw) (h1:SqX tp X.K H a xs) (h2:SqX tp X.K H a ys):xs=ys:=by
 cases tp with
 | false=>exact I.list_inj h1 h2
 | true=>exact I.tuple_inj h1 h2
theorem C6 {P:Program} {w:World} {K:M3} {elts:OR} {x1:Nat} {tp:Pos} {t1 t2:Bool} {a b z TI TO i1 i2:Addr} (D:ZipApart z TI TO i1 i2 a b) :
  Turn P w K (.Tuple elts x1 tp) (CI K t1 t2 a b) [z,TI,TO,i1,i2] z (fun i h=>[US,h,z,TO,.none]/\IsPair h TI [MT,i1] [MT,i2]/\(∃ u v,[Z9,h,u,v])/\IterAt t1 h i1 a i/\IterAt t2 h i2 b i) where
 mem:=MJ
 obj:=fun i h st c hc=>by
  refine dE st fun h1 h2 pp1 h4 h5=>?_;clear st;obtain ⟨u,v,h3⟩:=pp1;simp only [List.mem_cons,List.not_mem_nil,or_false] at hc;rcases hc with rfl | rfl | rfl | rfl | rfl
  .exact (af _ h1 (fun v q=>[PL,q]))
  .exact (af _ h2 (fun v q=>[PL,q]))
  .exact (af _ h3 (fun v q=>[PL,q]))
  .exact h4.obj
  .exact h5.obj
 keep:=fun i h h' st k=>by
  refine dE st fun h1 h2 pp2 h4 h5=>?_;clear st;obtain ⟨u,v,h3⟩:=pp2;exact (dv (k z Pz _ h1) (k TI Pz _ h2) (pQ u v (k TO Pz _ h3)) (h4.at [Zp,k i1 Pz o e]) (h5.at [Zp,k i2 Pz o e]))
 item:=by
  intro X hP hw hK hc i pins s σ H E I hf st hg;subst hP hw hK;refine F3 hg fun xs ys x y hxs hys hx hy=>?_;clear hg;refine [NC,I.seqX hxs,fun us r1 q1=>?_]
  refine [NC,I.seqX hys,fun ws r2 q2=>?_]
  refine [NC,r1.get hx,Wd]
  refine [NC,r2.get hy,fun v hv rv=>?_]
  refine dE st fun h1 h2 pp3 h4 h5=>?_;clear st;obtain ⟨o1,o2,h3⟩:=pp3;refine zN D h1 h2 h3 (h4.it q1) (h5.it q2) (x:=u) (y:=v) [Zh,hu] [Zh,hv] fun h' b1 b2 b3 b4 b5 b6 b7=>?_
  refine ND;refine wpAny_letOwnedTupleGo_zip b1 fun h6 c1 c2=>?_
  have lt:∀ {c o},[Nv,c]=MN->c≠L7:=[UT,[Ol,Vt]]
  have zlt:L7≠z:=Ne.symm (lt h1);have k2:∀ c o,c∉[z,TI,TO,i1,i2]->[Nv,c]=MN->h6.get? c=MN:=fun c o hc' q=>by
   have n1:c≠z:=[UT,hc' (Uh)]
   exact [Q9,c2.2 c n1,(b7 c o n1 ([UT,hc' (Uh)]) ([UT,hc' (Uh)]) ([UT,hc' (Uh)]) q)]
  have t2:h6.get? L7=[Qk,OS,.seq #[u,v]]:=[Q9,c2.2 _ zlt,b5];have hn:H L7=none:=[S7,Tx];have new:[V1,X.w,([Rz,H,L7,[x,y]]),h6,L7,[Rj,[x,y]]]:=(aH (Rv) (af [u,v] (.cons ru (.cons rv .nil)) (aC _ t2 rfl (e8 _ rfl))));have I2:[NP,X,σ,([Rz,H,L7,[x,y]]),s,h6,s.toks]:=I.turnedNew k2 hf Tx new;refine (cD Vv _ I2 rfl (dh L7 x y hn rfl rfl (fun xs' ys' hx' hy'=>[Mw,(by rw [vE I hx' hxs]; exact hx),by rw [vE I hy' hys]; exact hy])) (dv c1 ([Q9,c2.2 _ D.TIz,b7 _ _ D.TIz D.TITO D.TIi1 D.TIi2 h2]) (pQ _ _ ([Q9,c2.2 _ D.TOz,b2])) (b3.iter.at [Zp,[Q9,c2.2 _ D.i1z,e]]) (b4.iter.at [Zp,[Q9,c2.2 _ D.i2z,e]])) (fun c hc'=>?_));have hne:c≠L7:=by
   simp only [List.mem_cons,List.not_mem_nil,or_false] at hc';rcases hc' with rfl | rfl | rfl | rfl | rfl
   .exact lt h1
   .exact lt h2
   .exact lt h3
   .refine ar h4.obj fun o e _=>?_; exact lt e
   .refine ar h5.obj fun o e _=>?_; exact lt e
  rw [aK hne];exact (hf c hc').1
 done:=by
  intro X hP hw hK hc i pins s σ H E I hf st hg;subst hP hw hK;refine aX hg fun xs ys hxs hys hend=>?_;clear hg;refine [NC,I.seqX hxs,fun us r1 q1=>?_]
  refine [NC,I.seqX hys,fun ws r2 q2=>?_]
  refine dE st fun h1 h2 pp4 h4 h5=>?_;clear st;obtain ⟨o1,o2,h3⟩:=pp4;have e1:=V8;have e2:=UA;refine B6 [Yh,X.A.handled=none,Q4] D h1 h2 h3 (h4.it q1) (h5.it q2) ?_ fun h' k=>[P7,?_]
  .rcases hend with h | h
   .refine .inl ?_;have:=[A04,h];simp;omega
   .refine .inr ?_;have:=[A04,h];simp;omega
  .exact I.turnedL (t':=s.toks) (fun c o hc' q=>k c o ([UT,hc' (Uh)]) ([UT,hc' (Uh)]) ([UT,hc' (Uh)]) ([UT,hc' (Uh)]) q) hf
 self:=fun _ _ _ _ _ st h=>wpAny_pyIter_zip st.1 h
section
variable {X:Cx}
def L3 (K:M3) (t1 t2:Bool) (ta:TA):TI:=fun σ H R=>ta σ H fun vs H1=>∃ a b,vs=[QM,.ref b]/\(∃ xs,SqX t1 K H1 a xs)/\(∃ ys,SqX t2 K H1 b ys)/\R (CI K t1 t2 a b) H1
theorem Js (t1 t2:Bool) {a b:Expr} {ta:TA} {p pos tp:Pos} {elts:OR} {x1:Nat} (hg:Gl X "zip") (hm:X.mg "zip"=none) (ha:PA X [a,b] ta) (hs:[N3,[a,b]]=(false,[Oa,a])::[N3,[b]]:=by rfl) (hpl:[Vb,([Xf,([N3,[b]])]).any OB]:=by rfl) :
  PI X (.Tuple elts x1 tp) ([UM,.Name "zip" p,[a,b],[]]) (L3 X.K t1 t2 ta):=by
 intro pins s σ H R I h;refine Call_ (iy I hg hm PyProof.Rows.boot_zip ([Rh,[ZS,ha pos pins s σ H _ I h,fun us s1 pr=>aX pr fun vs H1 I1 r1 q1=>?_],hs,hpl]));refine e9 q1 fun l1 l2 e pp5 pp6 q=>?_;clear q1;obtain ⟨xs,hx⟩:=pp5;obtain ⟨ys,hy⟩:=pp6;subst e;refine aX (vals2 r1 :) fun u v eq7 ru rv=>?_;subst eq7;cases ru
 cases rv
 refine [NC,I1.seqX hx,fun us _ g1=>?_]
 refine [NC,I1.seqX hy,fun ws _ g2=>?_]
 have lt:∀ {tp:Bool} {l:Addr} {zs:Nr},pD tp s1.heap l zs->l<MD:=fun {tp} {l} {zs} g=>by
  cases tp with
  | false=>refine ar g fun o z _=>?_;clear g; exact [Nm,z]
  | true=>refine ar g fun o z _=>?_;clear g; exact [Nm,z]
 refine CY g1 g2 fun h' b1 b2 b3 b4 b5 hk=>?_
 refine wpAny_pyIter_zip b1 ?_;have hfp:∀ c∈[MD+4,MD+2,MD+3,MD,MD+1],kS X pins H1 c:=fun c hc=>by
  have hge:MD<=c:=by
   simp only [List.mem_cons,List.not_mem_nil,or_false] at hc;omega
  exact I1.fpOk hge (I1.hok.fresh hge)
 exact (cf (MD+4) _ _ _ (eY H1 rfl (I1.kept (t':=s1.toks) hk) (C6 (zipApart_new (lt g1) (lt g2))) (dv b1 b2 (pQ _ _ b3) b4.iter b5.iter) (aH hfp q)))
end
theorem Lv {K:M3} {t1 t2:Bool} {a b:Addr} {xs ys:Nz} {g:TG} {tb:TS} {D:Ends} {σ:St} {H:Hp} (Pv:Nat->St->Qr) (h0:Pv 0 σ H) (hl:∀ i σ H,i<=min Mh NQ->Pv i σ H->SqX t1 K H a xs/\SqX t2 K H b ys)
  (hs:∀ i x y σ H T,xs[i]?=OV->ys[i]?=VI->Pv i σ H->H T=none->g [MT,T] σ ([Rz,H,T,[x,y]]) [Of,D,Pv (i+1),Pv (i+1),D.nx,σ2,H2]) (hd:∀ σ H,Pv (min Mh NQ) σ H->[Yp,H]) :
  ∃ W:Nat->Nat->St->Qr,(∃ m,W 0 m σ H)/\∀ i m σ H,W i m σ H->((CI K t1 t2 a b).stop i H/\[Yp,H])\/((CI K t1 t2 a b).go i H/\∃ N:St->Qr,(∀ σ' H',N YL H'->∃ m',m'<m/\W (i+1) m' YL H')/\∀ x H',(CI K t1 t2 a b).yld i H x H'->g x σ H' [Of,D,N,N,D.nx,σ2,H2]):=by
 refine [Yt,(fun i m σ H=>m=min Mh NQ - i/\i<=min Mh NQ/\Pv i σ H),aC (min Mh NQ) Pz (OX) h0];intro i m σ H pr;refine cb pr fun eq8 hi p=>?_;clear pr;subst eq8;obtain ⟨q1,q2⟩:=hl i σ H hi p;by_cases hlt:i<min Mh NQ
 .have e1:=[M4,[Yu,i<Mh]];have e2:=[M4,[Yu,i<NQ]];refine [PY,aH (rL xs ys _ _ q1 q2 e1 e2) (af (Pv (i+1)) (fun σ' H' p'=>(cC (min Mh NQ - (i+1)) L6 rfl hlt p')) (fun v H' y=>?_))];obtain ⟨T,x,y,hT,z1,z2,z3⟩:=y;subst z1 z2;obtain ⟨z4,z5⟩:=z3 xs ys q1 q2;exact hs i x y σ H T z4 z5 p hT
 .have e:i=min Mh NQ:=Mr
  refine .inl [Mw,aB xs ys q1 q2 ?_,hd σ H (by rw [<- e]; exact p)];by_cases hx:i<Mh
  .exact [PY,[Q8,L6]]
  .exact .inl ([Q8,L6])
theorem D5 {K:M3} {t1 t2:Bool} {a b:Addr} {xs ys:Nz} {g:TG} {tt:TT} {te:TE} {nv:Nat} {ix:N7} {σ:St} {D:Addr} {H:Hp} {Q:VK} (Pv:Nat->Nz->Qr) (h0:Pv 0 [] ([Py,H,D,[]])) (hl:∀ i zs H,i<=min Mh NQ->Pv i zs H->SqX t1 K H a xs/\SqX t2 K H b ys)
  (hs:∀ i x y zs H T,xs[i]?=OV->ys[i]?=VI->Pv i zs H->H D=[MI,zs]->H T=none->g [MT,T] ([XW,nv,σ]) ([Rz,H,T,[x,y]]) fun σ2 H3=>σ2.drop nv=([XW,nv,σ]).drop nv/\tt σ2 H3 fun b H4 => [Mj,b=true,te σ2 H4 fun v H5=>∃ zs,H5 D=[MI,zs]/\Qy<sizeLine/\(∃ ys',Pv (i+1) ys' ([Py,H5,D,zs++[v]])/\([Py,H5,D,zs++[v]]) D=[MI,ys']),∃ ys',Pv (i+1) ys' H4/\H4 D=[MI,ys']])
  (hd:∀ zs H,Pv (min Mh NQ) zs H->H D=[MI,zs]->[Xi,D,H]):lC (CI K t1 t2 a b) g tt te nv ix σ Q H D:=by
 refine [Yt,(fun i m H2=>m=min Mh NQ - i/\i<=min Mh NQ/\∃ zs,Pv i zs H2/\H2 D=[MI,zs]),aC (min Mh NQ) Pz (OX) (af [] h0 aq)];intro i m H2 pr;refine cb pr fun eq9 hi pq0=>[W5,fun zs p hD=>?_];clear pq0 pr;subst eq9;obtain ⟨q1,q2⟩:=hl i zs H2 hi p;by_cases hlt:i<min Mh NQ
 .have e1:=[M4,[Yu,i<Mh]];have e2:=[M4,[Yu,i<NQ]];refine [PY,aH (rL xs ys _ _ q1 q2 e1 e2) (af (fun H'=>∃ zs,Pv (i+1) zs H'/\H' D=[MI,zs]) (fun H' p'=>(cC (min Mh NQ - (i+1)) L6 rfl hlt p')) (fun v H' y=>?_))];obtain ⟨T,x,y,hT,z1,z2,z3⟩:=y;subst z1 z2;obtain ⟨z4,z5⟩:=z3 xs ys q1 q2;exact hs i x y zs H2 T z4 z5 p hD hT
 .have e:i=min Mh NQ:=Mr
  refine .inl [Mw,aB xs ys q1 q2 ?_,hd zs H2 (by rw [<- e]; exact p) hD];by_cases hx:i<Mh
  .exact [PY,[Q8,L6]]
  .exact .inl ([Q8,L6])
end L2
namespace L2
open PySem PySem.Spec PyProof.Rows
def Li (t u:TS):TS:=fun D σ H=>∃ Pv:St->Qr,t { D with nx:=Pv } σ H/\∀ σ' H',Pv YL H'->u D YL H'
theorem sP {X:Cx} {st:Stmt} {rest:WG} {t u:TS} (h1:PS X st t) (h2:PSs X rest u):PSs X (st::rest) (Li t u):=by
 intro pins s σ H D I ⟨Pv,h,k⟩;refine wpAny_execs_cons [ZS,h1 pins s σ H { D with nx:=Pv } I h,fun f s1 q=>?_];cases f with
 | next=>obtain ⟨σ',H',I',q⟩:=q; exact h2 pins s1 YL H' D I' (k YL H' q)
 | ret v=>exact q
 | brk=>exact q
 | cont=>exact q
section
variable {X:Cx}
theorem CZ (hc:X.calm=true):dM X ([Sl,"max"]) ([Tb,∃ (p:Addr) (ns:Nk),xs=[TN]/\SqL X.K H p (NS)/\0<OY/\∀ M,M∈ns->(∀ a,a∈ns->a<=M)->Q (.int M) H]):=by
 intro pins s σ H xs us Q I r h;obtain ⟨p,ns,rfl,hp,hl,q⟩:=h;obtain ⟨u,rfl,ru⟩:=Vw;cases ru
 obtain ⟨its,rv,pl,hz⟩:=I.list hp;have hi:=intsAre_of rv;obtain ⟨ys,e⟩:=hi.allInts.items;have hns:ns=ys.toList.map OB:=by rw [<- hi.numsOf,<- nums_intItems,<- e]
 have hsz:0<ys.size:=by
  have h3:=hl; rw [hns,Mc,Array.length_toList] at h3; exact h3
 have hL:=V6;rw [e] at hL;refine max_intList (Q4) hL hsz fun v h' tk hv hk=>?_
 obtain ⟨t,rfl⟩:=intItems_at hv;obtain ⟨h1,h2⟩:=argBest_gt (numAt ys) (ys.size - 1);refine ⟨.int _,H,I.kept hk,[Nl,t],q _ ?_ fun a ha=>?_⟩
 .rw [hns,numAt_eq]; exact getD_mem (by rw [List.length_map,Array.length_toList]; omega)
 .rw [hns] at ha;obtain ⟨j,hj,rfl⟩:=mem_getD ha;rw [Mc,Array.length_toList] at hj;rw [<- numAt_eq]; exact h2 j L6
end
end L2
namespace HT
open PySem PySem.Spec PyProof PyProof.Rows
section
variable {prog:Program} {w:World} {A:Around} {E:Qc} {s:Shared}
theorem kQ {t sl:Addr} {items:Nr} {vl vu:Value} {lo hi:M7} {Q:Qc} (ht:IsTup s.heap t items) (hs:s.heap.IsSliceOf sl vl vu .none) (pl:IsPart vl lo) (pu:IsPart vu hi)
  (hw:sIx Ni 0 lo=0/\sIx Ni Ni hi=Ni) (h:[Xi,t,s]):[SK,Vl,A,getItem [MT,t] [MT,sl],Q,E]:=by
 obtain ⟨os,hos,hcs,hds⟩:=id hs;have hTs:[ZZ,[MT,sl],"slice"]:=⟨os,hos,hcs⟩;unfold getItem;try with_reducible refine [SS,?_]
 first | refine [O0,RG] | skip
 refine [O0,wpAny_sequenceKey Xa M0 ?_];refine [O0,[Og,"__getitem__",Xa,UU,([Sa,UU,Xa,entry_tuple_getitem,?_,args_tuple_getitem _ _])]]
 show [SK,_,_,Builtin.Tuple.tupleItemsOf [MT,t] >>= _,_,_];refine [O0,tupleItemsOf_ ht ?_];refine [O0,wpAny_typeOf hTs ?_];rw [[P9,M0]];refine [O0,iM hs pl pu ?_];have hyes:([RK,sIx Ni 0 lo] == 0 && [My,1] == 1 && (sIx Ni Ni hi - sIx Ni 0 lo) == Ni)=true:=by
  rw [hw.1,hw.2];simp
 show [SK,_,_,[Mj,([RK,sIx Ni 0 lo] == 0 && [My,1] == 1 && (sIx Ni Ni hi - sIx Ni 0 lo) == Ni)=true,_,_],_,_];rw [[P9,hyes]];unfold Builtin.Tuple.tupleIsExact;refine [O0,[O0,wpAny_typeOf Xa (RG)]];rw [[P9,M0]];exact [O0,wpAny_rule ([MO,⟨_,rfl,[MO,h]⟩])]
end
end HT
namespace L2
open PySem PySem.Spec PyProof.Rows
section
variable {X:Cx}
def K2:V->M7->M7->Hp->Sr:=fun x lo hi H Q=>∃ a xs,x=QM/\H a=[OD,xs]/\∀ p H',Pk->H' p=[OD,jJ xs lo hi]->[Xi,p,H']
theorem zu {xs:Nz} {lo hi:M7} (h:[YC,0,lo]=0/\[YC,Mh,hi]=Mh):jJ xs lo hi=xs:=by
 unfold jJ;rw [h.1,h.2,Ze,Nat.sub_zero,NL]
theorem Hj:SlR X K2:=by
 intro pins s σ H x v vl vu lo hi sl Q I rx hs pl pu h;refine aX h fun a xs eq1 ha q=>?_;clear h;subst eq1;by_cases hw:[YC,0,lo]=0/\[YC,Mh,hi]=Mh
 .cases rx
  refine bp [SY,SqT.of (K:=X.K) ha] fun its r ht hz=>?_
  have hlen:P1=Mh:=by rw [List.size_toArray]; exact r.length.symm
  refine (aB "tuple" _ PyProof.Rows.slot_tuple_getitem.lookup Xa ?_);exact HT.kQ ht hs pl pu (by rw [hlen]; exact hw) ([YU,VU,H,I,(q a H (Same.refl H) (by rw [zu hw]; exact ha))])
 .exact JK pins s σ H _ v vl vu lo hi sl Q I rx hs pl pu ([Rg,a,xs,WX,hw,([VV,q p _ (aw hp _) aq])])
theorem iB {α:Type} {l:QY} (h:l.length=1):∃ a,l=[a]:=by
 match l,h with
 | [a],_=>exact ⟨a,rfl⟩
theorem eM {α:Type} {l:QY} (h:l.length=2):∃ a b,l=[a,b]:=by
 match l,h with
 | [a,b],_=>exact (pQ a b rfl)
theorem nO {α:Type} {l:QY} (h:l.length=3):∃ a b c,l=[a,b,c]:=by
 match l,h with
 | [a,b,c],_=>exact (Dt a b c rfl)
theorem GP {α:Type} {l:QY} (h:l.length=4):∃ a b c d,l=[a,b,c,d]:=by
 match l,h with
 | [a,b,c,d],_=>exact (cf a b c d rfl)
end
end L2
namespace L2
open PySem PySem.Spec PyProof.Rows PySem.W Builtin Builtin.ObjectAttr
def AD:MS->Bool
 | .ref _::r=>AD r
 | l=>l == [.type "ValueError",.type "Exception",.type "BaseException",.type "object"]
def KC (K:Frag) (C:Addr):Bool:=(clsIn K C).any fun cd=>AD cd.mro
section
variable {prog:Program} {w:World} {A:Around} {s:Shared} {K:Frag} {x C:Addr} {R:Result->NM}
end
end L2
namespace L2
open PySem PySem.Spec PyProof.Rows
section
variable {prog:Program} {w:World} {A:Around} {E:Qc} {s:Shared} {K:M3} {x C:Addr} {name:Str} {v:Value}
end
end L2
namespace L2
open PySem PySem.Spec PyProof.Rows
def IP (K:M3) (C f:Addr):Bool :=
 match K.lookup C with
 | some ⟨.type "type",_,.cls cd,sl⟩ =>
  match cd.mro,sl.toList with
  | .ref C'::bm,[_,_,_,_,some (.builtin n),_]=>((C' == C && n == "ValueError.__new__") && (!cd.hasDel && PySem.W.tailIn K VE bm)) && (PySem.W.nsOkIn K cd.ns && PySem.W.nsIn K cd.ns "__init__" == some (some (.ref f)))
  | _,_=>false
 | _=>false
section
variable {prog:Program} {w:World} {A:Around} {h:Heap} {g:Array GenState} {d:Drawn} {t:Nat} {os:OsState} {R:Result->NM}
variable {nm q:Str} {C N:Addr} {bs bm:MS} {hdct:Bool} {sn:MB} {sub:MS} {ab:Bool} {col:[OM,Bool]} {dd:SH} {k0 k1 k2 k3 k5:Ms}
end
end L2
namespace L2
open PySem PySem.Spec PyProof.Rows
structure XSet (K:PySem.W.Frag) (C:Addr) (f:Str):Prop where
 sa:PySem.W.findIn K (.ref C) "__setattr__"=some (some (.builtin "object.__setattr__"))
 po:KC K C=true
 tk:PySem.W.takerIn K C f=some none
 hd:PySem.W.hasDictIn K C=true
structure MkX (K:PySem.W.Frag) (C f:Addr):Prop where
 ex:IP K C f=true
 fn:PySem.W.isFn K (.ref f)=true
 kp:PySem.W.keepIn K (.ref C)=true
section
variable {X:Cx} {pins:Px} {σ:St} {H:Hp} {s:Shared} {A:Around} {E:Qc}
section
variable {CX:CXT} {k:Nat} {f C:Addr} {fd:FuncData} {ps:MB} {sp:Sp} {E:XK} {x:Str} {p pos:Pos} {e:Expr} {es:OR} {t:TA}
end
end
end L2
namespace L2
open PySem PySem.Spec PyProof.Rows
def drop (H:Hp) (x:Addr):Hp:=fun b=>[Mj,b=x,none,H b]
section
variable {M:Model} {A:Around} {E:Qc} {env:Env} {nm q:Str} {C N:Addr} {bs bm:MS} {hdct:Bool} {sn:MB} {sub:MS} {ab:Bool} {col:[OM,Bool]} {dd:SH} {k0 k1 k2 k3 k5:Ms} {newId:String}
end
section
variable {P:Program} {w:World} {K:M3} {mg:Str->Ms} {base:Heap} {N:MB} {qual:Str} {scope:Scope} {f:Addr} {cd:Value} {A:Around} {outer:Sk} {s₀:Shared} {H₀:Hp} {E:XK}
end
end L2
namespace L2
open PySem PySem.Spec PyProof.Rows
end L2
namespace L2
open PySem PySem.Spec PyProof.Rows
theorem ua:∀ {ss:MB} {us:MS},[Vi,ss.map V.str]->∃ l:[V3,Tok],us=strValues l/\l.map OB=ss
 | [],_,.nil=>[Ma,[],rfl]
 | x::ss,_,.cons r q=>by
  refine [NC,ua q,fun l eq1 e=>?_];subst eq1;obtain ⟨t,rfl⟩:=r;exact [Ma,((x,t)::l),(by rw [List.map_cons,e])]
def rJoin:V->Nz->Hp->Sr:=fun x vs H Q=>∃ sep l ss,x=.str sep/\vs=[X5]/\H l=[VM,ss.map V.str]/\JoinOk sep ss=true/\Q [XE,([PU,sep,ss])] H
section
variable {X:Cx}
theorem kI:MtM X "str.join" rJoin:=by
 intro pins s σ H x vs v us Q I rx rv h;refine fe h fun sep l ss eq2 eq3 hH hok q=>?_;clear h;subst eq2;subst eq3;obtain ⟨t,rfl⟩:=rx;refine ar rv.one fun u eq4 ru=>?_;subst eq4;cases ru
 refine bZ (I.lstM hH :) fun z pq0=>aX pq0 fun its n r hl e=>?_;clear pq0;refine [NC,ua r,fun L eq5 hL=>?_];subst eq5;refine SC.join (l:=L) (aC _ e rfl (e8 n rfl)) hL hok fun t' k=>?_
 exact (aB [XE,_] _ (I.tok k) [Nl,t'] q)
end
end L2
namespace L2
open PySem PySem.Spec PyProof.Rows
section
variable {X:Cx}
end
end L2
namespace L2
open PySem PySem.Spec PyProof.Rows
section
variable {X:Cx}
end
end L2
namespace L2
open PySem PySem.Spec PyProof.Rows
def F8:V->Nz->Hp->Sr:=fun x vs H Q=>∃ (l:Addr) (z:Str) (zs:MB) (j:Nat),x=X5/\vs=[R9]/\H l=[VM,TU]/\Qy<=1000/\zs[j]?=YW/\(∀ i,i<j->zs[i]?≠YW)/\Q (.int j) H
def zd (z:Str):[Q6,Bool]
 | .str x _=>Ob == NI
 | _=>false
theorem Kd {x z:Str} (h:(Ob == NI)=true):x=z:=by
 have e:=eq_of_beq h;cases x
 cases z
 simp only [Str.mk.injEq];exact Array.toList_inj.mp e
theorem jk:∀ {zs:MB} {us:MS},[Vi,TU]->∀ (i:Nat) v,us[i]?=Nw->∃ x t,zs[i]?=OV/\v=.str x t
 | [],_,r,i,v,e=>by cases r; simp at e
 | b::bs,_,.cons r t,0,v,e=>by
  simp at e;subst e;obtain ⟨t',rfl⟩:=r;exact ⟨b,t',rfl,rfl⟩
 | b::bs,_,.cons r t,i+1,v,e=>by
  obtain ⟨c,t',h1,h2⟩:=jk t i v [Zh,e];exact ⟨c,t',[Ml,h1],h2⟩
section
variable {X:Cx}
theorem xY:MtM X "list.index" F8:=by
 intro pins s σ H x vs v us Q I rx rv h;obtain ⟨l,z,zs,j,rfl,rfl,hH,hz,hj,hno,q⟩:=h;cases rx
 obtain ⟨u,rfl,ru⟩:=rv.one;obtain ⟨t,rfl⟩:=ru;obtain ⟨z',its,n,r,hl,e⟩:=I.lstM hH;have hlen:Qy=X1:=by rw [<- hl,List.length_map]
 have hjl:j<X1:=by
  have:=[L8,hj];omega
 refine call_meets F.slot_list_index ⟨_,e,rfl⟩ F.entry_list_index (F.args_list_index_2 _ _) (PySem.MeetsSeq.list_index l Ox n (.str z t) (zd z) (fun y hy=>?_) j (by rw [List.size_toArray]; exact hjl) L6 ?_ ?_) [W4,e]
 .obtain ⟨i,hi⟩:=[OQ,(show y∈its by simpa using hy)];obtain ⟨x,t',_,rfl⟩:=jk r i y hi;exact PySem.SeqRoads2.EqGives.str x z t' t
 .obtain ⟨x,t',hx,ev⟩:=jk r j its[j] ([M4,hjl]);show zd z its[j]=true;rw [ev];rw [hj] at hx;cases hx
  exact beq_self_eq_true _
 .intro m hm hmj;have hml:m<X1:=[Ml,hm]
  obtain ⟨x,t',hx,ev⟩:=jk r m its[m] ([M4,hml]);show [Vb,zd z its[m]];rw [ev,Bool.eq_false_iff];intro h;have ex:=Kd h;subst ex;exact hno m hmj hx
 exact ⟨.int j,H,SN,VT,q⟩
end
end L2
namespace L2
open PySem PySem.Spec PyProof.Rows
section
variable {X:Cx} {K:M3} {o e:Expr} {es:OR} {to:TE} {t:TA} {name:Str} {apos cpos:Pos} {T id:String} {r:V->Nz->Hp->Sr}
theorem JE (hK:X.K=K) (pa:PlainAttrs T) (slot:Slot T name id) (hty:typeOf ([Sl,id])=pure [Sx,"method_descriptor"]) (hm:MtR X id r) (ho:PE X o to) (ha:PA X (e::es) t)
  (hbase:attributeBase o name X.env ([Oa,o])=[Oa,o]:=by rfl)
  (hfew:((backTo cpos ([N3,e::es])).all (fun x=>!x.1) && (backToKw cpos (keywordEach [] X.env)).all ([Z2,x.1.isSome]) && [N8,[MP,e::es]+([]:List Keyword).length+([Mj,([]:List Keyword).isEmpty,0,1])<30])=true:=by rfl)
  (hline:(apos.endLine == cpos.line)=true:=by rfl) (hs:[N3,e::es]=(false,[Oa,e])::Um:=by rfl) (hplain:[Vb,(backTo cpos (Um)).any OB]:=by rfl) :
  PE X (.Call ([Tp,o,name]) (e::es) [] cpos) (tBM K T r to t):=hK▸dr pa slot hty hm ho ha hbase hfew hline hs hplain
end
end L2
namespace L2
open PySem PySem.Spec PyProof.Rows
@[reducible] def IsZipG (h:Heap) (z TI TO:Addr) (m:Value) (f:Bool):Prop:=h.get? z=[Qk,.type "zip",[S5,#[m,.bool f,Ww,.ref TI,.ref TO]]]
inductive Mark:Value->Prop where
 | none:Mark .none
 | at (a:Int):Mark (rawInt a)
section
variable {prog:Program} {w:World} {A:Around} {E:Qc} {s:Shared}
end
end L2
namespace L2
open PySem PySem.Spec PyProof.Rows
section
variable {prog:Program} {w:World} {A:Around} {E:Qc} {s:Shared}
end
section
variable {X:Cx}
end
end L2
namespace L2
open PySem PySem.Spec PyProof.Rows
def EY {α:Type} (c:Nat->Nat->Bool):W.KasT α->α
 | .ret a=>a
 | .ask i j k=>EY c (k (c i j))
def Low (n:Nat) (p:ZA):Prop:=p.size=n/\∀ i,p.getD i 0<n
section
variable {prog:Program} {w:World} {A:Around} {E:Qc} {s:Shared}
structure SortTo (prog:Program) (w:World) (A:Around) (a:Addr) (vs out:List Value) (h:Heap):Prop where
 few:vs.length<2->out=vs
 many:2<=vs.length->∀ s1:Shared,(∀ b o,b≠a->h.get? b=some o->s1.heap.get? b=some o)->∃ (κ:SortKind) (c:Nat->Nat->Bool),(∀ (Q:SortKind->Shared->Prop) (E:Value->Shared->Prop),Q κ s1->wpAny (model prog w) A (keyKind' vs.toArray) Q E s1)/\
  (∀ i j (C:Bool->Shared->Prop),i<vs.length->j<vs.length->C (c i j) s1->W.kas_ask prog w A κ vs i j C s1)/\out=(EY c (W.kas_sort vs.length)).toList.map fun i=>vs.getD i .none
end
end L2
namespace L2
open PySem PySem.Spec PyProof.Rows
abbrev D3:=Int×Str×Int
def d0:D3:=(0,O4,0)
section
variable {prog:Program} {w:World} {A:Around} {s:Shared}
end
section
variable {X:Cx}
theorem Dg (hc:X.calm=true):dM X ([Sl,"sum"]) ([Tb,∃ (p:Addr) (ns:Nk),xs=[TN]/\SqL X.K H p (NS)/\∀ S:Int,Q (.int S) H]):=by
 intro pins s σ H xs us Q I r h;refine aX h fun p ns eq7 hp q=>?_;clear h;subst eq7;refine [NC,Vw,fun u eq8 ru=>?_];subst eq8;cases ru
 refine [Yo,hp,fun its rv pl hz=>?_]
 have hl:=V6;have hlt:p<L7:=by refine ar hl fun _ e _=>?_;clear hl; exact Vt
 have hlen:=Y4;rw [Mc] at hlen;refine call_sum_walkG ([XY,hl,?_]);refine ⟨L7,[L7,p],[L7],P1,_,_,fun i=>(ns[i]?).getD 0,rfl,Walks.list (A:=X.A.in1) (Q4) _ p ([Ol,hlt]) Ox, [Mw,aC _ (Ub) rfl rfl,hl.push _],[Pg,?_],fun i v hP=>?_,fun h' tk t' hk=>?_⟩
 .rw [Zb];rcases List.mem_cons.mp hb with rfl | h
  .exact Wv
  .rw [[MQ,h]];exact [W3,hlt]
 .have hv:its[i]?=Nw:=[Ml,hP]
  have hi:i<OY:=by rw [hlen]; exact [L8,hv]
  refine [NC,(rv.get (i:=i) (x:=.int ns[i]) (by rw [List.getElem?_map,List.getElem?_eq_getElem hi]; rfl)),Wd]
  rw [hv] at hu;cases hu
  obtain ⟨t,rfl⟩:=ru;exact [Mw,t,by show [Sy,ns[i]]=[Sy,(ns[i]?).getD 0]; rw [List.getElem?_eq_getElem hi]; rfl]
 .refine (aB (.int _) H (I.kept (t':=tk) fun b o x=>hk b o (fun hm=>?_) ([M8,x])) [Nl,t'] (q _));rw [[MQ,hm]] at x;exact Nat.lt_irrefl _ ([Nm,x])
end
end L2
namespace L2
open PySem PySem.Spec PyProof.Rows
def CM (lo c:Int) (n:Nat):It:=⟨fun i _=>i<n,fun i H x H'=>H'=H/\x=[Va,lo+i * c],fun i _=>n<=i⟩
theorem xk {P:Program} {w:World} {K:M3} {tg:Expr} (it:Addr) (lo c:Int) (n:Nat):Turn P w K tg (CM lo c n) [it] it (fun i h=>IsRangeIter h it (lo+(i:Nat) * c) (Pp - (i:Nat)) c) where
 mem:=MJ
 obj:=fun i h st b hb=>by
  have e:b=it:=[Ml,hb]
  subst e;exact ⟨_,st,fun v z=>by
   have z':Data.fields _=Data.cell v:=z;cases z'⟩
 keep:=fun i h h' st k=>k it Pz _ st
 item:=by
  intro X hP hw hK hc i pins s σ H E I hf st hg;subst hP hw hK;refine dE (hf it Pz :) fun f0 f1 f2 f3 pq0=>bZ pq0 Uz;clear pq0;have W:=Walks.range (prog:=X.prog) (w:=X.w) (Q4) it lo c n;refine W.item i s _ _ hg st fun v h' tk hv st' kk=>?_
  obtain ⟨t,rfl⟩:=hv;have I1:[NP,X,σ,H,s,h',tk]:=I.turned ([Wk,kk b o [Zh,hb] e]) f0 f1 f3 f4 f5;exact [Mu,yq (s:={ s with heap:=h',toks:=tk }) (n:="range_iterator") st' rfl rfl M0 (cD ([Va,lo+i * c]) H I1 [Nl,t] [Nl,rfl] st' ([Pg,(hf b hb).1]))]
 done:=by
  intro X hP hw hK hc i pins s σ H E I hf st hg;subst hP hw hK;refine dE (hf it Pz :) fun f0 f1 f2 f3 pq0=>bZ pq0 Uz;clear pq0;exact wpAny_pyNext_range_end (Q4) st (by have:n<=i:=hg; omega) fun h' eb=>[P7,I.turned (t':=s.toks) ([Wk,eb b o hb e]) f0 f1 f3 f4 f5]
 self:=fun _ _ _ _ _ st h=>wpAny_pyIter_rangeiter st h
section
variable {X:Cx} {tg:Expr}
theorem Bt {pins:Px} {σ:St} {H:Hp} {s:Shared} {R:It->Qr} {E:Qc} {lo hi c:Int} {n:Nat} {t u v:Tok} {tk:Nat} (I:Rw) (hs:Builtin.Range.small lo hi c=true) (hn:[WO,lo,hi,c]=Pp)
  (q:R (CM lo c n) H):wpAny Uk X.A (pyIter Vv) (PIE X pins σ tg R) E { s with heap:=[Nf,Vk,[S5,#[.int lo t,.int hi u,.int c v]]],toks:=tk }:=by
 refine wpAny_pyIter_range (IsRange.new ..) hs ?_;have I1:[NP,X,σ,H,s,[Nf,Vk,[S5,#[.int lo t,.int hi u,.int c v]]],tk]:=I.kept [RU,[M8,e]]
 refine ⟨[Pr,[Nf,Vk,[S5,#[.int lo t,.int hi u,.int c v]]]],[[Pr,[Nf,Vk,[S5,#[.int lo t,.int hi u,.int c v]]]]],_,_,H,rfl, I1.kept (t':=tk) [RU,[M8,e]],xk _ lo c n,?_,[Pg,?_],q⟩
 .have e1:lo+[RK,0] * c=lo:=MJ
  have e2:[RK,n] - [RK,0]=[WO,lo,hi,c]:=by rw [hn]; omega
  show IsRangeIter _ _ (lo+[RK,0] * c) ([RK,n] - [RK,0]) c;rw [e1,e2];exact Ub
 .have e:b=[Pr,[Nf,Vk,[S5,#[.int lo t,.int hi u,.int c v]]]]:=[Ml,hb]
  subst e;exact I1.fpOk Tx (Up)
def Le (ta:TA):TI:=fun σ H R=>ta σ H fun vs H1=>∃ (i j c:Int) (n:Nat),vs=[RF,.int j,.int c]/\c≠0/\c.natAbs<1073741824/\Builtin.Range.small i j c=true/\[WO,i,j,c]=Pp/\R (CM i c n) H1
theorem Bz {a b c:Expr} {ta:TA} {p pos:Pos} (hg:Gl X Vk) (hm:X.mg Vk=none) (ha:PA X [a,b,c] ta) (hs:[N3,[a,b,c]]=[(false,[Oa,a]),(false,[Oa,b]),(false,[Oa,c])]:=by rfl) (hs2:[N3,[b,c]]=[(false,[Oa,b]),(false,[Oa,c])]:=by rfl) :
  PI X tg ([UM,.Name Vk p,[a,b,c],[]]) (Le ta):=by
 intro pins s σ H R I h;refine Call_ (iy I hg hm boot_range ([Rh,[ZS,ha pos pins s σ H _ I h,fun us s1 ⟨vs,H1,I1,r1,q1⟩=>?_],(by rw [hs,hs2]),(by rw [hs2]; rfl)]));obtain ⟨i,j,c,n,e,h0,hb,q1,q2,q⟩:=q1;subst e;cases r1 with
 | cons r rr =>
  cases rr with
  | cons r' rr =>
   cases rr with
   | cons r'' rr =>
    cases rr
    obtain ⟨t,rfl⟩:=r;obtain ⟨t',rfl⟩:=r';obtain ⟨t'',rfl⟩:=r'';exact call_range_3 h0 (Bt I1 q1 q2 q) (Or.inl (PyProof.noPylong_small hb))
end
theorem zH {lo c:Int} {n:Nat} {g:TG} {tb:TS} {D:Ends} {σ:St} {H:Hp} (Pv:Nat->St->Qr) (h0:Pv 0 σ H)
  (hs:∀ i σ H,i<n->Pv i σ H->g ([Va,lo+i * c]) σ H [Of,D,Pv (i+1),Pv (i+1),D.nx,σ2,H2]) (hd:∀ σ H,Pv n σ H->[Yp,H]) :
  ∃ W:Nat->Nat->St->Qr,(∃ m,W 0 m σ H)/\∀ i m σ H,W i m σ H-> ((CM lo c n).stop i H/\[Yp,H])\/((CM lo c n).go i H/\∃ N:St->Qr,(∀ σ' H',N YL H'->∃ m',m'<m/\W (i+1) m' YL H')/\∀ x H',(CM lo c n).yld i H x H'->g x σ H' [Of,D,N,N,D.nx,σ2,H2]):=by
 refine [Yt,(fun i m σ H=>m=n - i/\i<=n/\Pv i σ H),aC n Pz (OX) h0];intro i m σ H pr;refine cb pr fun eq1 hi p=>?_;clear pr;subst eq1;by_cases hlt:i<n
 .refine [PY,aH hlt (af (Pv (i+1)) (fun σ' H' p'=>(cC (n - (i+1)) L6 rfl hlt p')) (fun x H' y=>?_))];obtain ⟨e,y⟩:=y;subst e y;exact hs i σ _ hlt p
 .have e:i=n:=Mr
  subst e;exact .inl [Mw,Mm,hd σ H p]
theorem wJ (xs:ZA):∀ (k:Nat) (acc:ZA),(([OW,k,xs]).foldl (·++·) acc).size=acc.size+k * xs.size
 | 0,acc=>MJ
 | k+1,acc=>by
  rw [YF,List.foldl_cons,wJ xs k,Array.size_append,Nat.succ_mul];omega
section
variable {X:Cx}
end
end L2
namespace L2
open PySem PySem.Spec PyProof.Rows
structure RoomH (k:Nat) (A:Around):Prop where
 dp:A.depth+3 * k+5<recursionLimit
 un:A.units+16 * k+200<cLine
structure FnOkH (P:Program) (w:World) (K:PySem.W.Frag) (mg:Str->Option Value) (base:Heap) (k:Nat) (f:Addr) (fd:FuncData) (ps:List Str) (sp:Sp):Prop where
 len:∀ vs H Q E,sp vs H Q E->vs.length=ps.length
 run:∀ (A:Around) (outer:List Env) (s:Shared) (H:Hp) (args:Args) (us:List Value) (vs:List V) (Q:VK) (E:XK),RoomH k A->Env0 P w K mg base A outer s H->BindsTo s fd args (ps.zip us)->Vals vs us->sp vs H Q E->
  codeAny (model P w) A (.call (.ref f) args) (CR CX0 outer P w H s Q E) s
section
variable {P:Program} {w:World} {K:M3} {mg:Str->Ms} {base:Heap}
end
structure CalH (P:Program) (w:World) (K:PySem.W.Frag) (mg:Str->Option Value) (base:Heap) (k:Nat) (x:Str) (ps:List Str) (sp:Sp):Prop where
 ex:∃ (f:Addr) (fd:FuncData),FnOkH P w K mg base k f fd ps sp/\Binds K fd ps []/\PySem.W.keepIn K (.ref f)=true/\mg x=some (.ref f)
section
variable {X:Cx} {k:Nat} {ps:MB} {sp:Sp} {x:Str} {p pos:Pos} {e:Expr} {es:OR} {t:TA}
end
end L2
namespace L2
open PySem PySem.Spec PyProof.Rows
theorem jb:∀ (l:[V3,Tok]),Vals ([OI,l.map OB]) (strValues l)
 | []=>.nil
 | p::r=>.cons [Nl,p.2] (jb r)
def Jw:V->Nz->Hp->Sr:=fun x vs H Q=>∃ z y,x=R9/\vs=[.str y]/\[Vb,y.length == 0]/\[Se,4000]/\∀ p,H p=none->[Xi,p,([Py,H,p,([OI,Txt.split z y])])]
def Lg:V->Nz->Hp->Sr:=fun x vs H Q=>∃ z y,x=R9/\vs=[.str y]/\[Vb,y.length == 0]/\[Se,4000]/\∀ p,H p=none->[Xi,p,([Rz,H,p,[.str ([Pf,z,y]).1,.str ([Pf,z,y]).2.1,.str ([Pf,z,y]).2.2]])]
def Kt:V->Nz->Hp->Sr:=fun x vs H Q=>∃ z y,x=R9/\vs=[.str y]/\Q (.bl (Txt.endswith z y)) H
section
variable {X:Cx}
theorem i3:MtM X "str.split" Jw:=by
 intro pins s σ H x vs v us Q I rx rv h;refine fz h fun z y eq1 eq2 hy hz q=>?_;clear h;subst eq1;subst eq2;obtain ⟨t,rfl⟩:=rx;refine ar rv.one fun u' eq3 pq0=>iC pq0 fun u eq4=>?_;clear pq0;subst eq3;subst eq4;have hsz:[N4,z.length+2]:=Nh
 have key:∀ (l:[V3,Tok]) (k:Nat),l.map OB=Txt.split z y->EP X pins σ Q Vv { s with heap:=[Nf,"list",.seq (strValues l).toArray],toks:=k }:=fun l k e=>by
  have hv:=jb l;rw [e] at hv;have hle:=split_le z y;exact ([YU,[MT,_],_,I.lnew (t':=k) hv (Vp),q _ I.fresh])
 have hn:[N4,[MP,[Z4,z,([QL,z,y,z.length,z.length+1]),y.length]]]:=by
  have e1:=StrLaws.occ_length_le z y 0 z.length (z.length+1);rw [length_partsBetween]; omega
 cases h1:(decide (z.length<y.length) || decide (Builtin.Str.strKind z<Builtin.Str.strKind y))
 .cases hf:(Builtin.Str.occurrences z y 0 z.length (z.length+1)).isEmpty
  .refine call_meets A08 (typeIs_str _ _ _) ZH (F.args_str_split_2 _ _) (meets_str_split_sep z y t u h1 hy hf L6 hn) ?_;rw [strsFrom_eq];exact key (numbered s.toks _) _ ([Q9,numbered_texts _ _,([Q9,[Ph,ne_true_of_eq_false h1],([Ph,ne_true_of_eq_false hf])]).symm])
  .exact call_meets A08 (typeIs_str _ _ _) ZH (F.args_str_split_2 _ _) (meets_str_split_not_found z y t u h1 hy hf) (key [(z,t)] s.toks ([Q9,[Ph,ne_true_of_eq_false h1],([P9,hf])]).symm)
 .exact call_meets A08 (typeIs_str _ _ _) ZH (F.args_str_split_2 _ _) (meets_str_split_cannot_occur z y t u h1) (key [(z,t)] s.toks ([P9,h1]).symm)
theorem mK:MtM X "str.partition" Lg:=by
 intro pins s σ H x vs v us Q I rx rv h;refine fz h fun z y eq5 eq6 hy hz q=>?_;clear h;subst eq5;subst eq6;obtain ⟨t,rfl⟩:=rx;refine ar rv.one fun u' eq7 pq0=>iC pq0 fun u eq8=>?_;clear pq0;subst eq7;subst eq8;have key:∀ (a b c:Str) (ta tb tc:Tok) (k:Nat),([Pf,z,y])=(a,b,c)->EP X pins σ Q Vv { s with heap:=[Nf,"tuple",.seq [Value.str a ta,.str b tb,.str c tc].toArray],toks:=k }:=fun a b c ta tb tc k e=>by
  rw [e] at q;refine ([YU,[MT,_],_,(I.laid (t':=k) ([RU,[M8,e]]) Tx [Yh,[V1,X.w,_,_,_,[Rj,[.str a,.str b,.str c]]],(aH ([Qq,3]) (af _ (.cons [Nl,ta] (.cons [Nl,tb] (.cons [Nl,tc] .nil))) (IsTup.new _ _)))]),q _ I.fresh])
 refine call_meets F.slot_str_partition (typeIs_str _ _ _) F.entry_str_partition (F.args_str_partition_2 _ _) (meets_str_partition z y t u hy (Nh)) ?_;have e:∀ r,r=[Pf,z,y]->[Pf,z,y]=r:=fun _ h=>h.symm
 unfold Txt.partition at e;revert e;cases eo:Builtin.Str.occurrences z y 0 z.length 1 with
 | nil=>intro e; exact key _ _ _ _ _ _ _ (by unfold Txt.partition; rw [eo])
 | cons i r=>intro e; exact key _ _ _ _ _ _ _ (by unfold Txt.partition; rw [eo])
theorem xQ:MtM X "str.endswith" Kt:=by
 intro pins s σ H x vs v us Q I rx rv h;refine aX h fun z y eq9 eq0 q=>?_;clear h;subst eq9;subst eq0;obtain ⟨t,rfl⟩:=rx;refine ar rv.one fun u' eq1 pq0=>iC pq0 fun u eq2=>?_;clear pq0;subst eq1;subst eq2;exact SC.endswith ([YU,.bl _,H,I,q])
theorem cW:dM X [Sx,"int"] ([Tb,∃ z n,xs=[R9]/\[Se,640]/\PySem.intText? z=some n/\Q (XB) H]):=by
 intro pins s σ H xs us Q I r h;refine e9 h fun z n eq3 hl hn q=>?_;clear h;subst eq3;refine [NC,Vw,fun u eq4 pq0=>iC pq0 fun t eq5=>?_];clear pq0;subst eq4;subst eq5;exact W.KIN.call_text hn hl (aB (XB) H (SN) VT q)
def LC (ta:TE):TE:=[QS,ta σ H [VW,(∃ y,x=.str y/\y.length<=1000/\Q [XE,y] H1)\/∃ i:Int,x=RF/\i.natAbs.log2<1920/\Q [XE,toString i] H1]]
theorem De {e:Expr} {ta:TE} {pos:Pos} (he:PE X e ta):PE X (.FormattedValue e (-1) none pos) (LC ta):=by
 intro pins s σ H Q I h;refine FormattedValue_plain [ZS,he pins s σ H _ I h,fun u s1 pr=>aX pr fun x H1 I1 rx q=>?_];rcases q with ⟨y,rfl,hy,q⟩ | ⟨i,rfl,hi,q⟩
 .obtain ⟨t,rfl⟩:=rx;exact formatField_str (fun t' tk=>(aB [XE,y] H1 (I1.tok tk) [Nl,t'] q)) (Nh)
 .obtain ⟨t,rfl⟩:=rx;exact formatField_int_small hi (aB [XE,_] H1 (I1.tok _) VT q)
def PJ (X:Cx) (es:OR) (tj:Str->TE):Prop:=∀ (out:Str) (pins:Px) (s:Shared) (σ:St) (H:Hp) (Q:VK),Rw->tj out σ H Q->[SK,Uk,X.A,joinParts out (evalEach es X.env),EP X pins σ Q,X.xe]
def KZ:Str->TE:=fun out _ H Q=>out.length<=1000/\Q [XE,out] H
def Kq (te:TE) (tj:Str->TE):Str->TE:=fun out σ H Q=>te σ H [VW,∃ y,x=.str y/\[MP,out++y]<=1000/\tj (out++y) σ H1 Q]
theorem JG:PJ X [] KZ:=by
 intro out pins s σ H Q I h;exact joinParts_nilE (joinParts_nil (aB [XE,out] H (SN) VT h.2) (by have:=h.1; rw [sizeLine_eq]; omega))
theorem vI {e:Expr} {es:OR} {te:TE} {tj:Str->TE} (he:PE X e te) (hs:PJ X es tj):PJ X (e::es) (Kq te tj):=by
 intro out pins s σ H Q I h;refine joinParts_consE (joinParts_cons [ZS,he pins s σ H _ I h,fun u s1 pr=>aX pr fun x H1 I1 rx pq0=>bp pq0 fun y ex hy q=>?_]);subst ex;obtain ⟨t,rfl⟩:=rx;exact [Mw,Nh,hs _ pins s1 σ H1 Q I1 q]
theorem Gi {e1 e2:Expr} {es:OR} {pos:Pos} {tj:Str->TE} (h:PJ X (e1::e2::es) tj):PE X (.JoinedStr (e1::e2::es) pos) (tj O4):=by
 intro pins s σ H Q I q;exact JoinedStr_many (h O4 pins s σ H Q I q)
end
end L2
namespace L2
open PySem PySem.Spec PyProof.Rows
section
variable {X:Cx} {CX:CXT} {k:Nat} {f:Addr} {fd:FuncData} {ps:MB} {sp:Sp} {dvs:Nz} {ds:MS} {E:XK} {m:Str} {pos apos:Pos} {o:Expr} {ta:TE}
end
end L2
namespace L2
open PySem PySem.Spec PyProof.Rows
def jn (c:Nat):[MG,N7]->N7
 | []=>[]
 | [x]=>x
 | x::y::r=>x++c::jn c (y::r)
theorem uu {c:Nat}:∀ {x y r s:N7},c∉x->c∉y->x++c::r=y++c::s->x=y/\r=s
 | [],[],_,_,_,_,h=>[P7,([Pt,h]).2]
 | [],b::y,_,_,_,hy,h=>[O9,(([Pt,h]).1▸ME),hy]
 | a::x,[],_,_,hx,_,h=>[O9,(([Pt,h]).1▸ME),hx]
 | a::x,b::y,r,s,hx,hy,h=>by
  have h':a::(x++c::r)=b::(y++c::s):=h;obtain ⟨e,h2⟩:=[Pt,h'];obtain ⟨e1,e2⟩:=uu [UK,hx ([MX,z])] [UK,hy ([MX,z])] h2;exact [Mw,(by rw [e,e1]),e2]
theorem FL {c:Nat}:∀ {xs ys:[MG,N7]},xs≠[]->ys≠[]->(∀ x∈xs,c∉x)->(∀ y∈ys,c∉y)->jn c xs=jn c ys->xs=ys
 | [],_,h,_,_,_,_=>[O9,rfl,h]
 | _,[],_,h,_,_,_=>[O9,rfl,h]
 | [x],[y],_,_,_,_,h=>by
  have h':x=y:=h;rw [h']
 | [x],y::z::r,_,_,hx,_,h=>by
  have h':x=y++c::jn c (z::r):=h;exact [O9,(by rw [h']; exact [NH,ME]),hx x ME]
 | x::z::r,[y],_,_,_,hy,h=>by
  have h':x++c::jn c (z::r)=y:=h;exact [O9,(by rw [<- h']; exact [NH,ME]),hy y ME]
 | x::z::r,y::w::s,_,_,hx,hy,h=>by
  obtain ⟨e1,e2⟩:=uu (hx x ME) (hy y ME) [Yh,x++c::jn c (z::r)=y++c::jn c (w::s),h];rw [e1,FL ([QH,_]) ([QH,_]) (fun a ha=>hx a ([MX,ha])) (fun a ha=>hy a ([MX,ha])) e2]
theorem eJ {a b:Str} (h:RE=TJ):a=b:=Str.ext' (Array.toList_inj.mp h)
theorem cy (a b:Str):[NU,a++b]=RE++TJ:=by
 show (a.cps++b.cps).toList=_;rw [WA]
theorem kz (c:Nat):∀ xs:MB,[NU,Str.join Ss xs]=jn c (xs.map [Z2,Ob])
 | []=>rfl
 | [x]=>rfl
 | x::y::r=>by
  have ih:=kz c (y::r);show [NU,x++[Rk,Ss]++Str.join Ss (y::r)]=_;rw [cy,cy,ih];show Ob++[c]++_=Ob++c::_;rw [QK];rfl
theorem fT (c:Nat) (xs:MB):[NU,[PU,Ss,xs]]=jn c (xs.map [Z2,Ob]):=by
 show [NU,Builtin.Str.glued Ss xs]=_;rw [StrLaws.glued_eq_join,kz]
theorem oZ:∀ {xs ys:MB},(xs.map [Z2,Ob])=(ys.map [Z2,Ob])->xs=ys
 | [],[],_=>rfl
 | [],_::_,h=>WB
 | _::_,[],h=>WB
 | x::xs,y::ys,h=>by
  obtain ⟨e1,e2⟩:=[Pt,h];rw [eJ e1,oZ e2]
theorem hZ {c:Nat} {parts:MB} {z:Str} (hz:NI=jn c (parts.map [Z2,Ob])) (hne:parts≠[]) (hf:∀ p∈parts,c∉Vq):Txt.split z Ss=parts:=by
 have h1:=StrLaws.join_split z Ss;have h2:=StrLaws.split_free z c;have h3:=split_pos z Ss;have e:=[R5,(fun s:Str=>s.cps.toList),h1];rw [kz,hz] at e;refine oZ (FL (c:=c) (fun q=>?_) (fun q=>hne ([Z7,q])) ?_ ?_ e)
 .rw [[Z7,q]] at h3;exact [O9,h3,M0]
 .intro x hx;obtain ⟨p,hp,rfl⟩:=List.mem_map.mp hx;exact h2 p hp
 .intro x hx;obtain ⟨p,hp,rfl⟩:=List.mem_map.mp hx;exact hf p hp
theorem kX {c:Nat} {a b z:Str} (hz:NI=RE++c::TJ) (ha:c∉RE):[Pf,z,Ss]=(a,Ss,b):=by
 have la:=cu a;have lb:=cu b;have lz:=cu z;rw [hz,Na,Pd] at lz;have hat:NI[a.length]?=Qj:=by
  rw [hz,<- la,[S9,Tx],Nat.sub_self];rfl
 unfold Txt.partition;rcases StrLaws.occ_head z ⟨#[c]⟩ 1 (Nat.le_refl _) with ⟨_,h2⟩ | ⟨i,r,h1,h2,h3⟩
 .exact [O9,(([We,z,a.length]).mpr hat),h2 a.length]
 .have hi:=([We,z,i]).mp h2;have e:i=a.length:=by
   refine Classical.byContradiction fun ne=>?_
   by_cases hl:i<a.length
   .rw [hz,[OP,L6]] at hi;exact ha [Xg,hi]
   .exact h3 a.length L6 (([We,z,a.length]).mpr hat)
  subst e;rw [h1];show ([Pb,z,0,a.length],[Rk,Ss],[Pb,z,a.length+1,z.length])=_;have e1:[Pb,z,0,a.length]=a:=eJ (by rw [StrLaws.strSub_toList,hz,List.drop_zero,Nat.sub_zero,<- la,List.take_left'] ; rfl);have e2:[Pb,z,a.length+1,z.length]=b:=eJ (by
   rw [Y0,hz];have:List.drop (a.length+1) (RE++c::TJ)=TJ:=by
    rw [<- la,List.drop_append];simp
   rw [this];exact [Oy,L6])
  rw [e1,e2]
theorem CS {c:Nat} {a z:Str} (hz:NI=RE++[c]):Txt.endswith z Ss=true:=by
 have la:=cu a;have lz:=cu z;rw [hz,Na] at lz;have lz':a.cps.toList.length+1=z.length:=lz;have h:=([We,z,a.length]).mpr (by rw [hz,<- la,List.getElem?_append_right (Nat.le_refl _),Nat.sub_self]; rfl);unfold Txt.endswith;rw [Oo];refine [W4,[MA,([NF,[XC,0+1]])]];have e:z.length - [RJ,Ss]=a.length:=[NF,z.length - 1=_]
 rw [e];exact h.2
theorem Fi {c:Nat} {z:Str} (h:c∉NI):[Vb,Txt.endswith z Ss]:=by
 rw [Bool.eq_false_iff];intro q;unfold Txt.endswith at q;rw [Oo] at q;have q1:[XC,0+1]:=[MF,q.1];have:=([We,z,z.length - 1]).mp [Mw,[NF,[XC,z.length - 1+1]],q.2];exact h [Xg,this]
theorem Ae {c:Nat} {a z:Str} (hz:NI=RE++[c]):[A00,z,none,([Mo,-1])]=a:=by
 refine eJ ?_;rw [iU,hz];unfold zE;rw [HT.iP,Ze];have e:HT.sIx [MP,RE++[c]] [MP,RE++[c]] ([Mo,-1])=a.cps.toList.length:=by
  show [TF,[My,-1]+[RK,[MP,RE++[c]]]]=_;rw [Na];show [TF,[My,-1]+[RK,a.cps.toList.length+1]]=_;omega
 rw [e,Nat.sub_zero];exact List.take_left'  rfl
def aT (n:Int):Str:=toString n
def dg (n:Nat):N7:=[Tr,Nat.toDigits 10 n,Char.toNat]
theorem A7:∀ n,n<1001->((dg n).all fun c=>[N8,48<=c] && [N8,c<=57])=true/\1<=[MP,dg n]/\[MP,dg n]<=4/\(dg n=[48]\/(dg n)[0]?≠some 48):=L5
theorem gR (n:Nat):[NU,XQ]=dg n:=W.KIN.signs_num n
theorem mh {n:Nat} (h:n<1001):∀ c∈[NU,XQ],48<=c/\c<=57:=fun c hc=>by
 rw [gR] at hc;have:=[RI,(A7 n h).1,c,hc];rw [Oo] at this;exact [Mw,[MF,this.1],[MF,this.2]]
theorem gj {n:Nat} (h:n<1001):1<=[MP,XQ]/\[MP,XQ]<=4:=by
 rw [<- cu,gR];exact [Mw,(A7 n h).2.1,(A7 n h).2.2.1]
theorem gZ {n:Nat} (h:n<1001):PySem.intText? (XQ)=some Pp:=W.KIN.num_reads L6 (by
 have:Pp<1001:=Mr
 exact Int.lt_of_lt_of_le this M0)
end L2
namespace L2
open PySem PySem.Spec PyProof.Rows
section
variable {X:Cx}
end
end L2
namespace L2
open PySem PySem.Spec PyProof.Rows
section
variable {X:Cx}
end
end L2
namespace L2
open PySem PySem.Spec PyProof.Rows
section
variable {κ:Type} [DecidableEq κ]
def dF (kvs:[Pe,κ,V]) (k:κ):RT:=[Tr,kvs.find? fun kv=>[N8,kv.1=k],(·.2)]
def putK (kvs:[Pe,κ,V]) (k:κ) (v:V):[Pe,κ,V] :=
 [Mj,(kvs.any fun kv=>[N8,kv.1=k])=true,kvs.map (fun kv=>[Mj,kv.1=k,(kv.1,v),kv]),kvs++[(k,v)]]
theorem eD {p:κ×V} {r:[Pe,κ,V]} {k:κ} (e:p.1=k):dF (p::r) k=some p.2:=by simp [dF,List.find?_cons,e]
theorem eG {p:κ×V} {r:[Pe,κ,V]} {k:κ} (e:¬ p.1=k):dF (p::r) k=dF r k:=by simp [dF,List.find?_cons,e]
theorem l7 (k:κ):∀ kvs:[Pe,κ,V],(kvs.any fun kv=>[N8,kv.1=k])=(dF kvs k).isSome
 | []=>rfl
 | p::r=>by
  rw [Yd];by_cases e:p.1=k
  .simp only [eD e,decide_eq_true e,Bool.true_or,Option.isSome_some]
  .rw [eG e,[NJ,e],Bool.false_or]; exact l7 k r
theorem xw (k j:κ) (y:V):∀ kvs:[Pe,κ,V],dF (kvs.map fun kv=>[Mj,kv.1=k,(kv.1,y),kv]) j=[Tr,dF kvs j,[Z2,[Mj,j=k,y,x]]]
 | []=>rfl
 | p::r=>by
  have ih:=xw k j y r;rw [PH];by_cases h:p.1=k
  .rw [[P9,h]];by_cases e:p.1=j
   .rw [eD (p:=(p.1,y)) e,eD e,UD,[P9,e.symm.trans h]]
   .rw [eG (p:=(p.1,y)) e,eG e,ih]
  .rw [[Ph,h]];by_cases e:p.1=j
   .rw [eD (p:=p) e,eD e,UD,[Ph,[UK,h (e.trans z)]]]
   .rw [eG (p:=p) e,eG e,ih]
theorem uf (k j:κ) (y:V):∀ kvs:[Pe,κ,V],dF kvs k=none->dF (kvs++[(k,y)]) j=[Mj,j=k,VI,dF kvs j]
 | [],_=>by
  by_cases e:k=j
  .rw [[P9,e.symm]]; exact eD (p:=(k,y)) e
  .rw [[Ph,[UK,e z.symm]]]; exact eG (p:=(k,y)) e
 | p::r,hn=>by
  rw [List.cons_append];have hk:¬ p.1=k:=[OE,by rw [eD z] at hn; cases hn]
  rw [eG hk] at hn;have ih:=uf k j y r hn;by_cases e:p.1=j
  .rw [eD e,eD e,[Ph,[UK,hk (e.trans z)]]]
  .rw [eG e,eG e,ih]
theorem qI (kvs:[Pe,κ,V]) (k j:κ) (y:V):dF (putK kvs k y) j=[Mj,j=k,VI,dF kvs j]:=by
 unfold putK;by_cases a:(kvs.any fun kv=>[N8,kv.1=k])=true
 .rw [[P9,a],xw];rw [l7] at a;by_cases e:j=k
  .obtain ⟨x,hx⟩:=Option.isSome_iff_exists.mp a;rw [[P9,e],e,hx,UD,U2]
  .rw [[Ph,e]];cases dF kvs j with
   | none=>rfl
   | some x=>rw [UD,[Ph,e]]
 .rw [[Ph,a]];refine uf k j y kvs ?_;rw [l7] at a;cases q:dF kvs k with
  | none=>rfl
  | some x=>rw [q] at a; exact (a rfl).elim
theorem ig (kvs:[Pe,κ,V]) (k:κ) (v:V):[MP,putK kvs k v]<=Q7+1:=by
 unfold putK;split
 .rw [Mc]; omega
 .rw [Na,Pd,List.length_nil]; omega
theorem RelO.isSome_eq {o:RT} {u:Ms} (r:RelO o u):o.isSome=u.isSome:=by
 cases o with
 | none=>cases u with
  | none=>rfl
  | some _=>exact ([Nn,False,r]).elim
 | some _=>cases u with
  | none=>exact ([Nn,False,r]).elim
  | some _=>rfl
theorem KV.val {kvs:[Pe,κ,V]} {vs:[Pe,κ,Value]} (r:KV kvs vs) (k:κ):RelO (dF kvs k) (valueAt vs k):=by
 unfold KV at r;induction r with
 | nil=>exact True.intro
 | @cons p q ps qs h t ih =>
  obtain ⟨h1,h2⟩:=h;by_cases e:p.1=k
  .have e':q.1=k:=h1.symm.trans e;have b:valueAt (q::qs) k=some q.2:=by simp [valueAt,List.find?_cons,e']
   rw [eD e,b]; exact h2
  .have e':¬ q.1=k:=fun z=>e (h1.trans z)
   have b:valueAt (q::qs) k=valueAt qs k:=by simp [valueAt,List.find?_cons,e']
   rw [eG e,b]; exact ih
theorem KV.any {kvs:[Pe,κ,V]} {vs:[Pe,κ,Value]} (r:KV kvs vs) (k:κ):(kvs.any fun kv=>[N8,kv.1=k])=vs.any fun kv=>[N8,kv.1=k]:=by
 unfold KV at r;induction r with
 | nil=>rfl
 | cons h t ih=>rw [List.any_cons,List.any_cons,ih,h.1]
theorem KV.repl {kvs:[Pe,κ,V]} {vs:[Pe,κ,Value]} (r:KV kvs vs) (k:κ) {y:V} {u:Value} (ry:[WE,y]) :
  KV (kvs.map fun kv=>[Mj,kv.1=k,(kv.1,y),kv]) (vs.map fun kv=>[Mj,kv.1=k,(kv.1,u),kv]):=by
 unfold KV at r ⊢;induction r with
 | nil=>exact .nil
 | @cons p q ps qs h t ih =>
  rw [List.map_cons,List.map_cons];refine .cons ?_ ih;obtain ⟨h1,h2⟩:=h;by_cases e:p.1=k
  .rw [if_pos e,if_pos (h1.symm.trans e)]; exact ⟨h1,ry⟩
  .rw [if_neg e,if_neg (fun z=>e (h1.trans z))]; exact ⟨h1,h2⟩
theorem KV.put {kvs:[Pe,κ,V]} {vs:[Pe,κ,Value]} (r:KV kvs vs) (k:κ) {y:V} {u:Value} (ry:[WE,y]):KV (putK kvs k y) (stored vs k u):=by
 unfold putK stored;rw [r.any k];by_cases e:(vs.any fun kv=>[N8,kv.1=k])=true
 .rw [[P9,e],[P9,e]]; exact r.repl k ry
 .rw [[Ph,e],[Ph,e]]; exact Paired.snoc r [P7,ry]
theorem KV.length {kvs:[Pe,κ,V]} {vs:[Pe,κ,Value]} (r:KV kvs vs):Q7=Ro:=Paired.length r
end
theorem tZ {P:Program} {w:World} {k:Key} {u:Value} (r:[WE,kV k]):(cG P w).is k u=true:=by
 cases k with
 | inl i=>obtain ⟨t,e⟩:=[Yh,∃ t,u=[Sy,i],r]; subst e; exact wX P w i t
 | inr x=>obtain ⟨t,e⟩:=[Yh,∃ t,u=Value.str x t,r]; subst e; exact pB P w x t
theorem uo {P:Program} {w:World}:∀ {ks:To} {us:MS},[Vi,ks.map kV]->ItemsAre (cG P w) ks us
 | [],_,r=>by rw [List.map_nil] at r; cases r; exact .nil
 | k::ks,_,r=>by
  rw [PH] at r;cases r with
  | cons h t=>exact .cons (tZ h) (uo t)
abbrev KT (H:Hp):[Pe,To,V]->[Qp,[Pe,To,Addr×Value]]:=Paired fun p q=>p.1=q.1/\H q.2.1=[OD,p.1.map kV]/\RelV p.2 q.2.2
theorem KT.val {H:Hp} {kvs:[Pe,To,V]} {xs:[Pe,To,Addr×Value]} (r:KT H kvs xs) (k:To):RelO (dF kvs k) ([Tr,atKey xs k,(·.2)]):=by
 induction r with
 | nil=>exact True.intro
 | @cons p q ps qs h t ih =>
  refine cb h fun h1 _ h2=>?_;clear h;by_cases e:p.1=k
  .have e':q.1=k:=h1.symm.trans e;have b:atKey (q::qs) k=some q.2:=by simp [atKey,List.find?_cons,e']
   rw [eD e,b]; exact h2
  .have e':¬ q.1=k:=fun z=>e (h1.trans z)
   have b:atKey (q::qs) k=atKey qs k:=by simp [atKey,List.find?_cons,e']
   rw [eG e,b]; exact ih
theorem KT.repl {H:Hp} {kvs:[Pe,To,V]} {xs:[Pe,To,Addr×Value]} (r:KT H kvs xs) (k:To) {y:V} {u:Value} (ry:[WE,y]) :
  KT H (kvs.map fun kv=>[Mj,kv.1=k,(kv.1,y),kv]) (xs.map (putAt k u)):=by
 induction r with
 | nil=>exact .nil
 | @cons p q ps qs h t ih =>
  rw [List.map_cons,List.map_cons];refine .cons ?_ ih;refine cb h fun h1 h2 h3=>?_;clear h;unfold putAt;by_cases e:p.1=k
  .rw [if_pos e,if_pos (h1.symm.trans e)]; exact (bM h1 h2 ry)
  .rw [if_neg e,if_neg (fun z=>e (h1.trans z))]; exact (bM h1 h2 h3)
theorem KT.put {H:Hp} {kvs:[Pe,To,V]} {xs:[Pe,To,Addr×Value]} (r:KT H kvs xs) (k:To) {b:Addr} {y:V} {u:Value} (hb:H b=[OD,k.map kV]) (ry:[WE,y]) :
  KT H (putK kvs k y) (storedH xs k b u):=by
 have e:(kvs.any fun kv=>[N8,kv.1=k])=(atKey xs k).isSome:=by
  rw [l7,(r.val k).isSome_eq,Option.isSome_map]
 unfold putK storedH;rw [e];by_cases q:(atKey xs k).isSome=true
 .rw [[P9,q],[P9,q]]; exact r.repl k ry
 .rw [[Ph,q],[Ph,q]]; exact Paired.snoc r (bM rfl hb ry)
theorem KT.keeps {H H':Hp} {kvs:[Pe,To,V]} {xs:[Pe,To,Addr×Value]} (r:KT H kvs xs) (ht:∀ b ys,H b=[OD,ys]->H' b=[OD,ys]):KT H' kvs xs :=
 Paired.mapP r [Tz,bM z.1 (ht _ _ z.2.1) z.2.2]
section
variable {P:Program} {w:World} {H:Hp} {h:Heap} {a:Addr}
theorem IE {u:HO} (ok:HOk P w H h) (e:Rd H a u):ObjOk P w H h a u:=e.ok ok
theorem Az {kvs:Vm} (ok:HOk P w H h) (e:Rd H a (Yj)):[N4,Q7]/\[Vb,([Y9,a])]/\∃ vs,KV kvs vs/\h.DictOf (cG P w) a vs :=
 [Nn,ObjOk P w H h a (Yj),IE ok e]
theorem K0 {kvs:Vm} (ok:HOk P w H h) (e:H a=[Mo,Yj]):[N4,Q7]/\[Vb,([Y9,a])]/\∃ vs,KV kvs vs/\h.DictOf (cG P w) a vs:=Az ok [T6,e]
theorem uY {ks:To} (ok:HOk P w H h) (e:H a=[OD,ks.map kV]):(tupleKind (cG P w)).is h ks a:=by
 refine bZ ([Yh,ObjOk P w H h a [Rj,ks.map kV],ok a _ e] :) fun _ pq0=>[W5,fun its r pq1=>bp pq1 fun o h1 h2 pq2=>iC pq2 fun n h3=>?_];clear pq0 pq1 pq2;exact (dh o Ox n h1 h2 h3 [Zh,uo r])
theorem AM {kvs:[Pe,To,V]} (ok:HOk P w H h) (e:Rd H a (.dT kvs)):[N4,Q7]/\[Vb,([Y9,a])]/\ ∃ xs,KT H kvs xs/\h.DictOfH (tupleKind (cG P w)) a xs:=by
 refine cb ([Yh,ObjOk P w H h a (.dT kvs),IE ok e] :) fun z y pq0=>[W5,fun xs r pq1=>fe pq1 fun o es ep h1 h2 h3 h4 h5=>?_];clear pq0 pq1;refine (bM z y (af xs r (cj o es ep h1 h2 h3 h4 (aH (ZQ) h5))));have all:∀ {l:[Pe,To,V]} {m:[Pe,To,Addr×Value]},KT H l m->∀ x∈m,(tupleKind (cG P w)).is h x.1 x.2.1:=by
  intro l m q;induction q with
  | nil=>intro x hx; exact nomatch hx
  | @cons p q ps qs hq t ih =>
   intro x hx;rcases List.mem_cons.mp hx with e | hx
   .subst e;exact uY ok (by rw [<- hq.1]; exact hq.2.1)
   .exact ih x hx
 exact all r x hx
theorem K7 {kvs:[Pe,To,V]} (ok:HOk P w H h) (e:H a=[Mo,.dT kvs]):[N4,Q7]/\[Vb,([Y9,a])]/\ ∃ xs,KT H kvs xs/\h.DictOfH (tupleKind (cG P w)) a xs:=AM ok [T6,e]
end
def DGet (H:Hp) (a:Addr) (y:V) (r:RT):Prop :=
 (∃ kvs k,Rd H a (Yj)/\y=kV k/\r=dF kvs k)\/∃ kvs k b,Rd H a (.dT kvs)/\y=.ref b/\H b=[OD,k.map kV]/\r=dF kvs k
def DPut (H:Hp) (a:Addr) (y v:V) (H':Hp):Prop :=
 (∃ kvs k,H a=[Mo,Yj]/\y=kV k/\Q7<sizeLine/\H'=upd H a (.dK (putK kvs k v)))\/ ∃ kvs k b,H a=[Mo,.dT kvs]/\y=.ref b/\H b=[OD,k.map kV]/\Q7<sizeLine/\H'=upd H a (.dT (putK kvs k v))
theorem DGet.k {H:Hp} {a:Addr} {kvs:Vm} {k:Key} (e:H a=[Mo,Yj]):DGet H a (kV k) (dF kvs k):=.inl ([YU,kvs,k,[T6,e],rfl])
theorem DPut.k {H:Hp} {a:Addr} {kvs:Vm} {k:Key} {v:V} (e:H a=[Mo,Yj]) (hl:Q7<sizeLine):DPut H a (kV k) v (upd H a (.dK (putK kvs k v))):=.inl (bJ kvs k e rfl hl rfl)
section
variable {X:Cx} {pins:Px} {σ:St} {H:Hp} {s:Shared} {a:Addr} {y v:V} {u r:Value} {o:RT} {A:Around} {E:Qc}
theorem Inv.big (I:Rw):sysModules<L7:=by
 have h:mainGlobals<L7:=(I.mod.glob.keeps I.bk).lt;exact Nat.lt_trans M0 h
theorem BM {Q:Qc} (hu:A.units+1<cLine) (I:Rw) (g:DGet H a y (Nw)) (ry:[WE,y]) (h:∀ w' s',[Rm,s']->RelV v w'->Q w' s') :
  [SK,Uk,A,getItem VU u,Q,E]:=by
 rcases g with ⟨kvs,k,e,ey,l⟩ | ⟨kvs,k,b,e,ey,eb,l⟩
 .subst ey;refine cb (Az I.hok e :) fun z hd pq0=>[W5,fun vs rel dd=>?_];clear pq0;refine [NC,(RelO.some_of (v:=v) (o:=valueAt vs k) (by rw [l]; exact rel.val k)),fun w' hw rw'=>?_]
  exact wpAny_getItem_of (tZ ry) dd.mapOf hw (h w' _ (SN) rw')
 .subst ey;cases (show u=Value.ref b from ry)
  refine cb (AM I.hok e :) fun z hd pq0=>[W5,fun xs rel dd=>?_];clear pq0;refine [NC,(RelO.some_of (v:=v) (o:=[Tr,atKey xs k,(·.2)]) (by rw [l]; exact rel.val k)),fun w' hw rw'=>?_]
  refine [NC,[VC,hw],fun p hp hp2=>?_]
  refine wpAny_getItem_heap (tupleKind_room_in1 hu) (uY I.hok eb) dd hp ?_;rw [hp2];exact h w' _ (SN) rw'
theorem GO {Q:Qc} (hu:A.units+1<cLine) (I:Rw) (g:DGet H a y o) (ry:[WE,y]) (h:∀ s',[Rm,s']->Q (.bool (!o.isSome)) s') :
  [SK,Uk,A,compareOp .NotIn u VU,Q,E]:=by
 rcases g with ⟨kvs,k,e,ey,l⟩ | ⟨kvs,k,b,e,ey,eb,l⟩
 .subst ey;refine cb (Az I.hok e :) fun z hd pq0=>[W5,fun vs rel dd=>?_];clear pq0;refine wpAny_notIn_of (tZ ry) hd dd.mapOf ?_;rw [<- (rel.val k).isSome_eq,<- l];exact h _ (SN)
 .subst ey;cases (show u=Value.ref b from ry)
  refine cb (AM I.hok e :) fun z hd pq0=>[W5,fun xs rel dd=>?_];clear pq0;refine wpAny_notIn_heap (tupleKind_room_in1 hu) (uY I.hok eb) hd dd ?_;have q:=(rel.val k).isSome_eq;rw [Option.isSome_map] at q;rw [<- q,<- l];exact h _ (SN)
theorem AO {h':Heap} {t':Nat} {ob:HO} (I:Rw) (mu:Mut (H a)) (hs:[Tv,a,h']) (he:∃ q,[QX,a]=some q) (new:[V1,X.w,upd H a ob,h',a,ob]) :
  [NP,X,σ,upd H a ob,s,h',t'] :=
 I.write (x:=a) (e:=a) mu (Qf) (fun b q hb z=>[Q9,hs.2 b hb,z]) he new
theorem Jd {P:Program} {w:World} {H':Hp} {h':Heap} {kvs:Vm} {vs:[Vj,Value]} (z:[N4,Q7]) (hd:[Vb,([Y9,a])]) (rel:KV kvs vs) (dd:h'.DictOf (cG P w) a vs) :
  ObjOk P w H' h' a (Yj):=(bM z hd (af vs rel dd))
theorem BX {H':Hp} {Q:Unit->NM} (hu:A.units+1<cLine) (I:Rw) (g:DPut H a y v H') (ry:[WE,y]) (rv:RelV v r) (h:∀ s',[Qz,H',s']->Q () s') :
  [SK,Uk,A,setItem VU u r,Q,E]:=by
 rcases g with ⟨kvs,k,e,ey,l,eH⟩ | ⟨kvs,k,b,e,ey,eb,l,eH⟩
 .subst ey eH;refine cb (K0 I.hok e :) fun z hd pq0=>[W5,fun vs rel dd=>?_];clear pq0;have hz:[N4,Ro]:=by rw [<- rel.length]; exact z
  have hl:[N4,[MP,putK kvs k v]]:=[NV,ig kvs k v]
  refine wpAny_setItem_pairs (hsz:=hz) (tZ ry) dd fun h' dd' hs=>h _ ?_
  have he:∃ q,[QX,a]=some q:=let ⟨q,_,_,hq,_⟩:=dd'; [Mw,q,hq];exact AO I (by rw [e]; exact Vo) hs he (Jd hl hd (rel.put k rv) dd')
 .subst ey eH;cases (show u=Value.ref b from ry)
  refine cb (K7 I.hok e :) fun z hd pq0=>[W5,fun xs rel dd=>?_];clear pq0;have hz:[N4,Mh]:=by rw [<- Paired.length rel]; exact z
  have hl:[N4,[MP,putK kvs k v]]:=[NV,ig kvs k v]
  refine wpAny_setItem_heap (hsz:=hz) (tupleKind_room_in1 hu) (uY I.hok eb) dd fun h' dd' hs=>h _ ?_
  refine fe dd' fun q es ep hq h2 h3 h4 pq0=>bZ pq0 fun _ h5=>?_;clear pq0 dd';refine AO I (by rw [e]; exact Vo) hs [Mw,q,hq] (bM hl hd (af _ ((rel.put k eb rv).keeps fun c ys ec=>?_) (cj q es ep hq h2 h3 h4 h5)));rw [aK (eR ec e [UK,[PL,z]])];exact ec
end
section
variable {X:Cx} {pins:Px} {σ:St} {H:Hp} {s:Shared} {a:Addr} {kvs:Vm} {k:Key} {u:Value} {A:Around} {E:Qc}
end
def Jk (i:Expr):Prop:=∀ ov iv,subscripted i false ov iv=operate [ov,iv] (getItem ov iv)
theorem A5 {prog:Program} {w:World} {A:Around} {E:Qc} {s:Shared} {env:Env} {value slice:Expr} {pos:Pos} {T id:String} {Q:Qc}
  (hl:typeLookup [Sx,T] "__getitem__"=pure ([Mo,[Sl,id]])) (hs:Jk slice)
  (h:[SK,Vl,A,eval value env,(fun o s₁=>[Np,Vl,A,eval slice env,(fun i s₂=>s₂.TypeIs o T/\[Np,Vl,A,getItem o i,Q,E,s₂]),E,s₁]),E]) :
  [SK,Vl,A,eval (.Subscript value slice pos) env,Q,E]:=by
 refine Subscript_ ([UY,h,fun o s₁ h₁=>[UY,h₁,fun i s₂ h₂=>?_,fun _ _ x=>x],fun _ _ x=>x]);obtain ⟨hT,h₂⟩:=h₂;unfold subscriptTail;refine [M9,?_];rw [getitemInPython_of_ne hT.not_modules];refine [O0,wpAny_specialOf hT hl ?_];have fin:[Np,Vl,A,subscripted slice false o i,(fun r s₃=>[Np,Vl,A,letTemporaryGo value o r >>= fun _=>pure r,Q,E,s₃]),E,s₂]:=by
  rw [hs o i];exact wpAny_operating ([UY,h₂,fun r s₃ h₃=>[O0,wpAny_letTemporaryGo ([MO,h₃])],fun _ _ x=>x])
 first
  | exact [MO,([M9,fin])]
  | exact [O0,[MO,([M9,fin])]]
  | exact [M9,fin]
theorem xU {X:Cx} {pins:Px} {σ:St} {H:Hp} {s:Shared} {a:Addr} {y:V} {o:RT} (I:Rw) (g:DGet H a y o):[ZZ,VU,"dict"]:=by
 rcases g with ⟨kvs,k,e,_,_⟩ | ⟨kvs,k,b,e,_,_,_⟩
 .refine cb (Az I.hok e :) fun _ _ pq0=>[W5,fun vs _ dd=>?_];clear pq0;exact dd.typeIs
 .refine cb (AM I.hok e :) fun _ _ pq0=>[W5,fun xs _ dd=>?_];clear pq0;exact dd.typeIs
def KP (td ty:TE):TE:=[QS,td σ H [VW,ty σ H1 fun y H2=>∃ a v,x=QM/\DGet H2 a y (Nw)/\Q v H2]]
def HN (ty td:TE):TE:=[QS,ty σ H fun y H1=>td σ H1 fun x H2=>∃ a o,x=QM/\DGet H2 a y o/\Q (.bl (!o.isSome)) H2]
def Lf (td ty tv:TE):TS:=fun D σ H=>tv σ H fun v H1=>td σ H1 fun x H2=>ty σ H2 fun y H3=>∃ a H4,x=QM/\DPut H3 a y v H4/\[Yp,H4]
section
variable {X:Cx} {o i e value:Expr} {pos pos' tpos:Pos} {td ty tv:TE}
theorem uG (hu:V7+1<cLine) (ho:PE X o td) (hi:PE X i ty) (hs:Jk i):PE X (.Subscript o i pos) (KP td ty):=by
 intro pins s σ H Q I h;refine A5 PySem.F.slot_dict_getitem.lookup hs [ZS,ho pins s σ H _ I h,fun u s1 pr=>aX pr fun x H1 I1 rx q1=>[Y5,hi pins s1 σ H1 _ I1 q1,fun iv s2 pr=>aX pr fun y H2 I2 ry pq0=>aX pq0 fun a v ex g q2=>?_]];subst ex;obtain rfl:u=[Te,a]:=rx;exact [Mw,xU I2 g,BM hu I2 g ry fun w' s3 I3 rw'=>(aB v H2 I3 rw' q2)]
theorem kN (hu:V7+1<cLine) (hi:PE X i ty) (ho:PE X o td):PC X .NotIn i o (HN ty td):=by
 intro pins s σ H Q I h;refine [Y5,hi pins s σ H _ I h,fun iv s1 pr=>aX pr fun y H1 I1 ry q1=>[Y5,ho pins s1 σ H1 _ I1 q1,fun u s2 pr=>aX pr fun x H2 I2 rx pq0=>aX pq0 fun a ov ex g q2=>?_]]
 subst ex;obtain rfl:u=[Te,a]:=rx;exact GO hu I2 g ry fun s3 I3=>([YU,.bl (!ov.isSome),H2,I3,q2])
theorem vm (hu:V7+1<cLine) (ho:PE X o td) (hi:PE X i ty) (hv:PE X value tv) (hs:swapsWith value ([Mo,.Subscript o i pos']) pos.line X.env=pure false) :
  PS X (.Assign [.Subscript o i pos'] value pos) (Lf td ty tv):=by
 intro pins s σ H D I h;refine wpAny_Assign_Subscript [ZS,hv pins s σ H _ I h,fun r s1 pr=>aX pr fun v H1 I1 rv q1=>[Y5,ho pins s1 σ H1 _ I1 q1,fun u s2 pr=>aX pr fun x H2 I2 rx q2=>[Y5,hi pins s2 σ H2 _ I2 q2,fun iv s3 pr=>aX pr fun y H3 I3 ry pq0=>aX pq0 fun a H4 ex g q3=>?_]]] hs;subst ex;obtain rfl:u=[Te,a]:=rx;exact BX hu I3 g ry rv fun s4 I4=>(bP σ H4 I4 q3)
end
theorem xv {P:Program} {w:World} {H:Hp} (h:Heap) (hb:sysModules<T9):ObjOk P w H (h.push { cls:=.type "dict",data:=.dict #[] }) T9 (.dK []) :=
 (bM (OX) ([Wg,[XS,([Ol,hb])]]) (af [] .nil (Heap.DictOf.new h)))
def Kg:TE:=fun _ H Q=>∀ p,H p=none->[Xi,p,upd H p (.dK [])]
section
variable {X:Cx} {pos:Pos}
theorem w5:PE X (.Dict [] [] pos) Kg:=fun pins s σ H Q I h => wpAny_Dict_empty ([YU,Vv,_,(I.laid (a:=s.heap.objs.size) (o:=.dK []) (t':=s.toks) (fun _ _ q=>[M8,q]) Tx (xv s.heap I.big)),(h _ ([S7,Tx]))])
end
structure M1 (X:Cx) (o:Expr) (m:Str) (apos:Pos) (e:Expr) (cpos:Pos):Prop where
 base:attributeBase o m X.env (eval o X.env)=eval o X.env
 few:((backTo cpos (starEach [e] X.env)).all (fun x=>!x.1) && (backToKw cpos (keywordEach [] X.env)).all (fun x=>x.1.isSome)
  && decide (([e]:List Expr).length+([]:List Keyword).length+(if ([]:List Keyword).isEmpty then 0 else 1)<30))=true
 line:(apos.endLine == cpos.line)=true
 trees:backTo cpos (starEach [e] X.env)=[(false,eval e X.env)]
structure M2 (X:Cx) (o:Expr) (m:Str) (apos:Pos) (e f:Expr) (cpos:Pos):Prop where
 base:attributeBase o m X.env (eval o X.env)=eval o X.env
 few:((backTo cpos (starEach [e,f] X.env)).all (fun x=>!x.1) && (backToKw cpos (keywordEach [] X.env)).all (fun x=>x.1.isSome)
  && decide (([e,f]:List Expr).length+([]:List Keyword).length+(if ([]:List Keyword).isEmpty then 0 else 1)<30))=true
 line:(apos.endLine == cpos.line)=true
 trees:backTo cpos (starEach [e,f] X.env)=[(false,eval e X.env),(false,eval f X.env)]
section
variable {X:Cx} {pins:Px} {σ:St} {H:Hp} {s:Shared} {a:Addr} {y d:V} {u r:Value} {o:RT} {A:Around} {E:Qc}
end
section
variable {X:Cx} {o e f:Expr} {apos cpos:Pos} {td ty tx:TE}
end
section
variable {X:Cx} {pins:Px} {σ:St} {H:Hp} {s:Shared} {a:Addr} {kvs:Vm} {A:Around} {E:Qc}
end
section
variable {X:Cx} {pins:Px} {σ:St} {H:Hp} {s:Shared} {a:Addr} {y:V} {u:Value} {A:Around} {E:Qc}
end
end L2
namespace L2
open PySem PySem.Spec PyProof.Rows
abbrev SI (h:Heap) (i:Addr) (z:Str) (t:Tok) (k:Nat):Prop:=h.IsStrIter i "str_ascii_iterator" z t k
theorem pM {h h':Heap} {i:Addr} {z:Str} {t:Tok} {k:Nat} (a:SI h i z t k) (x:∀ o,h.get? i=MN->[QX,i]=MN):SI h' i z t k:=by
 refine ar a fun o e r=>?_;clear a; exact (af o (x o e) r)
theorem Ez {h:Heap} {i:Addr} {z:Str} {t:Tok} {k:Nat} (a:SI h i z t k):∃ o,h.get? i=MN/\∀ v,o.data≠.cell v:=by
 refine bp a fun o e _ d=>?_;clear a; exact (af o e (fun v q=>by rw [d] at q; cases q))
section
variable {prog:Program} {w:World} {A:Around} {E:Qc} {s:Shared}
theorem Ck {z TI TO i1 i2 l2:Addr} {tx:Str} {t:Tok} {k1 k2 c:Nat} {ys:Nr} {y a b:Value} {Q:Qc} (D:ZipApart z TI TO i1 i2 l2 l2) (gz:[US,s.heap,z,TO,.none]) (gI:[Ud,TI,[MT,i1],[MT,i2]]) (gO:[Ud,TO,a,b])
  (g1:SI s.heap i1 tx t k1) (g2:[YV,false,i2,l2,k2,ys]) (hx:tx.cps[k1]?=Qj) (hy:ys[k2]?=VI) (d:∀ h' tk u,[US,h',z,TO,rawInt L7]->[Z9,h',.str Ss u,y]->SI h' i1 tx t (k1+1)->ItAt false h' i2 l2 (k2+1) ys->IsPair h' L7 (.str Ss u) y->Wl=L7+1-> (∀ c o,c≠z->c≠TO->c≠i1->c≠i2->[Nv,c]=MN->[QX,c]=MN)->Q Vv { s with heap:=h',toks:=tk }):[SK,Vl,A,Builtin.«zip.__next__» [Mw,[.ref z],[]],(fun fin s'=>∃ v,fin=.done (.ret v)/\Q v s'),E]:=by
 show [Np,_,_,field [MT,z] 2 >>= _,_,_,_]; refine [O0,[OU,gz,rfl,Ww,?_]];show [Np,_,_,field [MT,z] 3 >>= _,_,_,_]; refine [O0,[OU,gz,rfl,.ref TI,?_]];refine [S6,gI,rfl,?_];show [Np,_,_,[UQ,[MT,z]] >>= _,_,_,_]; refine [M9,?_]; unfold Builtin.SmallTypes.ownedTupleIsFree;refine [O0,[OU,gz,rfl,.none,RG]]; simp only [if_true];refine [O0,wpAny_rule ?_]; refine [O0,[OU,gz,rfl,.ref TO,?_]];refine [O0,[Ra,gz,fun u1 gz1 s1=>?_]]; replace gz1:[US,u1,z,TO,Xt]:=gz1;refine [M9,?_]; simp only [List.zipIdx_cons,List.zipIdx_nil,List.forIn_cons,List.forIn_nil];refine [O0,[O0,X6]]; show [Np,_,_,[Pa,i1] >>= _,_,_,_];refine [O0,wpAny_nextOf_ascii_item (pM g1 [Zp,s1.extBut _ o D.i1z e]) hx fun u2 g12 s2=>RG];have gO2:[Z9,u2,a,b]:=s2.extBut _ _ D.TOi1 (s1.extBut _ _ D.TOz gO);refine [S6,gO2,rfl,?_]; refine [O0,[Y7,gO2,fun u3 gO3 s3=>?_]]; replace gO3:[Z9,u3,.str Ss s.toks,b]:=gO3;refine [O0,wpAny_letGo (RG)];refine [O0,[O0,X6]]; show [Np,_,_,[Pa,i2] >>= _,_,_,_];refine [O0,(((g2.ext s1.extBut D.i2z D.l2z).ext s2.extBut D.i12.symm D.l2i1).ext s3.extBut D.TOi2.symm D.l2TO).nx D.l2i2 hy fun u4 g24 s4=>RG];have gO4:[Z9,u4,.str Ss s.toks,b]:=s4.extBut _ _ D.TOi2 gO3;refine [S6,gO4,rfl,?_]; refine [O0,[Y7,gO4,fun u5 gO5 s5=>?_]]; replace gO5:[Z9,u5,.str Ss s.toks,y]:=gO5;refine [O0,wpAny_letGo ([MO,RG])]; refine [S6,gO5,rfl,?_]; refine [O0,wpAny_newTuple ?_];have hsz:Ri=L7:=by rw [s5.1,s4.1,s3.1,s2.1,s1.1]
 have gz5:[US,u5,z,TO,Xt]:=s5.extBut _ _ D.TOz.symm (s4.extBut _ _ D.i2z.symm ([Za,_,D.TOz.symm,s2.extBut _ _ D.i1z.symm gz1]));have k5:∀ c o,c≠z->c≠TO->c≠i1->c≠i2->[Nv,c]=MN->u5.get? c=MN:=fun c o c1 c2 c3 c4 e=>s5.extBut _ _ c2 (s4.extBut _ _ c4 ([Za,_,c2,s2.extBut _ _ c3 (s1.extBut _ _ c1 e)]))
 have g15:SI u5 i1 tx t (k1+1):=pM (pM (pM g12 [Zp,[Za,o,D.TOi1.symm,e]]) [Zp,s4.extBut _ o D.i12 e]) [Zp,s5.extBut _ o D.TOi1.symm e]
 have g25:ItAt false u5 i2 l2 (k2+1) ys:=g24.ext s5.extBut D.TOi2.symm D.l2TO;have zlt:z<Ri:=[Nm,gz5];show [Np,_,_,Builtin.SmallTypes.ownedTupleHandOut [MT,z] [MT,Ri] >>= _,_,_,_]; refine [M9,?_]; unfold Builtin.SmallTypes.ownedTupleHandOut;have gz6:[US,(u5.push { cls:=OS,data:=.seq #[.str Ss s.toks,y] }),z,TO,Xt]:=[M8,gz5];refine [O0,[Ra,gz6,fun u7 gz7 s7=>?_]]; replace gz7:[US,u7,z,TO,rawInt Ri]:=gz7;refine [Ra,gz7,fun u8 gz8 s8=>?_]; replace gz8:[US,u8,z,TO,rawInt Ri]:=gz8;have up:∀ c o,c≠z->u5.get? c=MN->u8.get? c=MN:=fun c o c1 e=>s8.extBut _ _ c1 (s7.extBut _ _ c1 ([M8,e]))
 have gT:IsPair u8 Ri (.str Ss s.toks) y:=s8.extBut _ _ ([Uw,zlt]) (s7.extBut _ _ ([Uw,zlt]) (Ub));have z8:u8.objs.size=Ri+1:=by rw [s8.1,s7.1,Heap.size_push]
 rw [hsz] at gz8 gT z8;refine [MO,ND]; show [Xi,Ri,_]; rw [hsz];exact d u8 _ _ gz8 (up _ _ D.TOz gO5) (pM g15 [Zp,up _ o D.i1z e]) (g25.at ([Zp,up _ o D.i2z e]) [Zp,up _ o D.l2z e]) gT z8 fun c o c1 c2 c3 c4 e=>up c o c1 (k5 c o c1 c2 c3 c4 e)
theorem DR {z TI TO i1 i2 l2:Addr} {tx:Str} {t:Tok} {k1 k2:Nat} {ys:Nr} {a b:Value} {Q:Fin->NM} (hh:TZ=none) (D:ZipApart z TI TO i1 i2 l2 l2) (gz:[US,s.heap,z,TO,.none]) (gI:[Ud,TI,[MT,i1],[MT,i2]])
  (g1:SI s.heap i1 tx t k1) (hx:tx.cps[k1]?=none)
  (d:∀ h' e,(∀ c o,c≠z->c≠TO->c≠i1->c≠i2->[Nv,c]=MN->[QX,c]=MN)->(∃ o,[QX,e]=MN/\o.cls=.type Wh)->E [MT,e] { s with heap:=h' }):[SK,Vl,A,Builtin.«zip.__next__» [Mw,[.ref z],[]],Q,E]:=by
 show [Np,_,_,field [MT,z] 2 >>= _,_,_,_]; refine [O0,[OU,gz,rfl,Ww,?_]];show [Np,_,_,field [MT,z] 3 >>= _,_,_,_]; refine [O0,[OU,gz,rfl,.ref TI,?_]];refine [S6,gI,rfl,?_];show [Np,_,_,[UQ,[MT,z]] >>= _,_,_,_]; refine [M9,?_]; unfold Builtin.SmallTypes.ownedTupleIsFree;refine [O0,[OU,gz,rfl,.none,RG]]; simp only [if_true];refine [O0,wpAny_rule ?_]; refine [O0,[OU,gz,rfl,.ref TO,?_]];refine [O0,[Ra,gz,fun u1 gz1 s1=>?_]]; replace gz1:[US,u1,z,TO,Xt]:=gz1;refine [M9,?_]; simp only [List.zipIdx_cons,List.zipIdx_nil,List.forIn_cons,List.forIn_nil];refine [O0,[O0,X6]]; show [Np,_,_,[Pa,i1] >>= _,_,_,_];refine [O0,wpAny_nextOf_ascii_end hh (pM g1 [Zp,s1.extBut _ o D.i1z e]) hx fun u2 e s2 he=>?_];refine ar he fun oe hoe hce=>?_;clear he;have gz2:[US,u2,z,TO,Xt]:=s2 _ _ D.i1z.symm gz1;have hez:e≠z:=[Z2,by subst x; rw [gz2] at hoe; cases hoe; simp at hce]
 refine [Ra,gz2,fun u3 _ s3=>d u3 e (fun c o c1 _ c3 _ x=>[Za,_,c1,s2 _ _ c3 (s1.extBut _ _ c1 x)]) (af oe ([Za,_,hez,hoe]) hce)]
theorem zJ {z TI TO i1 i2 l2:Addr} {tx:Str} {t:Tok} {k1 k2 c:Nat} {ys:Nr} {y a b:Value} {Q:Ms->NM} (D:ZipApart z TI TO i1 i2 l2 l2) (gz:[US,s.heap,z,TO,.none]) (gI:[Ud,TI,[MT,i1],[MT,i2]]) (gO:[Ud,TO,a,b])
  (g1:SI s.heap i1 tx t k1) (g2:[YV,false,i2,l2,k2,ys]) (hx:tx.cps[k1]?=Qj) (hy:ys[k2]?=VI) (d:∀ h' tk u,[US,h',z,TO,rawInt L7]->[Z9,h',.str Ss u,y]->SI h' i1 tx t (k1+1)->ItAt false h' i2 l2 (k2+1) ys->IsPair h' L7 (.str Ss u) y->Wl=L7+1-> (∀ c o,c≠z->c≠TO->c≠i1->c≠i2->[Nv,c]=MN->[QX,c]=MN)->Q ([Mv,L7]) { s with heap:=h',toks:=tk }):[SK,Vl,A,pyNext [MT,z],Q,E]:=by
 have hT:[ZZ,[MT,z],"zip"]:=([Yb,_,gz]); unfold pyNext;exact [O0,wpAny_attempt ([Og,Yw,hT,UC,([Sa,UC,hT,A07,(Ck D gz gI gO g1 g2 hx hy fun h' tk u a1 a2 a3 a4 a5 a6 a7=>[MO,d h' tk u a1 a2 a3 a4 a5 a6 a7]),A0a])])]
theorem Bn {z TI TO i1 i2 l2:Addr} {tx:Str} {t:Tok} {k1:Nat} {Q:Ms->NM} (hh:TZ=none) (D:ZipApart z TI TO i1 i2 l2 l2) (gz:[US,s.heap,z,TO,.none]) (gI:[Ud,TI,[MT,i1],[MT,i2]])
  (g1:SI s.heap i1 tx t k1) (hx:tx.cps[k1]?=none) (d:∀ h',(∀ c o,c≠z->c≠TO->c≠i1->c≠i2->[Nv,c]=MN->[QX,c]=MN)->[Pu,none,h']):[SK,Vl,A,pyNext [MT,z],Q,E]:=by
 have hT:[ZZ,[MT,z],"zip"]:=([Yb,_,gz]); unfold pyNext;refine [O0,wpAny_attempt ([Og,Yw,hT,UC,([Sa,UC,hT,A07,(DR (k2:=0) (ys:=#[]) (a:=.none) (b:=.none) hh D gz gI g1 hx fun h' e hk he=>?_),A0a])])];refine ar he fun o ho hc=>?_;clear he; refine [O0,wpAny_isInstance (T:=Wh) (b:=true) (af o ho hc) isSubtype_stop ?_]; exact [MO,d _ hk]
abbrev yP (h:Heap) (tx:Str) (t:Tok):Heap:=h.push { cls:=.type "str_ascii_iterator",data:=[S5,#[.str tx t,.int 0 0]] }
abbrev yO (h:Heap) (tx:Str) (t:Tok) (l2:Addr):Heap:=(yP h tx t).push { cls:=.type "list_iterator",data:=[S5,#[.ref l2,.int 0 0]] }
abbrev yQ (h:Heap) (tx:Str) (t:Tok) (l2:Addr):Heap:=(yO h tx t l2).push { cls:=OS,data:=.seq #[.ref T9,.ref [Pr,yP h tx t]] }
abbrev yR (h:Heap) (tx:Str) (t:Tok) (l2:Addr):Heap:=(yQ h tx t l2).push { cls:=OS,data:=.seq #[.none,.none] }
abbrev yS (h:Heap) (tx:Str) (t:Tok) (l2:Addr):Heap:=(yR h tx t l2).push { cls:=.type "zip",data:=[S5,#[.none,Ww,Ww,.ref [Pr,yO h tx t l2],.ref [Pr,yQ h tx t l2]]] }
theorem yX (tx:Str) (t:Tok) (ha:tx.cps.all (·<128)=true) (l2:Addr) (ys:Nr):Meets (Builtin.«zip.__new__» [Mw,[.type "zip",.str tx t,.ref l2],[]]) (fun _ R s=>s.heap.IsList l2 ys/\R (.ok (.ret [MT,[Pr,yR s.heap tx t l2]])) { s with heap:=yS s.heap tx t l2 }) :=
 .of_wp fun prog w A R s h=>by
  obtain ⟨hp,g,d,tk,os⟩:=s; obtain ⟨g2,h⟩:=h;have sb:=sub_zip;have a2:Heap.IsList ([XT,⟨hp.push { cls:=.type "str_ascii_iterator",data:=[S5,#[.str tx t,.int 0 0]] },g,d,tk,os⟩]) l2 ys:=Heap.IsList.push g2 _;wp_walk using wpAny_pyIter_ascii ha,[Zr,a2]; exact [Mn,h]
theorem BI {tx:Str} {t:Tok} (ha:tx.cps.all (·<128)=true) {l2:Addr} {ys:Nr} {Q:Qc} (g2:s.heap.IsList l2 ys)
  (k:∀ h',IsZip h' (L7+4) (L7+2) (L7+3) .none->IsPair h' (L7+2) Vv [MT,L7+1]->IsPair h' (L7+3) .none .none->SI h' L7 tx t 0->ItAt false h' (L7+1) l2 0 ys-> (∀ c o,[Nv,c]=MN->[QX,c]=MN)->[Pu,[MT,L7+4],h']):[SK,Vl,A,call [Sx,"zip"] [.str tx t,.ref l2],Q,E]:=by
 refine callType_new F.called_zip M0 (F.typeCall_zip_2 _ _) (F.newCall_zip_2 _ _) (fun obj=>F.args_object_init_3 obj _ _) F.entry_zip_new (yX tx t ha l2 ys) [W4,g2];have z1:[Pr,yP s.heap tx t]=L7+1:=Heap.size_push ..;have z2:[Pr,yO s.heap tx t l2]=L7+2:=by rw [Heap.size_push,z1]
 have z3:[Pr,yQ s.heap tx t l2]=L7+3:=by rw [Heap.size_push,z2]
 have z4:[Pr,yR s.heap tx t l2]=L7+4:=by rw [Heap.size_push,z3]
 have e5:(yS s.heap tx t l2).get? [Pr,yR s.heap tx t l2]=some _:=Ub;have e4:(yS s.heap tx t l2).get? [Pr,yQ s.heap tx t l2]=some _:=[M8,Ub];have e3:(yS s.heap tx t l2).get? [Pr,yO s.heap tx t l2]=some _:=[M8,([M8,Ub])];have e2:(yS s.heap tx t l2).get? [Pr,yP s.heap tx t]=some _:=[M8,([M8,([M8,Ub])])];have e1:(yS s.heap tx t l2).get? L7=some _:=[M8,([M8,([M8,([M8,Ub])])])];show _/\_;rw [z2,z3,z4] at e5; rw [z1,z2] at e3; rw [z3] at e4; rw [z1] at e2; rw [z4];have up:∀ c o,[Nv,c]=MN->(yS s.heap tx t l2).get? c=MN:=fun c o x=>[M8,([M8,([M8,([M8,([M8,x])])])])]
 exact [Mw,([Yb,_,e5]),k _ e5 e3 e4 (aC _ e1 rfl rfl) (rp (tp:=false) g2 e2 up) up]
end
def Fx (K:M3) (z:Str) (b:Addr):It :=
  ⟨fun i H=>∃ ys c y,SqL K H b ys/\z.cps[i]?=Qj/\ys[i]?=VI, fun i H v H'=>∃ T c y,H T=none/\H'=[Rz,H,T,[sgn c,y]]/\v=.ref T/\z.cps[i]?=Qj/\∀ ys,SqL K H b ys->ys[i]?=VI, fun i H=>(∃ ys,SqL K H b ys)/\z.cps[i]?=none⟩
theorem CD {P:Program} {w:World} {K:M3} {elts:OR} {x1:Nat} {tp:Pos} {tx:Str} {t:Tok} {b z TI TO i1 i2:Addr} (D:ZipApart z TI TO i1 i2 b b) :
  Turn P w K (.Tuple elts x1 tp) (Fx K tx b) [z,TI,TO,i1,i2] z (fun i h=>[US,h,z,TO,.none]/\IsPair h TI [MT,i1] [MT,i2]/\(∃ u v,[Z9,h,u,v])/\SI h i1 tx t i/\IterAt false h i2 b i) where
 mem:=MJ
 obj:=fun i h st c hc=>by
  refine dE st fun h1 h2 pp1 h4 h5=>?_;clear st;obtain ⟨u,v,h3⟩:=pp1;simp only [List.mem_cons,List.not_mem_nil,or_false] at hc;rcases hc with rfl | rfl | rfl | rfl | rfl
  .exact (af _ h1 (fun v q=>[PL,q]))
  .exact (af _ h2 (fun v q=>[PL,q]))
  .exact (af _ h3 (fun v q=>[PL,q]))
  .exact Ez h4
  .exact h5.obj
 keep:=fun i h h' st k=>by
  refine dE st fun h1 h2 pp2 h4 h5=>?_;clear st;obtain ⟨u,v,h3⟩:=pp2;exact (dv (k z Pz _ h1) (k TI Pz _ h2) (pQ u v (k TO Pz _ h3)) (pM h4 [Zp,k i1 Pz o e]) (h5.at [Zp,k i2 Pz o e]))
 item:=by
  intro X hP hw hK hc i pins s σ H E I hf st hg;subst hP hw hK;refine fP hg fun ys c y hys hx hy=>?_;clear hg;refine [NC,I.seqX (tp:=false) hys,fun ws r2 q2=>?_]
  refine [NC,r2.get hy,fun v hv rv=>?_]
  refine dE st fun h1 h2 pp3 h4 h5=>?_;clear st;obtain ⟨o1,o2,h3⟩:=pp3;refine zJ D h1 h2 h3 h4 (h5.it q2) hx (y:=v) [Zh,hv] fun h' tk u b1 b2 b3 b4 b5 b6 b7=>?_
  refine ND;refine wpAny_letOwnedTupleGo_zip b1 fun h6 c1 c2=>?_
  have lt:∀ {c o},[Nv,c]=MN->c≠L7:=[UT,[Ol,Vt]]
  have zlt:L7≠z:=Ne.symm (lt h1);have k2:∀ c o,c∉[z,TI,TO,i1,i2]->[Nv,c]=MN->h6.get? c=MN:=fun c o hc' q=>by
   have n1:c≠z:=[UT,hc' (Uh)]
   exact [Q9,c2.2 c n1,(b7 c o n1 ([UT,hc' (Uh)]) ([UT,hc' (Uh)]) ([UT,hc' (Uh)]) q)]
  have t2:h6.get? L7=[Qk,OS,.seq #[.str Ss u,v]]:=[Q9,c2.2 _ zlt,b5];have hn:H L7=none:=[S7,Tx];have new:[V1,X.w,([Rz,H,L7,[sgn c,y]]),h6,L7,[Rj,[sgn c,y]]]:=(aH (Rv) (af [.str Ss u,v] (.cons [Nl,u] (.cons rv .nil)) (aC _ t2 rfl (e8 _ rfl))));have I2:[NP,X,σ,([Rz,H,L7,[sgn c,y]]),s,h6,tk]:=I.turnedNew k2 hf Tx new;refine (cD Vv _ I2 rfl (cj L7 c y hn rfl rfl hx (fun ys' hy'=>by rw [vE (tp:=false) I hy' hys]; exact hy)) (dv c1 ([Q9,c2.2 _ D.TIz,b7 _ _ D.TIz D.TITO D.TIi1 D.TIi2 h2]) (pQ _ _ ([Q9,c2.2 _ D.TOz,b2])) (pM b3 [Zp,[Q9,c2.2 _ D.i1z,e]]) (b4.iter.at [Zp,[Q9,c2.2 _ D.i2z,e]])) (fun c hc'=>?_));have hne:c≠L7:=by
   simp only [List.mem_cons,List.not_mem_nil,or_false] at hc';rcases hc' with rfl | rfl | rfl | rfl | rfl
   .exact lt h1
   .exact lt h2
   .exact lt h3
   .refine [NC,Ez h4,fun o e _=>?_]; exact lt e
   .refine ar h5.obj fun o e _=>?_; exact lt e
  rw [aK hne];exact (hf c hc').1
 done:=by
  intro X hP hw hK hc i pins s σ H E I hf st hg;subst hP hw hK;obtain ⟨_,hend⟩:=hg;refine dE st fun h1 h2 pp4 h4 h5=>?_;clear st;obtain ⟨o1,o2,h3⟩:=pp4;refine Bn [Yh,X.A.handled=none,Q4] D h1 h2 h4 hend fun h' k=>[P7,?_]
  exact I.turnedL (t':=s.toks) (fun c o hc' q=>k c o ([UT,hc' (Uh)]) ([UT,hc' (Uh)]) ([UT,hc' (Uh)]) ([UT,hc' (Uh)]) q) hf
 self:=fun _ _ _ _ _ st h=>wpAny_pyIter_zip st.1 h
section
variable {X:Cx}
def KD (K:M3) (ta:TA):TI:=fun σ H R=>ta σ H fun vs H1=>∃ z b,vs=[R9,.ref b]/\z.cps.all (·<128)=true/\(∃ ys,SqL K H1 b ys)/\R (Fx K z b) H1
theorem Gs {a b:Expr} {ta:TA} {p pos tp:Pos} {elts:OR} {x1:Nat} (hg:Gl X "zip") (hm:X.mg "zip"=none) (ha:PA X [a,b] ta) (hs:[N3,[a,b]]=(false,[Oa,a])::[N3,[b]]:=by rfl) (hpl:[Vb,([Xf,([N3,[b]])]).any OB]:=by rfl) :
  PI X (.Tuple elts x1 tp) ([UM,.Name "zip" p,[a,b],[]]) (KD X.K ta):=by
 intro pins s σ H R I h;refine Call_ (iy I hg hm PyProof.Rows.boot_zip ([Rh,[ZS,ha pos pins s σ H _ I h,fun us s1 pr=>aX pr fun vs H1 I1 r1 q1=>?_],hs,hpl]));refine e9 q1 fun z l2 e hz pp5 q=>?_;clear q1;obtain ⟨ys,hy⟩:=pp5;subst e;refine aX (vals2 r1 :) fun u v eq6 ru rv=>?_;subst eq6;obtain ⟨t,rfl⟩:=ru;cases rv
 refine [NC,I1.seqX (tp:=false) hy,fun ws _ g2=>?_]
 have lt:l2<MD:=by
  refine ar g2 fun o z _=>?_;clear g2;exact [Nm,z]
 refine BI hz g2 fun h' b1 b2 b3 b4 b5 hk=>?_
 refine wpAny_pyIter_zip b1 ?_;have hfp:∀ c∈[MD+4,MD+2,MD+3,MD,MD+1],kS X pins H1 c:=fun c hc=>by
  have hge:MD<=c:=by
   simp only [List.mem_cons,List.not_mem_nil,or_false] at hc;omega
  exact I1.fpOk hge (I1.hok.fresh hge)
 exact (cf (MD+4) _ _ _ (eY H1 rfl (I1.kept (t':=s1.toks) hk) (CD (zipApart_new lt lt)) (dv b1 b2 (pQ _ _ b3) b4 b5.iter) (aH hfp q)))
end
theorem C5 {K:M3} {z:Str} {b:Addr} {ys:Nz} {g:TG} {tb:TS} {D:Ends} {σ:St} {H:Hp} (Pv:Nat->St->Qr) (h0:Pv 0 σ H) (hle:SV=NQ) (hl:∀ i σ H,i<=NQ->Pv i σ H->SqL K H b ys)
  (hs:∀ i c y σ H T,z.cps[i]?=Qj->ys[i]?=VI->Pv i σ H->H T=none->g [MT,T] σ ([Rz,H,T,[sgn c,y]]) [Of,D,Pv (i+1),Pv (i+1),D.nx,σ2,H2]) (hd:∀ σ H,Pv NQ σ H->[Yp,H]) :
  ∃ W:Nat->Nat->St->Qr,(∃ m,W 0 m σ H)/\∀ i m σ H,W i m σ H->((Fx K z b).stop i H/\[Yp,H])\/((Fx K z b).go i H/\∃ N:St->Qr,(∀ σ' H',N YL H'->∃ m',m'<m/\W (i+1) m' YL H')/\∀ x H',(Fx K z b).yld i H x H'->g x σ H' [Of,D,N,N,D.nx,σ2,H2]):=by
 refine [Yt,(fun i m σ H=>m=NQ - i/\i<=NQ/\Pv i σ H),aC NQ Pz (OX) h0];intro i m σ H pr;refine cb pr fun eq7 hi p=>?_;clear pr;subst eq7;have q2:=hl i σ H hi p;by_cases hlt:i<NQ
 .have e1:z.cps[i]?=some _:=[XU,[Yu,i<SV]];have e2:=[M4,hlt];refine [PY,aH (iR ys _ _ q2 e1 e2) (af (Pv (i+1)) (fun σ' H' p'=>(cC (NQ - (i+1)) L6 rfl hlt p')) (fun v H' y=>?_))];obtain ⟨T,c,y,hT,z1,z2,z3,z4⟩:=y;subst z1 z2;exact hs i c y σ H T z3 (z4 ys q2) p hT
 .have e:i=NQ:=Mr
  refine .inl [Mw,[W4,[Mw,ys,q2]],hd σ H (by rw [<- e]; exact p)];simp;omega
end L2
namespace L2
open PySem PySem.Spec PyProof.Rows
def jnL (y:N7):[MG,N7]->N7
 | []=>[]
 | [x]=>x
 | x::z::r=>x++(y++jnL y (z::r))
theorem uD (y:Str):∀ xs:MB,[NU,Str.join y xs]=jnL TK (xs.map [Z2,Ob])
 | []=>rfl
 | [x]=>rfl
 | x::z::r=>by
  have ih:=uD y (z::r);show [NU,x++y++Str.join y (z::r)]=_;rw [cy,cy,ih,QK];rfl
theorem zA (y:Str) (xs:MB):[NU,[PU,y,xs]]=jnL TK (xs.map [Z2,Ob]):=by
 show [NU,Builtin.Str.glued y xs]=_;rw [StrLaws.glued_eq_join,uD]
theorem AB {x y:Str} {c0 i:Nat} {t0:N7} (hy:TK=c0::t0) (h:StrLaws.At x y x.length i):Ob[i]?=some c0:=by
 obtain ⟨h1,h2⟩:=h;rw [StrLaws.subAt_eq,beq_iff_eq] at h2;have e:(([TY,i]).take y.length)[0]?=some c0:=by rw [h2,hy]; rfl
 have hl:0<y.length:=by
  have:=cu y;rw [hy,Pd] at this;omega
 rw [List.getElem?_take_of_lt hl,Zg] at e;exact e
theorem kr {x y p:Str} {c0 a f:Nat} {t0 rest:N7} {cuts:N7} (hy:TK=c0::t0) (hp:c0∉Vq) (hd:[TY,a]=Vq++(TK++rest)) (g:StrLaws.ChainG x y x.length a cuts f) (hn:∀ k,f<=k->¬ StrLaws.At x y x.length k) :
  ∃ rr,cuts=(a+p.length)::rr/\StrLaws.ChainG x y x.length (a+p.length+y.length) rr f/\[Pb,x,a,a+p.length]=p/\[TY,a+p.length+y.length]=rest:=by
 have lp:=cu p;have ly:=cu y;have lx:=cu x;have hlen:=[R5,X9,hd];rw [SU,Na,Na] at hlen;have ypos:1<=y.length:=by rw [<- ly,hy,List.length_cons]; omega
 have d1:[TY,a+p.length]=TK++rest:=by
  rw [<- List.drop_drop,hd,<- lp,List.drop_left]
 have d2:[TY,a+p.length+y.length]=rest:=by
  rw [<- List.drop_drop,d1,<- ly,List.drop_left]
 have hA:StrLaws.At x y x.length (a+p.length):=by
  refine [W4,Mr];rw [StrLaws.subAt_eq,beq_iff_eq,d1,<- ly,List.take_left]
 have low:∀ k,a<=k->k<a+p.length->¬ StrLaws.At x y x.length k:=fun k h1 h2 h3=>by
  have e:=AB hy h3;have e2:([TY,a])[k - a]?=some c0:=by
   rw [Zg,[MM,a+(k - a)=k]];exact e
  rw [hd,[OP,L6]] at e2;exact hp [Xg,e2]
 have e1:[Pb,x,a,a+p.length]=p:=eJ (by
  rw [Y0,hd,[MM,a+p.length - a=p.length],<- lp,List.take_left])
 cases cuts with
 | nil =>
  have ef:f=a:=g;exact [O9,hA,hn _ L6]
 | cons c rr =>
  refine fX g fun g1 g2 g3 g4=>?_;clear g;have ec:c=a+p.length:=by
   rcases Nat.lt_trichotomy c (a+p.length) with h | h | h
   .exact [O9,g2,low c g1 h]
   .exact h
   .exact [O9,hA,g3 _ L6 h]
  subst ec;exact (cC rr rfl g4 e1 d2)
theorem chain_last {x y p:Str} {c0 a f:Nat} {t0:N7} {cuts:N7} (hy:TK=c0::t0) (hp:c0∉Vq) (hd:[TY,a]=Vq) (g:StrLaws.ChainG x y x.length a cuts f):cuts=[]/\[Pb,x,a,x.length]=p:=by
 have lp:=cu p;have lx:=cu x;have hlen:=[R5,X9,hd];rw [SU] at hlen;refine [Mw,?_,eJ (by rw [StrLaws.strSub_toList,hd]; exact [Oy,L6])];cases cuts with
 | nil=>rfl
 | cons c rr =>
  refine fX g fun g1 g2 _ _=>?_;clear g;have e:=AB hy g2;have e2:([TY,a])[c - a]?=some c0:=by
   rw [Zg,[MM,a+(c - a)=c]];exact e
  rw [hd] at e2;exact [O9,[Xg,e2],hp]
theorem pG {x y:Str} {c0:Nat} {t0:N7} (hy:TK=c0::t0):∀ (parts:MB) (a:Nat) (cuts:N7) (f:Nat),parts≠[]->(∀ p∈parts,c0∉Vq)->[TY,a]=jnL TK (parts.map fun p=>Vq)->StrLaws.ChainG x y x.length a cuts f->(∀ k,f<=k->¬ StrLaws.At x y x.length k)->StrLaws.partsFrom x y.length a cuts=parts
 | [],_,_,_,h,_,_,_,_=>[O9,rfl,h]
 | [p],a,cuts,f,_,hf,hd,g,hn=>by
  obtain ⟨rfl,e⟩:=chain_last hy (hf p ME) hd g;show [[Pb,x,a,x.length]]=_;rw [e]
 | p::q::r,a,cuts,f,_,hf,hd,g,hn=>by
  refine iD (kr hy (hf p ME) hd g hn :) fun rr eq1 g' e1 e2=>?_;subst eq1;show [Pb,x,a,a+p.length]::StrLaws.partsFrom x y.length (a+p.length+y.length) rr=_;rw [e1,pG hy (q::r) _ rr f ([QH,_]) (fun z hz=>hf z ([MX,hz])) e2 g' hn]
theorem si (x:Str):[Pb,x,0,x.length]=x:=eJ (by
 rw [Y0,Ze,Nat.sub_zero];exact [Oy,(by rw [cu x]; exact Mm)])
theorem A0 (x:Str):1<=[Wo,x]:=by
 unfold Builtin.Str.strKind;split
 .exact Mm
 .split <;> decide
theorem y7 {c0:Nat} {t0:N7} {y:Str} (hy:TK=c0::t0) (hk:[Wo,y]=1) {parts:MB} {z:Str} (hz:NI=jnL TK (parts.map fun p=>Vq)) (hne:parts≠[]) (hf:∀ p∈parts,c0∉Vq):Txt.split z y=parts:=by
 have hw:1<=y.length:=by rw [<- cu y,hy,List.length_cons]; omega
 refine [NC,StrLaws.occ_tight z y hw,fun f g hn=>?_]
 have key:=pG hy parts 0 _ f hne hf (by rw [List.drop_zero]; exact hz) g hn;unfold Txt.split;split
 .rename_i hc;rw [Bool.or_eq_true,decide_eq_true_eq,decide_eq_true_eq,hk] at hc;have hlt:z.length<y.length:=hc.resolve_right ([NV,A0 z]);have e0:[QL,z,y,z.length,z.length+1]=[]:=by
   cases e:Builtin.Str.occurrences z y 0 z.length (z.length+1) with
   | nil=>rfl
   | cons c r =>
    rw [e] at g;have:=g.2.1.1;omega
  rw [e0] at key;rw [<- key];show [z]=[[Pb,z,0,z.length]];rw [si]
 .split
  .rename_i he;rw [List.isEmpty_iff.mp he] at key;rw [<- key];show [z]=[[Pb,z,0,z.length]];rw [si]
  .rw [StrLaws.partsBetween_eq];exact key
theorem uU (s sub:Str) (hi M:Nat):∀ (l:N7) (st:ZA×Nat),∃ r,(forIn l st (StrLaws.occBody s sub hi M)).run.fst.toList=st.fst.toList++r
 | [],st=>[Mw,[],by rw [List.append_nil]; rfl]
 | i::l,st=>by
  rw [VG];unfold StrLaws.occBody;split
  .obtain ⟨r,e⟩:=uU s sub hi M l (st.fst.push i,i+sub.length);refine [W4,i::r];have e':(forIn l (st.fst.push i,i+sub.length) (StrLaws.occBody s sub hi M)).run.fst.toList=st.fst.toList++i::r:=by rw [e,Array.toList_push,List.append_assoc]; rfl
   exact e'
  .obtain ⟨r,e⟩:=uU s sub hi M l st;exact [Mw,r,e]
theorem yh (s sub:Str) (hi L:Nat):∀ (l:N7) (st:ZA×Nat),L<=st.fst.size->(forIn l st (StrLaws.occBody s sub hi L)).run.fst.toList=st.fst.toList
 | [],st,_=>rfl
 | i::l,st,h=>by
  rw [VG];unfold StrLaws.occBody;split
  .rename_i hc;have:=hc.1.1.1;omega
  .exact yh s sub hi L l st h
theorem vX (s sub:Str) (hi L M:Nat) (hLM:L<=M):∀ (l:N7) (st:ZA×Nat),st.fst.size<=L->(forIn l st (StrLaws.occBody s sub hi L)).run.fst.toList=(forIn l st (StrLaws.occBody s sub hi M)).run.fst.toList.take L
 | [],st,h=>([Oy,(by rw [Array.length_toList]; exact h)]).symm
 | i::l,st,h=>by
  rcases Nat.lt_or_ge st.fst.size L with h1 | h1
  .rw [VG,VG];unfold StrLaws.occBody;by_cases hc:((st.fst.size<L/\st.snd<=i)/\i+sub.length<=hi)/\Builtin.Str.subAt s sub i=true
   .have hc':((st.fst.size<M/\st.snd<=i)/\i+sub.length<=hi)/\Builtin.Str.subAt s sub i=true:=[Mw,[Mw,[Mw,Mr,hc.1.1.2],hc.1.2],hc.2];rw [[P9,hc],[P9,hc']];exact vX s sub hi L M hLM l _ (by rw [Array.size_push]; omega)
   .have hc':¬ (((st.fst.size<M/\st.snd<=i)/\i+sub.length<=hi)/\Builtin.Str.subAt s sub i=true):=fun q=>hc [Mw,[Mw,[Mw,h1,q.1.1.2],q.1.2],q.2]
    rw [[Ph,hc],[Ph,hc']];exact vX s sub hi L M hLM l _ h
  .rw [yh s sub hi L (i::l) st h1];obtain ⟨r,e⟩:=uU s sub hi M (i::l) st;rw [e,List.take_append_of_le_length (by rw [Array.length_toList]; omega)];exact ([Oy,(by rw [Array.length_toList]; exact h)]).symm
theorem G3 (x y:Str) (L:Nat) (h:L<=x.length+1):[QL,x,y,x.length,L]=([QL,x,y,x.length,x.length+1]).take L:=by
 rw [StrLaws.occ_eq,StrLaws.occ_eq];exact vX x y x.length L (x.length+1) h _ _ (OX)
theorem CU {z a b c:Str} (hz:NI=RE++32::(TJ++32::c.cps.toList)) (ha:32∉RE) (hb:32∉TJ) :
  ∃ i j,[QL,z,[P5,32],z.length,2]=[i,j]/\[Z4,z,[i,j],1]=[a,b,c]:=by
 have lz:=cu z;have la:=cu a;have lb:=cu b;have lc:=cu c;have hlen:=[R5,X9,hz];rw [Na,Pd,Na,Pd] at hlen;have hy:[PK,[P5,32]]=32::[]:=rfl;refine [NC,StrLaws.occ_tight z [P5,32] (Nat.le_refl 1),fun f g hn=>?_]
 refine iD (kr (p:=a) (rest:=TJ++32::c.cps.toList) hy ha (by rw [List.drop_zero]; exact hz) g hn :) fun r1 e1 g1 s1 d1=>?_
 refine iD (kr (p:=b) (rest:=c.cps.toList) hy hb d1 g1 hn :) fun r2 e2 g2 s2 d2=>?_
 rw [e2] at e1;refine (bP (0+a.length) (0+a.length+1+b.length) ?_ ?_)
 .rw [G3 z [P5,32] 2 L6,e1];rfl
 .rw [StrLaws.partsBetween_eq];show [[Pb,z,0,0+a.length],[Pb,z,0+a.length+1,0+a.length+1+b.length],[Pb,z,0+a.length+1+b.length+1,z.length]]=_;have s2':[Pb,z,0+a.length+1,0+a.length+1+b.length]=b:=s2;have s3:[Pb,z,0+a.length+1+b.length+1,z.length]=c:=eJ (by
   have d2':z.cps.toList.drop (0+a.length+1+b.length+1)=c.cps.toList:=d2;rw [Y0,d2'];exact [Oy,L6])
  rw [s1,s2',s3]
def GQ:V->Nz->Hp->Sr:=fun x vs H Q=>∃ z a b c:Str,x=R9/\vs=[.str Xu,.int 2]/\NI=RE++32::(TJ++32::c.cps.toList)/\32∉RE/\32∉TJ/\[Se,4000]/\∀ p,H p=none->[Xi,p,([Py,H,p,[.str a,.str b,.str c]])]
theorem jm:[Rk,Xu]=[P5,32]:=L5
section
variable {X:Cx}
theorem Cb:MtM X "str.split" GQ:=by
 intro pins s σ H x vs v us Q I rx rv h;refine cZ h fun z a b c eq2 eq3 hz ha pq0=>cb pq0 fun hb hl q=>?_;clear pq0 h;subst eq2;subst eq3;obtain ⟨t,rfl⟩:=rx;refine aX rv.two fun u' w' eq4 pp5 pp6=>?_;subst eq4;obtain ⟨u,rfl⟩:=pp5;obtain ⟨k,rfl⟩:=pp6;refine bU (CU hz ha hb :) fun i j e1 e2=>?_
 rw [jm];have lim:limitOf z 2=2:=rfl;have h1:[Vb,([N8,z.length<[RJ,[P5,32]]] || [N8,[Wo,z]<[Wo,[P5,32]]])]:=by
  rw [Bool.or_eq_false_iff,decide_eq_false_iff_not,decide_eq_false_iff_not];have hlen:=[R5,X9,hz];rw [Na,Pd,cu z] at hlen;have e3:[Wo,[P5,32]]=1:=L5
  have:=A0 z;exact [Mw,[NF,¬ z.length<1],by rw [e3]; omega]
 have e1':[QL,z,[P5,32],z.length,limitOf z 2]=[i,j]:=e1;have key:=meets_str_split_sep_max z [P5,32] 2 t u k M0 h1 rfl (by rw [e1']; rfl) (Nh) (by
  rw [e1'];show [N4,[MP,[Z4,z,[i,j],1]]];rw [e2,sizeLine_eq];show 3<=_;decide)
 refine call_meets A08 (typeIs_str _ _ _) ZH (F.args_str_split_3 _ _ _) key ?_;have e2':[Z4,z,([QL,z,[P5,32],z.length,limitOf z 2]),[RJ,[P5,32]]]=[a,b,c]:=by rw [e1']; exact e2
 rw [e2',strsFrom_eq];have hv:=jb (numbered s.toks [a,b,c]);rw [numbered_texts] at hv;exact ([YU,[MT,_],_,(I.lnew hv ([Qq,3])),q _ I.fresh])
end
def yw (P:Program) (w:World) (K:M3) (a:Addr) (kvs:Vm):Prop:=[Vb,([Y9,a])]/\∃ (o:Obj) (vs:[Vj,Value]),K.lookup a=MN/\o.IsDictOf (cG P w) vs/\KV kvs vs
def strOf?:[Q6,[OM,Str]]
 | .str x _=>OV
 | _=>none
theorem we {v:Value} {x:Str} (h:strOf? v=OV):∃ t,v=.str x t:=by
 cases v <;> simp [strOf?] at h
 subst h;exact VT
theorem v9 {P:Program} {w:World}:∀ (es:List DictEntry) (zs:[V3,Str]),es.map ([UT,(e.hash,strOf? e.key,strOf? e.val)])=zs.map [UK,(PyData.keyHash w.params z.1,some z.1,some z.2)]-> ∃ vs:[Vj,Value],Pairs (cG P w) es vs/\KV (zs.map [OE,(([U4,z.1]:Key),V.str z.2)]) vs/\vs.map OB=zs.map [UK,([U4,z.1]:Key)]/\∀ e∈es,∃ k,(cG P w).is k e.key=true/\e.hash=(cG P w).hash k
 | [],[],_=>(cC [] .nil .nil rfl (fun e h=>([PL,h])))
 | [],z::zs,h=>WB
 | e::es,[],h=>WB
 | e::es,z::zs,h=>by
  obtain ⟨h1,h2⟩:=[Pt,h];obtain ⟨vs,p1,p2,p3,p4⟩:=v9 es zs h2;have h1a:=[R5,OB,h1];have h1b:=[R5,(·.2.1),h1];have h1c:=[R5,(·.2.2),h1];obtain ⟨t,ek⟩:=we h1b;obtain ⟨u,ev⟩:=we h1c;have is1:(cG P w).is ([U4,z.1]) e.key=true:=by rw [ek]; exact pB P w z.1 t
  refine (cC (([U4,z.1],e.val)::vs) (.cons is1 rfl p1) (.cons ([QW,e8 u ev]) p2) (by rw [List.map_cons,List.map_cons,p3]) (fun e' he=>?_));rcases List.mem_cons.mp he with rfl | he
  .exact (af _ is1 h1a)
  .exact p4 e' he
theorem Hz {P:Program} {w:World} {K:M3} {a:Addr} {o:Obj} {es:Array DictEntry} {ep:Nat} (zs:[V3,Str]) (l:K.lookup a=MN) (c:o=⟨.type "dict",none,.dict es ep,#[]⟩)
  (m:es.toList.map ([UT,(e.hash,strOf? e.key,strOf? e.val)])=zs.map [OE,(PyData.keyHash w.params z.1,some z.1,some z.2)]) (nd:(zs.map OB).Nodup) (hs:[Vb,([Y9,a])]):yw P w K a (zs.map [OE,(([U4,z.1]:Key),V.str z.2)]):=by
 refine iD (v9 (P:=P) (w:=w) es.toList zs m :) fun vs p1 p2 p3 p4=>?_
 subst c;refine (aH hs (aB _ vs l (cD es ep (bM rfl rfl rfl) rfl (fun e he=>p4 e (Array.mem_toList_iff.mpr he)) p1 ?_) p2));rw [p3];have:zs.map [UK,([U4,z.1]:Key)]=[Tr,zs.map OB,Sum.inr]:=by rw [List.map_map]; rfl
 rw [this];exact List.Pairwise.map _ (fun x y h e=>h (Sum.inr.inj e)) nd
section
variable {X:Cx} {pins:Px} {σ:St} {H:Hp} {s:Shared} {a:Addr} {kvs:Vm}
theorem A2 (I:Rw) (g:yw X.prog X.w X.K a kvs):∃ vs,KV kvs vs/\s.heap.DictOf (cG X.prog X.w) a vs:=by
 refine bZ g fun _ pq0=>aX pq0 fun o vs hk hd r=>?_;clear pq0 g;exact (af vs r (Heap.dictOf_iff.mpr (af o (I.kIn a o hk) hd)))
def Ks (a:Addr) (kvs:Vm) (td ty:TE):TE:=[QS,td σ H [VW,ty σ H1 fun y H2=>∃ k v,x=QM/\y=kV k/\dF kvs k=Nw/\Q v H2]]
def Ho (a:Addr) (kvs:Vm) (ty td:TE):TE:=[QS,ty σ H fun y H1=>td σ H1 fun x H2=>∃ k,x=QM/\y=kV k/\Q (.bl (!(dF kvs k).isSome)) H2]
theorem Ij {o i:Expr} {pos:Pos} {td ty:TE} (g:yw X.prog X.w X.K a kvs) (ho:PE X o td) (hi:PE X i ty) (hs:Jk i):PE X (.Subscript o i pos) (Ks a kvs td ty):=by
 intro pins s σ H Q I h;refine A5 PySem.F.slot_dict_getitem.lookup hs [ZS,ho pins s σ H _ I h,fun u s1 pr=>aX pr fun x H1 I1 rx q1=>[Y5,hi pins s1 σ H1 _ I1 q1,fun iv s2 pr=>aX pr fun y H2 I2 ry pq0=>e9 pq0 fun k v ex ey e q2=>?_]];subst ex ey;obtain rfl:u=[Te,a]:=rx;refine [NC,A2 I2 g,fun vs rel dd=>?_]
 refine [NC,(RelO.some_of (v:=v) (o:=valueAt vs k) (by rw [<- e]; exact rel.val k)),fun w' hw rw'=>?_]
 exact [Mw,dd.typeIs,wpAny_getItem_of (tZ ry) dd.mapOf hw (aB v H2 (I2.tok _) rw' q2)]
theorem Cq {o i:Expr} {td ty:TE} (g:yw X.prog X.w X.K a kvs) (hi:PE X i ty) (ho:PE X o td):PC X .NotIn i o (Ho a kvs ty td):=by
 intro pins s σ H Q I h;refine [Y5,hi pins s σ H _ I h,fun iv s1 pr=>aX pr fun y H1 I1 ry q1=>[Y5,ho pins s1 σ H1 _ I1 q1,fun u s2 pr=>aX pr fun x H2 I2 rx pq0=>bp pq0 fun k ex ey q2=>?_]]
 subst ex ey;obtain rfl:u=[Te,a]:=rx;refine [NC,A2 I2 g,fun vs rel dd=>?_]
 refine wpAny_notIn_of (tZ ry) g.1 dd.mapOf ?_;rw [<- (rel.val k).isSome_eq];exact ([YU,.bl (!(dF kvs k).isSome),H2,I2.tok _,q2])
end
end L2
namespace L2
open PySem PySem.Spec PyProof.Rows
theorem AV (xs:ZA):∀ (k:Nat) (acc:ZA),(([OW,k,xs]).foldl (·++·) acc).toList=acc.toList++([OW,k,xs.toList]).flatten
 | 0,acc=>MJ
 | k+1,acc=>by
  rw [YF,List.foldl_cons,AV xs k,WA,YF,List.flatten_cons,QK]
section
variable {X:Cx}
theorem wC:OpR X (binaryOp .Mult) ([X8,∃ (z:Str) (n:Int),x=R9/\y=XB/\1<=n/\n<=100/\[Se,100]/\∀ r:Str,r.cps.toList=([OW,n.toNat,NI]).flatten->Q [XE,r] H]):=by
 intro pins s σ H x y v u Q I rx ry h;obtain ⟨z,n,rfl,rfl,h1,h2,hz,q⟩:=h;obtain ⟨t,rfl⟩:=rx;obtain ⟨t',rfl⟩:=ry;have hn:¬ n<1:=Mr
 refine P.mul_str (by rw [decide_eq_false (by omega),decide_eq_false (by omega)]; rfl) (fun _ _=>?_) (fun _ _=>?_) ?_
 .have:[My,100]<=(2 ^ 63 - 1) / n:=by
   rw [Int.le_ediv_iff_mul_le L6];omega
  omega
 .have:z.length * n.toNat<=100 * 100:=Nat.mul_le_mul hz L6;have:[N4,z.length * n.toNat]:=[Qi,this,M0];exact [NJ,L6]
 .rw [[Ph,hn]];split
  .rename_i hc;refine ⟨R9,H,I,[Nl,t],q z ?_⟩;rw [Bool.or_eq_true] at hc;rcases hc with hc | hc
   .have:n=1:=[Ml,hc]
    subst this;simp
   .have h0:NI=[]:=by
     have:z.length=0:=[Ml,hc]
     have l:=cu z;exact [Tf,L6]
    rw [h0];simp
  .refine ⟨?_,.str _,H,SN,VT,q _ ?_⟩
   .show [N4,(([OW,n.toNat,z.cps]).foldl (·++·) #[]).size];rw [wJ];have:n.toNat * SV<=100 * 100:=Nat.mul_le_mul L6 hz;show 0+_<=_;rw [Nat.zero_add];exact [Qi,this,M0]
   .show (([OW,n.toNat,z.cps]).foldl (·++·) #[]).toList=_;rw [AV];rfl
end
end L2
namespace L2
open PySem PySem.Spec PyProof.Rows
section
variable {X:Cx}
theorem fV:dM X [Sx,Z3] ([Tb,(xs=[.non]/\Q [XE,"None"] H)\/(∃ z,xs=[R9]/\Q (R9) H)\/∃ i:Int,xs=[RF]/\i.natAbs.log2<1920/\Q [XE,toString i] H]):=by
 intro pins s σ H xs us Q I r h;rcases h with ⟨rfl,q⟩ | ⟨z,rfl,q⟩ | ⟨i,rfl,hz,q⟩
 .obtain ⟨u,rfl,ru⟩:=Vw;cases ru
  exact PySem.P.str_of_none ⟨.str _,H,SN,VT,q⟩
 .obtain ⟨u,rfl,t,rfl⟩:=Vw;exact PySem.P.str_of_str ⟨.str _,H,I,VT,q⟩
 .obtain ⟨u,rfl,t,rfl⟩:=Vw;exact PySem.P.str_of_int hz ⟨.str _,H,SN,VT,q⟩
end
end L2
namespace SQ
open PySem PySem.Spec PyProof.Rows
def ofM (m:Nat):N7:=([RQ,6]).filter fun i=>m.testBit i
def orM (m v:Nat):Nat:=m ||| (1 <<< v)
def tabS (led:Bool) (S:N7):SetTable :=
 { mask:=[Mj,S.length<5,7,31],place:=S.toArray,dummies:=#[],finger:=0,led:=led,moves:=[Mj,S.length<5,0,1],plain:=true }
def yu (m v:Nat):Nat:=[MP,(XR).takeWhile fun k=>[N8,k<v]]
def tH (led:Bool) (m v:Nat):SetTable:={ tabS led (XR) with place:=(ofM (orM m v)).toArray }
def FO (led:Bool) (m v:Nat):Bool :=
  [N8,(tabS led (XR)).freeSlot [My,v]=some (v,false)] && [N8,(tabS led (XR)).put v=(tH led m v,yu m v)] && [N8,(XR).take (yu m v)++v::(XR).drop (yu m v)=ofM (orM m v)] && (tH led m v).fits [MP,ofM (orM m v)] && ([Mj,[MP,ofM (orM m v)]=5,(tH led m v).tooFull && [N8,(tH led m v).relaid ([Tr,ofM (orM m v),fun k:Nat=>PZ]).toArray (SetTable.grown 5)=some (tabS led (ofM (orM m v)),([RQ,5]).toArray)],!(tH led m v).tooFull && [N8,tH led m v=tabS led (ofM (orM m v))]])
theorem yJ:∀ led:Bool,∀ m:Fin 64,∀ v:Fin 6,[Vb,m.1.testBit v.1]->FO led m.1 v.1=true:=L5
theorem qm:∀ led:Bool,∀ m:Fin 64,(tabS led (ofM m.1)).fits [MP,ofM m.1]=true:=L5
theorem p8:∀ m:Fin 64,[MP,ofM m.1]<=6:=L5
theorem Du:∀ m:Fin 64,∀ v:Fin 6,orM m.1 v.1<64:=L5
theorem G2:∀ m:Fin 64,∀ v:Fin 6,m.1.testBit v.1=true->orM m.1 v.1=m.1:=L5
theorem Ka:∀ m:Fin 64,∀ v:Fin 6,∀ k:Fin 6,(orM m.1 v.1).testBit k.1=(m.1.testBit k.1 || [N8,k.1=v.1]):=L5
theorem uN {m k:Nat}:k∈XR↔k<6/\m.testBit k=true:=by unfold ofM; rw [List.mem_filter,List.mem_range]
theorem yZ (m:Nat):(XR).Pairwise (·<·):=List.Pairwise.filter _ List.pairwise_lt_range
theorem Ca:∀ led:Bool,∀ m:Fin 64,SetTable.below (tabS led (ofM m.1)).place 0=0/\∀ i:Fin 6,i.1<[MP,ofM m.1]->SetTable.below (tabS led (ofM m.1)).place ((ofM m.1).getD i.1 0+1)=i.1+1:=L5
def Df (e:Int×Value) (k:Nat):Prop:=e.1=PZ/\∃ t,e.2=[Sy,PZ]
def SetS (w:World) (h:Heap) (a:Addr) (m:Nat):Prop :=
 m<64/\∃ o es ep,RO=MN/\o.ExactSet/\o.data=.set es ep (tabS (!R4) (XR))/\[Vg,Df,es.toList,XR]
theorem vt {α β:Type} {F:α->[Qp,β]}:∀ {l₁:QY} {l₂:Yg},[Vg,F,l₁,l₂]->l₁.length=l₂.length
 | _,_,.nil=>rfl
 | _,_,.cons _ t=>by rw [List.length_cons,List.length_cons,vt t]
theorem vC {α β:Type} {F:α->[Qp,β]}:∀ {l₁:QY} {l₂:Yg},[Vg,F,l₁,l₂]->∀ a∈l₁,∃ b∈l₂,F a b
 | _,_,.nil,_,h=>([PL,h])
 | _,_,.cons r t,a,h=>by
  rcases List.mem_cons.mp h with rfl | h
  .exact ⟨_,ME,r⟩
  .obtain ⟨b,hb,hr⟩:=vC t a h;exact ⟨b,[MX,hb],hr⟩
theorem A1 {α β:Type} {F:α->[Qp,β]}:∀ {l₁:QY} {l₂:Yg},[Vg,F,l₁,l₂]->∀ b∈l₂,∃ a∈l₁,F a b
 | _,_,.nil,_,h=>([PL,h])
 | _,_,.cons r t,b,h=>by
  rcases List.mem_cons.mp h with rfl | h
  .exact ⟨_,ME,r⟩
  .obtain ⟨a,ha,hr⟩:=A1 t b h;exact ⟨a,[MX,ha],hr⟩
theorem EN {α β:Type} {F:α->[Qp,β]} {b₁:QY} {b₂:Yg} (hb:[Vg,F,b₁,b₂]):∀ {l₁:QY} {l₂:Yg},[Vg,F,l₁,l₂]->[Vg,F,l₁++b₁,l₂++b₂]
 | _,_,.nil=>hb
 | _,_,.cons r t=>.cons r (EN hb t)
theorem AN {α β:Type} {F:α->[Qp,β]}:∀ {l₁:QY} {l₂:Yg} (n:Nat),[Vg,F,l₁,l₂]->[Vg,F,l₁.take n,l₂.take n]
 | _,_,0,_=>[Ml,Paired.nil]
 | _,_,_+1,.nil=>.nil
 | _,_,n+1,.cons r t=>.cons r (AN n t)
theorem AU {α β:Type} {F:α->[Qp,β]}:∀ {l₁:QY} {l₂:Yg} (n:Nat),[Vg,F,l₁,l₂]->[Vg,F,l₁.drop n,l₂.drop n]
 | _,_,0,h=>h
 | _,_,_+1,.nil=>.nil
 | _,_,n+1,.cons _ t=>AU n t
theorem qM:∀ k:Fin 6,hashInt [My,k.1]=[My,k.1]:=L5
theorem elems {prog:Program} {w:World} {es:[Pe,Int,Value]} {m:Nat} (pr:[Vg,Df,es,XR]):ElemsOf (intKind prog w) es:=fun e he=>by
 obtain ⟨k,hk,h1,t,h2⟩:=vC pr e he;refine [W4,[Pw,PZ,?_]]
 .rw [h2]; exact intKind_is prog w _ t
 .rw [h1]; exact (qM [Mw,k,(uN.mp hk).1]).symm
 .rw [h2]; rfl
theorem Ay {es:[Pe,Int,Value]} {S:N7} (pr:[Vg,Df,es,S]):es.map OB=S.map fun k:Nat=>PZ:=by
 induction pr with
 | nil=>rfl
 | cons r _ ih=>rw [List.map_cons,List.map_cons,ih,r.1]
section
variable {prog:Program} {w:World} {A:Around} {E:Qc} {s:Shared}
theorem AW {a:Addr} {h:Heap} {o:Obj} {es es':Array (Int×Value)} {ep:Nat} {t t':SetTable} (ho:RO=MN) (hd:o.data=.set es ep t) :
  (h.update a (Obj.putSet es' t')).get? a=some { o with data:=.set es' (ep+1) t' }:=by
 have z:=[XZ,Obj.putSet es' t',ho,(by rw [putSet_of es' t' hd]; rfl)];rw [putSet_of es' t' hd] at z; exact z
theorem KH {a:Addr} {m v:Nat} {t:Tok} {Q:Bool->NM} (hv:v<6) (hS:SetS w s.heap a m)
  (h:∀ b h',[Tv,a,h']->SetS w h' a (orM m v)->[Pu,b,h']) :
  [SK,Vl,A,setAddHashed a (.int [My,v] t) ((intKind prog w).hash [My,v]),Q,E]:=by
 obtain ⟨hm,o,es,ep,ho,hex,hd,pr⟩:=hS;have z6:es.size=[MP,XR]:=by have z:=vt pr; rwa [Array.length_toList] at z
 have zf:(tabS (!R4) (XR)).fits es.size=true:=by rw [z6]; exact qm _ [Mw,m,hm]
 have ze:ElemsOf (intKind prog w) es.toList:=elems pr;have zl:es.size<=6:=by rw [z6]; exact p8 [Mw,m,hm]
 have zb:es.size<scanBound:=by unfold scanBound; omega
 unfold setAddHashed setAddHashedIn;refine [SS,([O0,wpAny_setState_of ho hd zf ?_])]; dsimp only;rw [byScan_of rfl zb ze]; simp only [↓reduceIte]; unfold setAddByScan;refine [O0,[O0,wpAny_rule ([O0,wpAny_setScan_of (knd:=intKind prog w) (intKind_is _ _ _ _) ho hd zf ze ?_])]];cases hr:List.findIdx? (fun e=>(intKind prog w).is (v:Int) e.2) es.toList with
 | some j =>
  dsimp only;obtain ⟨hj,hpj,_⟩:=List.findIdx?_eq_some_iff_getElem.mp hr;have hbit:m.testBit v=true:=by
   obtain ⟨k,hk,_,tk,e2⟩:=vC pr _ ([QN,hj]);rw [e2] at hpj;have ek:PZ=[My,v]:=(intKind prog w).inj _ _ _ (intKind_is prog w _ tk) hpj;have ek':k=v:=Mr
   exact ek'▸(uN.mp hk).2
  refine [MO,RG];have e:s={ s with heap:=s.heap }:=by cases s; rfl
  have z:=h false s.heap (Heap.SameBut.refl a s.heap) (by rw [G2 ⟨m,hm⟩ ⟨v,hv⟩ hbit]; exact ⟨hm,o,es,ep,ho,hex,hd,pr⟩);rw [<- e] at z; exact z
 | none =>
  dsimp only;have hbit:[Vb,m.testBit v]:=by
   cases q:m.testBit v with
   | false=>rfl
   | true =>
    obtain ⟨e,he,_,tk,e2⟩:=A1 pr v (uN.mpr [Mw,hv,q]);have z:=List.findIdx?_eq_none_iff.mp hr e he;rw [e2,intKind_is] at z; exact Bool.noConfusion z
  have ok:=yJ (!R4) [Mw,m,hm] [Mw,v,hv] hbit;unfold FO at ok;simp only [Bool.and_eq_true,decide_eq_true_eq] at ok;obtain ⟨⟨⟨⟨k1,k2⟩,k3⟩,k4⟩,k5⟩:=ok;generalize hled:(!w.params.followText "set-order")=led at *;have hins:[Vg,Df,(SetTable.insertAt es (yu m v) ([My,v],[Sy,[My,v]])).toList,ofM (orM m v)]:=by
   rw [SetTable.toList_insertAt,<- k3];exact EN (.cons ⟨rfl,t,rfl⟩ (AU _ pr)) (AN _ pr)
  have hisz:(SetTable.insertAt es (yu m v) ([My,v],[Sy,[My,v]])).size=[MP,ofM (orM m v)]:=by have z:=vt hins; rwa [Array.length_toList] at z
  have hlay:layNew (tabS led (XR)) es ((intKind prog w).hash [My,v]) ([Sy,[My,v]])=(SetTable.insertAt es (yu m v) ([My,v],[Sy,[My,v]]),tH led m v,false,false):=by
   unfold layNew;rw [[Nn,(intKind prog w).hash [My,v]=[My,v],qM [Mw,v,hv]],k1]; dsimp only;rw [k2]; dsimp only;rw [hisz]; unfold SetTable.orStandIn;rw [k4,U2]; rfl
  rw [hlay]; dsimp only;refine [O0,RG];refine [M9,?_];rw [hashByValue_scannable 8 (x:=[Sy,[My,v]]) rfl];refine RG;rw [[Nn,plainKind ([Sy,[My,v]])=true,rfl],U2];have hz1:[N4,(SetTable.insertAt es (yu m v) ([My,v],[Sy,[My,v]])).size]:=by rw [hisz,sizeLine_eq]; have z:=p8 [Mw,orM m v,Du [Mw,m,hm] [Mw,v,hv]]; dsimp only at z; omega
  refine [O0,wpAny_storeSet_of ho hd ?_ hz1];generalize hI:SetTable.insertAt es (yu m v) ((v:Int),Value.int (v:Int) t)=es1 at *;have ho1:=AW (es':=es1) (t':=tH led m v) ho hd;have hlt:orM m v<64:=Du [Mw,m,hm] [Mw,v,hv];have hsb:=Heap.SameBut.update s.heap a (Obj.putSet es1 (tH led m v));by_cases h5:[MP,ofM (orM m v)]=5
  .rw [[P9,h5]] at k5;obtain ⟨k6,k7⟩:=Bool.and_eq_true_iff.mp k5;rw [[P9,(by rw [k6]; rfl)]];have hrel:relayAll (tH led m v) es1 (SetTable.grown es1.size)=(es1,tabS led (ofM (orM m v)),false):=by
    have e1:es1.map OB=([Tr,ofM (orM m v),fun k:Nat=>PZ]).toArray:=by
     apply Array.ext'; rw [Array.toList_map,Ay hins]
    unfold relayAll;rw [hisz,h5,e1,[MF,k7]]; dsimp only;have e2:([RQ,5]).toArray.filterMap (fun i=>es1[i]?)=es1:=by
     apply Array.ext';rw [Array.toList_filterMap];have z:=filterMap_getElem?_range es1;rw [hisz,h5] at z; exact z
    rw [e2,hisz,[Nn,(tabS led (ofM (orM m v))).fits [MP,ofM (orM m v)]=true,qm led [T7,hlt]],[P9,Rb]]
   rw [hrel]; dsimp only;refine [O0,[MO,([O0,wpAny_storeSet_of ho1 rfl (RG) hz1])]];exact [MO,(h true _ (hsb.trans (Heap.SameBut.update _ a _)) ⟨hlt,_,es1,_,AW ho1 rfl,hex,by rw [hled],hins⟩)]
  .rw [[Ph,h5]] at k5;obtain ⟨k6,k7⟩:=Bool.and_eq_true_iff.mp k5;rw [[Ph,(by intro z; rw [Bool.not_eq_true'] at k6; rw [k6] at z; cases z)]];exact [MO,([MO,(h true _ hsb ⟨hlt,_,es1,_,ho1,hex,by rw [hled,<- of_decide_eq_true k7],hins⟩)])]
end
end SQ
namespace SQ
open PySem PySem.Spec PyProof.Rows
def mk (val:Nat->Nat):Nat->Nat
 | 0=>0
 | i+1=>orM (mk val i) (val i)
theorem SetS.at' {w:World} {h h':Heap} {a:Addr} {m:Nat} (x:SetS w h a m) (k:∀ o,RO=MN->[QX,a]=MN):SetS w h' a m:=by
 obtain ⟨hm,o,es,ep,ho,r⟩:=x;exact ⟨hm,o,es,ep,k _ ho,r⟩
section
variable {prog:Program} {w:World} {A:Around} {R:Result->NM} {I:Addr} {fp wr:RY} {G:Array GenState->[Qp,Array GenState]} {n:Nat} {P:Nat->[Q6,Prop]} {St:Nat->NM}
theorem Jb (W:WalksS prog w A.in1 I fp wr G n P St) (S:Addr) (nSf:S∉fp) (val:Nat->Nat) (hval:∀ i v,P i v->∃ t,v=.int [My,val i] t) (h6:∀ i,val i<6) :
  ∀ (k i:Nat) (s:Shared),n - i=k->i<=n->St i s->SetS w s.heap S (mk val i)-> (∀ s',Moved (S::wr) G s s'->SetS w s'.heap S (mk val n)->R (.ok (.ret .none)) s')-> codeAny Vl A (.builtin "set.update.loop" [Mw,[.ref S,.ref I],[]]) R s:=by
 have nSw:S∉wr:=[OE,nSf (W.sub _ z)]
 have lsub:[Ru,wr,b∈S::wr]:=fun b z=>[MX,z]
 intro k;induction k with
 | zero =>
  intro i s hk hi st hS hR;obtain rfl:i=n:=by omega
  refine codeAny_builtin F.entry_set_update_loop ?_; rw [Around.under_plainId F.plain_set_update_loop _];show wpAny _ A.in1 (pyNext (.ref I) >>= _) _ _ s;refine wpAny_bind (W.done s _ _ st fun s' hm=>?_); show wpAny _ A.in1 (ret Value.none) _ _ s';exact wpAny_pure (hR s' (hm.mono lsub) (hS.at' fun o z=>hm.heap S _ nSw z))
 | succ k ih =>
  intro i s hk hi st hS hR;have lt:i<n:=by omega
  refine codeAny_builtin F.entry_set_update_loop ?_; rw [Around.under_plainId F.plain_set_update_loop _];show wpAny _ A.in1 (pyNext (.ref I) >>= _) _ _ s;refine wpAny_bind (W.item i s _ _ lt st fun v s' hP st' hm=>?_);obtain ⟨t,rfl⟩:=hval i v hP;have hS1:SetS w s'.heap S (mk val i):=hS.at' fun o z=>hm.heap S _ nSw z
  show wpAny _ A.in1 (holding [Value.int (val i:Int) t] (setAdd S (.int (val i:Int) t)) >>= _) _ _ s';refine wpAny_bind (wpAny_holding ?_); unfold setAdd;refine wpAny_holding (wpAny_bind ((intKind prog w).pyHash (k:=(val i:Int)) (intKind_is _ _ _ _) ?_));refine KH (s:={ s' with toks:=s'.toks+1 }) (h6 i) hS1 fun b h' sb hS2=>?_
  refine wpAny_pure ⟨plainId_quiet F.plain_set_update_loop _,ih (i+1) _ (by omega) lt (W.frame _ s' _ _ st' (Nat.le_succ _) fun b hb o e=>?_) hS2 fun s'' hm'' hS''=>?_⟩
  .rw [sb.2 b (fun z:b=S=>nSf (by rw [<- z]; exact hb))]; exact e
  .refine hR s'' (Moved.trans W.gtrans ((hm.mono lsub).then_heap (Nat.le_succ _) fun b o hb e=>?_) hm'') hS'';rw [sb.2 b (fun z:b=S=>hb (by rw [z]; exact List.mem_cons_self))]; exact e
end
section
variable {prog:Program} {w:World} {A:Around} {E:Qc} {s:Shared}
def tI (w:World):Obj:={ cls:=.type "set",dict:=none,data:=.set #[] 0 (.fresh 0 0 (!R4)) }
theorem K6 (w:World) {h:Heap} {a:Addr} (e:RO=[Mo,tI w]):SetS w h a 0 :=
 ⟨Tt,_,#[],0,e,⟨rfl,rfl,rfl⟩,rfl,.nil⟩
theorem yD (a:Value) {Q₁:Qc} (h:Q₁ Vv { s with heap:=[YE,tI w] }) :
  codeAny Vl A (.call ([Sl,"set.__new__"]) [Mw,[.type "set",a],[]]) (wants Q₁ E) s:=by
 refine codeAny_of_tree ?_;show wpAny _ A.in1 (do checkBuiltinCall "set.__new__" ⟨[.type "set",a],[]⟩; again (.builtin "set.__new__" ⟨[.type "set",a],[]⟩)) _ _ s;refine [O0,wpAny_of_eq (F.newCall_set_1 a) ([MO,[Mw,plainId_quiet F.plain_set_new _,codeAny_builtin F.entry_set_new ?_]])]; rw [Around.under_plainId F.plain_set_new _];unfold Builtin.«set.__new__» Builtin.Frozenset.newClass;have hsub:=sub_set_self;obtain ⟨hp,g,d,tk,os⟩:=s;dsimp only;wp_walk;refine wpAny_askSetting (RG); dsimp only; simp only [newObj];exact [O0,wpAny_alloc ([MO,([MO,h])])]
theorem zx {l:Addr} {items:Nr} {ns:N7} {Q:Qc}
  (hh:TZ=none) (hl:s.heap.IsList l items) (hi:∀ (i:Nat) (v:Value),items[i]?=Nw->∃ t,v=.int [RK,ns.getD i 0] t) (h6:∀ k∈ns,k<6)
  (h:∀ (h':Heap) (tk:Nat),SetS w h' L7 (mk (fun i=>ns.getD i 0) Ni)-> ([Ym,Xz=MN,Zk=MN])->Q Vv { s with heap:=h',toks:=tk }) :
  [SK,Vl,A,call [Sx,"set"] [X5],Q,E]:=by
 obtain ⟨c,tl,hmro⟩:=F.called_set.mro;have hmade:=F.called_set.made;have hsub:=F.called_set.sub;refine wpAny_call (codeAny_of_tree ?_); show [Np,_,_,callAny [Sx,"set"] _,_,_,_];refine [MO,[Mw,Code.quiet_builtin _ Rb,codeAny_builtin F.entry_type_call ?_]]; rw [Around.under_plain (weight_type_call_type "set" [X5] []) rfl];have h1:=F.called_set.notType;have h2:=F.called_set.canCreate;have hct:=F.typeCall_set_1 [MT,l];repeat (any_goals (first | assumption | wp_step))
 refine codeAny_mono (yD [MT,l] (E:=E) (Q₁:=fun obj s₁=>obj=.ref L7/\s₁={ s with heap:=[YE,tI w] }) [Nl,rfl]) fun r s₁ hr=>?_
 cases r with
 | error e=>exact hr
 | ok fl =>
  cases fl with
  | ret obj =>
   obtain ⟨rfl,rfl⟩:=hr;have gS:([YE,tI w]).get? L7=[Mo,tI w]:=Ub;have hT:Shared.TypeIs { s with heap:=[YE,tI w] } Vv "set":=⟨_,gS,rfl⟩;have hli:=F.called_set.init.lookup;have hbi:=F.called_set.init.bind Vv;repeat (any_goals (first | assumption | wp_step))
   refine codeAny_mono (codeAny_call_builtin (R:=wants (fun r s₂=>r=.none/\∃ h' tk,s₂={ s with heap:=h',toks:=tk }/\SetS w h' L7 (mk (fun i=>ns.getD i 0) Ni)/\ ([Ym,Xz=MN,Zk=MN])) E) F.called_set.init.plain F.entry_set_init (check_set_init_1 hT ?_)) fun r₂ s₂ hr₂=>?_
   .obtain ⟨ol,hol,hcl,nl,hdl⟩:=hl;obtain ⟨ocls,odict,odata,oslots⟩:=ol;simp only at hcl hdl;subst hcl; subst hdl;have hol':([YE,tI w]).get? l=some { cls:=PF,dict:=odict,data:=.seq items nl,slots:=oslots }:=[M8,hol];have hsls:=F.sub_list_set;have hslf:=F.sub_list_frozenset;have hne:[Vb,Value.type "list" == Value.type "dict"]:=Tt
    have hl1:([YE,tI w]).IsList l items:=⟨_,hol',rfl,nl,rfl⟩;unfold Builtin.«set.__init__» noKeywords Builtin.Frozenset.updateFrom;generalize hPI:pyIter=PI;wp_walk;subst hPI;refine [XY,hl1,([O0,wpAny_runValue ?_])];have hlS:l<L7:=[Nm,hol];have hh3:A.in1.in1.in1.handled=none:=by simp [hh]
    have hneI:l≠[Pr,[YE,tI w]]:=by rw [Heap.size_push]; exact [Ol,([W3,hlS])]
    have hSf:L7∉[[Pr,[YE,tI w]],l]:=by
     rw [Zb]; intro z;rcases List.mem_cons.mp z with z | z
     .exact [O9,z,([Ol,Wv])]
     .exact [O9,([MQ,z]),([Uw,hlS])]
    refine Jb ((Walks.list hh3 _ l hneI items).toS) L7 hSf (fun i=>ns.getD i 0) hi ?h6 (Ni - 0) 0 _ L6 (OX) [Mw,⟨_,Ub,rfl,rfl⟩,hl1.push _] ?hS0 ?hR
    case h6 =>
     intro i;show ns.getD i 0<6;rw [List.getD_eq_getElem?_getD];cases q:ns[i]? with
     | none=>exact (by decide:0<6)
     | some k=>exact h6 k (List.mem_of_getElem? q)
    case hS0=>exact K6 w (Heap.get?_push_of_some _ gS)
    case hR =>
     intro s' hm hS';obtain ⟨h',g',d',tk',os'⟩:=s';have eg:g'=s.gens:=hm.gens;have ed:d'=s.drawn:=hm.drawn;have eo:os'=s.os:=hm.os;subst eg; subst ed; subst eo;refine wpAny_pure ?_;show wpAny _ _ (ret Value.none) _ _ _;refine wpAny_pure ⟨rfl,h',tk',rfl,hS',fun b o e=>?_⟩;have hb:=Heap.lt_size e;refine hm.heap b o (fun z=>?_) (Heap.get?_push_of_some _ (Heap.get?_push_of_some _ e));rcases List.mem_cons.mp z with z | z
     .exact absurd z (Nat.ne_of_lt hb)
     .rw [List.mem_singleton,Heap.size_push] at z;exact absurd z (Nat.ne_of_lt (Nat.lt_succ_of_lt hb))
   .cases r₂ with
    | error e=>exact hr₂
    | ok fl₂ =>
     cases fl₂ with
     | ret r =>
      obtain ⟨rfl,h',tk,rfl,hS',hk'⟩:=hr₂;repeat (any_goals (first | assumption | wp_step))
      exact h _ _ hS' hk'
     | _=>exact hr₂.elim
  | _=>exact hr.elim
end
end SQ
namespace SQ
open PySem PySem.Spec PyProof.Rows
theorem yz:entryFor table "set.__iter__"=some Builtin.«frozenset.__iter__»:=entryFor_alias (id':="frozenset.__iter__") (O6) rfl Rb (O6)
theorem eL:Slot TL Yw "set_iterator.__next__" :=
 .of (owner:=TL) (n:=Yw) (by rw [typeLookup_type,builtinLookup_eq_fast]; kernel_rfl) Rb Rb Rb (by first | exact .inl Rb | exact [PY,L5]) (by rw [isSubtype_type]; kernel_rfl)
theorem kU:entryFor table "set_iterator.__next__"=some Builtin.«set_iterator.__next__»:=entryFor_of_tree (O6)
theorem nk (a:Value):argsOk "set_iterator.__next__" [Mw,[a],[]]:=by unfold argsOk; kernel_rfl
theorem lY:Slot TL "__iter__" "set_iterator.__iter__" :=
 .of (owner:=TL) (n:="__iter__") (by rw [typeLookup_type,builtinLookup_eq_fast]; kernel_rfl) Rb Rb Rb (by first | exact .inl Rb | exact [PY,L5]) (by rw [isSubtype_type]; kernel_rfl)
theorem tK:entryFor table "set_iterator.__iter__"=some Builtin.«dict_keyiterator.__iter__»:=entryFor_alias (id':="dict_keyiterator.__iter__") (O6) rfl Rb (O6)
theorem vP (a:Value):argsOk "set_iterator.__iter__" [Mw,[a],[]]:=by unfold argsOk; kernel_rfl
theorem sU {α:Type}:∀ (l:QY) (i:Nat) (h:i<l.length),(l[i]::l.eraseIdx i).Perm l
 | x::xs,0,_=>.refl _
 | x::xs,i+1,h=>((sU xs i [Zh,h]).cons x |> [OE,[Q9,List.Perm.swap x _ _,z]])
theorem A4 {α:Type} (nx:Nat->Nat):∀ (fuel k:Nat) (left:QY) (out:Array α),fuel=left.length->(pickOrder.go nx fuel k left out).toList.Perm (out.toList++left)
 | 0,k,left,out,h=>by
  have e:left=[]:=[Tf,h.symm];subst e;unfold pickOrder.go;simp
 | fuel+1,k,left,out,h=>by
  unfold pickOrder.go;have hpos:0<left.length:=Mr
  have hlt:nx k % left.length<left.length:=Nat.mod_lt _ hpos;rw [[M4,hlt]];dsimp only;refine [Q9,(A4 nx fuel (k+1) _ _ (by rw [List.length_eraseIdx]; simp [hlt]; omega)),?_];rw [Array.toList_push,QK];refine List.Perm.append_left _ ?_;exact sU _ _ hlt
theorem BU {α:Type} (nx:Nat->Nat) (xs:Array α):(pickOrder nx xs).toList.Perm xs.toList:=by
 have z:=A4 nx xs.size 0 xs.toList #[] Pz;unfold pickOrder;simpa using z
def order (w:World) (a:Addr) (es:Array (Int×Value)) (ep:Nat):Array (Int×Value):=[Mj,R4,pickOrder (w.params.setOrder a ep) es,es]
theorem sm (w:World) (a:Addr) (es:Array (Int×Value)) (ep:Nat):(order w a es ep).toList.Perm es.toList:=by
 unfold order; split
 .exact BU _ _
 .exact .refl _
theorem g9 (w:World) (a:Addr) (es:Array (Int×Value)) (ep:Nat):(order w a es ep).size=es.size:=by
 have z:=(sm w a es ep).length_eq; simpa using z
def sl (w:World) (m i:Nat):Nat:=[Mj,R4,0,[Mj,i=0,0,(XR).getD (i - 1) 0+1]]
structure KS (w:World) (o:Obj) (es:Array (Int×Value)) (ep m:Nat):Prop where
 lt:m<64
 ex:o.ExactSet
 da:o.data=.set es ep (tabS (!w.params.followText "set-order") (ofM m))
 pr:Paired Df es.toList (ofM m)
theorem KS.size {w:World} {o:Obj} {es:Array (Int×Value)} {ep m:Nat} (k:KS w o es ep m):es.size=[MP,XR]:=by have z:=vt k.pr; rwa [Array.length_toList] at z
theorem KS.fits {w:World} {o:Obj} {es:Array (Int×Value)} {ep m:Nat} (k:KS w o es ep m):(tabS (!R4) (XR)).fits es.size=true:=by rw [k.size]; exact qm _ [Mw,m,k.lt]
def EF (h:Heap) (it a:Addr) (q i n ep:Nat):Prop:=∃ o,h.get? it=MN/\o.cls=.type TL/\o.data=[S5,#[.int q 0,.int i 0,QM,.int n 0,.int ep 0]]
section
variable {prog:Program} {w:World} {A:Around} {E:Qc} {s:Shared} {a it:Addr} {o:Obj} {es:Array (Int×Value)} {ep m i:Nat}
theorem y6 {Q:Bool->NM} (h:Q (R4) s):wpAny Vl A setsByText Q E s:=by
 unfold setsByText;exact [O0,wpAny_askSetting ([MO,h])]
theorem Jr {Q:Qc} (ho:[Nv,a]=MN) (k:KS w o es ep m)
  (h:[Pu,Vv,[Nf,TL,[S5,#[.int (0:Nat) 0,.int (0:Nat) 0,QM,.int es.size 0,.int ep 0]]]]) :
  [SK,Vl,A,pyIter VU,Q,E]:=by
 have hT:[ZZ,VU,"set"]:=⟨o,ho,k.ex.1⟩;refine wpAny_pyIter_slot hT F.slot_set_iter ([Sa,F.slot_set_iter,hT,yz,?_,F.args_set_iter_1 _]);unfold Builtin.«frozenset.__iter__» Builtin.Frozenset.slot0 slotArgs;simp only [List.isEmpty_nil,Bool.not_true,Bool.false_eq_true,↓reduceIte,bind_assoc,List.length_nil,bne_self_eq_false];unfold Builtin.Frozenset.addrOf Builtin.Frozenset.sizeOf;refine [O0,RG];try dsimp only
 refine [O0,RG];refine [O0,[O0,wpAny_setEntries_of ho k.da k.fits (RG)]];refine [M9,?_];unfold setDrawn;refine [O0,wpAny_setState_of ho k.da k.fits ?_];dsimp only;refine [O0,y6 (RG)];rw [[Ph,(by intro z; rw [Bool.and_eq_true] at z; exact [O9,z.2,MZ])]];refine [O0,RG];refine [O0,wpAny_setEpoch_of ho k.da k.fits ?_];refine [O0,wpAny_newObj_type ([MO,[O8,_,TL,_,⟨_,Ub,rfl⟩,eL.lookup,?_]])];exact h
theorem Gf:sl w m 0=0:=by unfold sl; split <;> rfl
theorem Ed {Q:[OM,Value×Nat]->NM} (ho:[Nv,a]=MN) (k:KS w o es ep m) (hi:i<=es.size)
  (h:Q ([Tr,(order w a es ep)[i]?,[UT,(e.2,sl w m (i+1))]]) s):[SK,Vl,A,setNext a (sl w m i) i ep,Q,E]:=by
 unfold setNext;refine [O0,wpAny_setState_of ho k.da k.fits ?_];dsimp only;refine [O0,y6 ?_];unfold order at h;cases hf:w.params.followText "set-order" with
 | true =>
  rw [hf,U2] at h;rw [U2,[Ph,Pz]];unfold setWalk;refine [O0,[O0,wpAny_setState_of ho k.da k.fits ?_]];dsimp only;refine [O0,y6 ?_];rw [hf,U2];refine [O0,wpAny_askSetting ([MO,RG])];have e:∀ j,sl w m j=0:=fun j=>by unfold sl; rw [hf]; rfl
  rw [e] at h;rw [e]; exact h
 | false =>
  rw [hf,[Ph,MZ]] at h;rw [[Ph,MZ],[Ph,(by intro z; exact [O9,z,MZ])]];refine [O0,wpAny_of_eq (a:=()) (by rfl) ?_];have hsz:=k.size;have hb:SetTable.below (tabS true (XR)).place (sl w m i)=i:=by
   unfold sl;rw [hf,[Ph,MZ]];have ba:=Ca true [Mw,m,k.lt];by_cases h0:i=0
   .subst h0; rw [U2]; exact ba.1
   .rw [[Ph,h0]];have l6:=p8 [Mw,m,k.lt];dsimp only at l6;have z:=ba.2 [Mw,i - 1,Mr] ([NF,i - 1<[MP,XR]]);dsimp only at z;rw [z]; omega
  show [Np,_,_,pure (match es[SetTable.below (tabS true (ofM m)).place (sl w m i)]?,(tabS true (ofM m)).place[SetTable.below (tabS true (ofM m)).place (sl w m i)]? with
   | some (_,x),some j=>some (x,j+1)
   | _,_=>none),_,_,_]
  rw [hb];refine RG;have hp:(tabS true (XR)).place[i]?=(XR)[i]?:=by show (XR).toArray[i]?=_; simp
  rw [hp];rcases Nat.lt_or_ge i es.size with lt | ge
  .have lt':i<[MP,XR]:=Mr
   rw [[XU,lt]] at h ⊢;rw [[M4,lt']];have e:sl w m (i+1)=(XR)[i]+1:=by
    unfold sl;rw [hf,[Ph,MZ],[Ph,Nat.succ_ne_zero i],Nat.add_sub_cancel,Nj,[M4,lt']]; rfl
   rw [UD,e] at h; exact h
  .have z:es[i]?=none:=Array.getElem?_eq_none ge;rw [z] at h ⊢; exact h
theorem JX {Q:Ms->NM} {x:Int×Value} (hit:EF s.heap it a (sl w m i) i es.size ep) (ho:[Nv,a]=MN) (k:KS w o es ep m) (hx:(order w a es ep)[i]?=OV)
  (h:∀ h',EF h' it a (sl w m (i+1)) (i+1) es.size ep->[WM,it,h']->[Pu,some x.2,h']):[SK,Vl,A,pyNext ZP,Q,E]:=by
 obtain ⟨oi,hoi,hc,hd⟩:=hit;have hT:[ZZ,ZP,TL]:=⟨oi,hoi,hc⟩;have hi:i<=es.size:=by rw [<- g9 w a es ep]; exact Nat.le_of_lt ([Ug,hx]).1
 unfold pyNext;refine [O0,wpAny_attempt ([Og,Yw,hT,eL,([Sa,eL,hT,kU,?_,nk _])])];unfold Builtin.«set_iterator.__next__»;refine [O0,RG];refine [O0,wpAny_fieldsOf hoi hd ?_];dsimp only;refine [O0,wpAny_setEntries_of ho k.da k.fits ?_];rw [[Ph,Pz]];simp only [Int.toNat_natCast];refine [O0,Ed ho k hi ?_];rw [hx,UD];dsimp only;refine [O0,[Y6,hoi,hd,Pz,?_]];have e1:=Heap.get?_update_self (f:=Obj.mapFields (·.setIfInBounds 0 (rawInt (sl w m (i+1):Nat)))) hoi ([Zw,([Zf,hd,_])]);have d1:=[Zf,hd,(·.setIfInBounds 0 (rawInt (sl w m (i+1):Nat)))];refine [O0,[Y6,e1,d1,Pz,?_]];have e2:=Heap.get?_update_self (f:=Obj.mapFields (·.setIfInBounds 1 (rawInt ((i:Int)+1)))) e1 ([Zw,([Zf,d1,_])]);refine [MO,[WY,rfl]];refine [MO,(h _ ⟨_,e2,[Q9,Obj.cls_mapFields ..,([Q9,Obj.cls_mapFields ..,hc])],?_⟩ ?_)]
 .rw [Obj.data_mapFields d1]; simp [rawInt]
 .exact ([Q9,Heap.SameBut.update s.heap it _,Heap.SameBut.update _ it _]).extBut
theorem Jj {Q:Ms->NM} (hh:TZ=none) (hit:EF s.heap it a (sl w m i) i es.size ep) (ho:[Nv,a]=MN) (k:KS w o es ep m) (hx:i=es.size)
  (h:∀ h',[WM,it,h']->[Pu,none,h']):[SK,Vl,A,pyNext ZP,Q,E]:=by
 obtain ⟨oi,hoi,hc,hd⟩:=hit;have hT:[ZZ,ZP,TL]:=⟨oi,hoi,hc⟩;unfold pyNext;refine [O0,wpAny_attempt ([Og,Yw,hT,eL,([Sa,eL,hT,kU,?_,nk _])])];unfold Builtin.«set_iterator.__next__»;refine [O0,RG];refine [O0,wpAny_fieldsOf hoi hd ?_];dsimp only;refine [O0,wpAny_setEntries_of ho k.da k.fits ?_];rw [[Ph,Pz]];simp only [Int.toNat_natCast];refine [O0,Ed ho k (Nat.le_of_eq hx) ?_];rw [Array.getElem?_eq_none (by rw [g9]; omega),Option.map_none];dsimp only;refine [O0,[Y6,hoi,hd,Pz,?_]];refine [M9,?_];simp only [newExc,newTuple];refine [O0,[U9,?_,(by size_fits)]];refine wpAny_bind (m:=firstArgMember _ _) (wpAny_of_eq (a:=Value.none) (by first | rfl | (simp only [firstArgMember]; rfl)) ?_);refine [U9,?_,(by size_fits)];simp only [raiseNew];refine [O0,wpAny_handled ?_]; rw [[Nn,A.in1.handled=none,hh]];refine [O0,[MO,wpAny_throw ?_]];refine [O0,wpAny_isInstance (T:=Wh) (b:=true) ⟨_,Ub,rfl⟩ isSubtype_stop ?_];exact [MO,h _ (((Heap.SameBut.update ..).extBut.push _).push _)]
theorem JB {Q:Qc} {q n:Nat} (hit:EF s.heap it a q i n ep) (h:[Xi,it,s]):[SK,Vl,A,pyIter ZP,Q,E]:=by
 obtain ⟨oi,hoi,hc,hd⟩:=hit;have hT:[ZZ,ZP,TL]:=⟨oi,hoi,hc⟩;refine wpAny_pyIter_slot hT lY ([Sa,lY,hT,tK,?_,vP _]); show [SK,_,_,ret ZP,_,_];exact [MO,[O8,_,TL,_,hT,eL.lookup,h]]
theorem HX (hh:TZ=none) (I:Addr) (hne:a≠I) (k:KS w o es ep m) :
  Walks prog w A I [I,a] [I] es.size (fun i v=>∃ x,(order w a es ep)[i]?=OV/\v=x.2) (fun i h=>EF h I a (sl w m i) i es.size ep/\RO=MN) where
 sub:=[Pg,by simp at hb; simp [hb]]
 frame:=fun _ _ _ st hk=>⟨let ⟨oi,e,r⟩:=st.1; ⟨oi,hk I Pz _ e,r⟩,hk a Pz _ st.2⟩
 item:=fun i s Q E hi st hQ=>by
  have lt:i<(order w a es ep).size:=by rw [g9]; exact hi
  refine JX st.1 st.2 k (x:=(order w a es ep)[i]) (by simp [lt]) fun h' hit' hs'=>?_
  exact hQ _ h' s.toks ⟨_,by simp [lt],rfl⟩ [Mw,hit',hs' a o hne st.2] [Wk,hs' b o [UK,hb (YK)] e]
 done:=fun s Q E st hQ=>Jj hh st.1 st.2 k rfl fun h' he'=>hQ h' s.toks [Wk,he' b o [UK,hb (YK)] e]
 self:=fun _ _ _ _ st hQ=>JB st.1 hQ
theorem IZ {Q:Bool->NM} (hT:[ZZ,VU,"set"]) (h:Q false s):[SK,Vl,A,Builtin.List.listLengthHint VU,Q,E]:=by
 unfold Builtin.List.listLengthHint;refine [O0,wpAny_specialOf hT PySem.F.slot_set_len.lookup ?_];generalize hid:("set.__len__":String)=id0;wp_delta;rw [[Nn,splitId id0=some ("set","__len__"),by subst hid; decide +kernel]]; subst hid;refine [O0,wpAny_isInstance (T:="set") (b:=true) hT (by rw [isSubtype_type]; kernel_rfl) ?_];refine wpAny_ite_split (fun hab=>[O9,hab,M0]) [Qe,?_];refine wpAny_ite_split [Qe,?_] (fun hab=>[O9,Rb,hab]);exact [O0,wpAny_typeOf hT ([MO,h])]
theorem KG (k:KS w o es ep m):PySem.W.KdlSrc prog w "set" a a es.size (fun i v=>∃ x,(order w a es ep)[i]?=OV/\v=x.2) (fun h=>RO=MN) where
 type:=fun _ hm=>⟨o,hm,k.ex.1⟩
 there:=fun _ hm=>[Mw,[Nm,hm],[Nm,hm]]
 keep:=fun _ _ hm hk=>hk a (Qf) o hm
 notList:=Tt
 notTuple:=Tt
 hint:=fun _ _ _ _ hm hq=>IZ ⟨o,hm,k.ex.1⟩ hq
 iter:=fun _ _ hh hm=>⟨_,_,(fun _ _ hq=>Jr hm k hq),HX hh _ ([Ol,([Nm,hm])]) k,[Mw,(⟨_,Ub,rfl,by rw [Gf]⟩),[M8,hm]]⟩
end
end SQ
namespace SQ
open PySem PySem.Spec PyProof.Rows
section
variable {prog:Program} {w:World} {A:Around} {E:Qc} {s:Shared} {T:String} {r d:Addr} {n:Nat} {P:Nat->[Q6,Prop]} {OK:[Qp,Heap]}
theorem Aw {val:Nat->Int}:∀ (n k:Nat) (vs:MS),Ro=n->(∀ (j:Nat) (v:Value),vs[j]?=Nw->∃ t,v=.int (val (k+j)) t)->IntsAre vs ([Tr,List.range' k n,val])
 | 0,_,[],_,_=>.nil
 | n+1,k,v::vs,hl,h=>by
  obtain ⟨t,rfl⟩:=h 0 v rfl;refine .cons _ t (Aw n (k+1) vs [Zh,hl] fun j u hu=>?_);have z:=h (j+1) u [Zh,hu];rwa [[Nn,k+(j+1)=k+1+j,Mr]] at z
theorem sj {Q:Qc} (K:PySem.W.KdlSrc prog w T r d n P OK) (hh:TZ=none) (hok:OK s.heap) (h64:n<64) (val:Nat->Int) (hP:∀ i v,P i v->∃ t,v=.int (val i) t)
  (h:∀ (h1 h':Heap) (tk c:Nat) (out:Nr) (ns':Nk),IntsAre out.toList ns'->ns'.Perm ([Tr,List.range' 0 n,val])->ns'.Pairwise (·<=·)->([Ym,Xz=MN,h1.get? b=MN])-> ([Ym,h1.get? b=MN,Zk=MN])->[QX,Wm]=[Mo,seqObj "list" out c]->Q [MT,Wm] { s with heap:=h',toks:=tk }) :
  [SK,Vl,A,call ([Sl,"sorted"]) [.ref r],Q,E]:=by
 refine Calls.call_function_entry kind_sorted plain_sorted entry_sorted (args_sorted1 _) ?_; unfold Builtin.«sorted»;refine wpAny_bind (m:=checkCount "sorted" 1 1 _) ([MO,([M9,?_])]);refine PySem.W.kdu_collect (A:=A.in1) K hh hok (Nh) fun h' tk acc hk hacc=>?_
 have hl:acc.toList.length=n:=by rw [Array.length_toList]; exact hacc.1
 refine [O0,wpAny_newList ?_ (by rw [hl,sizeLine_eq]; omega)];have hoL:(h'.push (seqObj "list" acc.toList.toArray 0)).get? Wl=[Mo,seqObj "list" acc.toList.toArray 0]:=Ub;have hI:IntsAre acc.toList ([Tr,List.range' 0 n,val]):=Aw n 0 acc.toList hl fun j v e=>by
  rw [Nat.zero_add]; exact hP j v (hacc.2 j v (by rw [<- Array.getElem?_toList]; exact e))
 show wpAny _ _ _ _ _ { s with heap:=h'.push (seqObj "list" acc.toList.toArray 0),toks:=tk };refine [O0,[SS,([Sa,slot_list_sort,([Yb,_,hoL]),entry_list_sort,(list_sort_tree hoL hI L6 fun out ns' a1 a2 a3=>ND),args_list_sort _])]];obtain ⟨c,hc⟩:=sortedHeap_at (out:=out) hoL;refine [MO,[Mu,h h' _ tk c out ns' a1 a2 a3 hk (fun b o e1=>?_) hc]];have lt:=[Nm,e1];rw [sortedHeap_old ([Ol,lt]) (by rw [size_push']; exact [W3,lt]),Heap.get?_push_ne _ _ _ ([Ol,lt])]; exact e1
end
theorem Ec (val:Nat->Nat) (h6:∀ i,val i<6):∀ n,mk val n<64/\∀ k,k<6->((mk val n).testBit k=true↔∃ i,i<n/\val i=k)
 | 0=>[Mw,[Mx,0<64],fun k _=>[Mw,([OE,by simp [mk] at z]),fun pr=>ar pr fun i h _=>[O9,h,([Tg,i])]]]
 | n+1=>by
  obtain ⟨h1,h2⟩:=Ec val h6 n;refine [Mw,Du [T7,h1] [T7,h6 n],[ZI,?_]];have z:=Ka [T7,h1] [T7,h6 n] [Mw,k,hk];dsimp only at z;show (orM (mk val n) (val n)).testBit k=true↔_;rw [z,Bool.or_eq_true,h2 k hk,decide_eq_true_eq];constructor
  .rintro (⟨i,hi,e⟩ | rfl)
   .exact (af i L6 e)
   .exact ([Yb,n,L6])
  .intro pr;refine ar pr fun i hi e=>?_;clear pr;rcases Nat.lt_or_ge i n with lt | ge
   .exact .inl (af i lt e)
   .obtain rfl:i=n:=Mr
    exact .inr e.symm
def ym (ns:N7):N7:=([RQ,6]).filter fun k=>[N8,k∈ns]
theorem DP {ns:N7} {k:Nat}:k∈ym ns↔k<6/\k∈ns:=by unfold ym; rw [List.mem_filter,List.mem_range,decide_eq_true_eq]
theorem IT (ns:N7) (h6:∀ k∈ns,k<6):ofM (mk (fun i=>ns.getD i 0) OY)=ym ns:=by
 have hv:∀ i,(fun i=>ns.getD i 0) i<6:=fun i=>by
  show ns.getD i 0<6;rw [Nj];cases q:ns[i]? with
  | none=>exact (Tt:0<6)
  | some k=>exact h6 k [Xg,q]
 obtain ⟨_,h2⟩:=Ec (fun i=>ns.getD i 0) hv OY;unfold ofM ym;refine List.filter_congr [ZI,?_]
 have hk6:k<6:=[Xs,hk];have z:=h2 k hk6;rw [VF,z,decide_eq_true_eq];constructor
 .intro pr;refine ar pr fun i hi e=>?_;clear pr;have e':ns.getD i 0=k:=e;rw [Nj,[M4,hi]] at e';exact e'▸[QN,hi]
 .intro hm;obtain ⟨i,hi,e⟩:=[TH,hm];exact (af i hi (by show ns.getD i 0=k; rw [List.getD_eq_getElem?_getD,List.getElem?_eq_getElem hi]; exact e))
theorem Bs:∀ {a b:Nk},a.Perm b->a.Pairwise (·<=·)->b.Pairwise (·<=·)->a=b:=fun p ha hb=>List.Perm.eq_of_pairwise (fun x y _ _ h1 h2=>Int.le_antisymm h1 h2) ha hb p
end SQ
namespace L2
open PySem PySem.Spec PyProof.Rows
def SetO (w:World) (a:Addr) (m:Nat):HO:=.ext fun h=>SQ.SetS w h a m
theorem SetO.stay {w:World} {a:Addr} {m:Nat}:∀ h1 h2:Heap,SQ.SetS w h1 a m->(∀ o,h1.get? a=MN->h2.get? a=MN)->SQ.SetS w h2 a m:=fun _ _ x k=>x.at' k
section
variable {X:Cx}
def nV (ns:N7):Nz:=ns.map fun k:Nat=>[W2,PZ]
theorem FE (ns:N7):nV ns=[Wj,ns.map fun k:Nat=>PZ]:=by unfold nV; rw [List.map_map]; rfl
theorem vG {κ:Type}:∀ {kvs:[Pe,κ,V]} {vs:[Pe,κ,Value]},KV kvs vs->vs.map OB=kvs.map OB
 | _,_,.nil=>rfl
 | _,_,.cons r t=>by rw [List.map_cons,List.map_cons,vG t,r.1]
theorem Hl {n:Int} {v:Value} (h:my [T6,n] v=true):∃ t,v=.int n t:=by
 rcases cL h with ⟨i,t,e,rfl⟩ | ⟨x,t,e,_⟩
 .cases e; exact [Nl,t]
 .cases e
theorem Cr (hc:X.calm=true):dM X [Sx,"set"] ([Tb,∃ (p:Addr) (ns:N7),xs=[TN]/\SqL X.K H p (nV ns)/\(∀ k∈ns,k<6)/\∀ (r:Addr) (m:Nat),H r=none->SQ.ofM m=SQ.ym ns->[Xi,r,upd H r (SetO X.w r m)]]):=by
 intro pins s σ H xs us Q I r h;refine e9 h fun p ns eq1 hp h6 q=>?_;clear h;subst eq1;refine [NC,Vw,fun u eq2 ru=>?_];subst eq2;cases ru
 refine [Yo,hp,fun its rv pl hz=>?_]
 have hlen:=Y4;unfold nV at hlen;rw [Mc] at hlen;refine SQ.zx (ns:=ns) (Q4) V6 (fun i v hv=>?_) h6 fun h' tk hS hk=>?_
 .have hv':its[i]?=Nw:=[Ml,hv]
  have hi:i<OY:=by rw [hlen]; exact [L8,hv']
  refine [NC,(rv.get (i:=i) (x:=.int (ns[i]:Nat)) (by unfold nV; rw [List.getElem?_map,List.getElem?_eq_getElem hi]; rfl)),Wd]
  rw [hv'] at hu;cases hu
  obtain ⟨t,rfl⟩:=ru;exact [Mw,t,by rw [List.getD_eq_getElem?_getD,List.getElem?_eq_getElem hi]; rfl]
 .have hn:H L7=none:=[S7,Tx];have esz:P1=OY:=[Ml,hlen.symm]
  rw [esz] at hS;refine ([YU,Vv,_,I.laid (t':=tk) (o:=SetO X.w L7 _) hk Tx (bM hS ?_ SetO.stay),q _ _ hn (SQ.IT ns h6)]);refine bZ hS fun _ pq0=>dZ pq0 fun o es ep ho _=>?_;clear pq0 hS;exact [Mw,o,ho]
theorem rX {s:Shared} {pins:Px} {σ:[MG,RT]} {H:Hp} {Q:VK} {h1 h':Heap} {tk c:Nat} {out:Nr} {ns:Nk} (I:Rw) (a1:IntsAre out.toList ns) (hl:OY<64)
  (k1:[Ym,Xz=MN,h1.get? b=MN]) (k2:[Ym,h1.get? b=MN,Zk=MN]) (hc:[QX,Wm]=[Mo,seqObj "list" out c])
  (q:∀ l,H l=none->[Xi,l,([Py,H,l,NS])]):EP X pins σ Q [MT,Wm] { s with heap:=h',toks:=tk }:=by
 have I1:=I.kept (t':=tk) k1;have hn:H Wm=none:=Up;refine ([YU,[MT,Wm],_,I1.laid (t':=tk) (o:=.lst (NS)) k2 Tx (aH ?_ (bP out.toList c (kx a1) ?_)),q _ hn])
 .rw [Mc]; exact small L6
 .simpa using hc
theorem vh (hc:X.calm=true):dM X ([Sl,"sorted"]) ([Tb,∃ (r:Addr) (m:Nat),xs=[.ref r]/\H r=[Mo,SetO X.w r m]/\∀ l:Addr,H l=none->[Xi,l,([Py,H,l,nV (SQ.ofM m)])]]):=by
 intro pins s σ H xs us Q I r h;refine aX h fun p m eq3 hp q=>?_;clear h;subst eq3;refine [NC,Vw,fun u eq4 ru=>?_];subst eq4;cases ru
 refine cb (I.hok _ _ hp :) fun hS _ _=>?_
 refine bZ hS fun hm pq0=>jF pq0 fun o es ep ho hex hd pr=>?_;clear pq0 hS;have k:SQ.KS X.w o es ep m:=⟨hm,hex,hd,pr⟩;have l6:=SQ.p8 [Mw,m,hm];dsimp only at l6;have hsz:=k.size;have ord:=SQ.sm X.w p es ep;refine SQ.sj (SQ.KG (prog:=X.prog) (a:=p) k) (Q4) ho L6 (fun i=>([Tr,(SQ.order X.w p es ep)[i]?,OB]).getD 0) (fun i v hv=>?_) fun h1 h' tk c out ns' a1 a2 a3 k1 k2 hc'=>?_
 .refine ar hv fun x hx eq5=>?_;clear hv;subst eq5;rw [hx];have hmem:x∈es.toList:=ord.mem_iff.mp (by rw [Array.mem_toList_iff]; exact Array.mem_of_getElem? hx);refine bp (SQ.vC pr x hmem :) fun kk _ e1 pq0=>iC pq0 fun t e2=>?_;clear pq0;exact [Mw,t,by rw [e2]; show [Sy,_]=[Sy,x.1]; rw [e1]]
 .have e0:[Tr,List.range' 0 es.size,(fun i=>([Tr,(SQ.order X.w p es ep)[i]?,OB]).getD 0)]=(SQ.order X.w p es ep).toList.map OB:=by
   apply List.ext_getElem?;intro j;have za:(SQ.order X.w p es ep).toList[j]?=(SQ.order X.w p es ep)[j]?:=MJ
   rw [Mz,Mz,za];rcases Nat.lt_or_ge j es.size with lt | ge
   .rw [List.getElem?_range' lt,UD];have lt':j<(SQ.order X.w p es ep).size:=by rw [SQ.g9]; exact lt
    rw [Nat.zero_add,Nat.one_mul,[XU,lt']]; rfl
   .rw [[Q8,[Zh,ge]],Array.getElem?_eq_none (by rw [SQ.g9]; exact ge)]; rfl
  rw [e0] at a2;have e1:ns'=[Tr,SQ.ofM m,fun k:Nat=>PZ]:=by
   refine SQ.Bs (a2.trans ([Q9,ord.map _,?_])) a3 ?_
   .rw [SQ.Ay pr]
   .rw [List.pairwise_map];exact (SQ.yZ m).imp fun h=>Mr
  subst e1;exact rX I a1 (Vp) k1 k2 hc' fun l hl=>by rw [<- FE]; exact q l hl
theorem uO (hc:X.calm=true):dM X ([Sl,"sorted"]) ([Tb,∃ (p:Addr) (kvs:Vm) (ns:Nk),xs=[TN]/\H p=[Mo,Yj]/\kvs.map OB=ns.map Sum.inl/\OY<64/\ ∀ (l:Addr) (ns':Nk),H l=none->ns'.Perm ns->ns'.Pairwise (·<=·)->[Xi,l,([Py,H,l,ns'.map V.int])]]):=by
 intro pins s σ H xs us Q I r h;refine fe h fun p kvs ns eq6 hp hk h64 q=>?_;clear h;subst eq6;refine [NC,Vw,fun u eq7 ru=>?_];subst eq7;cases ru
 refine cb (I.hok _ _ hp :) fun _ lo pq0=>[W5,fun vs kv hD=>?_];clear pq0;obtain ⟨ep,hat⟩:=hD.dictAt;have hkv:vs.map OB=kvs.map OB:=vG kv;have hlen:Ro=OY:=by
  have z:=[R5,X9,hkv.trans hk]; simpa using z
 refine SQ.sj (PySem.W.kdl_dict (knd:=cG X.prog X.w) (kvs:=vs) (ep:=ep) lo) (Q4) hat L6 (fun i=>(ns[i]?).getD 0) (fun i v hv=>?_) fun h1 h' tk c out ns' a1 a2 a3 k1 k2 hc'=>?_
 .refine bU hv fun k x hx hi=>?_;clear hv;have e1:(vs.map OB)[i]?=some k:=by rw [List.getElem?_map,hx]; rfl
  rw [hkv,hk,Mz] at e1;cases q':ns[i]? with
  | none=>rw [q'] at e1; cases e1
  | some n =>
   rw [q'] at e1;cases e1
   exact Hl hi
 .have e0:[Tr,List.range' 0 Ro,(fun i=>(ns[i]?).getD 0)]=ns:=by
   apply List.ext_getElem?;intro j;rw [Mz,hlen];rcases Nat.lt_or_ge j ns.length with lt | ge
   .rw [List.getElem?_range' lt,UD,Nat.zero_add,Nat.one_mul,[M4,lt]]; rfl
   .rw [[Q8,[Zh,ge]],[Q8,ge]]; rfl
  rw [e0] at a2;exact rX I a1 (by rw [a2.length_eq]; omega) k1 k2 hc' fun l hl=>q l ns' hl a2 a3
end
end L2
namespace L2
open PySem PySem.Spec PyProof.Rows
theorem pw (ns:Nk):∀ n,n<=OY->preSum (fun i=>(ns[i]?).getD 0) n=(ns.take n).sum
 | 0,_=>by rw [List.take_zero]; rfl
 | n+1,h=>by
  show preSum _ n+(ns[n]?).getD 0=_;rw [pw ns n L6,List.take_add_one,[M4,[Yu,n<OY]],List.sum_append];simp
section
variable {X:Cx}
theorem kE (hc:X.calm=true):dM X ([Sl,"sum"]) ([Tb,∃ (p:Addr) (ns:Nk),xs=[TN]/\SqL X.K H p (NS)/\Q (.int ns.sum) H]):=by
 intro pins s σ H xs us Q I r h;refine aX h fun p ns eq1 hp q=>?_;clear h;subst eq1;refine [NC,Vw,fun u eq2 ru=>?_];subst eq2;cases ru
 refine [Yo,hp,fun its rv pl hz=>?_]
 have hl:=V6;have hlt:p<L7:=by refine ar hl fun _ e _=>?_;clear hl; exact Vt
 have hlen:=Y4;rw [Mc] at hlen;refine call_sum_walkG ([XY,hl,?_]);refine ⟨L7,[L7,p],[L7],P1,_,_,fun i=>(ns[i]?).getD 0,rfl,Walks.list (A:=X.A.in1) (Q4) _ p ([Ol,hlt]) Ox, [Mw,aC _ (Ub) rfl rfl,hl.push _],[Pg,?_],fun i v hP=>?_,fun h' tk t' hk=>?_⟩
 .rw [Zb];rcases List.mem_cons.mp hb with rfl | h
  .exact Wv
  .rw [[MQ,h]];exact [W3,hlt]
 .have hv:its[i]?=Nw:=[Ml,hP]
  have hi:i<OY:=by rw [hlen]; exact [L8,hv]
  refine [NC,(rv.get (i:=i) (x:=.int ns[i]) (by rw [List.getElem?_map,List.getElem?_eq_getElem hi]; rfl)),Wd]
  rw [hv] at hu;cases hu
  obtain ⟨t,rfl⟩:=ru;exact [Mw,t,by show [Sy,ns[i]]=[Sy,(ns[i]?).getD 0]; rw [List.getElem?_eq_getElem hi]; rfl]
 .refine (aB (.int ns.sum) H (I.kept (t':=tk) fun b o x=>hk b o (fun hm=>?_) ([M8,x])) [W4,t'] q)
  .rw [[MQ,hm]] at x;exact Nat.lt_irrefl _ ([Nm,x])
  .have e:P1=OY:=[Ml,hlen.symm]
   rw [e,pw ns OY Tx,NL]
theorem Ac {K:M3} (hK:X.K=K) (hc:X.calm=true):dM X ([Sl,"sum"]) ([Tb,∃ (p:Addr) (ns:Nk),xs=[TN]/\SqL K H p (NS)/\Q (.int ns.sum) H]):=hK▸kE hc
theorem zL (hc:X.calm=true):dM X (PF) ([Tb,∃ (p:Addr) (kvs:Vm),xs=[TN]/\H p=[Mo,Yj]/\Q7<=1000/\∀ l,H l=none->[Xi,l,([Py,H,l,(kvs.map fun kv=>kV kv.1)])]]):=by
 intro pins s σ H xs us Q I r h;refine e9 h fun p kvs eq3 hp h1 q=>?_;clear h;subst eq3;refine [NC,Vw,fun u eq4 ru=>?_];subst eq4;cases ru
 refine cb (I.hok _ _ hp :) fun _ lo pq0=>[W5,fun vs kv hD=>?_];clear pq0;obtain ⟨ep,hat⟩:=hD.dictAt;have hkv:vs.map OB=kvs.map OB:=vG kv;have hlen:Ro=Q7:=by
  have z:=[R5,X9,hkv]; simpa using z
 have hn:H L7=none:=[S7,Tx];refine PySem.W.kdl_call (PySem.W.kdl_dict (knd:=cG X.prog X.w) (kvs:=vs) (ep:=ep) lo) (Q4) hat (Nh) fun h' tk acc c hk hS hacc=>?_
 refine ([YU,Vv,_,(I.laid (t':=tk) (o:=.lst (kvs.map fun kv=>kV kv.1)) hk Tx (aH (by rw [List.length_map,sizeLine_eq]; omega) (bP acc.toList c ?_ [Zh,hS]))),q _ hn]);have key:∀ (kvs:Vm) (us:MS) (k:Nat),us.length=Q7->(∀ (j:Nat) (v:Value),us[j]?=Nw->∃ kk,[Tr,kvs[j]?,OB]=some kk/\my kk v=true)->[Vi,(kvs.map fun kv=>kV kv.1)]:=by
  intro kvs;induction kvs with
  | nil=>intro us _ h0 _; rw [List.length_eq_zero_iff.mp h0]; exact .nil
  | cons a kvs ih =>
   intro us k hl h;match us,hl with
   | v::us,hl =>
    refine ar (h 0 v rfl :) fun kk e hi=>?_
    cases e
    refine .cons ?_ (ih us k (by simpa using hl) fun j u hu=>by simpa using h (j+1) u (by simpa using hu));rcases cL hi with ⟨i,t,e,rfl⟩ | ⟨x,t,e,rfl⟩
    .show RelV (kV a.1) _;rw [show a.1=Sum.inl i from e]; exact ⟨t,rfl⟩
    .show RelV (kV a.1) _;rw [show a.1=Sum.inr x from e]; exact ⟨t,rfl⟩
 refine key kvs acc.toList 0 (by rw [Array.length_toList,hacc.1,hlen]) fun j v hv=>?_
 refine bU (hacc.2 j v (by rw [<- Array.getElem?_toList]; exact hv) :) fun k x hx hi=>?_
 refine (af k ?_ hi);have e1:(vs.map OB)[j]?=some k:=by rw [List.getElem?_map,hx]; rfl
 rw [hkv,Mz] at e1;exact e1
def tD1 (tk tv:TE):TE:=[QS,∀ D,H D=none->tk σ (upd H D (.dK [])) [VW,tv σ H1 fun y H2=>∃ k:Key,x=kV k/\H2 D=[Mo,.dK []]/\[Xi,D,(upd H2 D (.dK [(k,y)]))]]]
theorem Ky {k v:Expr} {tk tv:TE} {pos:Pos} (hk:PE X k tk) (hv:PE X v tv):PE X (.Dict [some k] [v] pos) (tD1 tk tv):=by
 intro pins s σ H Q I h;have hn:H L7=none:=[S7,Tx];have I1:[Ts,X,σ,upd H L7 (.dK []),s,[Nf,"dict",.dict #[]]]:=I.laid (a:=s.heap.objs.size) (o:=.dK []) (t':=s.toks) (fun _ _ q=>[M8,q]) Tx (xv s.heap I.big);refine wpAny_Dict_walk (knd:=cG X.prog X.w) rfl rfl ([QH,_]) ([Mx,1<=15]) ?_;refine pairTrees_cons_walk [ZS,hk pins _ σ _ _ I1 (h _ hn),fun kv s2 pr=>aX pr fun x H1 I2 rx q1=>[Y5,hv pins s2 σ H1 _ I2 q1,fun vv s3 pr=>aX pr fun y H2 I3 ry pq0=>bp pq0 fun kk ex hD q=>pairTrees_nil_walk ?_]];have hki:my kk kv=true:=by
  rw [ex] at rx;cases kk with
  | inl i=>obtain ⟨t,rfl⟩:=rx; exact PySem.intKind_is X.prog X.w i t
  | inr z=>obtain ⟨t,rfl⟩:=rx; exact PySem.strKind_is X.prog X.w z t
 refine cb (I3.hok _ _ hD :) fun _ lo pq0=>[W5,fun vs kv0 hD3=>?_];clear pq0;cases kv0
 refine (aC [(kk,vv)] (bM hki rfl trivial) hD3 (fun h' hD' sb=>?_));refine ([YU,Vv,_,(I3.write (x:=s.heap.objs.size) (e:=s.heap.objs.size) (o:=.dK [(kk,y)]) (t':=s3.toks+1) (by rw [hD]; exact trivial) (Qf) (fun b u nb hb=>?_) ?_ ?_),q])
 .rw [sb.2 b nb]; exact hb
 .refine dZ hD' fun o _ _ e _=>?_;clear hD';exact [Mw,o,e]
 .exact (bM (by rw [sizeLine_eq]; show 1<=_; omega) lo (af [(kk,vv)] (.cons [P7,ry] .nil) hD'))
end
end L2
namespace L2
open PySem PySem.Spec PyProof.Rows
section
variable {X:Cx} {CX:CXT} {k:Nat} {f:Addr} {fd:FuncData} {ps:MB} {sp:Sp} {dvs:Nz} {ds:MS} {E:XK} {m:Str} {pos apos:Pos} {o:Expr} {ta:TE}
theorem BJ {pl:Sem Bool} (he:PE X o ta) (F:FnOk X.prog X.w X.K X.mg X.base CX k f fd ps sp) (hr:Room k X.A) (hb:Binds X.K fd ps ds) (hd:Vals dvs ds) (hx:Passes CX X E)
  (ht:[Oa,([UM,([Tp,o,m]),[],[]])]=(do let ov <- eval o X.env; standAt apos.atName; let (f,first) <- holding [ov] (getMethod ov m pl); callWith pos f first (backTo pos (starEach [] X.env)) (backToKw pos (keywordEach [] X.env))):=by rfl) :
  PE X ([UM,([Tp,o,m]),[],[]]) (uH X.K f m sp dvs E ta HH):=by
 intro pins s σ H Q I h;refine PySem.W.methodCall_KW (pl:=pl) [ZS,he pins s σ H _ I h,fun u s1 pr=>aX pr fun x H1 I1 rx pq0=>cZ pq0 fun C a dx fs ex ea c hm pq1=>bZ pq1 fun l q=>?_] ht;subst ex; obtain rfl:u=[Te,a]:=rx;refine qw I1 ea c hm l ?_;exact PySem.W.callWith_K0 (first:=[QM]) I1.kIn hm.kp (u6 (us:=[QM]) (vs:=[QM]) F hr hb hd hx I1 (.cons rfl .nil) q)
theorem tT {K:M3} {pl:Sem Bool} (hK:X.K=K) (he:PE X o ta) (F:FnOk X.prog X.w X.K X.mg X.base CX k f fd ps sp) (hr:Room k X.A) (hb:Binds X.K fd ps ds) (hd:Vals dvs ds) (hx:Passes CX X E)
  (ht:[Oa,([UM,([Tp,o,m]),[],[]])]=(do let ov <- eval o X.env; standAt apos.atName; let (f,first) <- holding [ov] (getMethod ov m pl); callWith pos f first (backTo pos (starEach [] X.env)) (backToKw pos (keywordEach [] X.env))):=by rfl) :
  PE X ([UM,([Tp,o,m]),[],[]]) (uH K f m sp dvs E ta HH):=hK▸BJ (pl:=pl) he F hr hb hd hx ht
end
end L2
namespace L2
open PySem PySem.Spec PyProof.Rows
section
variable {X:Cx}
end
end L2
namespace L2
open PySem PySem.Spec PyProof.Rows
section
variable {X:Cx}
end
end L2
namespace L2
open PySem PySem.Spec PyProof.Rows
section
variable {X:Cx}
end
end L2
namespace K82
open PySem L2
def top (i:Nat):Stmt:=PySem.Challenge.pw_earbells_k82_whole_pace_and_round.main.body.getD i (.Pass ⟨0,0,0,0⟩)
abbrev g7:Stmt:=top 14
abbrev fF:Stmt:=top 15
abbrev eZ:Stmt:=top 16
abbrev ma:Stmt:=inClass (top 18) 0
abbrev sQ:Stmt:=inClass (top 18) 1
abbrev vJ:Stmt:=inClass (top 18) 2
abbrev ml:Stmt:=inClass (top 19) 0
abbrev mP:Stmt:=inClass (top 20) 0
abbrev lV:Stmt:=inClass (top 21) 0
abbrev iV:Stmt:=top 22
abbrev rW:Stmt:=top 23
abbrev oh:Stmt:=top 32
abbrev oK:Stmt:=top 33
abbrev nU:Stmt:=top 34
abbrev hX:Stmt:=top 35
abbrev fW:Stmt:=top 36
abbrev nY:Stmt:=top 37
abbrev lG:Stmt:=top 39
abbrev lT:Stmt:=top 40
abbrev gP:Stmt:=top 41
abbrev vV:Stmt:=top 43
abbrev uZ:Stmt:=top 44
abbrev rT:Stmt:=top 45
abbrev oB:Stmt:=top 46
abbrev ow:Stmt:=top 48
abbrev fO:Stmt:=top 49
abbrev lR:Stmt:=top 51
abbrev iI:Stmt:=top 62
abbrev jS:Stmt:=top 63
abbrev fU:Stmt:=top 64
abbrev jW:Stmt:=top 65
abbrev lF:Stmt:=top 66
abbrev jd:Stmt:=top 67
abbrev fD:Stmt:=top 75
abbrev lH:Stmt:=top 76
abbrev vO:Stmt:=top 78
abbrev nB:Stmt:=top 80
abbrev eB:Stmt:=top 81
abbrev yH:Stmt:=top 82
abbrev j2:Stmt:=top 83
abbrev j0:Stmt:=top 84
abbrev ou:Stmt:=top 85
abbrev oz:Stmt:=top 86
abbrev rP:Stmt:=top 87
abbrev zX:Stmt:=top 88
abbrev nG:Stmt:=top 99
abbrev eE:Stmt:=top 100
abbrev gw:Stmt:=top 101
abbrev iG:Stmt:=top 103
abbrev jz:Stmt:=top 104
abbrev kg:Stmt:=top 105
abbrev jY:Stmt:=top 106
abbrev jA:Stmt:=top 107
abbrev oo:Stmt:=top 109
abbrev uV:Stmt:=inClass (top 110) 0
abbrev zg:Stmt:=inClass (top 110) 1
abbrev jM:Stmt:=inClass (top 110) 2
abbrev vD:Stmt:=inClass (top 110) 3
abbrev jj:Stmt:=inClass (top 110) 4
abbrev zq:Stmt:=top 112
abbrev yT:Stmt:=top 113
abbrev rM:Stmt:=top 114
abbrev vN:Stmt:=top 115
abbrev zW:Stmt:=top 116
abbrev v7:Stmt:=top 117
abbrev uT:Stmt:=top 118
abbrev vf:Stmt:=top 119
abbrev jZ:Stmt:=top 120
abbrev uM:Stmt:=top 121
abbrev uR:Stmt:=top 122
abbrev FQ:Stmt:=top 123
inductive InR:List Int->List Int->Prop where
 | nil:InR [] []
 | cons {n m:Int} {ns ms:List Int} (h0:0<=n) (h1:n<m) (t:InR ns ms):InR (n::ns) (m::ms)
theorem take_snoc {α:Type} {l:QY} {i:Nat} {x:α} (h:l[i]?=OV):l.take (i+1)=l.take i++[x]:=by
 rw [List.take_succ,h];rfl
theorem Eo {ns:Nk} {i:Nat} {z:Int} (h:ns[i]?=YW):atI (NS) X4=[Mo,[W2,z]]:=bh (by rw [List.getElem?_map,h]; rfl)
structure Blt (mg:Str->Option Value):Prop where
 all_:mg "all"=none
 any_:mg "any"=none
 bool_:mg "bool"=none
 divmod_:mg "divmod"=none
 enumerate_:mg "enumerate"=none
 int_:mg "int"=none
 isinstance_:mg "isinstance"=none
 len_:mg "len"=none
 list_:mg "list"=none
 max_:mg "max"=none
 min_:mg "min"=none
 range_:mg "range"=none
 set_:mg "set"=none
 sorted_:mg "sorted"=none
 str_:mg "str"=none
 sum_:mg "sum"=none
 tuple_:mg "tuple"=none
 zip_:mg "zip"=none
 ValueError_:mg "ValueError"=none
 abs_:mg "abs"=none
theorem J8 {K:M3} {h:Heap} {mg:Str->Ms} (X:K.In h) (G:[Y2,mg]) (z1:[MW,K,UB]=OO) (z2:[MW,K,UE]=OO) (z3:[MW,K,"bool"]=OO) (z4:[MW,K,"divmod"]=OO)
  (z5:[MW,K,U5]=OO) (z6:[MW,K,"int"]=OO) (z7:[MW,K,"isinstance"]=OO) (z8:[MW,K,"len"]=OO) (z9:[MW,K,"list"]=OO) (z10:[MW,K,"max"]=OO)
  (z11:[MW,K,"min"]=OO) (z12:[MW,K,Vk]=OO) (z13:[MW,K,"set"]=OO) (z14:[MW,K,"sorted"]=OO) (z15:[MW,K,Z3]=OO) (z16:[MW,K,"sum"]=OO)
  (z17:[MW,K,"tuple"]=OO) (z18:[MW,K,"zip"]=OO) (z19:[MW,K,"ValueError"]=OO) (z20:[MW,K,"abs"]=OO):Q5 :=
 ⟨[Oh,G,z1],[Oh,G,z2],[Oh,G,z3],[Oh,G,z4],[Oh,G,z5],[Oh,G,z6],[Oh,G,z7],[Oh,G,z8],[Oh,G,z9],[Oh,G,z10],[Oh,G,z11], [Oh,G,z12],[Oh,G,z13],[Oh,G,z14],[Oh,G,z15],[Oh,G,z16],[Oh,G,z17],[Oh,G,z18],[Oh,G,z19],[Oh,G,z20]⟩
theorem Dn (K:M3):[Om,[Sx,"int"],[Sx,"int"]]=Ys:=O6
theorem C8 (K:M3):[Om,[Sx,"int"],[Sx,"bool"]]=RP:=O6
theorem jN (K:M3):[Om,[Sx,Z3],[Sx,Z3]]=Ys:=O6
theorem vi (K:M3):[Om,[Sx,"int"],[Sx,Z3]]=RP:=O6
theorem IL (K:M3):[Om,[Sx,"bool"],[Sx,Z3]]=RP:=O6
theorem JT (K:M3):[Om,[Sx,"bool"],[Sx,"int"]]=Ys:=O6
theorem Jp (K:M3):[Om,[Sx,"bool"],[Sx,"bool"]]=Ys:=O6
theorem JR (K:M3):[Om,[Sx,"NoneType"],[Sx,Z3]]=RP:=O6
theorem Jc (K:M3):[Om,[Sx,"NoneType"],[Sx,"int"]]=RP:=O6
theorem J3 (K:M3):[Om,PF,[Sx,Z3]]=RP:=O6
theorem JN (K:M3):[Om,PF,[Sx,"int"]]=RP:=O6
theorem Kf (K:M3):[Om,OS,[Sx,Z3]]=RP:=O6
theorem Kb (K:M3):[Om,OS,[Sx,"int"]]=RP:=O6
theorem JM (K:M3):[Om,[Sx,Z3],[Sx,"int"]]=RP:=O6
end K82
namespace K82
open PySem L2
section
variable {P:Program} {w:World} {K:M3} {mg:Str->Ms} {base:Heap} {f:Addr} {fd:FuncData}
structure Kind (K:PySem.W.Frag) (H:Hp) (v:V) (isS isW:Bool):Prop where
 ex:∃ (t:Value) (bi bb:Bool),TyOf K H v t/\PySem.W.kitOne K t (.type "str")=some isS/\PySem.W.kitOne K t (.type "int")=some bi/\(bi=true->PySem.W.kitOne K t (.type "bool")=some bb)/\isW=(bi && !bb)
theorem rG (H:Hp) (i:Int):Kind K H (RF) false true:=⟨_,true,false,RF,vi K,Dn K,fun _=>C8 K,rfl⟩
theorem Ga (H:Hp) (b:Bool):Kind K H (.bl b) false false:=⟨_,true,true,.bl b,IL K,JT K,fun _=>Jp K,rfl⟩
theorem E1 (H:Hp):Kind K H .non false false:=⟨_,false,false,.non,JR K,Jc K,[UK,[PL,z]],rfl⟩
theorem FV {H:Hp} {a:Addr} {xs:Nz} (h:H a=[MI,xs]):Kind K H VU false false:=⟨_,false,false,.lst h,J3 K,JN K,[UK,[PL,z]],rfl⟩
theorem EC {H:Hp} {a:Addr} {xs:Nz} (h:H a=[OD,xs]):Kind K H VU false false:=⟨_,false,false,.tup h,Kf K,Kb K,[UK,[PL,z]],rfl⟩
theorem EX (H:Hp) (x:Str):Kind K H [XE,x] true false:=⟨_,false,false,.str x,jN K,JM K,[UK,[PL,z]],rfl⟩
def gi (K:M3):Sp:=[MV,∃ (v:V) (isS isW:Bool),vs=[v]/\Kind K H v isS isW/\Q (.bl isW) H]
theorem jV:[QI,[OL],[OL],g7]:=R1
theorem jQ (F:[UG,Yx,Yx,g7]) (B:Q5):FnOk P w K mg base CX0 1 f fd [OL] (gi K):=by
 refine [T5,jV]
 .refine dZ h fun v isS isW eq1 _=>?_;clear h;subst eq1;rfl
 refine fP h fun v isS isW eq2 kd q=>?_;clear h;subst eq2;refine fe kd.ex fun t bi bb ty k1 k2 k3 k4=>?_
 refine [Yt,_,(av (aI (oG (aL (dI "int") rfl RS NY [RL,NB,eK (v:=.ty "int") rfl B.int_ OZ rfl]) (lj (FZ (aL (dI "bool") rfl RS NY [RL,NB,eK (v:=.ty "bool") rfl B.bool_ PyProof.Rows.boot_bool rfl]))))))];refine [Mu,dh _ _ _ rfl ty k2 ND];subst k4;cases bi with
 | false=>exact cw q
 | true =>
  refine WJ;refine [Mu,dh _ _ _ rfl ty (k3 rfl) ND];exact q
def cE (K:M3):Sp:=[MV,∃ (p C dx:Addr) (v:V),vs=[TN,v]/\H p=[Mo,[Ve,C,[]]]/\Cls K C/\NoAttr K C Po/\Q .non (upd H p ([Ve,C,[(Po,v)]]))]
def hE (K:M3):Sp:=[MV,∃ (p C dx:Addr),vs=[TN]/\H p=[Mo,[Ve,C,[]]]/\Cls K C/\NoAttr K C Po/\Q .non (upd H p ([Ve,C,[(Po,.int 1)]]))]
theorem sX:[QI,[Nd,Po],[Nd,Po],ma]:=R1
theorem qp (F:[UG,Ql,"Rule.__init__",ma]):FnOk P w K mg base CX0 1 f fd [Nd,Po] (cE K):=by
 refine [T5,sX]
 .refine fB h fun p C dx v eq3 _=>?_;clear h;subst eq3;rfl
 refine cZ h fun p C dx v eq4 hp cl na q=>?_;clear h;subst eq4;refine [Yt,_,av (zF NB RB rfl)];exact [MR,[NA,p,C,dx,[],hp,cl,na,(aH ([Mx,0<1000]) q)]]
theorem sO:[QI,[Nd,QU],[Nd,QU],ml]:=R1
theorem qA {R g:Addr} {gd:FuncData} (F:[UG,Ql,"All.__init__",ml]) (mR:mg "Rule"=[Mv,R]) (c:ClsFn K R Ql g) (G:FnOk P w K mg base CX0 1 g gd [Nd,Po] (cE K)) (b:[TB,K,gd,[Nd,Po]]) :
  FnOk P w K mg base CX0 2 f fd [Nd,QU] (cE K):=by
 refine [T5,sO]
 .refine fB h fun p C dx v eq5 _=>?_;clear h;subst eq5;rfl
 refine cZ h fun p C dx v eq6 hp cl na q=>?_;clear h;subst eq6;refine [Yt,_,(av (cH (iL rfl mR c G hr b .nil dJ [RL,NB,P0])))];exact [MR,[NA,p,C,dx,v,hp,cl,na,q]]
theorem qZ:[QI,[Nd,Po],[Nd,Po],lV]:=R1
theorem tf {R g:Addr} {gd:FuncData} (F:[UG,Ql,"Some.__init__",lV]) (mR:mg "Rule"=[Mv,R]) (c:ClsFn K R Ql g) (G:FnOk P w K mg base CX0 1 g gd [Nd,Po] (cE K)) (b:[TB,K,gd,[Nd,Po]]) :
  FnOk P w K mg base CX0 2 f fd [Nd,Po] (cE K):=by
 refine [T5,qZ]
 .refine fB h fun p C dx v eq7 _=>?_;clear h;subst eq7;rfl
 refine cZ h fun p C dx v eq8 hp cl na q=>?_;clear h;subst eq8;refine [Yt,_,(av (cH (iL rfl mR c G hr b .nil dJ [RL,NB,P0])))];exact [MR,[NA,p,C,dx,v,hp,cl,na,q]]
theorem rV:[QI,[Nd],[Nd],mP]:=R1
theorem qX {R g:Addr} {gd:FuncData} (F:[UG,Ql,"Any.__init__",mP]) (mR:mg "Rule"=[Mv,R]) (c:ClsFn K R Ql g) (G:FnOk P w K mg base CX0 1 g gd [Nd,Po] (cE K)) (b:[TB,K,gd,[Nd,Po]]) :
  FnOk P w K mg base CX0 2 f fd [Nd] (hE K):=by
 refine [T5,rV]
 .refine dZ h fun p C dx eq9 _=>?_;clear h;subst eq9;rfl
 refine fe h fun p C dx eq0 hp cl na q=>?_;clear h;subst eq0;refine [Yt,_,av (cH (iL rfl mR c G hr b .nil dJ (ae NB TV)))];exact [Mu,[NA,p,C,dx,.int 1,hp,cl,na,q]]
structure Own (K:PySem.W.Frag) (C fi:Addr):Prop where
 cl:Cls K C
 nN:NoAttr K C "need"
 mks:Mk K C fi
theorem lO:¬ (V.str [Rk,UE]=V.str [Rk,UB]):=by
 intro h;injection h with h;exact [O9,h,Rb]
theorem fM {H:Hp} {x dx C:Addr} {l1 l2:[V3,V]} (nx:H x=none) (ndx:H dx=none):[Pc,(upd (upd (upd H dx (.own x)) x ([Ve,C,l1])) x ([Ve,C,l2]))]:=[RU,by
 rw [aK (aV e nx),aK (aV e nx),aK (aV e ndx)];exact e]
def Made (C:Addr) (n:Int) (H:Hp) (Q:VK):Prop:=∀ x dx H',Pk->H x=none->H' x=[Mo,[Ve,C,[(Po,XB)]]]->[Xi,x,H']
def Lx (K:M3) (H:Hp) (wd:V) (many:Int):Prop:=(∃ t,wd=.str t/\t≠UB/\t≠UE)\/(∃ n,wd=XB/\¬ (1<=n/\n<=many))\/Kind K H wd false false
def jw (cA cY cN:Addr):Sp:=fun vs H Q E=>∃ (t:Str) (many:Int),vs=[.str t,.int many]/\(t=UB/\Made cA many H Q\/t=UE/\Made cY 1 H Q\/t≠UB/\t≠UE/\E [MT,cN] none H)
theorem vS:[QI,[Ta,QU],[Ta,QU],rW]:=R1
theorem vY {cA cY cN fA fY:Addr} {dA dY:FuncData} (F:[UG,VP,VP,rW]) (mA:mg "All"=[Mv,cA]) (mY:mg "Any"=[Mv,cY]) (mN:mg "NoRule"=[Mv,cN]) (xN:yC K cN) (oA:Own K cA fA) (oY:Own K cY fY)
  (GA:FnOk P w K mg base CX0 2 fA dA [Nd,QU] (cE K)) (bA:[TB,K,dA,[Nd,QU]]) (GY:FnOk P w K mg base CX0 2 fY dY [Nd] (hE K)) (bY:[TB,K,dY,[Nd]]) :
  FnOk P w K mg base (CXE P w) 4 f fd [Ta,QU] (jw cA cY cN):=by
 refine F.okX vS Si (fun cdv A' outer s H vs Q E hr h=>?_)
 .refine bU h fun t many eq1 _=>?_;clear h;subst eq1;rfl
 refine bU h fun t many eq2 hw=>?_;clear h;subst eq2;refine [XD,[Z5,aZ c8 NB a8 U7,(av (aI (pZ oA.mks GA hr rfl mA bA .nil dJ [Ou,P0])))],(ak [Z5,aZ c8 NB a8 U7,av (aI (qV oY.mks GY hr rfl mY bY .nil dJ))] (av (tY uc rfl rfl mN xN)))]
 refine ([U8,ND]);rcases hw with ⟨rfl,q⟩ | ⟨rfl,q⟩ | ⟨n1,n2,q⟩
 .refine dC [Qe,?_] (fun c=>[O9,([MA,rfl]),c]);refine [Mu,fun x dx nx ndx ne=>([NA,x,cA,dx,_,aq,oA.cl,oA.nN,([QW,?_])])];exact q x dx _ (fM nx ndx) nx aq
 .refine dC (fun c=>[O9,([MF,c]),lO]) [Qe,?_];refine ([U8,ND]);refine dC [Qe,?_] (fun c=>[O9,([MA,rfl]),c]);refine fun x dx nx ndx ne=>([SO,x,cY,dx,aq,oY.cl,oY.nN,([QW,?_])])
  exact q x dx _ (fM nx ndx) nx aq
 .refine dC (fun c=>[O9,(V.str.inj ([MF,c])),n1]) [Qe,?_];refine ([U8,ND]);refine dC (fun c=>[O9,(V.str.inj ([MF,c])),n2]) [Qe,?_];exact q
def i9 (K:M3) (cA cY cS cN:Addr):Sp:=fun vs H Q E=>∃ (wd:V) (many:Int),vs=[wd,.int many]/\(wd=.str UB/\Made cA many H Q\/wd=.str UE/\Made cY 1 H Q\/(∃ n,wd=XB/\1<=n/\n<=many/\Made cS n H Q)\/Lx K H wd many/\E [MT,cN] none H)
theorem lJ:[QI,[Ut,QU],[Ut,QU],iV]:=R1
theorem lM {cA cY cS cN fS:Addr} {dS:FuncData} (F:[UG,"rule_of","rule_of",iV]) (B:Q5) (mS:mg "Some"=[Mv,cS]) (mN:mg "NoRule"=[Mv,cN]) (xN:yC K cN) (oS:Own K cS fS) (GS:FnOk P w K mg base CX0 2 fS dS [Nd,Po] (cE K)) (bS:[TB,K,dS,[Nd,Po]])
  (C_text:CalX P w K mg base 4 VP [Ta,QU] (jw cA cY cN)) (C_whole:[R3,1,Yx,[OL],gi K]):FnOk P w K mg base (CXE P w) 5 f fd [Ut,QU] (i9 K cA cY cS cN):=by
 refine F.okX lJ Si (fun cdv A' outer s H vs Q E hr h=>?_)
 .refine bU h fun wd many eq3 _=>?_;clear h;subst eq3;rfl
 refine bU h fun wd many eq4 hw=>?_;clear h;subst eq4;have hr3:Room 3 _:=Wx;refine [XD,[Z5,cO (aL (dI Z3) rfl RS NY [RL,NB,eK (v:=.ty Z3) rfl B.str_ Q3 rfl]),(av (aI (IY C_text BW hr M0 rfl [RL,NB,P0])))],(ak [Z5,PW.pt (v8 (cO [S4,C_whole,RH]) (qe (gN hJ hJ au NB RB))),av (aI (pZ oS.mks GS hr3 rfl mS bS .nil dJ RH))] (av (tY uc rfl rfl mN xN)))]
 rcases hw with ⟨rfl,q⟩ | ⟨rfl,q⟩ | ⟨n,rfl,h1,h2,q⟩ | ⟨⟨t,rfl,n1,n2⟩ | ⟨n,rfl,hn⟩ | kd,q⟩
 .refine [Mu,dh _ _ _ rfl [XE,_] (jN K) [Mu,WJ]];exact [MR,[Xp,UB,_,[T6,[P7,q]]]]
 .refine [Mu,dh _ _ _ rfl [XE,_] (jN K) [Mu,WJ]];exact [MR,[Xp,UE,_,([PY,.inl [P7,q]])]]
 .refine [Mu,dh _ _ _ rfl (.int _) (vi K) [Mu,T8]];refine [Mu,iR _ _ _ rfl (rG H n) [Mu,WJ]];refine [Mu,XF];rw [[MA,h1]];refine cv [Mu,XF];rw [[MA,h2]];refine WJ;refine [Mu,fun x dx nx ndx ne=>([NA,x,cS,dx,_,aq,oS.cl,oS.nN,([QW,?_])])];exact q x dx _ (fM nx ndx) nx aq
 .refine [Mu,dh _ _ _ rfl [XE,_] (jN K) [Mu,WJ]];exact [MR,[Xp,t,_,([ZT,bM n1 n2 q])]]
 .refine [Mu,dh _ _ _ rfl (.int _) (vi K) [Mu,T8]];refine [Mu,iR _ _ _ rfl (rG H n) [Mu,WJ]];refine [Mu,XF];refine dC (fun c1=>?_) [Qe,[Mu,cw q]];refine [Mu,XF];refine dC (fun c2=>[O9,[Mw,[MF,c1],[MF,c2]],hn]) [Qe,q]
 .refine fe (id kd.ex :) fun t bi bb ty k1 k2 k3 k4=>?_
  refine [Mu,dh _ _ _ rfl ty k1 [Mu,T8]];refine [Mu,iR _ _ _ rfl kd [Mu,T8]];exact cw q
end
end K82
namespace K82
open PySem L2
structure Lis where
 (whom:Nat) (beats:Int) (back:Bool)
inductive RW where
 | all | any | num (n:Int)
structure Bell where
 (name:Str) (start:Int) (rule:RW) (lis:List Lis)
def JL (l:Lis):Nz:=[.int l.whom,.int l.beats,[Va,[Mj,l.back,1,0]]]
def rwV:RW->V
 | .all=>.str UB
 | .any=>.str UE
 | .num n=>XB
def LisAt (H:Hp) (v:V) (l:Lis):Prop:=∃ a,v=QM/\H a=[OD,JL l]
def BellAt (H:Hp) (v:V) (b:Bell):Prop:=∃ a t ls,v=QM/\H a=[OD,[Sj,.int b.start,ZC,.ref t]]/\H t=[OD,ls]/\[Vg,LisAt H,ls,b.lis]
def ChoirAt (H:Hp) (v:V) (c:M6):Prop:=∃ a vs,v=QM/\H a=[OD,vs]/\[Vg,BellAt H,vs,c]
def iQ (H H':Hp):Prop:=∀ b xs,H b=[OD,xs]->H' b=[OD,xs]
theorem Same.tup {H H':Hp} (s:Pk):iQ H H':=fun b xs e=>s b _ e
theorem vA {H:Hp} {p:Addr} {o:HO} (h:∀ xs,H p≠[OD,xs]):iQ H (upd H p o):=fun b xs e=>by
 have hb:b≠p:=[OE,h xs (by rw [<- z]; exact e)]
 rw [aK hb];exact e
theorem bL {α β:Type} {F G:α->[Qp,β]} (f:∀ a b,F a b->G a b):∀ {xs:QY} {ys:Yg},[Vg,F,xs,ys]->[Vg,G,xs,ys]
 | _,_,.nil=>.nil
 | _,_,.cons r t=>.cons (f _ _ r) (bL f t)
theorem aJ {α β:Type} {F:α->[Qp,β]}:∀ {xs:QY} {ys:Yg},[Vg,F,xs,ys]->Mh=NQ
 | _,_,.nil=>rfl
 | _,_,.cons _ t=>[R5,(·+1),aJ t]
theorem bg {α β:Type} {F:α->[Qp,β]}:∀ {xs:QY} {ys:Yg} {i:Nat} {x:α},[Vg,F,xs,ys]->xs[i]?=OV->∃ y,ys[i]?=VI/\F x y
 | _,_,0,_,.cons r _,e=>by simp at e; subst e; exact [Mn,r]
 | _,_,i+1,_,.cons _ t,e=>by
  refine [NC,bg (i:=i) t [Zh,e],fun y h1 h2=>?_]
  exact (af y [Zh,h1] h2)
theorem cF {α β:Type} {F:α->[Qp,β]}:∀ {xs:QY} {ys:Yg} {i:Nat} {y:β},[Vg,F,xs,ys]->ys[i]?=VI->∃ x,xs[i]?=OV/\F x y
 | _,_,0,_,.cons r _,e=>by simp at e; subst e; exact [Mn,r]
 | _,_,i+1,_,.cons _ t,e=>by
  refine [NC,cF (i:=i) t [Zh,e],fun y h1 h2=>?_]
  exact (af y [Zh,h1] h2)
theorem cP {α β:Type} {F:α->[Qp,β]} {x:α} {y:β} (h:F x y):∀ {xs:QY} {ys:Yg},[Vg,F,xs,ys]->[Vg,F,xs++[x],ys++[y]]
 | _,_,.nil=>.cons h .nil
 | _,_,.cons r t=>.cons r (cP h t)
theorem LisAt.mono {H H':Hp} (s:iQ H H') {v:V} {l:Lis} (h:LisAt H v l):LisAt H' v l:=by
 refine ar h fun a e q=>?_;clear h;exact (af a e (s _ _ q))
theorem BellAt.mono {H H':Hp} (s:iQ H H') {v:V} {b:Bell} (h:BellAt H v b):BellAt H' v b:=by
 refine jF h fun a t ls e q1 q2 q3=>?_;clear h;exact (dh a t ls e (s _ _ q1) (s _ _ q2) (bL ([Tz,z.mono s]) q3))
theorem ChoirAt.mono {H H':Hp} (s:iQ H H') {v:V} {c:M6} (h:[Rc,H,v]):[Rc,H',v]:=by
 refine aX h fun a vs e q1 q2=>?_;clear h;exact (aB a vs e (s _ _ q1) (bL ([Tz,z.mono s]) q2))
def GoodR (n:Nat):[Qp,RW]
 | .num i=>1<=i/\i<=n
 | _=>True
def FG (m k:Nat) (waits:Bool) (l:Lis):Prop:=l.whom<m/\1<=l.beats/\l.beats<=1000/\([Vb,waits]->[Vb,l.back]->l.whom<k)
structure GoodB (m k:Nat) (waits:Bool) (b:Bell):Prop where
 n1:1<=b.lis.length
 n6:b.lis.length<=6
 s0:0<=b.start
 s1:b.start<=1000
 r:GoodR b.lis.length b.rule
 l:∀ l∈b.lis,FG m k waits l
end K82
namespace K82
open PySem L2
theorem zv {α:Type} {l:QY} {i:Nat} {x:α} (h:l[i]?=OV):l.take (i+1)=l.take i++[x]:=by
 obtain ⟨hi,e⟩:=[Uu,h];rw [List.take_succ_eq_append_getElem hi,e]
inductive Th where
 | int (i:Int) | bl (b:Bool) | non | str (z:Str) | tup (ts:List Th) | lst | dic
mutual
def ThAt (H:Hp):Th->V->Prop
 | .int i,v=>v=.int i
 | .bl b,v=>v=.bl b
 | .non,v=>v=.non
 | .str z,v=>v=.str z/\z.length<=1000
 | .tup ts,v=>∃ a vs,v=.ref a/\H a=some (.tup vs)/\ThsAt H ts vs
 | .lst,v=>∃ a xs,v=.ref a/\H a=some (.lst xs)
 | .dic,v=>∃ a kvs,v=.ref a/\H a=some (.dK kvs)
def ThsAt (H:Hp):List Th->List V->Prop
 | [],vs=>vs=[]
 | t::ts,vs=>∃ v r,vs=v::r/\ThAt H t v/\ThsAt H ts r
end
mutual
theorem ThAt.same {H H':Hp} (s:Same H H'):∀ (t:Th) {v:V},ThAt H t v->ThAt H' t v
 | .int _,_,h=>h
 | .bl _,_,h=>h
 | .non,_,h=>h
 | .str _,_,h=>h
 | .tup ts,_,⟨a,vs,e,ha,h⟩=>(aB a vs e (s _ _ ha) (ThsAt.same s ts h))
 | .lst,_,⟨a,xs,e,ha⟩=>(bP a xs e (s _ _ ha))
 | .dic,_,⟨a,xs,e,ha⟩=>(bP a xs e (s _ _ ha))
theorem ThsAt.same {H H':Hp} (s:Same H H'):∀ (ts:List Th) {vs:List V},ThsAt H ts vs->ThsAt H' ts vs
 | [],_,h=>h
 | t::ts,_,⟨v,r,e,h1,h2⟩=>(aB v r e (ThAt.same s t h1) (ThsAt.same s ts h2))
end
theorem ThsAt.len {H:Hp}:∀ {ts:List Th} {vs:Nz},ThsAt H ts vs->Ro=U0
 | [],_,h=>by cases h; rfl
 | t::ts,_,⟨v,r,e,_,h2⟩=>by subst e; exact [R5,(·+1),ThsAt.len h2]
theorem ThsAt.at {H:Hp}:∀ {ts:List Th} {vs:Nz} {i:Nat} {t:Th},ThsAt H ts vs->ts[i]?=some t->∃ v,vs[i]?=Nw/\ThAt H t v
 | _::_,_,0,_,⟨v,r,e,h1,_⟩,h=>by subst e; cases h; exact [Ma,v,h1]
 | _::ts,_,i+1,_,⟨v,r,e,_,h2⟩,h=>by
  subst e;refine [NC,ThsAt.at (i:=i) h2 [Zh,h],fun u h3 h4=>?_]
  exact (af u [Zh,h3] h4)
theorem ThsAt.app {H:Hp}:∀ {ts us:List Th} {vs ws:Nz},ThsAt H ts vs->ThsAt H us ws->ThsAt H (ts++us) (vs++ws)
 | [],_,_,_,h,h'=>by cases h; exact h'
 | _::_,_,_,_,⟨v,r,e,h1,h2⟩,h'=>by subst e; exact ([Od,v,r++_,h1,ThsAt.app h2 h'])
def isS:Th->Bool | .str _=>true | _=>false
def isI:Th->Bool | .int _=>true | _=>false
def isT:Th->Bool | .tup _=>true | _=>false
def inT:Th->Int->Int->Bool
 | .int i,lo,hi=>[N8,lo<=i] && [N8,i<=hi]
 | _,_,_=>false
def fH:Str:="abcdefghijklmnopqrstuvwxyz"
def ik:MB:=[UB,UE,Oj,Wa]
def ir (c:Nat):Bool:=!([QL,fH,Ss,fH.length,1]).isEmpty
def cB (z:Str):Bool:=[N8,[XC,1]] && [N8,[Se,8]] && Sb
def tU:Th->Bool | .str z=>cB z | _=>false
def iZ:Th->Bool | .str z=>cB z && ![N8,z∈ik] | _=>false
def qG:Th->Int->Bool
 | .str z,_=>[N8,z=UB] || [N8,z=UE]
 | .int n,m=>[N8,1<=n] && [N8,n<=m]
 | _,_=>false
def qo:Th->Int->Bool
 | .tup [x,y,z],m=>inT x 0 (m - 1) && (inT y 1 1000 && inT z 0 1)
 | _,_=>false
def mW:Th->Int->Bool
 | .tup ts,m=>[N8,1<=U0] && [N8,U0<=6] && ts.all (fun t=>qo t m)
 | _,_=>false
def K3:Th->Nat | .tup ts=>U0 | _=>0
def inA:Th->MB->Bool | .str z,ahead=>[N8,z∈ahead] | _,_=>false
def ur:Th->MB->Int->Bool
 | .tup [n,s,r,l],ahead,m=>iZ n && !inA n ahead && inT s 0 1000 && (mW l m && qG r (K3 l))
 | _,_,_=>false
section
variable {P:Program} {w:World} {K:M3} {mg:Str->Ms} {base:Heap} {f:Addr} {fd:FuncData}
theorem IV (K:M3):[Om,OS,OS]=Ys:=O6
theorem IJ (K:M3):[Om,[Sx,Z3],OS]=RP:=O6
theorem Ja (K:M3):[Om,[Sx,"int"],OS]=RP:=O6
theorem JQ (K:M3):[Om,[Sx,"bool"],OS]=RP:=O6
theorem Ju (K:M3):[Om,[Sx,"NoneType"],OS]=RP:=O6
theorem J0 (K:M3):[Om,PF,OS]=RP:=O6
theorem JZ (K:M3):[Om,[Sx,"dict"],OS]=RP:=O6
theorem J5 (K:M3):[Om,[Sx,"dict"],[Sx,Z3]]=RP:=O6
theorem Je (K:M3):[Om,[Sx,"dict"],[Sx,"int"]]=RP:=O6
theorem D9 {H:Hp} {a:Addr} {kvs:Vm} (h:H a=[Mo,Yj]):Kind K H VU false false:=⟨_,false,false,.dK h,J5 K,Je K,[UK,[PL,z]],rfl⟩
theorem ThAt.kind {H:Hp} {t:Th} {v:V} (h:ThAt H t v):Kind K H v (isS t) (isI t):=by
 cases t with
 | int i=>cases h; exact rG H i
 | bl b=>cases h; exact Ga H b
 | non=>cases h; exact E1 H
 | str z=>obtain ⟨rfl,_⟩:=h; exact EX H z
 | tup ts=>refine aX h fun a vs eq1 ha _=>?_;clear h;subst eq1; exact EC ha
 | lst=>refine bU h fun a xs eq2 ha=>?_;clear h;subst eq2; exact FV ha
 | dic=>refine bU h fun a xs eq3 ha=>?_;clear h;subst eq3; exact D9 ha
theorem ThAt.ty {H:Hp} {t:Th} {v:V} (h:ThAt H t v):∃ ty,TyOf K H v ty/\[Om,ty,OS]=[Mo,isT t]:=by
 cases t with
 | int i=>cases h; exact (af _ (RF) (Ja K))
 | bl b=>cases h; exact (af _ (.bl b) (JQ K))
 | non=>cases h; exact (af _ .non (Ju K))
 | str z=>obtain ⟨rfl,_⟩:=h; exact (af _ (R9) (IJ K))
 | tup ts=>refine aX h fun a vs eq4 ha _=>?_;clear h;subst eq4; exact (af _ [Rj,ha] (IV K))
 | lst=>refine bU h fun a xs eq5 ha=>?_;clear h;subst eq5; exact (af _ [Pl,ha] (J0 K))
 | dic=>refine bU h fun a xs eq6 ha=>?_;clear h;subst eq6; exact (af _ (.dK ha) (JZ K))
def iS:Sp:=[MV,∃ (v:V) (t:Th) (lo hi:Int),vs=[v,.int lo,.int hi]/\ThAt H t v/\Q (.bl (inT t lo hi)) H]
theorem BP:[QI,[OL,ZJ,Wb],[OL,ZJ,Wb],fF]:=R1
theorem BO (F:[UG,Ws,Ws,fF]) (C_whole:[R3,1,Yx,[OL],gi K]):FnOk P w K mg base CX0 2 f fd [OL,ZJ,Wb] iS:=by
 refine [T5,BP]
 .refine fB h fun v t lo hi eq7 _=>?_;clear h;subst eq7;rfl
 refine wN h fun v t lo hi eq8 ht q=>?_;clear h;subst eq8;refine [Yt,_,(av (aI (oG [S4,C_whole,RH] (lj (Fm hJ hJ RB NB TR)))))];refine [Mu,iR v (isS t) (isI t) rfl ht.kind ND];cases t with
 | int i =>
  cases ht
  refine WJ;refine [MR,XF];refine dC (fun c=>?_) (fun c=>?_)
  .have e:inT (RF) lo hi=[N8,i<=hi]:=by
    show ([N8,lo<=i] && [N8,i<=hi])=_;rw [[Nn,[N8,lo<=i]=true,c]];rfl
   rw [e] at q;exact [Mu,[Ux,q]]
  .have e:[Vb,inT (RF) lo hi]:=by
    show ([N8,lo<=i] && [N8,i<=hi])=_;rw [[Nn,[Vb,[N8,lo<=i]],[Xd,c]]];rfl
   rw [e] at q;exact q
 | _=>exact cw q
end
end K82
namespace K82
open PySem L2
theorem all_map {α:Type} (l:QY) (p:α->Bool):(l.map p).all id=l.all p:=by
 rw [List.all_map];rfl
section
variable {P:Program} {w:World} {K:M3} {mg:Str->Ms} {base:Heap} {f:Addr} {fd:FuncData}
def mT:Sp:=[MV,∃ (v:V) (t:Th),vs=[v]/\ThAt H t v/\∀ H',Pk->Q (.bl (tU t)) H']
theorem Gq:[QI,[OL],[OL],oh]:=R1
theorem GJ {tM tL:Tok} (F:[UG,"is_word","is_word",oh]) (B:Q5) (mM:mg "MOST_LETTERS"=[Mo,.int 8 tM]) (mL:mg "LETTERS"=[Mo,.str fH tL]):FnOk P w K mg base CX0 1 f fd [OL] mT:=by
 refine [T5,Gq]
 .refine bU h fun v t eq1 _=>?_;clear h;subst eq1;rfl
 refine aX h fun v t eq2 ht q=>?_;clear h;subst eq2;refine [XD,[Z5,PW.pt (kY (dm (cO (aL (dI Z3) rfl RS NY [RL,NB,eK (v:=.ty Z3) rfl B.str_ Q3 rfl]))) (iz (dm (gN hJ hJ au ([Vy,gJ,rfl,RH]) (eA (v:=.int 8) rfl mM [Nl,tM]))))),av (aI gg)],(av (aI (aL (hV rfl) rfl B.all_ SG [Ou,cz ["sign"] [] [] rfl (Dh NB) [Wf,0,([Mg,[[Rk,"sign"]]])] RN [Qt,(fE ud NB (eA (v:=.str fH) rfl mL [Nl,tL]) rfl)]])))]
 refine fP ((ht.kind (K:=K)).ex :) fun ty bi bb tyv ks _=>?_
 refine [Mu,dh _ _ _ rfl tyv ks ND];cases t with
 | str z =>
  obtain ⟨rfl,hz⟩:=ht;refine T8;refine [Mu,[U3,Nh,([Ux,[Mu,dC (fun g1=>?_) (fun g1=>?_)]])]];rotate_left
  .have e:[Vb,tU (R9)]:=by
    show [Vb,([N8,[XC,1]] && [N8,[Se,8]] && Sb)];have:¬ [XC,1]:=fun h=>g1 ([MA,L6])
    rw [[NJ,this]];rfl
   rw [e] at q;exact [Mu,cv (q H (Yk))]
  have h1:[My,1]<=[My,z.length]:=[MF,g1];refine (XF);by_cases h2:[My,z.length]<=8;rotate_left
  .have e:[Vb,tU (R9)]:=by
    show [Vb,([N8,[XC,1]] && [N8,[Se,8]] && Sb)];rw [[NJ,[Yu,¬ [Se,8]]],Zc];rfl
   rw [e] at q;rw [[NJ,h2]];exact cv (q H (Yk))
  rw [[MA,h2]];refine T8;have e:tU (R9)=Sb:=by
   show ([N8,[XC,1]] && [N8,[Se,8]] && Sb)=_;rw [[MA,[Yu,[XC,1]]],[MA,[Yu,[Se,8]]]];rfl
  rw [e] at q;refine [Mn,[Ma,z,Rl]];refine x5 (z:=z) (fun i ys H3=>[Pc,H3]/\ys=[Tr,[Tr,z.cps.toList.take i,ir],V.bl]) [Nl,aw hD _] ?_ ?_
  .rintro i c ys H3 hc ⟨s3,rfl⟩ hD3;have hc':NI[i]?=Qj:=[Ml,hc]
   have hi:i<z.length:=by
    have:=[L8,hc'];rw [cu] at this;exact this
   refine V9;refine [Mu,[Ux,(aC _ hD3 ?_ [Yt,_,[Nl,s3.upd hD _]])]]
   .rw [Mc,Mc,Nc];exact Sf
   .rw [[Tj,hc'],Mt,Mt];exact aq
  rintro ys H3 ⟨s3,rfl⟩ hD3;have hT:z.cps.toList.take SV=NI:=[Oy,Pz];rw [hT] at hD3;refine ([Od,D,_,[NO,hD3],?_]);rw [all_map];exact q H3 s3
 | _=>exact cv (cv (q H (Yk)))
def qa:Sp:=[MV,∃ (v:V) (t:Th),vs=[v]/\ThAt H t v/\∀ H',Pk->Q (.bl (iZ t)) H']
theorem G9:[QI,[OL],[OL],oK]:=R1
theorem GG {aN:Addr} (F:[UG,"is_name","is_name",oK]) (mN:mg "NO_NAMES"=[Mv,aN]) (hN:∀ H,SqT K H aN (ik.map V.str)) (C_word:[R3,1,"is_word",[OL],mT]):FnOk P w K mg base CX0 2 f fd [OL] qa:=by
 refine [T5,G9]
 .refine bU h fun v t eq3 _=>?_;clear h;subst eq3;rfl
 refine aX h fun v t eq4 ht q=>?_;clear h;subst eq4;refine [Yt,_,(av (aI (oG [S4,C_word,RH] (lj (fE mQ NB (eA (v:=.ref aN) rfl mN rfl) rfl)))))];refine [Mu,[Od,v,t,ht,(fun H1 s1=>ND)]];cases t with
 | str z =>
  obtain ⟨rfl,hz⟩:=ht;show [Mj,cB z=true,_,_];by_cases hw:cB z=true
  .rw [[P9,hw]];refine [Mu,[Yv,aN,_,([PY,hN H1]),rfl,kK ik,?_]];have e:iZ (R9)=![N8,z∈ik]:=by
    show (cB z && ![N8,z∈ik])=_;rw [hw];rfl
   rw [e,<- mZ] at q;exact q H1 s1
  .rw [[Ph,hw]];have e:[Vb,iZ (R9)]:=by
    show (cB z && ![N8,z∈ik])=_;rw [[Xd,hw]];rfl
   rw [e] at q;exact q H1 s1
 | _=>exact cw (q H1 s1)
def nC:Sp:=[MV,∃ (v:V) (t:Th) (m:Int),vs=[v,.int m]/\ThAt H t v/\∀ H',Pk->Q (.bl (qG t m)) H']
theorem Cf:[QI,[OL,QU],[OL,QU],nU]:=R1
theorem CW {cA cY cS cN:Addr} (F:[UG,"is_rule","is_rule",nU]) (mN:mg "NoRule"=[Mv,cN]) (xm:PySem.W.exmOne K [MT,cN] [MT,cN]=Ys) (C_rule:CalX P w K mg base 5 "rule_of" [Ut,QU] (i9 K cA cY cS cN)):FnOk P w K mg base CX0 6 f fd [OL,QU] nC:=by
 refine [T5,Cf]
 .refine dZ h fun v t m eq5 _=>?_;clear h;subst eq5;rfl
 refine fP h fun v t m eq6 ht q=>?_;clear h;subst eq6;refine [XD,(JD rfl rfl rfl mN (DG (Kw C_rule hr M0 rfl [RL,NB,P0])) [Qe,av (aI gg)]),av (aI gg)]
 refine [MR,[Xp,v,m,?_]];have good:qG t m=true->∀ {x:Addr} {dx:Addr} {C:Addr} {n:Int} (H':Hp),Pk->H x=none->H' x=[Mo,[Ve,C,[(Po,XB)]]]->Q (.bl true) H':=fun e _ _ _ _ H' s' _ _=>by rw [e] at q; exact q H' s'
 have bad:[Vb,qG t m]->PySem.W.exmOne K [MT,cN] [MT,cN]=Ys/\∀ a C,[Te,cN]=.ref C->H a=none->Q (.bl false) (upd H a (ExO a C none)):=[UT,[Mw,xm,fun a C _ na=>by rw [e] at q; exact q _ (aw na _)]]
 have kd:=ht.kind (K:=K);cases t with
 | str z =>
  obtain ⟨rfl,_⟩:=ht;by_cases h1:z=UB
  .refine .inl [Mw,[R5,V.str,h1],fun x dx H' s' nx hx=>good ?_ H' s' nx hx];show ([N8,z=UB] || _)=true;rw [[MA,h1]];rfl
  by_cases h2:z=UE
  .refine [PY,.inl [Mw,[R5,V.str,h2],fun x dx H' s' nx hx=>good ?_ H' s' nx hx]];show ([N8,z=UB] || [N8,z=UE])=true;rw [[MA,h2],Bool.or_true]
  .refine [ZT,.inr [Mw,.inl ([Oz,z,h1,h2]),bad ?_]];show [Vb,([N8,z=UB] || [N8,z=UE])];rw [[NJ,h1],[NJ,h2]];rfl
 | int n =>
  cases ht
  by_cases h:1<=n/\n<=m
  .refine [ZT,.inl (cC n rfl h.1 h.2 (fun x dx H' s' nx hx=>good ?_ H' s' nx hx))];show ([N8,1<=n] && [N8,n<=m])=true;rw [[MA,h.1],[MA,h.2]];rfl
  .refine [ZT,.inr [Mw,[PY,.inl [Ma,n,h]],bad ?_]];show [Vb,([N8,1<=n] && [N8,n<=m])];rw [<- Bool.decide_and];exact [NJ,h]
 | _=>exact [ZT,.inr [Mw,[PY,.inr kd],bad rfl]]
def sW:Sp:=[MV,∃ (v:V) (t:Th) (m:Int),vs=[v,.int m]/\ThAt H t v/\Q (.bl (qo t m)) H]
theorem EO:[QI,[OL,Sn],[OL,Sn],hX]:=R1
theorem EI {tM:Tok} (F:[UG,"is_listening","is_listening",hX]) (B:Q5) (mM:mg "MOST_BEATS"=[Mo,.int 1000 tM]) (C_within:[R3,2,Ws,[OL,ZJ,Wb],iS]):FnOk P w K mg base CX0 3 f fd [OL,Sn] sW:=by
 refine [T5,EO]
 .refine dZ h fun v t m eq7 _=>?_;clear h;subst eq7;rfl
 refine fP h fun v t m eq8 ht q=>?_;clear h;subst eq8;refine [XD,[Z5,PW.pt (kY (dm (cO (aL (dI "tuple") rfl RS NY [RL,NB,eK (v:=.ty "tuple") rfl B.tuple_ Rq rfl]))) (iz (aZ wx ([Vy,bz,rfl,RH]) au U7))),av (aI gg)],(ak [Z5,dm (cO [S4,C_within,(ae ([Tq,NB]) [RL,au,bD jy RB au])]),av (aI gg)] (av (aI (oG [S4,C_within,(ae ([Tq,NB]) [RL,au,eA (v:=.int 1000) rfl mM [Nl,tM]])] (lj [S4,C_within,(ae ([Tq,NB]) (ae au TV))])))))]
 refine [NC,ht.ty (K:=K),fun ty tyv kt=>?_]
 refine [Mu,dh _ _ _ rfl tyv kt ND];cases t with
 | tup ts =>
  refine aX ht fun a vs eq9 ha hts=>?_;clear ht;subst eq9;have hlen:=hts.len;refine T8;refine [Mu,[Rg,a,_,([PY,WX]),rfl,ND]];match ts,hts,q,hlen with
  | [x,y,z],hts,q,hlen =>
   refine aX hts fun vx r1 eq0 hx pq0=>aX pq0 fun vy r2 eq1 hy pq1=>aX pq1 fun vz r3 eq2 hz eq3=>?_;clear pq0 pq1 hts;subst eq0;subst eq1;subst eq2;subst eq3;refine cw ?_;refine (af _ rfl (az a _ _ _ rfl rfl (SqT.of ha) rfl (af _ rfl (aB _ _ rfl rfl (mr vx x 0 (m - 1) rfl hx (af _ rfl ?_))))));have e:qo (.tup [x,y,z]) m=(inT x 0 (m - 1) && (inT y 1 1000 && inT z 0 1)):=rfl;rw [e] at q;cases e1:inT x 0 (m - 1) with
   | false=>rw [e1] at q; exact cv q
   | true =>
    rw [e1] at q;refine cw ?_;refine (af _ rfl (az a _ _ _ rfl rfl (SqT.of ha) rfl (mr vy y 1 1000 rfl hy (af _ rfl ?_))));cases e2:inT y 1 1000 with
    | false=>rw [e2] at q; exact cw q
    | true =>
     rw [e2] at q;refine cv ?_;exact (af _ rfl (az a _ _ _ rfl rfl (SqT.of ha) rfl (mr vz z 0 1 rfl hz q)))
  | [],hts,q,hlen=>rw [hlen]; exact cv q
  | [_],hts,q,hlen=>rw [hlen]; exact cv q
  | [_,_],hts,q,hlen=>rw [hlen]; exact cv q
  | _::_::_::_::r,hts,q,hlen =>
   refine dC (fun _=>q) (fun c=>absurd ?_ c);rw [hlen];simp only [List.length_cons];simp;omega
 | _=>exact cv (cv q)
def oW:Sp:=[MV,∃ (v:V) (t:Th) (m:Int),vs=[v,.int m]/\ThAt H t v/\∀ H',Pk->Q (.bl (mW t m)) H']
theorem CN:[QI,[OL,Sn],[OL,Sn],fW]:=R1
theorem C2 {tM:Tok} (F:[UG,"are_listenings","are_listenings",fW]) (B:Q5) (mM:mg "MOST_LISTENINGS"=[Mo,.int 6 tM]) (C_islis:[R3,3,"is_listening",[OL,Sn],sW]):FnOk P w K mg base CX0 4 f fd [OL,Sn] oW:=by
 refine [T5,CN]
 .refine dZ h fun v t m eq4 _=>?_;clear h;subst eq4;rfl
 refine fP h fun v t m eq5 ht q=>?_;clear h;subst eq5;refine [XD,[Z5,PW.pt (kY (dm (cO (aL (dI "tuple") rfl RS NY [RL,NB,eK (v:=.ty "tuple") rfl B.tuple_ Rq rfl]))) (iz (dm (gN hJ hJ au ([Vy,bz,rfl,RH]) (eA (v:=.int 6) rfl mM [Nl,tM]))))),av (aI gg)],(av (aI (aL (hV rfl) rfl B.all_ SG [Ou,cz [PM] [Sn] [1] rfl (dj NB) [Wf,0,([Mg,[[Rk,PM],[Rk,Sn]]])] RN [Qt,[VD,C_islis,NB,P0]]])))]
 refine [NC,ht.ty (K:=K),fun ty tyv kt=>?_]
 refine [Mu,dh _ _ _ rfl tyv kt ND];cases t with
 | tup ts =>
  refine aX ht fun a vs eq6 ha hts=>?_;clear ht;subst eq6;have hlen:=hts.len;refine T8;refine [Mu,[Od,a,_,([PY,WX]),([Ux,[Mu,dC (fun g1=>?_) (fun g1=>?_)]])]];rotate_left
  .have e:[Vb,mW [Rj,ts] m]:=by
    show [Vb,([N8,1<=U0] && [N8,U0<=6] && ts.all (fun t=>qo t m))];have:¬ 1<=U0:=fun h=>g1 ([MA,L6])
    rw [[NJ,this]];rfl
   rw [e] at q;exact [Mu,cv (q H (Yk))]
  have h1:[My,1]<=[RK,Ro]:=[MF,g1];refine (XF);by_cases h2:[RK,Ro]<=6;rotate_left
  .have e:[Vb,mW [Rj,ts] m]:=by
    show [Vb,([N8,1<=U0] && [N8,U0<=6] && ts.all (fun t=>qo t m))];rw [[NJ,[Yu,¬ U0<=6]],Zc];rfl
   rw [e] at q;rw [[NJ,h2]];exact cv (q H (Yk))
  rw [[MA,h2]];refine T8;have e:mW [Rj,ts] m=ts.all (fun t=>qo t m):=by
   show ([N8,1<=U0] && [N8,U0<=6] && ts.all (fun t=>qo t m))=_;rw [[MA,[Yu,1<=U0]],[MA,[Yu,U0<=6]]];rfl
  rw [e] at q;refine [Mu,[UN,a,WX,Rl]];refine cJ (K:=K) (a:=a) (xs:=vs) (fun i ys H3=>[Pc,H3]/\ys=[Tr,[Tr,ts.take i,(fun t=>qo t m)],V.bl]) [Nl,aw hD _] (fun i ys H3 _ ⟨z,_⟩=>[S2,z _ _ ha]) ?_ ?_
  .rintro i x ys H3 hx ⟨s3,rfl⟩ hD3;have hi:i<U0:=by
    have:=[L8,hx];omega
   have ht:=[M4,hi];refine [NC,hts.at ht,fun x' hx' htx=>?_]
   obtain rfl:x'=x:=[Mq,hx'.symm.trans hx];refine V9;refine [MR,iR x' (ts[i]) m rfl (ThAt.same s3 _ htx) (aC _ hD3 ?_ [Yt,_,[Nl,s3.upd hD _]])]
   .rw [Mc,Mc,Nc];exact Sf
   .rw [[Tj,ht],Mt,Mt];exact aq
  rintro ys H3 ⟨s3,rfl⟩ hD3;rw [hlen,NL] at hD3;refine ([Od,D,_,[NO,hD3],?_]);rw [all_map];exact q H3 s3
 | _=>exact cv (cv (q H (Yk)))
def n9:Sp:=[MV,∃ (v:V) (t:Th) (al:Addr) (ahead:MB) (m:Int),vs=[v,.ref al,.int m]/\ThAt H t v/\H al=[VM,ahead.map V.str]/\∀ H',Pk->Q (.bl (ur t ahead m)) H']
theorem Cc:[QI,[OL,"ahead",Sn],[OL,"ahead",Sn],nY]:=R1
theorem B5 {tM:Tok} (F:[UG,"is_bell","is_bell",nY]) (B:Q5) (mM:mg "MOST_START"=[Mo,.int 1000 tM]) (C_within:[R3,2,Ws,[OL,ZJ,Wb],iS]) (C_name:[R3,2,"is_name",[OL],qa]) (C_arelis:[R3,4,"are_listenings",[OL,Sn],oW])
  (C_isrule:[R3,6,"is_rule",[OL,QU],nC]):FnOk P w K mg base CX0 7 f fd [OL,"ahead",Sn] n9:=by
 refine [T5,Cc]
 .refine bN h fun v t al ahead pq0=>[W5,fun m eq7 _=>?_];clear pq0 h;subst eq7;rfl
 refine bN h fun v t al ahead pq0=>iD pq0 fun m eq8 ht hal q=>?_;clear pq0 h;subst eq8;refine [XD,[Z5,PW.pt (kY (dm (cO (aL (dI "tuple") rfl RS NY [RL,NB,eK (v:=.ty "tuple") rfl B.tuple_ Rq rfl]))) (iz (aZ wx ([Vy,bz,rfl,RH]) au U7))),av (aI gg)],(ak [Z5,PW.pt (kY (dm (cO [S4,C_name,[Ou,[Tq,NB]]])) (iz (aZ nH ([Tq,NB]) RB rfl))),av (aI gg)] (ak [Z5,dm (cO [S4,C_within,(ae ([Tq,NB]) [RL,au,eA (v:=.int 1000) rfl mM [Nl,tM]])]),av (aI gg)] (av (aI (oG [VD,C_arelis,([Tq,NB]),Qn] (lj [VD,C_isrule,([Tq,NB]),[Vy,bz,rfl,[Ou,[Tq,NB]]]]))))))]
 refine [NC,ht.ty (K:=K),fun ty tyv kt=>?_]
 refine [Mu,dh _ _ _ rfl tyv kt ND];cases t with
 | tup ts =>
  refine aX ht fun a vs eq9 ha hts=>?_;clear ht;subst eq9;have hlen:=hts.len;refine T8;refine [Mu,[Rg,a,_,([PY,WX]),rfl,ND]];match ts,hts,q,hlen with
  | [n,st,r,l],hts,q,hlen =>
   refine aX hts fun vn r1 eq0 hn pq0=>aX pq0 fun vs' r2 eq1 hs pq1=>aX pq1 fun vr r3 eq2 hr' pq2=>aX pq2 fun vl r4 eq3 hl eq4=>?_;clear pq0 pq1 pq2 hts;subst eq0;subst eq1;subst eq2;subst eq3;subst eq4;refine cw ?_;have e:ur (.tup [n,st,r,l]) ahead m=(iZ n && !inA n ahead && inT st 0 1000 && (mW l m && qG r (K3 l))):=rfl;rw [e] at q;refine (af _ rfl (az a _ _ _ rfl rfl (SqT.of ha) rfl (aB vn n rfl hn (fun H1 s1=>(af _ rfl ?_)))));have ha1:=s1 _ _ ha;cases e1:iZ n with
   | false=>rw [e1] at q; exact cv (cv (q H1 s1))
   | true =>
    rw [e1] at q;refine cw ?_;cases n with
    | str z =>
     obtain ⟨rfl,_⟩:=hn;refine (af _ rfl (az a _ _ _ rfl rfl (SqT.of ha1) rfl (af _ rfl (cD al _ rfl (.inl (SqL.of (s1 _ _ hal))) rfl (kK ahead) (af _ rfl ?_)))));show if inV (.str z) (ahead.map V.str)=true then _ else _;rw [mZ];have e2:inA (.str z) ahead=decide (z∈ahead):=rfl;rw [e2] at q;cases e3:decide (z∈ahead) with
     | true=>rw [e3] at q; exact cv (q H1 s1)
     | false =>
      rw [e3] at q;refine cw ?_;refine (af _ rfl (az a _ _ _ rfl rfl (SqT.of ha1) rfl (mr vs' st 0 1000 rfl (ThAt.same s1 _ hs) (af _ rfl ?_))));cases e4:inT st 0 1000 with
      | false=>rw [e4] at q; exact cv (q H1 s1)
      | true =>
       rw [e4] at q;refine cw ?_;refine (af _ rfl (az a _ _ _ rfl rfl (SqT.of ha1) rfl (af _ rfl (iR vl l m rfl (ThAt.same s1 _ hl) (fun H2 s2=>(af _ rfl ?_))))));cases e5:mW l m with
       | false=>rw [e5] at q; exact cw (q H2 (s1.trans s2))
       | true =>
        rw [e5] at q;refine cv ?_;have s02:=s1.trans s2;cases l with
        | tup ls =>
         refine aX hl fun la lv eq5 hla hls=>?_;clear hl;subst eq5;refine (af _ rfl (az a _ _ _ rfl rfl (SqT.of (s02 _ _ ha)) rfl (af _ rfl (az a _ _ _ rfl rfl (SqT.of (s02 _ _ ha)) rfl (aB la _ rfl (.inr (SqT.of (s02 _ _ hla))) (iR vr r _ rfl (ThAt.same s02 _ hr') (fun H3 s3=>?_)))))));rw [hls.len];exact q H3 (s02.trans s3)
        | _=>cases e5
    | _=>cases e1
  | [],hts,q,hlen=>rw [hlen]; exact cv (q H (.refl H))
  | [_],hts,q,hlen=>rw [hlen]; exact cv (q H (.refl H))
  | [_,_],hts,q,hlen=>rw [hlen]; exact cv (q H (.refl H))
  | [_,_,_],hts,q,hlen=>rw [hlen]; exact cv (q H (.refl H))
  | _::_::_::_::_::r,hts,q,hlen =>
   refine dC (fun _=>q H (.refl H)) (fun c=>absurd ?_ c);rw [hlen];simp only [List.length_cons];simp;omega
 | _=>exact cv (cv (q H (Yk)))
end
end K82
namespace K82
open PySem L2
def cI:Str:="abcdefghijklmnopqrstuvwxyz"
theorem gf:Wc=26:=L5
theorem jB:cI.length=26:=L5
theorem tE:cI.cps.toList.Nodup:=L5
def four:MB:=[UB,UE,Oj,Wa]
theorem eF (a b:Str):[NU,a++b]=RE++TJ:=by
 show (a.cps++b.cps).toList=_;rw [WA]
def kZ (z:Str):Prop:=∀ c∈NI,c∈UR
theorem rN {a b:Str} (ha:kZ a) (hb:kZ b):kZ (a++b):=fun c hc=>by
 rw [eF] at hc;rcases List.mem_append.mp hc with h | h
 .exact ha c h
 .exact hb c h
theorem DI {c:Nat} (h:c∈UR):kZ Ss:=fun d hd=>by
 have e:d=c:=[MQ,hd];rw [e];exact h
theorem sv {x:Str} (h:kZ x) (lo hi:M7):kZ ([A00,x,lo,hi]):=fun c hc=>by
 rw [iU] at hc;unfold zE at hc;exact h c (List.mem_of_mem_drop ([XO,hc]))
theorem join_ones (l:N7):[MP,[PU,O4,(l.map fun c=>[Rk,Ss])]]=l.length:=by
 have e:=size_glued O4 (l.map fun c=>[Rk,Ss]);have e0:Wt=0:=rfl;rw [e0,Nat.mul_zero,Nat.add_zero,Qb] at e;refine [Q9,[Nn,_=_,e],?_];induction l with
 | nil=>rfl
 | cons c l ih=>rw [List.map_cons,List.sum_cons,List.length_cons,ih (size_glued Str.empty _ |>.trans (by rw [e0,Nat.mul_zero,Nat.add_zero,List.map_map]))]; show 1+l.length=l.length+1; omega
theorem Gh {α:Type} (x:α) (r:QY):atI (x::r) 0=OV:=bh (j:=0) rfl
def Low (cs:Nk):Prop:=∀ n∈cs,0<=n/\n<26
def sg (n:Int):Nat:=cI.cps.toList.getD n.toNat 0
theorem Iu {n:Int} (h0:0<=n) (h1:n<26):atI UR n=[Mo,sg n]:=by
 have hd:n.toNat<Wc:=by rw [gf]; omega
 have e:n=[RK,n.toNat]:=Mr
 have:=bh ([M4,hd]);rw [<- e] at this;rw [this];unfold sg;rw [Nj,[M4,hd]];rfl
def ones (cs:Nk):MB:=cs.map fun n=>[Rk,[P5,sg n]]
theorem wH (cs:Nk):[MP,[PU,O4,YX]]=cs.length:=by
 have e:=join_ones (cs.map sg);rw [Qb,Mc] at e;exact e
theorem HV {cs:Nk} (h:cs.length<=9):JoinOk O4 (YX)=true:=by
 have e0:Wt=0:=rfl;have e:[MP,[PU,O4,YX]]=([Tr,YX,(·.length)]).sum+([MP,YX] - 1) * Wt:=size_glued O4 (YX);rw [wH,e0,Nat.mul_zero,Nat.add_zero] at e;refine PyProof.Rows.joinOk_of ?_;rw [e0,Nat.mul_zero,Nat.add_zero,<- e];omega
theorem qE:∀ (l:N7) (a:ZA),((l.map fun c=>[Rk,Ss]).foldl (fun acc q=>acc++Str.empty.cps++q.cps) a).toList=a.toList++l
 | [],a=>(List.append_nil _).symm
 | c::l,a=>by
  rw [PH,List.foldl_cons,qE l,WA,WA];show (a.toList++[])++[c]++l=a.toList++(c::l);rw [WQ,QK];rfl
theorem Dq:∀ l:N7,[NU,[PU,O4,(l.map fun c=>[Rk,Ss])]]=l
 | []=>rfl
 | c::l=>by
  show ((l.map fun c=>[Rk,Ss]).foldl (fun acc q=>acc++Str.empty.cps++q.cps) #[c]).toList=_;rw [qE];rfl
theorem Ei {n:Int} (h0:0<=n) (h1:n<26):sg n∈UR:=by
 have hd:n.toNat<Wc:=by rw [gf]; omega
 unfold sg;rw [Nj,[M4,hd]];exact [QN,hd]
theorem CV {cs:Nk} (h:Low cs):kZ ([PU,O4,YX]):=fun c hc=>by
 have e:=Dq (cs.map sg);rw [Qb] at e;have e':[NU,[PU,O4,YX]]=cs.map sg:=e;rw [e'] at hc;refine [UJ,hc,fun n hn eq2=>?_];subst eq2;exact Ei (h n hn).1 (h n hn).2
theorem wu (x:Str) (k:Nat):[MP,[A00,x,none,some PZ]]=min k x.length:=by
 have hx:=cu x;rw [<- cu ([A00,x,none,some PZ]),iU];unfold zE;rw [HT.mx];simp only [HT.iP,List.drop_zero,List.length_take];omega
theorem qO (x:Str) (k:Nat):[MP,[A00,x,some PZ,none]]=x.length - k:=by
 have hx:=cu x;rw [<- cu ([A00,x,some PZ,none]),iU];unfold zE;rw [HT.mx];simp only [HT.iP,List.length_take,List.length_drop];omega
end K82
namespace K82
open PySem L2
def But (t:Addr) (H H':Hp):Prop:=∀ a o,a≠t->H a=MN->H' a=MN
theorem But.refl (t:Addr) (H:Hp):But t H H:=fun _ _ _ h=>h
theorem But.trans {t:Addr} {H H1 H2:Hp} (a:But t H H1) (b:But t H1 H2):But t H H2:=fun c o n h=>b c o n (a c o n h)
theorem Same.but {t:Addr} {H H':Hp} (s:Pk):But t H H':=fun a o _ h=>s a o h
theorem But.upd {t:Addr} {H H':Hp} (s:But t H H') (o:HO):But t H (upd H' t o):=fun a u n h=>by rw [aK n]; exact s a u n h
theorem But.tup {t:Addr} {H H':Hp} {ws:Nz} (s:But t H H') (ht:H t=[MI,ws]):iQ H H':=fun b xs e=>s b _ (eR e ht (OF)) e
theorem But.same {t:Addr} {H0 H H':Hp} (s:But t H H') (s0:Same H0 H) (n:H0 t=none):Same H0 H':=fun a o e=>s a o (aV e n) (s0 a o e)
theorem But.free {t a:Addr} {H H':Hp} {o:HO} (s:But t H H') (ht:H' t=MN) (h:H' a=none):H a=none:=by
 cases e:H a with
 | none=>rfl
 | some u =>
  have n:a≠t:=[OE,by rw [z,ht] at h; cases h]
  rw [s a u n e] at h;cases h
def PkAt (H:Hp) (p:Addr) (k:Nat):Prop:=∃ x:Int,H p=[MI,[.int x,[MH,k]]]
section
variable {P:Program} {w:World} {K:M3} {mg:Str->Ms} {base:Heap} {f:Addr} {fd:FuncData}
def qb (K:M3):Sp:=[MV,∃ (a:Addr) (ns:Nk) (k:Nat),vs=[QM,[MH,k]]/\SqL K H a (NS)/\k<=1000/\∀ (H':Hp) (p:Addr),Pk->H p=none->PkAt H' p k->[Xi,p,H']]
theorem Gn:[QI,[QC,Tc],[QC,Tc],zq]:=R1
theorem Hn (F:[UG,"_law_pack","_law_pack",zq]) (B:Q5):FnOk P w K mg base CX0 1 f fd [QC,Tc] (qb K):=by
 refine [T5,Gn]
 .refine dZ h fun a ns k eq3 _=>?_;clear h;subst eq3;rfl
 refine jF h fun a ns k eq4 hS hk q=>?_;clear h;subst eq4;refine [XD,[Z5,aZ t8 RB ([Vy,bz,rfl,RH]) U7,(av (aI (cM [RL,([RV,aU,NB,RB]),P0])))],(av (aI (cM [RL,(bD oP (bD c9 (bD gW au RB) (aL (Dg rfl) rfl B.sum_ VQ [Ou,gc qi NB iu (ia au)])) au),P0])))]
 refine [MR,[Od,a,_,[T6,hS],XF]];refine dC (fun c=>?_) (fun c=>?_)
 .have c':PZ<[RK,[MP,NS]]:=[MF,c];rw [Mc] at c';have e:=[M4,[Yu,k<OY]];refine [VO,a,_,_,_,hS,Eo e,([U3,Zn,([VV,?_])])];exact q _ p (aw hp _) hp [T7,aq]
 .refine [Mu,[VX,_,_,[T6,[Mw,Tt,Tt]],[MR,[Od,a,_,hS,Vz]]]];have s1:=[XG,hl,jJ (NS) none (some 9)];have ec:∃ ms:Nk,jJ (NS) none (some 9)=ms.map V.int:=by
   unfold jJ;exact [T7,by rw [<- List.map_drop,<- List.map_take]]
  obtain ⟨ms,ec⟩:=ec;rw [ec] at s1;rw [ec];refine ([Od,l,ms,[NO,aq],(fun S=>?_)]);refine ([Ux,([VX,_,_,([ZK,Zl<16777213]),([U3,Zn,([VV,?_])])])]);exact q _ p (s1.trans (aw hp _)) (s1.free hp) [T7,aq]
def iq:Sp:=[MV,∃ (p:Addr) (k:Nat) (m:Int),vs=[TN,.int m]/\PkAt H p k/\k<=1000/\1<=m/\m<=5000/\∀ (d:Nat) (H':Hp),[My,d]<m->But p H H'->PkAt H' p k->Q ([MH,d]) H']
theorem AJ:[QI,[Nq,Pm,"_law_digit"],[Nq,Pm],yT]:=R1
theorem G1 (F:[UG,Xo,Xo,yT]) (B:Q5):FnOk P w K mg base CX0 1 f fd [Nq,Pm] iq:=by
 refine [T5,AJ]
 .refine dZ h fun p k m eq5 _=>?_;clear h;subst eq5;rfl
 refine fe h fun p k m eq6 pp7 hk m1 pq0=>bZ pq0 fun m2 q=>?_;clear pq0 h;subst eq6;obtain ⟨x,hp⟩:=pp7;have fin:∀ (d:Int) (H':Hp),0<=d->d<m->But p H H'->PkAt H' p k->Q (.int d) H':=fun d H' h0 h1 b pk=>by
  have:=q d.toNat H' L6 b pk;rw [[MM,[RK,d.toNat]=d]] at this;exact this
 refine [XD,[Z5,dm (gN hJ t8 au ([RZ,aU,NB]) (bD JJ au au)),(ak (jg (aL xn rfl B.divmod_ PyProof.Rows.boot_divmod [RL,([RZ,aU,NB]),P0]) (fL rfl (bu (oU NB au set_list) ([YY,2,AJ.nd,dG])))) (av (aI TR)))],(ak (jg (bD oP (bD c9 (bD c9 (bD gW ([RZ,aU,NB]) au) (bD gW ([RZ,aU,NB]) au)) au) au) (oU NB au set_list)) (av (aI (bD oP (bD F9 (bD gW ([RZ,aU,NB]) (bD c9 (bD oP ([RZ,aU,NB]) au) au)) au) RB))))]
 have yes:∀ T,H T=none->Q ([Va,x % m]) ([Py,([Rz,H,T,[[Va,x / m],[Va,x % m]]]),p,[[Va,x / m],[MH,k]]]):=fun T hT => fin _ _ (Int.emod_nonneg _ L6) ([Zi,_,L6]) (([Wi,aw hT _]).upd _) [T7,aq]
 have digits:∀ T,H T=none->([Rz,H,T,[[Va,x / m],[Va,x % m]]]) p=[MI,[.int x,[MH,k]]]:=fun T hT=>aw hT _ _ _ hp
 refine [QF,p,_,_,_,[NO,hp],XF];refine dC (fun c0=>?_) (fun c0=>?_)
 .have x0:0<=x:=[MF,c0];refine ([VX,_,_,bM M0 M0 M0,XF]);by_cases hx:x<[My,10] ^ (Int.toNat 18)
  .rw [[MA,hx]];refine T8;have hx':x<1000000000000000000:=hx;refine [QF,p,_,_,_,[NO,hp],([VX,_,_,[T6,[Mw,Mr,Mr]],[QF,p,_,_,_,[NO,hp],([VX,_,_,(.inr [Mw,Tt,Tt]),([Ux,([Ux,([VX,_,_,([ZK,Zl<16777213]),[QF,p,_,_,_,hp,?_]])])])])]])];have y0:=Int.emod_nonneg (x * 742939+PZ * 65063+40503) ([ZK,[My,16777213]≠0]);have y1:=[Zi,x * 742939+PZ * 65063+40503,([ZK,Zl<16777213])];dsimp only;generalize (x * 742939+(k:Int) * 65063+40503) % 16777213=y at y0 y1 ⊢;have hp2:([Py,H,p,[.int y,[MH,k]]]) p=[MI,[.int y,[MH,k]]]:=aq;refine [QF,p,_,_,_,[NO,hp2],[QF,p,_,_,_,[NO,hp2],([VX,_,_,([ZK,Zl<4093]),([Ux,([VX,_,_,[T6,[Mw,Mr,Mr]],([VX,_,_,[Mw,Tt,Tt],[Mu,[VX,_,_,[Yu,Zl<m],?_]]])])])])]];exact fin _ _ (Int.emod_nonneg _ L6) ([Zi,_,L6]) ((But.refl p H).upd _) [T7,hp2]
  .rw [[NJ,hx]];refine WJ;refine [QF,p,_,_,_,[NO,hp],[Mu,[Od,_,_,[Mw,Mr,Mr],(fun T hT=>?_)]]];refine ([Rg,T,_,([O1,aq]),rfl,([Xp,_,_,[QF,p,_,_,_,digits T hT,ZU]])]);exact [Mu,yes T hT]
 .refine [Mu,WJ];refine [QF,p,_,_,_,[NO,hp],[Mu,[Od,_,_,[Mw,Mr,Mr],(fun T hT=>?_)]]];refine ([Rg,T,_,([O1,aq]),rfl,([Xp,_,_,[QF,p,_,_,_,digits T hT,ZU]])]);exact [Mu,yes T hT]
end
end K82
namespace K82
open PySem L2
structure GoodNm (ahead names:List Str):Prop where
 nd:names.Nodup
 fr:∀ x∈names,x∉ahead/\x∉four
 ln:∀ x∈names,1<=x.length/\x.length<=8
 lw:∀ x∈names,kZ x
theorem CG (n:Nat) (h:n<26):∃ c,atI UR Pp=Qj/\c∈UR:=(af _ (bh ([M4,(by rw [gf]; exact h)])) ([QN,_]))
theorem Gu (n:Nat) (c:Nat):([OW,n,[PK,Ss]]).flatten=[OW,n,c]:=by
 induction n with
 | zero=>rfl
 | succ n ih=>rw [List.replicate_succ,List.flatten_cons,ih]; rfl
theorem Ab:∀ x∈four,3<=x.length/\¬ (Ob[0]?=Ob[1]?/\Ob[1]?=Ob[2]?):=L5
theorem jG:∀ {names:MB},(∀ (i j:Nat) z,names[i]?=YW->names[j]?=YW->i=j)->names.Nodup
 | [],_=>.nil
 | x::r,h=>[A0d,[Mw,(fun hm=>by
   obtain ⟨j,hj⟩:=[OQ,hm];have:=h 0 (j+1) x rfl (by rw [List.getElem?_cons_succ]; exact hj);omega),jG fun i j z h1 h2=>by
   have:=h (i+1) (j+1) z (by rw [List.getElem?_cons_succ]; exact h1) (by rw [List.getElem?_cons_succ]; exact h2);omega]]
theorem DK {names:MB} {c:Nat} (hm:UH<=6) (hc:c∈UR) (h:∀ (i:Nat) z,names[i]?=YW->NI=[OW,i+1,c]):GoodNm [] names:=by
 have hlen:∀ (i:Nat) z,names[i]?=YW->z.length=i+1:=fun i z hz=>by
  rw [<- cu z,h i z hz,Qo]
 refine ⟨jG fun i j z h1 h2=>by have a:=hlen i z h1; have b:=hlen j z h2; omega,[RD,[Mw,fun q=>([PL,q]),fun q=>?_]],ZQ,ZQ⟩
 .obtain ⟨i,hi⟩:=[OQ,hx];obtain ⟨q1,q2⟩:=Ab x q;have hl:=hlen i x hi;refine q2 ?_;rw [h i x hi,Rp,Rp,Rp,[P9,L6],[P9,L6],[P9,L6]];exact [Nl,rfl]
 .obtain ⟨i,hi⟩:=[OQ,hx];have hl:=hlen i x hi;have:=[L8,hi];omega
 .obtain ⟨i,hi⟩:=[OQ,hx];intro d hd;rw [h i x hi] at hd;rw [(List.mem_replicate.mp hd).2];exact hc
def eO (stem:Str) (at_:Nat) (c:Nat):Str:=([A00,stem,none,(some [My,at_])]++[Rk,Ss])++[A00,stem,(some [My,at_]),none]
def r0 (stem:Str) (at_:Nat) (c:Nat):Str:=[Mj,eO stem at_ c∈four,eO stem at_ c++"q",eO stem at_ c]
theorem kL {stem:Str} {at_ c:Nat} (h:at_<=ZL):[MP,eO stem at_ c]=ZL+1:=by
 unfold eO;rw [a9,a9,wu,qO,oR];omega
theorem t6 {stem:Str} {at_ c d:Nat} (h:eO stem at_ c=eO stem at_ d):c=d:=by
 have e:=[R5,(fun x:Str=>Ob),h];dsimp only [eO] at e;rw [eF,eF,eF,eF,QK,QK] at e;exact List.head_eq_of_cons_eq (List.append_cancel_left e)
theorem uz {stem:Str} {at_ c:Nat} (h:kZ stem) (hc:c∈UR):kZ (eO stem at_ c):=rN (rN (sv h _ _) (DI hc)) (sv h _ _)
theorem Kz:kZ [Rk,"q"]:=by
 unfold kZ;decide +kernel
theorem Ko:∀ x∈four,(x++[Rk,"q"])∉four:=L5
theorem hW (stem:Str) (at_ c:Nat):eO stem at_ c∈four/\r0 stem at_ c=eO stem at_ c++"q"\/eO stem at_ c∉four/\r0 stem at_ c=eO stem at_ c:=by
 unfold r0;by_cases h:eO stem at_ c∈four
 .exact .inl [Mw,h,[P9,h]]
 .exact .inr [Mw,h,[Ph,h]]
theorem oQ (z:Str):[MP,z++[Rk,"q"]]=z.length+1:=a9 z "q"
theorem FU {stem:Str} {at_ c d:Nat} (ha:at_<=ZL) (h:r0 stem at_ c=r0 stem at_ d):c=d:=by
 have l1:=kL (c:=c) ha;have l2:=kL (c:=d) ha;rcases hW stem at_ c with ⟨_,e1⟩ | ⟨_,e1⟩ <;> rcases hW stem at_ d with ⟨_,e2⟩ | ⟨_,e2⟩
 .rw [e1,e2] at h;have e:[NU,eO stem at_ c++[Rk,"q"]]=[NU,eO stem at_ d++[Rk,"q"]]:=[R5,(fun x:Str=>Ob),h];rw [eF,eF] at e;exact t6 (eJ (List.append_cancel_right e))
 .rw [e1,e2] at h;have:=[R5,Str.length,h];rw [oQ] at this;omega
 .rw [e1,e2] at h;have:=[R5,Str.length,h];rw [oQ] at this;omega
 .rw [e1,e2] at h;exact t6 h
theorem Jy {n m:Int} (h0:0<=n) (h1:n<26) (h2:0<=m) (h3:m<26) (h:sg n=sg m):n=m:=by
 have a1:n.toNat<Wc:=by rw [gf]; omega
 have a2:m.toNat<Wc:=by rw [gf]; omega
 unfold sg at h;rw [Nj,Nj,[M4,a1],[M4,a2]] at h;have:=([Y1,a1,tE]).mp ([Q9,[M4,a1],([Q9,[R5,some,h],([M4,a2]).symm])]);omega
theorem Cv {names:MB} {stem:Str} {at_ d1:Nat} (hm:UH<=6) (ha:at_<=ZL) (hs:ZL<=5) (hl:kZ stem) (h:∀ (i:Nat) z,names[i]?=YW->z=r0 stem at_ (sg (([My,d1]+5 * X4) % 26))):GoodNm [] names:=by
 have rg:∀ i:Nat,0<=([My,d1]+5 * X4) % 26/\([My,d1]+5 * X4) % 26<26:=fun i=>[Mw,Int.emod_nonneg _ M0,[Zi,_,M0]]
 have sgm:∀ i:Nat,sg (([My,d1]+5 * X4) % 26)∈UR:=fun i=>Ei (rg i).1 (rg i).2
 have lr:∀ c,[MP,eO stem at_ c]=ZL+1:=fun c=>kL ha
 refine ⟨jG fun i j z h1 h2=>?_,[RD,[Mw,fun q=>([PL,q]),fun q=>?_]],ZQ,ZQ⟩
 .have i6:=[L8,h1];have j6:=[L8,h2];have e:=FU ha ((h i z h1).symm.trans (h j z h2));have e2:=Jy (rg i).1 (rg i).2 (rg j).1 (rg j).2 e;omega
 .obtain ⟨i,hi⟩:=[OQ,hx];rw [h i x hi] at q;rcases hW stem at_ (sg (((d1:Int)+5 * (i:Int)) % 26)) with ⟨e0,e1⟩ | ⟨e0,e1⟩
  .rw [e1] at q;exact Ko _ e0 q
  .rw [e1] at q;exact e0 q
 .obtain ⟨i,hi⟩:=[OQ,hx];rw [h i x hi];rcases hW stem at_ (sg (((d1:Int)+5 * (i:Int)) % 26)) with ⟨e0,e1⟩ | ⟨e0,e1⟩
  .rw [e1,oQ,lr];omega
  .rw [e1,lr];omega
 .obtain ⟨i,hi⟩:=[OQ,hx];rw [h i x hi];rcases hW stem at_ (sg (((d1:Int)+5 * (i:Int)) % 26)) with ⟨e0,e1⟩ | ⟨e0,e1⟩
  .rw [e1];exact rN (uz hl (sgm i)) Kz
  .rw [e1];exact uz hl (sgm i)
section
variable {P:Program} {w:World} {K:M3} {mg:Str->Ms} {base:Heap} {f:Addr} {fd:FuncData}
def nI:Sp:=[MV,∃ (p:Addr) (k m:Nat),vs=[TN,[MH,m]]/\PkAt H p k/\k<=1000/\m<=6/\∀ (H':Hp) (l:Addr) (names:MB),But p H H'->PkAt H' p k->H l=none->H' l=[VM,A0b]->UH=m->GoodNm [] names->[Xi,l,H']]
theorem eI:[QI,[Nq,Pm,"_law_letters","_law_first","_law_stem","_law_at","_law_names_here",Tc,"_law_name"],[Nq,Pm],rM]:=R1
theorem C4 (F:[UG,"_law_names","_law_names",rM]) (B:Q5) (C_take:[R3,1,Xo,[Nq,Pm],iq]):FnOk P w K mg base CX0 2 f fd [Nq,Pm] nI:=by
 refine [T5,eI]
 .refine dZ h fun p k m eq1 _=>?_;clear h;subst eq1;rfl
 refine fe h fun p k m eq2 pk hk hm q=>?_;clear h;subst eq2;refine [XD,([N9,2,eI.nd,Yq,a8]),(ak ([N9,3,eI.nd,Yq,[S4,C_take,ae NB TV]]) (ak [Z5,aZ c8 [S4,C_take,ae NB TV] au U7,(av (aI (cz [Tc] ["_law_letters","_law_first"] [2,3] rfl (dH rfl B.range_ [Ou,P0]) [Wf,0,([Mg,[[Rk,Tc],[Rk,"_law_letters"],[Rk,"_law_first"]]])] RN [Qt,(bD wC ([RV,uL,RB,TR]) (bD c9 NB au))])))] ([YG,4,eI.nd,(dr O5 Uj Ui kI a8 [Ou,cz [Tc] ["_law_letters",Nq] [2,0] rfl (dH rfl B.range_ [Ou,[QP,C_take,ae NB TV]]) [Wf,0,([Mg,[[Rk,Tc],[Rk,"_law_letters"],[Rk,Nq]]])] RN [Qt,([RV,uL,RB,[S4,C_take,ae TR TV]])]]),[YG,5,eI.nd,[VD,C_take,NB,bD c9 ([Vy,gJ,rfl,[Ou,UL]]) au],[YG,6,eI.nd,cM ah,ak (cT Ny rfl (dH rfl B.range_ [Ou,P0]) [Uy,7,eI.nd] ([YG,8,eI.nd,(bD bV (bD bV (gc Aj WN iu (ia (Yc))) ([RV,uL,TR,bD oP (bD c9 VY (bD gW au (pv 7))) au])) (gc Aj WN (ia (Yc)) iu)),sP [Z5,aZ nH (pv 8) (cM (ae a8 (ae a8 (ae a8 [Ot,a8])))) rfl,(av [Vx,8,eI.nd,bD bV (pv 8) a8])] (av (cH (dr Ow P4 P2 dq (pv 6) [Ou,pv 8])))])) (av (aI (pv 6)))]]])))]
 refine [Mu,[SO,p,k,_,pk,hk,M0,(aH M0 (fun d1 H1 hd1 b1 pk1=>?_))]];refine [Mu,[SO,p,k,_,pk1,hk,M0,(aH M0 (fun d2 H2 hd2 b2 pk2=>?_))]];have b02:=b1.trans b2;refine [NC,CG d1 L6,fun c1 hc1 lc1=>?_]
 refine ([Su,dC [Qe,?_] [Qe,?_]])
 .refine [Mu,cC _ rfl L6 L6 (Rl)];refine jx (lo:=0) (n:=((m:Nat):Int).toNat) (fun j ys H3=>∃ zs:MB,Same H2 H3/\ys=TU/\Qy=j/\∀ (i:Nat) z,zs[i]?=YW->NI=[OW,i+1,c1]) (cC [] (aw hD _) rfl rfl (fun i z h=>WB)) ?_ ?_
  .rintro j ys H3 hj ⟨zs,s3,rfl,hz,hzl⟩ hD3;rw [Xv];refine V9;refine [MR,[SO,cI,_,_,rfl,(by rw [jB]; decide),hc1,[Mu,[Ux,([Yv,_,_,rfl,L6,L6,(aH ([Mx,1<=100]) (fun r hr'=>?_))])]]]];refine (aC _ hD3 ?_ (af _ (cC (zs++[r]) (s3.upd hD _) ?_ ?_ (fun i z hz'=>?_)) aq))
   .rw [Mc];exact Sf
   .rw [Mt];rfl
   .rw [Na,hz];rfl
   .rcases Nat.lt_or_ge i zs.length with h | h
    .rw [[OP,h]] at hz';exact hzl i z hz'
    .rw [[S9,h]] at hz';have h0:i - Qy=0:=by
      have:=[L8,hz'];simp at this;omega
     rw [h0] at hz';have e:z=r:=[YH,hz'];rw [e,hr',Gu,[MM,[TF,YB+1]=i+1]]
  .rintro ys H3 ⟨zs,s3,rfl,hz,hzl⟩ hD3;obtain ⟨x2,hx2⟩:=pk2;obtain ⟨x0,hx0⟩:=pk;refine q H3 D zs (b02.trans ([Wi,s3])) [Mw,x2,s3 _ _ hx2] (b02.free hx2 hD) hD3 L6 (DK L6 lc1 hzl)
 .refine ([Su,[SO,p,k,_,pk2,hk,M0,(aH M0 (fun d3 H3 hd3 b3 pk3=>?_))]]);refine (cC _ rfl L6 L6 (Rl));have Dp:D≠p:=[UT,by
   obtain ⟨x,hx⟩:=pk3;rw [e,hx] at hD;cases hD]
  refine jx (lo:=0) (n:=((d3:Nat):Int).toNat) (fun j ys H4=>∃ cs:Nk,But p H3 H4/\PkAt H4 p k/\ys=[OI,YX]/\cs.length=j/\Low cs) (eY [] ([Wi,aw hD _]) ?_ rfl rfl (fun _ h=>([PL,h]))) ?_ ?_
  .obtain ⟨x,hx⟩:=pk3;exact [Mw,x,aw hD _ _ _ hx]
  .rintro j ys H4 hj ⟨cs,b4,pk4,rfl,hcs,low⟩ hD4;refine V9;refine [MR,[SO,p,k,_,pk4,hk,M0,(aH M0 (fun d4 H5 hd4 b5 pk5=>?_))]];have hD5:=b5 _ _ Dp hD4;refine ([SO,cI,_,_,rfl,(by rw [jB]; decide),(Iu (n:=[My,d4]) L6 L6),(aC _ hD5 ?_ (af _ (eY (cs++[[My,d4]]) ?_ ?_ ?_ ?_ ?_) aq))])
   .rw [Mc];unfold ones;rw [Mc];exact Sf
   .exact fun a o n e=>by
     have n':a≠D:=[OE,by rw [z] at e; rw [e] at hD; cases hD]
     rw [aK n'];exact (b4.trans b5) a o n e
   .obtain ⟨x,hx⟩:=pk5;exact [Mw,x,by rw [aK (Ne.symm Dp)]; exact hx]
   .unfold ones;rw [Mt,Mt];rfl
   .rw [Na,hcs];rfl
   .intro n hn;rcases List.mem_append.mp hn with h | h
    .exact low n h
    .rw [[MQ,h]];omega
  rintro ys H4 ⟨cs,b4,pk4,rfl,hcs,low⟩ hD4;refine ([SO,_,D,YX,rfl,hD4,HV L6,?_]);have hsl:[MP,[PU,Str.ofString "",YX]]<=5:=by
   show [MP,[PU,O4,YX]]<=5;rw [wH];omega
  have hlw:kZ ([PU,Str.ofString "",YX]):=CV low;generalize Txt.join (Str.ofString "") (ones cs)=stem at hsl hlw ⊢;have b04:=b02.trans (b3.trans b4);refine [MR,[Oz,stem,Nh,([Ux,([SO,p,k,_,pk4,hk,L6,(aH L6 (fun at_ H5 hat b5 pk5=>?_))])])]];refine [Mw,([Qq,0]),Vz];have b05:=b04.trans b5;have l0:H l=none:=by
   obtain ⟨x,hx⟩:=pk5;exact b05.free hx hl
  have lp:l≠p:=[UT,by
   obtain ⟨x,hx⟩:=pk5;rw [e,hx] at hl;cases hl]
  have s6:=[XG,hl,[]];refine [Mu,cC _ rfl L6 L6 ?_];refine fh (lo:=0) (n:=((m:Nat):Int).toNat) (fun j σ H6=>∃ (o7 o8:RT) (zs:MB),σ=[[Mv,p],[S3,m],[Mo,.str cI],[S3,d1],[Mo,.str stem],[S3,at_],[Mv,l],o7,o8]/\Same H5 H6/\H6 l=[VM,TU]/\Qy=j/\∀ (i:Nat) z,zs[i]?=YW->z=r0 stem at_ (sg (([My,d1]+5 * X4) % 26))) ([SO,none,none,[],s6,aq,rfl,(fun i z h=>WB)]) ?_ ?_
  .intro j σ H6 hj pr;refine fe pr fun o7 o8 zs eq3 s56 hl6 hzs hzl=>?_;clear pr;subst eq3;rw [Xv];have g1:=Int.emod_nonneg ([My,d1]+5 * YB) ([ZK,[My,26]≠0]);have g2:=[Zi,([My,d1]+5 * YB),([ZK,Zl<26])];have n1:=wu stem at_;have n2:=qO stem at_;refine [Mn,[MR,[Oz,stem,Nh,[Mn,[MR,[VX,_,_,[T6,[Mw,Tt,Tt]],([Ux,([VX,_,_,([ZK,Zl<26]),([SO,cI,_,_,rfl,(by rw [jB]; decide),Iu g1 g2,([VX,_,_,(by rw [n1,oR,sizeLine_eq]; omega),[Mn,[MR,[Oz,stem,Nh,([VX,_,_,(by rw [a9,n1,n2,oR,sizeLine_eq]; omega),?_])]]]])])])])]]]]]];refine [Yt,(fun σ H7=>σ=[[Mv,p],[S3,m],[Mo,.str cI],[S3,d1],[Mo,.str stem],[S3,at_],[Mv,l],[S3,j],[Mo,.str (r0 stem at_ (sg (([My,d1]+5 * YB) % 26)))]]/\Same H6 H7),?_]
   .refine ([U3,([Qq,4]),(fun t ht=>?_)]);have s7:=[XG,ht,[.str UB,.str UE,.str Oj,.str Wa]];refine ([Yv,t,_,[T6,[NO,aq]],rfl,rfl,ND]);have ein:inV (V.str (eO stem at_ (sg (([My,d1]+5 * YB) % 26)))) [V.str UB,V.str UE,V.str Oj,V.str Wa]=[N8,eO stem at_ (sg (([My,d1]+5 * YB) % 26))∈four]:=mZ _ four;refine dC (fun c=>?_) (fun c=>?_)
    .have c':eO stem at_ (sg (([My,d1]+5 * YB) % 26))∈four:=[MF,ein.symm.trans c];refine [Mu,[Yv,_,_,rfl,(by rw [sizeLine_eq]; show [MP,eO stem at_ _]+1<=_; rw [kL (by omega)]; omega),?_,s7]];unfold r0;rw [[P9,c']];rfl
    .have c':eO stem at_ (sg (([My,d1]+5 * YB) % 26))∉four:=fun q=>c (ein.trans ([MA,q]))
     refine [Mw,?_,s7];unfold r0;rw [[Ph,c']];rfl
   rintro σ H7 ⟨rfl,s7⟩;have hl7:=s7 _ _ hl6;refine ([U3,[T6,([QW,(e8 _ [NO,hl7])])],[Mu,[SO,l,_,_,rfl,hl7,?_,?_]]])
   .rw [Mc];exact Sf
   .refine ([SO,_,_,(zs++[r0 stem at_ (sg (([My,d1]+5 * YB) % 26))]),(s56.trans s7).upd hl _,?_,?_,(fun i z hy=>?_)])
    .rw [Mt];exact aq
    .rw [Na,hzs];rfl
    .rcases Nat.lt_or_ge i zs.length with h | h
     .rw [[OP,h]] at hy;exact hzl i z hy
     .rw [[S9,h]] at hy;have h0:i - Qy=0:=by
       have:=[L8,hy];simp at this;omega
      rw [h0] at hy;have ei:i=j:=Mr
      rw [ei];exact [YH,hy]
  .intro σ H6 pr;refine fe pr fun o7 o8 zs eq4 s56 hl6 hzs hzl=>?_;clear pr;subst eq4;obtain ⟨x,hx⟩:=pk5;exact [Mu,q H6 l zs (b05.trans ([Wi,s56])) [Mw,x,s56 _ _ hx] l0 hl6 L6 (Cv L6 L6 hsl hlw hzl)]
def rz (so m:Nat) (r:RW):Prop:=GoodR m r/\(so=0->r=.all\/r=.num m)/\(so=1->r=.any\/r=.num 1)
def qL:Sp:=[MV,∃ (p:Addr) (k m so:Nat),vs=[TN,[MH,so],[MH,m]]/\so<=2/\1<=m/\PkAt H p k/\k<=1000/\m<=8/\∀ (H':Hp) (r:RW),But p H H'->PkAt H' p k->rz so m r->Q (rwV r) H']
theorem yr:[QI,[Nq,Sg,Pm,"_law_pick"],[Nq,Sg,Pm],vN]:=R1
theorem DX (F:[UG,"_law_rule","_law_rule",vN]) (B:Q5) (C_take:[R3,1,Xo,[Nq,Pm],iq]):FnOk P w K mg base CX0 2 f fd [Nq,Sg,Pm] qL:=by
 refine [T5,yr]
 .refine fB h fun p k m so eq5 _=>?_;clear h;subst eq5;rfl
 refine cZ h fun p k m so eq6 so2 m1 pk pq0=>cb pq0 fun hk hm q=>?_;clear pq0 h;subst eq6;refine [XD,[Z5,aZ c8 RB au U7,(av (aI ([RV,aU,(cM [RL,a8,Qn]),[S4,C_take,ae NB TV]])))],(ak [Z5,aZ c8 RB au U7,(av (aI ([RV,aU,cM (ae a8 TV),[S4,C_take,ae NB TV]])))] ([YG,3,yr.nd,[VD,C_take,NB,bD c9 TR au],av (aI ([RV,aU,(bD zG (cM (ae a8 [Ot,a8])) (cz [Tc] [] [] rfl (dH rfl B.range_ [Ou,Qn]) [Wf,0,([Mg,[[Rk,Tc]]])] RN [Qt,bD c9 NB au])),VY]))]))]
 have two:∀ (l:Addr) (x y:RW) (d:Nat) (H1 H2:Hp),H1=[Py,H,l,[rwV x,rwV y]]->H l=none->[My,d]<2->But p H1 H2->PkAt H2 p k->(rz so m x)->(rz so m y)->∃ r:RW,([rwV x,rwV y])[d]?=[Mo,rwV r]/\H2 l=[MI,[rwV x,rwV y]]/\Q (rwV r) H2:=by
  intro l x y d H1 H2 e hl hd b2 pk2 sx sy;have lp:l≠p:=[OE,by
   obtain ⟨u,hu⟩:=pk;rw [<- z,hl] at hu; cases hu]
  have bt:But p H H2:=[Q9,([Wi,(by rw [e]; exact aw hl _)]),b2];have h2:H2 l=[MI,[rwV x,rwV y]]:=b2 _ _ lp (by rw [e]; exact aq);match d,hd with
  | 0,_=>exact (aC x rfl h2 (q H2 x bt pk2 sx))
  | 1,_=>exact (aC y rfl h2 (q H2 y bt pk2 sy))
  | d+2,h=>omega
 refine ([U8,[Mu,dC (fun c0=>?_) (fun c0=>?_)]])
 .have e0:so=0:=by have z:[W2,[My,so]]=[W2,0]:=[MF,c0]; injection z with z; omega
  refine ([U3,Zn,Vz]);have s1:=[XG,hl,[V.str UB,[W2,[My,m]]]];refine [Mu,[SO,p,k,2,(by obtain ⟨x,hx⟩:=pk; exact [Mw,x,s1 _ _ hx]),hk,M0,(aH M0 (fun d H2 hd b2 pk2=>?_))]];refine bp (two l .all (.num [My,m]) d _ H2 rfl hl hd b2 pk2 (bM trivial [Qe,Qf] [UK,Mr]) (bM [Mw,Mr,Mr] [Qe,.inr rfl] [UK,Mr]) :) fun r h1 h2 h3=>?_
  exact ([NN,l,_,_,_,[NO,h2],bh h1,h3])
 refine ([U8,[Mu,dC (fun c1=>?_) (fun c1=>?_)]])
 .have e1:so=1:=by have z:[W2,[My,so]]=[W2,1]:=[MF,c1]; injection z with z; omega
  refine [Mw,Zn,Vz];have s1:=[XG,hl,[V.str UE,[W2,1]]];refine [Mu,[SO,p,k,2,(by obtain ⟨x,hx⟩:=pk; exact [Mw,x,s1 _ _ hx]),hk,M0,(aH M0 (fun d H2 hd b2 pk2=>?_))]];refine bp (two l .any (.num 1) d _ H2 rfl hl hd b2 pk2 (bM trivial [UK,Mr] [Qe,Qf]) (bM [Mw,Mr,Mr] [UK,Mr] [Qe,.inr rfl]) :) fun r h1 h2 h3=>?_
  exact ([NN,l,_,_,_,[NO,h2],bh h1,h3])
 have e2:so=2:=by
  have a0:¬ [W2,[My,so]]=[W2,0]:=[OE,c0 ([MA,z])]
  have a1:¬ [W2,[My,so]]=[W2,1]:=[OE,c1 ([MA,z])]
  have b0:so≠0:=[OE,a0 (by rw [z]; rfl)]
  have b1:so≠1:=[OE,a1 (by rw [z]; rfl)]
  omega
 subst e2;refine [MR,[Ux,([SO,p,k,_,pk,hk,L6,(aH L6 (fun d H1 hd b1 pk1=>?_))])]];refine [Mw,Zn,Vz];have s2:=[XG,hl,[.str UB,.str UE]];have hl2:([Py,H1,l,[.str UB,.str UE]]) l=[MI,[.str UB,.str UE]]:=aq;generalize upd H1 l (.lst [.str "all",.str "any"])=H2 at s2 hl2 ⊢;refine [Mu,cC _ rfl L6 L6 (Rl)];refine jx (lo:=0) (n:=((m:Nat):Int).toNat) (fun j ys H3=>Same H2 H3/\ys=[Tr,[RQ,j],fun i:Nat=>[W2,X4+1]]) [Nl,aw hD _] ?_ ?_
 .rintro j ys H3 hj ⟨s3,rfl⟩ hD3;rw [Xv];refine V9;refine [Mu,[Ux,(aC _ hD3 ?_ (af _ [W4,s3.upd hD _] aq))]]
  .rw [Mc,Xw];exact Sf
  .rw [List.range_succ,Mt];rfl
 rintro ys H3 ⟨s3,rfl⟩ hD3;rw [ZF] at hD3;refine ([NN,l,D,_,_,s3 _ _ hl2,hD3,(aH ?_ (fun L hL=>?_))])
 .rw [Mc,Xw,sizeLine_eq];show 2+m<=_;omega
 have s4:=[Q9,Qh,([XG,hL,([.str UB,.str UE]++[Tr,[RQ,m],fun i:Nat=>[W2,X4+1]])])];obtain ⟨r,gr,hr'⟩:∃ r:RW,GoodR m r/\([V.str UB,V.str UE]++[Tr,[RQ,m],fun i:Nat=>[W2,X4+1]])[d]?=[Mo,rwV r]:=by
  match d,hd with
  | 0,_=>exact (af .all trivial rfl)
  | 1,_=>exact (af .any trivial rfl)
  | e+2,h =>
   refine (af (.num ((e:Int)+1)) ⟨by omega,by omega⟩ ?_);show ((List.range m).map fun i:Nat=>V.int ((i:Int)+1))[e]?=_;rw [List.getElem?_map,List.getElem?_range (by omega)];rfl
 refine [NW,L,_,_,_,[NO,aq],bh hr',?_];obtain ⟨x,hx⟩:=pk1;exact q _ r (b1.trans ([Wi,s4])) [Mw,x,s4 _ _ hx] (bM gr [UK,[O9,z,M0]] [UK,[O9,z,M0]])
end
end K82
namespace K82
open PySem L2
theorem PkAt.same {H H':Hp} {p:Addr} {k:Nat} (s:Pk) (h:PkAt H p k):PkAt H' p k:=by
 obtain ⟨x,hx⟩:=h;exact [Mw,x,s _ _ hx]
theorem PkAt.ne {H:Hp} {p l:Addr} {k:Nat} (h:PkAt H p k) (hl:H l=none):l≠p:=[UT,by
 obtain ⟨x,hx⟩:=h;rw [e,hx] at hl;cases hl]
theorem PkAt.tup {H H':Hp} {p:Addr} {k:Nat} (h:PkAt H p k) (b:But p H H'):iQ H H':=by
 obtain ⟨x,hx⟩:=h;exact b.tup hx
section
variable {P:Program} {w:World} {K:M3} {mg:Str->Ms} {base:Heap} {f:Addr} {fd:FuncData}
def r9:Sp:=[MV,∃ (p sh nl:Addr) (k m pl so:Nat) (safe great:Bool) (names:MB),vs=[TN,[MH,so],[MH,pl],.ref sh]/\PkAt H p k/\k<=1000/\H sh=[OD,[[MH,m],.bl safe,.bl great,.ref nl]]/\H nl=[VM,A0b]/\nl≠p/\UH=m/\pl<m/\m<=6/\so<=2/\ ∀ (H':Hp) (v:V) (b:Bell),But p H H'->PkAt H' p k->BellAt H' v b->names[pl]?=some b.name->GoodB m 0 true b->rz so OC b.rule->Q v H']
theorem dX:[QI,[Nq,Sg,"_law_place",YO,"_law_start","_law_listenings","_law_j",Pm,"_law_safe","_law_great","_law_names_here","_law_whom","_law_beats","_law_back"],[Nq,Sg,"_law_place",YO],zW]:=R1
theorem DS (F:[UG,"_law_bell","_law_bell",zW]) (B:Q5) (C_take:[R3,1,Xo,[Nq,Pm],iq]) (C_rule:[R3,2,"_law_rule",[Nq,Sg,Pm],qL]):FnOk P w K mg base CX0 3 f fd [Nq,Sg,"_law_place",YO] r9:=by
 refine [T5,dX]
 .refine bN h fun p sh nl k zq0=>bN zq0 fun m pl so safe zq1=>bU zq1 fun great names ze1 _=>?_;clear zq0 zq1 h;subst ze1;rfl
 refine bN h fun p sh nl k zq0=>bN zq0 fun m pl so safe zq1=>fz zq1 fun great names ze2 pk hk hsh zq2=>dE zq2 fun hnl nlp hnm hpl zq3=>cb zq3 fun hm so2 q=>?_;clear zq0 zq1 zq2 zq3 h;subst ze2;refine [XD,(jg VY (fL rfl ([YY,7,dX.nd,([YY,8,dX.nd,([YY,9,dX.nd,([YY,10,dX.nd,dG])])])]))),([YG,4,dX.nd,[VD,C_take,NB,[RV,aU,cM (ae au TV),(bX oH rfl B.int_ OZ [Ou,pv 9])]],[YG,5,dX.nd,cM ah,ak (cT Ny rfl (dH rfl B.range_ [Ou,bD c9 au [VD,C_take,NB,[RV,aU,cM (ae au (ae au TV)),[S4,C_take,ae NB TV]]]]) [Uy,6,dX.nd] ([YG,11,dX.nd,[VD,C_take,NB,pv 7],[YG,12,dX.nd,(bD c9 au [VD,C_take,NB,[RV,aU,cM (ae au TV),(bX oH rfl B.int_ OZ [Ou,pv 9])]]),[YG,13,dX.nd,(bX oH rfl B.int_ OZ [Ou,fE qK [S4,C_take,ae NB TV] au U7]),sP [Z5,PW.pt (v8 (cO (pv 8)) (qe (aZ Lj (pv 11) TR U7))),(av [Vx,13,dX.nd,au])] (av (cH (dr Ow P4 P2 dq (Yc) [Ou,dB (ae (pv 11) [RL,pv 12,pv 13])])))]]])) (av (aI (dB (ae ([RV,aU,pv 10,TR]) (ae WN [RL,[S4,C_rule,(ae NB [RL,RB,[Vy,bz,rfl,[Ou,Yc]]])],bX eS rfl B.tuple_ Rq [Ou,Yc]])))))]])]
 have pick:∀ x y:Int,1<=x->x<=2000->1<=y->y<=2000->∃ M:Int,atI [[W2,x],[W2,y]] ([Mj,great,1,0])=[Mo,.int M]/\1<=M/\M<=2000/\(M=x\/M=y):=fun x y a b c d=>by
  cases great with
  | true=>exact (cC y rfl c d (.inr rfl))
  | false=>exact (cC x rfl a b (Qf))
 refine [Mu,[Rg,sh,_,([O1,hsh]),rfl,([Xp,_,_,([Xp,_,_,([Xp,_,_,ZU])])])]];refine ([U3,Zn,(fun l1 hl1=>?_)]);have s1:=[XG,hl1,[.int 10,.int 1001]];refine iD (pick 10 1001 M0 M0 M0 M0 :) fun M1 hM1 M11 M12 M13=>?_
 refine [Mu,.inr [Ma,great,([NN,l1,_,_,_,[NO,aq],hM1,([SO,p,k,M1,pk.same s1,hk,M11,(aH L6 (fun st H2 hst b2 pk2=>?_))])])]];have b02:But p H H2:=[Q9,[Wi,s1],b2];refine [Mw,([Qq,0]),Vz];have lp:=pk2.ne hl;have l0:H l=none:=by
  obtain ⟨x,hx⟩:=pk2;exact b02.free hx hl
 have s3:=[XG,hl,[]];have hl3:([Py,H2,l,[]]) l=[MI,[]]:=aq;have pk3:=pk2.same s3;have b03:But p H ([Py,H2,l,[]]):=b02.trans ([Wi,s3]);generalize upd H2 l (.lst [])=H3 at s3 hl3 pk3 b03 ⊢;refine ([U3,([Qq,3]),(fun l4 hl4=>?_)]);have s4:=[XG,hl4,[.int 3,.int 3,.int 6]];have l4p:=pk3.ne hl4;refine [Mu,[SO,p,k,_,pk3.same s4,hk,M0,(aH M0 (fun d5 H5 hd5 b5 pk5=>?_))]];obtain ⟨N,hN,N1,N6⟩:∃ N:Int,atI [[W2,3],[W2,3],[W2,6]] [My,d5]=[Mo,.int N]/\1<=N/\N<=6:=by
  match d5,hd5 with
  | 0,_=>exact (aC 3 rfl (by decide) (by decide))
  | 1,_=>exact (aC 3 rfl (by decide) (by decide))
  | 2,_=>exact (aC 6 rfl (by decide) (by decide))
  | e+3,h=>omega
 refine ([NN,l4,_,_,_,[NO,b5 _ _ l4p aq],hN,([SO,p,k,N,pk5,hk,N1,(aH L6 (fun d6 H6 hd6 b6 pk6=>?_))])]);refine ([Ux,cC _ rfl L6 L6 ?_]);have b36:=[Q9,[Wi,s4],b5.trans b6];have b06:=b03.trans b36;have hl6:=b36 _ _ lp hl3;clear b2 s1 hl1 pk2 b02 s3 s4 b5 b6 pk3 pk5 b36 b03 hl3;refine fh (lo:=0) (n:=[TF,[My,1]+[My,d6]]) (fun j σ H7=>∃ (o6 o11 o12 o13:RT) (vs:Nz) (ls:List Lis),σ=[[Mv,p],[S3,so],[S3,pl],[Mv,sh],[S3,st],[Mv,l],o6,[S3,m],[Mo,.bl safe],[Mo,.bl great],[Mv,nl],o11,o12,o13]/\ But p H H7/\PkAt H7 p k/\H7 l=[MI,vs]/\[Vg,LisAt H7,vs,ls]/\ls.length=j/\∀ x∈ls,FG m 0 true x) (cf none none none none ([Yv,[],[],b06,pk6,hl6,(bM .nil rfl (fun _ h=>([PL,h])))])) ?_ ?_
 .intro j σ H7 hj zr;refine bN zr fun o6 o11 o12 o13 zq0=>fz zq0 fun vs ls ze3 b07 pk7 hl7 zq1=>cb zq1 fun pr hls gl=>?_;clear zq0 zq1 zr;subst ze3;refine [MR,[SO,p,k,_,pk7,hk,L6,(aH L6 (fun wh H8 hwh b8 pk8=>?_))]];refine ([U3,Zn,(fun l9 hl9=>?_)]);have s9:=[XG,hl9,[.int 9,.int 1000]];refine iD (pick 9 1000 M0 M0 M0 M0 :) fun M2 hM2 M21 M22 M23=>?_
  refine [Mu,.inr [Ma,great,([NN,l9,_,_,_,[NO,aq],hM2,([SO,p,k,M2,pk8.same s9,hk,M21,(aH L6 (fun bt H10 hbt b10 pk10=>?_))])])]];refine (ZU);refine [Mu,[SO,p,k,_,pk10,hk,M0,(aH M0 (fun bk H11 hbk b11 pk11=>?_))]];refine ([Ux,.inr ND]);have b7:But p H7 H11:=b8.trans ([Q9,[Wi,s9],b10.trans b11]);have hl11:=b7 _ _ lp hl7;have pr11:[Vg,LisAt H11,vs,ls]:=bL (fun _ _ x=>x.mono (pk7.tup b7)) pr;have vl:=aJ pr;refine [Yt,(fun σ H12=>∃ bb:Bool,σ=[[Mv,p],[S3,so],[S3,pl],[Mv,sh],[S3,st],[Mv,l],[Mo,[Va,0+YB]],[S3,m],[Mo,.bl safe],[Mo,.bl great],[Mv,nl],[S3,wh],[Mo,[Va,1+[My,bt]]],[Mo,[Va,[Mj,bb,1,0]]]]/\H12=H11),?_]
  .refine [MR,dC [Qe,?_] [Qe,cw [Mn,rfl]]];refine [MR,[Ux,[Mu,dC [Qe,[Ma,true,rfl]] [Qe,[Mn,rfl]]]]]
  intro σ H12 zr;refine ar zr fun bb ze4 ze5=>?_;clear zr;subst ze4;subst ze5;refine ([U3,[T6,([QW,(e8 _ [NO,hl11])])],[MR,[U3,([Qq,3]),(fun t ht=>?_)]]]);have s12:=aw ht [Rj,[[MH,wh],[Va,1+[My,bt]],[Va,[Mj,bb,1,0]]]];have ht12:([Rz,H12,t,[[MH,wh],[Va,1+[My,bt]],[Va,[Mj,bb,1,0]]]]) t=[OD,(JL ⟨wh,1+[My,bt],bb⟩)]:=aq;have hl12:=s12 _ _ hl11;have tl:t≠l:=eR ht12 hl12 (OF);refine ([SO,l,vs,_,rfl,hl12,Sf,?_]);have tS:iQ H12 ([Py,([Rz,H12,t,[[MH,wh],[Va,1+[My,bt]],[Va,[Mj,bb,1,0]]]]),l,vs++[.ref t]]):=fun b xs e=>by
   rw [aK (eR e hl11 (OF))];exact s12 _ _ e
  refine (cf _ _ _ _ ([Yv,vs++[.ref t],(ls++[⟨wh,1+[My,bt],bb⟩]),?_,?_,aq,bM ?_ ?_ (ZQ)]))
  .exact fun a o n e=>by
    rw [aK (aV e l0)];exact s12 _ _ (b7 a o n (b07 a o n e))
  .obtain ⟨x,hx⟩:=pk11;exact [Mw,x,by rw [aK (Ne.symm lp)]; exact s12 _ _ hx]
  .exact cP ⟨t,rfl,by rw [aK tl]; exact ht12⟩ (bL (fun _ _ x=>x.mono tS) pr11)
  .rw [Na,hls];rfl
  .rcases List.mem_append.mp hx with h | h
   .exact gl x h
   .rw [[MQ,h]];exact (fI ([NF,wh<m]) ([NF,[My,1]<=1+[My,bt]]) ([NF,1+[My,bt]<=1000]) (fun h=>([PL,h])))
 .intro σ H7 zr;refine bN zr fun o6 o11 o12 o13 zq0=>fz zq0 fun vs ls ze6 b07 pk7 hl7 zq1=>cb zq1 fun pr hls gl=>?_;clear zq0 zq1 zr;subst ze6;have vl:=aJ pr;have en:=[M4,[Yu,pl<UH]];have hnl7:=b07 _ _ nlp hnl;refine [VO,nl,_,_,_,[NO,hnl7],(bh (show (A0b)[pl]?=[Mo,.str names[pl]] by rw [List.getElem?_map,en]; rfl)),[Mn,[Mn,[MR,[Od,l,_,[T6,[NO,hl7]],([NA,p,k,Ro,so,so2,L6,pk7,(bM hk L6 (fun H8 r b8 pk8 gr=>?_))])]]]]];have hl8:=b8 _ _ lp hl7;refine [Mu,[Xp,l,_,[T6,[Mw,[Tn,hl8],fun t ht=>?_]]]];refine [Mw,([Qq,4]),ZQ];have s9:=aw ht [Rj,vs];have s10:=aw hx [Rj,[.str names[pl],[MH,st],rwV r,.ref t]];have s910:=s9.trans s10;refine q _ _ ⟨names[pl],[My,st],r,ls⟩ (b07.trans (b8.trans ([Wi,s910]))) (pk8.same s910) (dh x t vs rfl aq (s10 _ _ aq) (bL (fun _ _ y=>(y.mono (pk7.tup b8)).mono [OT,s910]) pr)) en ⟨[NF,1<=ls.length],[NF,ls.length<=6],[NF,Zl<=[My,st]],[NF,[My,st]<=1000],?_,gl⟩ ?_
  .rw [<- vl];exact gr.1
  .show rz so ls.length r;rw [<- vl];exact gr
def ot (K:M3):Sp:=[MV,∃ (a:Addr) (ns:Nk) (k mo so:Nat),vs=[QM,[MH,k],[MH,so],[MH,mo]]/\so<=2/\SqL K H a (NS)/\k<=900/\1<=mo/\mo<=6/\ ∀ (H':Hp) (v:V) (c:M6),Pk->[Rc,H',v]->1<=c.length->c.length<=mo->([Ru,c,GoodB c.length 0 true b/\rz so OC b.rule])->(∃ names,GoodNm [] names/\Ng=names.take c.length)->Q v H']
theorem gM:[QI,[QC,Tc,Sg,"_law_most",Nq,Pm,"_law_safe","_law_great",YO],[QC,Tc,Sg,"_law_most"],v7]:=R1
theorem By (F:[UG,"_law_choir","_law_choir",v7]) (B:Q5) (C_pack:[R3,1,"_law_pack",[QC,Tc],qb K]) (C_take:[R3,1,Xo,[Nq,Pm],iq]) (C_names:[R3,2,"_law_names",[Nq,Pm],nI])
  (C_bell:[R3,3,"_law_bell",[Nq,Sg,"_law_place",YO],r9]):FnOk P w K mg base CX0 4 f fd [QC,Tc,Sg,"_law_most"] (ot K):=by
 refine [T5,gM]
 .refine bN h fun a ns k mo zq0=>ar zq0 fun so ze7 _=>?_;clear zq0 h;subst ze7;rfl
 refine bN h fun a ns k mo zq0=>gq zq0 fun so ze8 so2 hS hk zq1=>cb zq1 fun mo1 mo6 q=>?_;clear zq0 zq1 h;subst ze8;refine [Xr,[YG,4,gM.nd,[VD,C_pack,NB,P0],[YG,5,gM.nd,(bD c9 au [VD,C_take,WN,T3]),[YG,6,gM.nd,(fE qK [S4,C_take,ae WN TV] au U7),[YG,7,gM.nd,(fE c8 [S4,C_take,ae WN TV] au U7),ak ([N9,8,gM.nd,Yq,(dB (ae (Yc) (ae (pv 6) [RL,pv 7,[QP,C_names,[RL,WN,Yc]]])))]) (av (aI (bX eS rfl B.tuple_ Rq [Ou,cz ["_law_place"] [Sg,YO,QC,Tc] [2,8,0,1] rfl (dH rfl B.range_ [Ou,Yc]) [Wf,0,([Mg,[[Rk,"_law_place"],[Rk,Sg],[Rk,YO],[Rk,QC],[Rk,Tc]]])] RN [Qt,[S4,C_bell,(ae [VD,C_pack,VY,bD c9 (bD c9 WN au) NB] (ae RB [RL,NB,Qn]))]]])))]]]]]
 refine [MR,dh a ns k rfl hS L6 (fun H1 p s1 p0 pk1=>?_)];refine [MR,[SO,p,k,_,pk1,L6,L6,(aH L6 (fun d H2 hd b2 pk2=>?_))]];refine (ZU);refine [Mu,[SO,p,k,_,pk2,L6,M0,(aH M0 (fun d3 H3 hd3 b3 pk3=>?_))]];refine (ZU);refine [Mu,[SO,p,k,_,pk3,L6,M0,(aH M0 (fun d4 H4 hd4 b4 pk4=>?_))]];refine [P7,?_];have em:[My,1]+[My,d]=[RK,d+1]:=Mr
 dsimp only;rw [em];refine [Mn,[Mn,[Mn,[MR,[SO,p,k,d+1,pk4,L6,L6,(fun H5 nl names b5 pk5 nl0 hnl hnm hnz=>?_)]]]]];refine [Mw,([Qq,4]),fun sh hsh=>?_];have s05:[Pc,H5]:=(b2.trans (b3.trans (b4.trans b5))).same s1 p0;have s6:=aw hsh [Rj,[[MH,(d+1:Nat)],.bl ([N8,0<[My,d3]]),.bl ([N8,[W2,[My,d4]]=[W2,0]]),.ref nl]];have hsh6:([Rz,H5,sh,[[MH,(d+1:Nat)],.bl ([N8,0<[My,d3]]),.bl ([N8,[W2,[My,d4]]=[W2,0]]),.ref nl]]) sh=[OD,[[MH,(d+1:Nat)],.bl ([N8,0<[My,d3]]),.bl ([N8,[W2,[My,d4]]=[W2,0]]),.ref nl]]:=aq;have hnl6:=s6 _ _ hnl;have s06:=s05.trans s6;generalize (upd H5 sh (.tup [.int ((d+1:Nat):Int),.bl (decide (0<(d3:Int))),.bl (decide (V.int (d4:Int)=V.int 0)),.ref nl]))=H6 at s6 hsh6 hnl6 s06 ⊢;refine [Mu,cC _ rfl L6 L6 (Rl)];refine jx (lo:=0) (n:=[TF,[RK,d+1]]) (fun j ys H7=>∃ bs:M6,Same H6 H7/\[Vg,BellAt H7,ys,bs]/\Wu=j/\([Ru,bs,GoodB (d+1) 0 true b/\rz so OC b.rule])/\bs.map (·.name)=names.take j) (eY [] (aw hD _) .nil rfl (fun _ h=>([PL,h])) rfl) ?_ ?_
 .rintro j ys H7 hj ⟨bs,s7,pr,hbs,gb,gn⟩ hD7;rw [Xv];refine V9;have ek:PZ+1+YB=[RK,k+1+j]:=Mr
  refine [MR,[Ux,[Mu,[Ux,(dh a ns (k+1+j) (by show [V.ref a,[W2,PZ+1+YB]]=[V.ref a,[W2,[RK,k+1+j]]]; rw [ek]) ((s06.trans s7).seq hS) L6 (fun H8 p' s8 p'0 pk8=>?_))]]]];have nlp:nl≠p':=[UT,by
   have:=s7 _ _ hnl6;rw [e,p'0] at this;cases this]
  refine [Mn,[MR,cf p' sh nl (k+1+j) (cf (d+1) j so _ ([Yv,_,names,pk8,L6,s8 _ _ (s7 _ _ hsh6),(dv (s8 _ _ (s7 _ _ hnl6)) nlp hnm L6 (bM L6 so2 (fun H9 v b b9 pk9 hv hbn hgb hsr=>?_)))]))]];have s9:Same H7 H9:=b9.same s8 p'0;have hD9:=s9 _ _ hD7;have lp:=aJ pr;have tS:iQ H9 ([Py,H9,D,ys++[v]]):=fun x xs e=>by
   rw [aK (eR e hD9 (OF))];exact e
  refine (aC _ hD9 (Sf) (af _ (eY (bs++[b]) ((s7.trans s9).upd hD _) ?_ ?_ (ZQ) ?_) aq))
  .exact cP (hv.mono tS) (bL (fun _ _ x=>(x.mono [OT,s9]).mono tS) pr)
  .rw [Na,hbs];rfl
  .rcases List.mem_append.mp hx with h | h
   .exact gb x h
   .rw [[MQ,h]];exact [Mw,hgb,hsr]
  .rw [Mt,gn,[Tj,hbn]];rfl
 .rintro ys H7 ⟨bs,s7,pr,hbs,gb,gn⟩ hD7;have hbs':Wu=d+1:=Mr
  refine ([Xp,D,_,[T6,[Mw,[Tn,hD7],fun t ht=>?_]]]);have s8:=aw ht [Rj,ys];refine q _ _ bs (s06.trans (s7.trans s8)) ([Od,t,ys,aq,(bL (fun _ _ x=>x.mono [OT,s8]) pr)]) L6 L6 ?_ (af names hnz (by rw [gn,hbs']; rfl));rw [hbs'];exact gb
end
end K82
namespace K82
open PySem L2
def f7:Str:="0123456789"
def mH (c:Nat):Bool:=!([QL,f7,Ss,f7.length,1]).isEmpty
theorem CC {c:Nat} (h:mH c=true):48<=c/\c<=57:=by
 unfold mH at h;rcases StrLaws.occ_head f7 ⟨#[c]⟩ 1 (Nat.le_refl _) with ⟨e,_⟩ | ⟨i,r,_,h2,_⟩
 .rw [e] at h;cases h
 .have hm:=[Mf,(([We,f7,i]).mp h2)];have all:∀ c∈f7.cps.toList,48<=c/\c<=57:=L5
  exact all c hm
theorem Bb {c:Nat} (h1:48<=c) (h2:c<=57):mH c=true:=by
 have all:∀ d,d<10->mH (48+d)=true:=L5
 have:=all (c - 48) L6;rw [[MM,48+(c - 48)=c]] at this;exact this
theorem xf:[Rk,"0"]=[P5,48]:=L5
def gy (z:Str) (m:Int):Bool:=[N8,[XC,1]] && [N8,[My,z.length]<=m] && z.cps.toList.all mH && ([N8,z="0"] || [N8,NI[0]?≠some 48])
def pW (z:Str):Th:=[Mj,gy z 9=true,.int (PySem.NumText.digitsVal NI:Nat),.non]
def rk (z:Str):Th:=[Mj,z=UB\/z=UE,R9,pW z]
def j1 (z:Str):Str:=[Mj,Txt.endswith z "="=true,[A00,z,none,([Mo,-1])],z]
def yg (z:Str):Int:=[Mj,Txt.endswith z "="=true,0,1]
def yo (names:MB) (z:Str):Th :=
 [Mj,iZ [XE,([Pf,z,"+"]).1]=true/\([Pf,z,"+"]).1∈names,.tup [[MH,(names.findIdx ([Z2,[N8,x=([Pf,z,"+"]).1]]):Nat)],pW (j1 ([Pf,z,"+"]).2.2),[Va,yg ([Pf,z,"+"]).2.2]],.non]
def iO (names:MB) (z:Str):Th :=
 [Mj,[MP,[Rt,z]]<4,.non,.tup [.str (([Rt,z]).getD 0 O4),pW (([Rt,z]).getD 1 O4),rk (([Rt,z]).getD 2 O4),.tup ([Tr,([Rt,z]).drop 3,yo names])]]
theorem vk (x y:Str):([Pf,x,y]).1.length<=x.length/\([Pf,x,y]).2.2.length<=x.length:=by
 unfold Txt.partition;cases Builtin.Str.occurrences x y 0 x.length 1 with
 | nil=>exact [Mw,Mm,OX]
 | cons i r=>exact [Mw,strSub_length_le ..,strSub_length_le ..]
theorem slice_le (x:Str) (lo hi:M7):[MP,[A00,x,lo,hi]]<=x.length:=by
 rw [<- cu,<- cu,iU];unfold zE;rw [Nc,SU];omega
theorem Et (z:Str):[XC,[MP,j1 z]]:=by
 unfold j1;split
 .exact slice_le ..
 .exact Mm
section
variable {P:Program} {w:World} {K:M3} {mg:Str->Ms} {base:Heap} {f:Addr} {fd:FuncData}
def qd:Sp:=[MV,∃ (z:Str) (m:Int),vs=[R9,.int m]/\[Se,1000]/\∀ H',Pk->Q (.bl (gy z m)) H']
theorem Gb:[QI,[Ta,"most_figures"],[Ta,"most_figures"],eZ]:=R1
theorem Hs {tF:Tok} (F:[UG,Xx,Xx,eZ]) (B:Q5) (mF:mg "FIGURES"=[Mo,.str f7 tF]):FnOk P w K mg base CX0 1 f fd [Ta,"most_figures"] qd:=by
 refine [T5,Gb]
 .refine bU h fun z m eq1 _=>?_;clear h;subst eq1;rfl
 refine aX h fun z m eq2 hz q=>?_;clear h;subst eq2;refine [XD,[Z5,dm (gN hJ hJ au ([Vy,gJ,rfl,RH]) RB),av (aI gg)],(ak [Z5,dm (cO (aL (hV rfl) rfl B.all_ SG [Ou,cz ["sign"] [] [] rfl (Dh NB) [Wf,0,([Mg,[[Rk,"sign"]]])] RN [Qt,(fE ud NB (eA (v:=.str f7) rfl mF [Nl,tF]) rfl)]])),av (aI gg)] (av (aI (KO (fE c8 NB a8 U7) (lj (fE wx ([RZ,uL,NB]) a8 U7))))))]
 refine [Mu,[U3,Nh,([Ux,[Mu,dC (fun g1=>?_) (fun g1=>?_)]])]];rotate_left
 .have e:[Vb,gy z m]:=by
   unfold gy;rw [[NJ,[Yh,¬ [XC,1],fun h=>g1 ([MA,L6])]]];rfl
  rw [e] at q;exact [Mu,cv (q H (Yk))]
 have h1:[My,1]<=[My,z.length]:=[MF,g1];refine [Mu,XF];by_cases h2:[My,z.length]<=m;rotate_left
 .have e:[Vb,gy z m]:=by
   unfold gy;rw [[NJ,h2],Zc];rfl
  rw [e] at q;rw [[NJ,h2]];exact cv (q H (Yk))
 rw [[MA,h2]];refine T8;have e:gy z m=(z.cps.toList.all mH && ([N8,z="0"] || [N8,NI[0]?≠some 48])):=by
  unfold gy;rw [[MA,[Yu,[XC,1]]],[MA,h2]];rfl
 rw [e] at q;refine [Mn,[Ma,z,Rl]];refine x5 (z:=z) (fun i ys H3=>[Pc,H3]/\ys=[Tr,[Tr,z.cps.toList.take i,mH],V.bl]) [Nl,aw hD _] ?_ ?_
 .rintro i c ys H3 hc ⟨s3,rfl⟩ hD3;have hc':NI[i]?=Qj:=[Ml,hc]
  have hi:i<z.length:=by
   have:=[L8,hc'];rw [cu] at this;exact this
  refine V9;refine [Mu,[Ux,(aC _ hD3 ?_ [Yt,_,[Nl,s3.upd hD _]])]]
  .rw [Mc,Mc,Nc];exact Sf
  .rw [[Tj,hc'],Mt,Mt];exact aq
 rintro ys H3 ⟨s3,rfl⟩ hD3;have hT:z.cps.toList.take SV=NI:=[Oy,Pz];rw [hT] at hD3;refine ([Od,D,_,[NO,hD3],?_]);rw [all_map];refine ND;cases ea:z.cps.toList.all mH with
 | false=>rw [ea] at q; exact cv (q H3 s3)
 | true =>
  rw [ea] at q;refine T8;refine ([U8,ND]);refine dC (fun c=>?_) (fun c=>?_)
  .rw [[MA,[Yh,z="0",V.str.inj ([MF,c])]]] at q;exact q H3 s3
  .have c':¬ z="0":=fun h=>c ([MA,([R5,V.str,h])])
   rw [[NJ,c']] at q;have h0:0<z.cps.toList.length:=by rw [cu]; omega
   have hat:=[M4,h0];refine [Mu,[SO,_,_,_,rfl,Nh,bh (j:=0) hat,([QW,?_])]];have e0:(![N8,V.str [P5,NI[0]]=V.str [Rk,"0"]])=[N8,NI[0]?≠some 48]:=by
    rw [hat,xf,<- decide_not];refine decide_eq_decide.mpr [Mw,fun h h'=>h ?_,fun h h'=>h ?_]
    .rw [[Mq,h']]
    .have:=V.str.inj h';injection this with this;have e2:=[R5,Array.toList,this];rw [([Pt,e2]).1]
   rw [e0];exact q H3 s3
theorem pq {z:Str} {m:Int} (h:gy z m=true):PySem.NumText.AllDigits NI/\NI≠[]/\[My,z.length]<=m:=by
 unfold gy at h;rw [Oo,Oo,Oo] at h;obtain ⟨⟨⟨h1,h2⟩,h3⟩,_⟩:=h;refine (bM (fun c hc=>CC ([RI,h3,c,hc])) ([UT,?_]) ([MF,h2]));have:=[MF,h1];rw [<- cu,e] at this;exact [O9,this,M0]
def lW:Sp:=[MV,∃ (z:Str),vs=[R9]/\[Se,1000]/\∀ H' v,Pk->ThAt H' (pW z) v->Q v H']
theorem Hf:[QI,[Ta],[Ta],iI]:=R1
theorem GD {tM:Tok} (F:[UG,Zx,Zx,iI]) (B:Q5) (mM:mg "MOST_FIGURES_choirtexts"=[Mo,.int 9 tM]) (C_writ:[R3,1,Xx,[Ta,"most_figures"],qd]):FnOk P w K mg base CX0 2 f fd [Ta] lW:=by
 refine [T5,Hf]
 .refine ar h fun z eq3 _=>?_;clear h;subst eq3;rfl
 refine bp h fun z eq4 hz q=>?_;clear h;subst eq4;refine [XD,[Z5,cO [VD,C_writ,NB,eA (v:=.int 9) rfl mM [Nl,tM]],av (aI (bX cW rfl B.int_ OZ RH))],av (aI cK)]
 refine [Mu,[Od,z,9,hz,(fun H1 s1=>ND)]];cases e:gy z 9 with
 | false =>
  refine T8;have e2:pW z=.non:=by unfold pW; rw [e]; rfl
  rw [e2] at q;exact q H1 .non s1 rfl
 | true =>
  refine WJ;refine cb (pq e :) fun h1 h2 h3=>?_
  have e2:pW z=.int (PySem.NumText.digitsVal NI:Nat):=by unfold pW; rw [e]; rfl
  rw [e2] at q;exact [Mu,[Rg,z,_,L6,PySem.intText_digits h1 h2 L6,q H1 _ s1 rfl]]
def se:Sp:=[MV,∃ (z:Str),vs=[R9]/\[Se,1000]/\∀ H' v,Pk->ThAt H' (rk z) v->Q v H']
theorem Fe:[QI,[Ta],[Ta],jS]:=R1
theorem F2 (F:[UG,"read_rule","read_rule",jS]) (C_rnum:[R3,2,Zx,[Ta],lW]):FnOk P w K mg base CX0 3 f fd [Ta] se:=by
 refine [T5,Fe]
 .refine ar h fun z eq5 _=>?_;clear h;subst eq5;rfl
 refine bp h fun z eq6 hz q=>?_;clear h;subst eq6;refine [XD,[Z5,aZ nH NB (dB (ae a8 [Ot,a8])) rfl,av (aI NB)],(av (aI [S4,C_rnum,RH]))]
 refine ([U3,Zn,Vz]);have s1:=aw hl [Rj,[.str UB,.str UE]];refine ([Yv,l,_,([PY,[O1,aq]]),rfl,(kK [UB,UE]),ND]);rw [[Nn,[V.str UB,V.str UE]=([UB,UE]:MB).map V.str,rfl],mZ];by_cases h:z=UB\/z=UE
 .rw [[MA,(by rcases h with rfl | rfl <;> simp)]];refine WJ;have e2:rk z=R9:=[P9,h];rw [e2] at q;exact [Mu,q _ _ s1 [P7,hz]]
 .rw [[NJ,(by
   intro hm;rcases List.mem_cons.mp hm with h1 | h1
   .exact h [T6,h1]
   .exact h ([PY,[MQ,h1]]))]]
  refine T8;have e2:rk z=pW z:=[Ph,h];rw [e2] at q;exact [Mu,[Oz,z,hz,(fun H' v s' ht=>q H' v (s1.trans s') ht)]]
end
end K82
namespace K82
open PySem L2
theorem xD:[Rk,"+"]=[P5,43]:=L5
theorem eq_str:[Rk,"="]=[P5,61]:=L5
theorem Ao:[Rk,Xu]=[P5,32]:=L5
theorem AZ {names:MB} {z:Str} (h:z∈names):names[names.findIdx ([Z2,[N8,x=z]])]?=YW/\∀ i,i<names.findIdx ([Z2,[N8,x=z]])->names[i]?≠YW:=by
 have hx:names.findIdx ([Z2,[N8,x=z]])<UH:=List.findIdx_lt_length_of_exists (af z h ([MA,rfl]));refine [Mw,?_,fun i hi e=>?_]
 .rw [[M4,hx]];exact [R5,some,([MF,(List.findIdx_getElem (p:=[Z2,[N8,x=z]]) (w:=hx))])]
 .obtain ⟨hl,e'⟩:=[Uu,e];have:=List.not_of_lt_findIdx hi;rw [e'] at this;rw [[MA,rfl]] at this;cases this
section
variable {P:Program} {w:World} {K:M3} {mg:Str->Ms} {base:Heap} {f:Addr} {fd:FuncData}
def vB:Sp:=[MV,∃ (z:Str) (nl:Addr) (names:MB),vs=[R9,.ref nl]/\[Se,1000]/\H nl=[VM,A0b]/\UH<=1000/\∀ H' v,Pk->ThAt H' (yo names z) v->Q v H']
theorem kH:[QI,[Ta,WU,"parts",ZM,"back"],[Ta,WU],fU]:=R1
theorem Hm (F:[UG,"read_listening","read_listening",fU]) (C_name:[R3,2,"is_name",[OL],qa]) (C_rnum:[R3,2,Zx,[Ta],lW]):FnOk P w K mg base CX0 3 f fd [Ta,WU] vB:=by
 refine [T5,kH]
 .refine dZ h fun z nl names eq7 _=>?_;clear h;subst eq7;rfl
 refine fe h fun z nl names eq8 hz hnl hn q=>?_;clear h;subst eq8;refine [Xr,[YG,2,kH.nd,(dr O5 PySem.F.slot_str_partition PySem.F.type_str_partition mK NB [Ot,a8]),ak [Z5,PW.pt (kY (dm (cO [S4,C_name,[Ou,[Tq,TR]]])) (iz (aZ mQ ([Tq,TR]) RB rfl))),av (aI cK)] ([YG,3,kH.nd,([Tq,TR]),[YG,4,kH.nd,au,sP [Z5,cO (dr O5 PySem.F.slot_str_endswith PySem.F.type_str_endswith xQ VY [Ot,a8]),([YG,3,kH.nd,gc Aj VY iu (ia (Im EJ au)),av [Vx,4,kH.nd,au]])] (av (aI (dB (ae (dr Ow PySem.F.slot_list_index PySem.F.type_list_index xY RB [Ou,[Tq,TR]]) [RL,[S4,C_rnum,[Ou,T3]],UL]))))]])]]
 obtain ⟨p1,p2⟩:=vk z "+";refine ([U8,([Yv,z,"+",rfl,Rb,L6,([VV,?_])])]);have s1:=aw hp [Rj,[.str ([Pf,z,"+"]).1,.str ([Pf,z,"+"]).2.1,.str ([Pf,z,"+"]).2.2]];have hP:([Rz,H,p,[.str ([Pf,z,"+"]).1,.str ([Pf,z,"+"]).2.1,.str ([Pf,z,"+"]).2.2]]) p=[OD,[.str ([Pf,z,"+"]).1,.str ([Pf,z,"+"]).2.1,.str ([Pf,z,"+"]).2.2]]:=aq;unfold yo at q;generalize upd H p (.tup [.str (Txt.partition z "+").1,.str (Txt.partition z "+").2.1,.str (Txt.partition z "+").2.2])=H1 at s1 hP ⊢;generalize Txt.partition z "+"=pt at *;obtain ⟨nm,pl,rs⟩:=pt;dsimp only at *;refine [QF,p,_,_,_,([O1,hP]),([Od,[XE,nm],[XE,nm],[P7,Mr],(fun H2 s2=>ND)])];have s02:=Rf;have hP2:=s2 _ _ hP;cases e1:iZ (.str nm) with
 | false =>
  rw [e1] at q;exact cv (cv (q H2 .non s02 rfl))
 | true =>
  rw [e1] at q;refine T8;refine [QF,p,_,_,_,([O1,hP2]),[Mu,[Yv,nl,_,[T6,[NO,s02 _ _ hnl]],rfl,kK names,ND]]];rw [mZ];by_cases hm:nm∈names;rotate_left
  .rw [[NJ,hm]];refine WJ;rw [[Ph,(fun h=>hm h.2)]] at q;exact q H2 .non s02 rfl
  rw [[MA,hm]];refine T8;rw [[P9,[P7,hm]]] at q;refine [QF,p,_,_,_,([O1,hP2]),?_];refine [Yt,(fun σ H3=>σ=[[Mo,R9],[Mv,nl],[Mv,p],[Mo,.str (j1 rs)],[Mo,[Va,yg rs]]]/\H3=H2),?_]
  .refine ([U8,([ON,rs,"=",ND])]);unfold j1 yg;cases e2:Txt.endswith rs "=" with
   | false=>exact cw [Nl,rfl]
   | true =>
    refine WJ;exact [Mn,[MR,cC rs rfl (Nh) rfl rfl]]
  rintro σ H3 ⟨rfl,rfl⟩;obtain ⟨f1,f2⟩:=AZ hm;have hb:=Et rs;refine ([U3,[T6,([QW,(e8 _ [NO,s02 _ _ hnl])])],[QF,p,_,_,_,([O1,hP2]),([NN,nl,nm,names,_,s02 _ _ hnl,hn,(bM f1 f2 [Mu,[Oz,j1 rs,L6,(fun H4 v s4 ht=>?_)]])])]]);refine ([U3,([Qq,3]),(fun t htn=>?_)]);refine q _ _ ([Q9,s02.trans s4,aw htn _]) ([Od,t,_,aq,([Ux,([Od,_,_,ThAt.same (aw htn _) _ ht,([Ux,rfl])])])])
end
end K82
namespace K82
open PySem L2
theorem zi {H:Hp} {a:Addr} {vs:Nz} {ts:List Th} (h:H a=[OD,vs]) (p:ThsAt H ts vs):ThAt H [Rj,ts] VU:=([Od,a,vs,h,p])
theorem th4 {H:Hp} {s t r q:Th} {u v w x:V} (h1:ThAt H s u) (h2:ThAt H t v) (h3:ThAt H r w) (h4:ThAt H q x):ThsAt H [s,t,r,q] [u,v,w,x]:=([Od,_,_,h1,([Od,_,_,h2,([Od,_,_,h3,([Od,_,_,h4,rfl])])])])
structure Kin (H H':Hp):Prop where
 tup:∀ a vs,H a=some (.tup vs)->H' a=some (.tup vs)
 lst:∀ a xs,H a=some (.lst xs)->∃ ys,H' a=some (.lst ys)
 dic:∀ a kvs,H a=some (.dK kvs)->∃ l,H' a=some (.dK l)
theorem Same.kin {H H':Hp} (s:Pk):Kin H H':=⟨fun a vs h=>s _ _ h,fun a xs h=>[Mw,xs,s _ _ h],fun a l h=>[Mw,l,s _ _ h]⟩
theorem Kin.trans {H H1 H2:Hp} (k:Kin H H1) (k':Kin H1 H2):Kin H H2:=⟨fun a vs h=>k'.tup _ _ (k.tup _ _ h),fun a xs h=>by obtain ⟨ys,h'⟩:=k.lst _ _ h; exact k'.lst _ _ h',fun a l h=>by obtain ⟨m,h'⟩:=k.dic _ _ h; exact k'.dic _ _ h'⟩
theorem qf {H:Hp} {D:Addr} {ys zs:Nz} (h:H D=ZR):Kin H ([Py,H,D,zs]):=by
 refine ⟨fun a vs e=>?_,fun a xs e=>?_,fun a l e=>?_⟩
 .have:a≠D:=[OE,by rw [z,h] at e; cases e]
  rw [aK this];exact e
 .by_cases hd:a=D
  .rw [hd];exact [T7,aq]
  .rw [aK hd];exact [T7,e]
 .have:a≠D:=[OE,by rw [z,h] at e; cases e]
  rw [aK this];exact [T7,e]
mutual
theorem ThAt.kin {H H':Hp} (s:Kin H H'):∀ (t:Th) {v:V},ThAt H t v->ThAt H' t v
 | .int _,_,h=>h
 | .bl _,_,h=>h
 | .non,_,h=>h
 | .str _,_,h=>h
 | .tup ts,_,⟨a,vs,e,ha,h⟩=>(aB a vs e (s.tup _ _ ha) (ThsAt.kin s ts h))
 | .lst,_,⟨a,xs,e,ha⟩=>by obtain ⟨ys,h'⟩:=s.lst _ _ ha; exact (bP a ys e h')
 | .dic,_,⟨a,xs,e,ha⟩=>by obtain ⟨ys,h'⟩:=s.dic _ _ ha; exact (bP a ys e h')
theorem ThsAt.kin {H H':Hp} (s:Kin H H'):∀ (ts:List Th) {vs:List V},ThsAt H ts vs->ThsAt H' ts vs
 | [],_,h=>h
 | t::ts,_,⟨v,r,e,h1,h2⟩=>(aB v r e (ThAt.kin s t h1) (ThsAt.kin s ts h2))
end
theorem ThsAt.snoc {H:Hp} {ts:List Th} {t:Th} {vs:Nz} {v:V} (h:ThsAt H ts vs) (h':ThAt H t v):ThsAt H (ts++[t]) (vs++[v]):=h.app ([Od,v,[],h',rfl])
end K82
namespace K82
open PySem L2
theorem getD_at {ws:MB} {i:Nat} (h:i<VN):(Sv)[i]?=[Mo,.str (ws.getD i O4)]:=by
 rw [Mz,[M4,h],Nj,[M4,h]];rfl
theorem getD_mem {ws:MB} {i:Nat} (h:i<VN):ws.getD i O4∈ws:=by
 rw [Nj,[M4,h]];exact [QN,h]
theorem y4 (ws:MB) (h:3<=VN):jJ (Sv) (some 3) none=[OI,ws.drop 3]:=by
 unfold jJ;rw [[Nn,[My,3]=[RK,3],rfl],HT.mx,HT.iP,Mc,Nat.min_eq_left h,List.map_drop];exact [Oy,(by rw [List.length_drop,List.length_map]; omega)]
theorem Ef (ws:MB) (i:Nat) (h:i<=VN):jJ (Sv) none (some X4)=[OI,ws.take i]:=by
 unfold jJ;rw [HT.mx,HT.iP,Mc,Nat.min_eq_left h,List.map_take];rfl
section
variable {P:Program} {w:World} {K:M3} {mg:Str->Ms} {base:Heap} {f:Addr} {fd:FuncData}
def tD:Sp:=[MV,∃ (z:Str) (nl:Addr) (names:MB),vs=[R9,.ref nl]/\[Se,900]/\H nl=[VM,A0b]/\UH<=1000/\∀ H' v,Pk->ThAt H' (iO names z) v->Q v H']
theorem rJ:[QI,["row",WU,Xy,"listenings"],["row",WU],jW]:=R1
theorem EB (F:[UG,"read_bell","read_bell",jW]) (B:Q5) (C_rnum:[R3,2,Zx,[Ta],lW]) (C_rrule:[R3,3,"read_rule",[Ta],se]) (C_rlis:[R3,3,"read_listening",[Ta,WU],vB]):FnOk P w K mg base CX0 4 f fd ["row",WU] tD:=by
 refine [T5,rJ]
 .refine dZ h fun z nl names eq1 _=>?_;clear h;subst eq1;rfl
 refine fe h fun z nl names eq2 hz hnl hn q=>?_;clear h;subst eq2;refine [Xr,[YG,2,rJ.nd,(dr O5 Sq So i3 NB [Ot,a8]),ak [Z5,aZ t8 ([Vy,bz,rfl,[Ou,Qn]]) au U7,av (aI cK)] (ak (cU (i:=3) [Ut] [WU] [1] rfl rJ.nd rfl OG (de (gc qi TR (ia au) iu)) [Wf,0,([Mg,[[Rk,Ut],[Rk,WU]]])] RN [Qt,[VD,C_rlis,NB,P0]]) (av (aI (dB (ae ([RZ,aU,TR]) (ae [S4,C_rnum,[Ou,[RZ,aU,TR]]] [RL,[S4,C_rrule,[Ou,[RZ,aU,TR]]],bX eS rfl B.tuple_ Rq [Ou,T3]]))))))]]
 refine ([U8,([Yv,z,Xu,rfl,Rb,L6,Vz])]);have s1:=[XG,hl,([OI,[Rt,z]])];have hL:([Py,H,l,([OI,[Rt,z]])]) l=[VM,[OI,[Rt,z]]]:=aq;have hsh:∀ a∈[Rt,z],[XC,a.length]:=fun a h=>PyProof.Rows.part_short h
 have hle:=PyProof.Rows.split_le z Xu;unfold iO at q;generalize upd H l (.lst ((Txt.split z " ").map V.str))=H1 at s1 hL ⊢;generalize Txt.split z " "=ws at *;refine [Mu,[Od,l,_,[T6,[NO,hL]],([Ux,[Mu,dC (fun c=>?_) (fun c=>?_)]])]]
 .have c':VN<4:=by
   have:=[MF,c];rw [Mc] at this;omega
  rw [[P9,c']] at q;exact q H1 .non s1 rfl
 have h4:4<=VN:=by
  refine [O3,c ([MA,?_])]
  rw [Mc];omega
 rw [[Ph,L6]] at q;refine [MR,[Od,l,_,[NO,hL],(fun l2 hl2=>?_)]];rw [y4 ws L6];have s2:=[XG,hl2,([OI,ws.drop 3])];have hL2:([Py,H1,l2,([OI,ws.drop 3])]) l2=[VM,[OI,ws.drop 3]]:=aq;generalize upd H1 l2 (.lst ((ws.drop 3).map V.str))=H2 at s2 hL2 ⊢;refine ([UN,l2,[Tn,hL2],Rl]);refine cX (K:=K) (a:=l2) (xs:=[OI,ws.drop 3]) (fun i ys H3=>Same H2 H3/\ThsAt H3 ([Tr,(ws.drop 3).take i,yo names]) ys) [Nl,aw hD _] (fun i ys H3 _ ⟨s,_⟩=>[Tn,s _ _ hL2]) ?_ ?_
 .rintro i x ys H3 hx ⟨s3,hy⟩ hD3;rw [Mz] at hx;obtain ⟨a,ha,rfl⟩:∃ a,(ws.drop 3)[i]?=some a/\V.str a=x:=by
   cases e:(ws.drop 3)[i]? with
   | none=>rw [e] at hx; cases hx
   | some a=>rw [e] at hx; exact [Ma,a,([Mq,hx])]
  have ham:a∈ws:=List.mem_of_mem_drop [Xg,ha];have hal:=hsh a ham;have hil:=[L8,ha];rw [SU] at hil;refine V9;have s03:=[Q9,Rf,s3];refine [MR,[SO,a,nl,names,L6,s03 _ _ hnl,hn,(fun H4 v s4 ht=>?_)]];have hyl:=hy.len;rw [Mc,Nc] at hyl;refine (aC _ (s4 _ _ hD3) (Sf) (af _ [W4,(s3.trans s4).upd hD _] aq));rw [[Tj,ha],Mt];exact ThsAt.snoc (ThsAt.kin ([Q9,Same.kin s4,qf (s4 _ _ hD3)]) _ hy) (ThAt.kin (qf (s4 _ _ hD3)) _ ht)
 rintro ys H3 ⟨s3,hy⟩ hD3;rw [Mc,NL] at hy;have hyl:=hy.len;rw [Mc,SU] at hyl;have s13:=Qh;have hl3:=s13 _ _ hL;refine [NW,l,_,_,_,[NO,hl3],bh (j:=0) (getD_at L6),?_];refine [NW,l,_,_,_,[NO,hl3],bh (j:=1) (getD_at L6),([U3,([NV,hsh _ (getD_mem (i:=1) [Yu,1<VN])]),(fun H4 v4 s4 ht4=>?_)])];refine [NW,l,_,_,_,[NO,s4 _ _ hl3],bh (j:=2) (getD_at L6),([U3,([NV,hsh _ (getD_mem (i:=2) [Yu,2<VN])]),(fun H5 v5 s5 ht5=>?_)])];refine [Mu,[Xp,D,_,[T6,[Mw,[Tn,(Xk) _ _ hD3],fun t ht=>?_]]]];refine [Mw,([Qq,4]),fun r hr'=>?_];have v1:=aw ht [Rj,ys];have v2:=aw hr' [Rj,[.str (ws.getD 0 O4),v4,v5,.ref t]];have s35:=[Q9,Xk,v1.trans v2];refine q _ _ (([Q9,s1.trans s13,s35])) (zi aq (th4 [P7,?_] (ThAt.same (s5.trans (v1.trans v2)) _ ht4) (ThAt.same (v1.trans v2) _ ht5) (zi (v2 _ _ aq) (ThsAt.same s35 _ hy))));have:=hsh _ (getD_mem (i:=0) [Yu,0<VN]);omega
theorem B8 {X:Cx} {K:M3} (n:String) (hK:X.K=K):dM X ([Sl,"isinstance"]) (Ls K n):=hK▸dI n
def rq:Sp:=[MV,∃ (l:Addr) (zs:MB),vs=[X5]/\H l=[VM,TU]/\1<=Qy/\Qy<=6/\∀ H',Pk->Q (.bl true) H']
theorem JI (K:M3):[Om,PF,PF]=Ys:=O6
theorem E9:[QI,[OL],[OL],lF]:=R1
theorem Dj {tO:Tok} (F:[UG,"are_rows","are_rows",lF]) (B:Q5) (mO:mg "MOST_BELLS"=[Mo,.int 6 tO]):FnOk P w K mg base CX0 1 f fd [OL] rq:=by
 refine [T5,E9]
 .refine bU h fun l zs eq3 _=>?_;clear h;subst eq3;rfl
 refine fz h fun l zs eq4 hl z1 z6 q=>?_;clear h;subst eq4;refine [XD,[Z5,PW.pt (kY (dm (cO (aL (dI "list") rfl RS NY [RL,NB,eK (v:=.ty "list") rfl B.list_ PyProof.Rows.boot_list rfl]))) (iz (dm (gN hJ hJ au ([Vy,bz,rfl,RH]) (eA (v:=.int 6) rfl mO [Nl,tO]))))),av (aI gg)],(av (aI (aL (hV rfl) rfl B.all_ SG [Ou,cz ["row"] [] [] rfl (de NB) [Wf,0,([Mg,[[Rk,"row"]]])] RN [Qt,(aL (B8 (K:=K) Z3 rfl) rfl RS NY [RL,NB,eK (v:=.ty Z3) rfl B.str_ Q3 rfl])]])))]
 refine [Mu,dh _ _ _ rfl [Pl,hl] (JI K) [Mu,T8]];refine [Mu,[Od,l,_,[T6,[NO,hl]],XF]];rw [Mc,[MA,[Yu,[My,1]<=[RK,Qy]]]];refine cv (XF);rw [[MA,[Yu,[RK,Qy]<=6]]];refine T8;refine [Mu,[UN,l,[Tn,hl],Rl]];refine cX (K:=K) (a:=l) (xs:=TU) (fun i ys H3=>[Pc,H3]/\ys=[Tr,[Tr,zs.take i,[Qe,true]],V.bl]) [Nl,aw hD _] (fun i ys H3 _ ⟨z,_⟩=>[Tn,z _ _ hl]) ?_ ?_
 .rintro i x ys H3 hx ⟨s3,rfl⟩ hD3;obtain ⟨a,ha,rfl⟩:∃ a,zs[i]?=some a/\V.str a=x:=by
   rw [Mz] at hx;cases e:zs[i]? with
   | none=>rw [e] at hx; cases hx
   | some a=>rw [e] at hx; exact [Ma,a,([Mq,hx])]
  refine V9;refine [Mu,dh _ _ _ rfl [XE,a] (jN K) (aC _ hD3 ?_ [Yt,_,[Nl,s3.upd hD _]])]
  .rw [Mc,Mc,Nc];exact Sf
  .rw [[Tj,ha],Mt,Mt];exact aq
 rintro ys H3 ⟨s3,rfl⟩ hD3;rw [Mc,NL] at hD3;refine ([Od,D,_,[NO,hD3],?_]);rw [all_map];have e:(zs.all fun _=>true)=true:=List.all_eq_true.mpr Mb
 rw [e];exact q H3 s3
def gC (z:Str):Str:=([Rt,z]).getD 0 O4
def uW:Sp:=[MV,∃ (l:Addr) (zs:MB),vs=[X5]/\H l=[VM,TU]/\1<=Qy/\Qy<=6/\(∀ z∈zs,[Se,900])/\(∀ i z,zs[i]?=YW->ur (iO (ZD) z) ((ZD).take i) Qy=true)/\ ∀ (H':Hp) (v:V),Pk->ThAt H' [Rj,zs.map (iO (ZD))] v->Q v H']
theorem kP:[QI,["rows",WU,Sn,"number","row",Oj],["rows"],jd]:=R1
theorem Ii (F:[UG,"read_choir","read_choir",jd]) (B:Q5) (C_arows:[R3,1,"are_rows",[OL],rq]) (C_rbell:[R3,4,"read_bell",["row",WU],tD]) (C_isbell:[R3,7,"is_bell",[OL,"ahead",Sn],n9]):FnOk P w K mg base CX0 8 f fd ["rows"] uW:=by
 refine [T5,kP]
 .refine bU h fun l zs eq5 _=>?_;clear h;subst eq5;rfl
 refine fz h fun l zs eq6 hl z1 z6 pq0=>cb pq0 fun hz hb q=>?_;clear pq0 h;subst eq6;refine [XD,[Z5,dm (cO [S4,C_arows,RH]),cq],(ak (cU (i:=1) ["row"] [] [] rfl kP.nd rfl OG (de NB) [Wf,0,([Mg,[[Rk,"row"]]])] RN [Qt,([RZ,qu (K:=K) rfl,(JE (K:=K) rfl O5 Sq So i3 NB [Ot,a8])])]) ([YG,2,kP.nd,cM ah,ak (cT Ny rfl (HZ rfl B.enumerate_ RH) (fL rfl ([YY,3,kP.nd,([YY,4,kP.nd,dG])])) ([YG,5,kP.nd,[VD,C_rbell,WN,P0],ak [Z5,dm (cO [S4,C_isbell,(ae (Yc) [RL,gc qi RB iu (ia VY),[Vy,bz,rfl,RH]])]),cq] (av (cH (dr Ow P4 P2 dq TR [Ou,Yc])))])) (av (aI (bX eS rfl B.tuple_ Rq [Ou,Qn])))]))]
 refine [Mu,[Yv,l,zs,hl,z1,z6,(fun H1 s1=>[Mu,T8])]];have hl1:=s1 _ _ hl;refine [Mu,[UN,l,[Tn,hl1],Rl]];refine cX (K:=K) (a:=l) (xs:=TU) (fun i ys H3=>Same H1 H3/\ys=[OI,[Tr,zs.take i,gC]]) [Nl,aw hD _] (fun i ys H3 _ ⟨z,_⟩=>[Tn,z _ _ hl1]) ?_ ?_
 .rintro i x ys H3 hx ⟨s3,rfl⟩ hD3;obtain ⟨a,ha,rfl⟩:∃ a,zs[i]?=some a/\V.str a=x:=by
   rw [Mz] at hx;cases e:zs[i]? with
   | none=>rw [e] at hx; cases hx
   | some a=>rw [e] at hx; exact [Ma,a,([Mq,hx])]
  have hal:=hz a [Xg,ha];refine V9;have hp0:=PyProof.Rows.split_pos a Xu;refine ([U8,([Yv,a,Xu,rfl,Rb,L6,([VV,?_])])]);have v1:=[XG,hp,([OI,[Rt,a]])];refine ([NN,p,_,_,_,[NO,aq],bh (j:=0) (getD_at L6),(aC _ (v1 _ _ hD3) ?_ [Yt,_,[Nl,(s3.trans v1).upd hD _]])])
  .rw [Mc,Mc,Nc];exact Sf
  .rw [[Tj,ha],Mt,Mt];exact aq
 rintro ys H2 ⟨s2,rfl⟩ hD2;rw [Mc,NL] at hD2;have s02:=Rf;have hlen:[MP,ZD]=Qy:=VA;generalize zs.map gC=names at *;refine [Mw,([Qq,0]),fun bl hbl=>?_];have v0:=[XG,hbl,[]];refine ⟨_,rfl,l,rfl,[T7,[Tn,(s02.trans v0) _ _ hl]],Fs (K:=K) (a:=l) (xs:=TU) (fun i σ H3=>∃ (vs:Nz) (o3 o4 o5:RT),σ=[[Mv,l],[Mv,D],[Mv,bl],o3,o4,o5]/\Same H2 H3/\H3 bl=[MI,vs]/\ThsAt H3 ([Tr,zs.take i,iO names]) vs) (rL [] none none none rfl v0 aq rfl) (fun i σ H3 _ pr=>wN pr fun _ _ _ _ _ s3 _=>[Tn,(XH) _ _ hl]) ?_ ?_⟩
 .rintro i x σ H3 T hx ⟨vs,o3,o4,o5,rfl,s3,hbl3,hv⟩ hT;obtain ⟨a,ha,rfl⟩:∃ a,zs[i]?=some a/\V.str a=x:=by
   rw [Mz] at hx;cases e:zs[i]? with
   | none=>rw [e] at hx; cases hx
   | some a=>rw [e] at hx; exact [Ma,a,([Mq,hx])]
  have hal:=hz a [Xg,ha];have hil:=[L8,ha];have hbi:=hb i a ha;have vT:=aw hT [Rj,[[MH,i],.str a]];refine ([Rg,T,_,([O1,aq]),rfl,([Xp,_,_,ZU])]);have s4:=s3.trans vT;refine [MR,[SO,a,D,names,hal,s4 _ _ hD2,L6,(fun H5 bv s5 hbv=>?_)]];have s25:=Xk;refine [Mn,[Mn,[MR,[Od,D,_,[NO,s25 _ _ hD2],([VV,?_])]]]];rw [Ef names i L6];have v6:=[XG,hp,([OI,names.take i])];refine [Mu,[Od,l,_,[T6,[NO,v6 _ _ (s25 _ _ (s02 _ _ hl))]],(cf bv (iO names a) p (names.take i) (cC _ rfl (ThAt.same v6 _ hbv) aq (fun H7 s7=>ND)))]];rw [Mc,hbi];refine T8;have v57:=v6.trans s7;have hbl7:=(vT.trans (s5.trans v57)) _ _ hbl3;have hvl:=hv.len;rw [Mc,Nc] at hvl;refine ([U3,[T6,([QW,(e8 _ [NO,hbl7])])],[Mu,[SO,bl,vs,_,rfl,hbl7,Sf,?_]]]);refine (rL _ _ _ _ rfl ?_ aq ?_)
  .have hb2:H2 bl=none:=hbl;exact (s25.trans v57).upd hb2 _
  .rw [[Tj,ha],Mt];exact ThsAt.snoc (ThsAt.kin ([Q9,Same.kin (vT.trans (s5.trans v57)),qf hbl7]) _ hv) (ThAt.kin ([Q9,Same.kin v57,qf hbl7]) _ hbv)
 intro σ H3 pr;refine F3 pr fun vs o3 o4 o5 eq7 s3 hbl3 hv=>?_;clear pr;subst eq7;rw [Mc,NL] at hv;refine [Mu,[Xp,bl,_,[T6,[Mw,[Tn,hbl3],fun t ht=>?_]]]];have v1:=aw ht [Rj,vs];exact q _ _ ([Q9,XH,v1]) (zi aq (ThsAt.same v1 _ hv))
end
end K82
namespace K82
open PySem L2
section
variable {P:Program} {w:World} {K:M3} {mg:Str->Ms} {base:Heap} {f:Addr} {fd:FuncData}
def jU:Sp:=[MV,∃ (ch:V) (c:M6),vs=[ch]/\[Rc,H,ch]/\c.length<=6/\∀ (H':Hp) (p:Addr),Pk->H p=none->H' p=[VM,[OI,Ng]]->[Xi,p,H']]
theorem wQ:[QI,[MC],[MC],lG]:=R1
theorem xZ (F:[UG,"names_of","names_of",lG]):FnOk P w K mg base CX0 1 f fd [MC] jU:=by
 refine [T5,wQ]
 .refine bU h fun ch c eq1 _=>?_;clear h;subst eq1;rfl
 refine e9 h fun ch c eq2 pp3 h6 q=>?_;clear h;subst eq2;obtain ⟨a,bs,rfl,ha,prb⟩:=pp3;refine [Yt,_,(av (aI (cz [Oj] [] [] rfl (dj NB) [Wf,0,([Mg,[[Rk,Oj]]])] RN [Qt,([RZ,Vd,NB])])))];have hbl:=aJ prb;refine [Mu,[UN,a,WX,Rl]];refine cJ (K:=K) (a:=a) (xs:=bs) (fun j ys H2=>[Pc,H2]/\ys=[OI,[Tr,c.take j,(·.name)]]) [Nl,aw hD _] ([ZN,[S2,z _ _ ha]]) ?_ ?_
 .rintro j y ys H2 hj ⟨s2,rfl⟩ hD2;refine [NC,bg prb hj,fun b hb pp4=>?_];obtain ⟨x,t,ls,rfl,hx,ht,prl⟩:=pp4;have hj6:[OA,j]:=Wy;refine V9;refine [QF,x,_,_,_,[ZG,s2 _ _ hx],?_];refine (aC _ hD2 ?_ [Yt,_,[Nl,s2.upd hD _]])
  .rw [Mc,Mc,Nc];exact Sf
  .rw [zv hb,Mt,Mt];exact aq
 .rintro ys H2 ⟨s2,rfl⟩ hD2;rw [hbl,NL] at hD2;exact q H2 D s2 hD hD2
end
end K82
namespace K82
open PySem L2
def iY (l:Lis):Str:=[Mj,l.back,"","="]
def gE (names:MB) (l:Lis):Str:=O4++[YZ,O4]++"+"++Xl++iY l
def lX (names:MB) (b:Bell) (w:Str):Str:=[PU,Xu,([b.name,Ur,w]++[Sd,gE names])]
theorem kG {n:Int} (h0:0<=n) (h1:n<=1000):1<=[MP,aT n]/\[MP,aT n]<=4:=by
 obtain ⟨m,rfl⟩:∃ m:Nat,n=m:=[Mw,n.toNat,Mr];exact gj L6
theorem oN {n:Int} (h0:0<=n) (h1:n<=1000):n.natAbs.log2<1920:=by
 have h:n.natAbs<2 ^ 10:=Mr
 by_cases hz:n.natAbs=0
 .rw [hz];decide
 .exact [NR,(Nat.log2_lt hz |>.mpr h),M0]
theorem AG (l:Lis):[MP,iY l]<=1:=by
 unfold iY;split <;> decide +kernel
theorem AE {names:MB} {l:Lis} (hn:∀ x∈names,x.length<=8) (h0:1<=l.beats) (h1:l.beats<=1000) (hw:l.whom<UH):[MP,gE names l]<=14:=by
 have h8:[MP,[YZ,O4]]<=8:=by
  rw [Nj,[M4,hw]];exact hn _ ([QN,hw])
 have h4:=(kG (n:=l.beats) L6 h1).2;have h2:=AG l;unfold gE;rw [a9,a9,a9,a9];have e0:Wt=0:=rfl;have e1:[RJ,"+"]=1:=L5
 omega
end K82
namespace K82
open PySem L2
def RuleAt (K:M3) (fw:Addr) (H:Hp) (x:Addr) (n:Int):Prop:=∃ C dx,H x=[Mo,[Ve,C,[(Po,XB)]]]/\Cls K C/\NoAttr K C Po/\Meth K C "wants" fw
structure OwnW (K:PySem.W.Frag) (C fw:Addr):Prop where
 cl:Cls K C
 nN:NoAttr K C "need"
 w:Meth K C "wants" fw
section
variable {P:Program} {w:World} {K:M3} {mg:Str->Ms} {base:Heap} {f:Addr} {fd:FuncData}
def kD (K:M3):Sp:=[MV,∃ (x C dx:Addr) (n:Int),vs=[Ya]/\H x=[Mo,[Ve,C,[(Po,XB)]]]/\Cls K C/\NoAttr K C Po/\Q (XB) H]
end
end K82
namespace K82
open PySem L2
def lL (l:Lis):Th:=.tup [.int l.whom,.int l.beats,[Va,[Mj,l.back,1,0]]]
def rwT:RW->Th
 | .all=>.str UB
 | .any=>.str UE
 | .num n=>XB
def pd (b:Bell):Th:=.tup [Sj,.int b.start,rwT b.rule,.tup ([Sd,lL])]
theorem Bq {H:Hp} {v:V} {l:Lis} (h:ThAt H (lL l) v):LisAt H v l:=by
 refine aX h fun a vs eq1 ha pq0=>aX pq0 fun v1 r1 eq2 e1 pq1=>aX pq1 fun v2 r2 eq3 e2 pq2=>aX pq2 fun v3 r3 eq4 e3 e4=>?_;clear pq0 pq1 pq2 h;subst eq1;subst eq2;subst eq3;subst eq4;cases e1; cases e2; cases e3; cases e4
 exact [Ma,a,ha]
theorem qt {H:Hp}:∀ {ls:List Lis} {vs:Nz},ThsAt H (ls.map lL) vs->[Vg,LisAt H,vs,ls]
 | [],_,h=>by cases h; exact .nil
 | _::_,_,⟨_,_,e,h1,h2⟩=>by subst e; exact .cons (Bq h1) (qt h2)
theorem En {H:Hp} {r:RW} {v:V} (h:ThAt H (rwT r) v):v=rwV r:=by
 cases r with
 | all=>exact h.1
 | any=>exact h.1
 | num n=>exact h
theorem zO {H:Hp} {v:V} {b:Bell} (h:ThAt H (pd b) v):BellAt H v b:=by
 refine aX h fun a vs eq5 ha pq0=>aX pq0 fun v1 r1 eq6 pp7 pq1=>aX pq1 fun v2 r2 eq8 e2 pq2=>aX pq2 fun v3 r3 eq9 e3 pq3=>aX pq3 fun v4 r4 eq0 pp1 e5=>?_;clear pq0 pq1 pq2 pq3 h;subst eq5;subst eq6;obtain ⟨e1,_⟩:=pp7;subst eq8;subst eq9;subst eq0;obtain ⟨t,ls,e4,ht,hl⟩:=pp1;have e3':=En e3;cases e1; cases e2; cases e3'; cases e4; cases e5
 exact (dh a t ls rfl ha ht (qt hl))
theorem pC {H:Hp}:∀ {c:M6} {vs:Nz},ThsAt H (c.map pd) vs->[Vg,BellAt H,vs,c]
 | [],_,h=>by cases h; exact .nil
 | _::_,_,⟨_,_,e,h1,h2⟩=>by subst e; exact .cons (zO h1) (pC h2)
theorem wL {H:Hp} {v:V} {c:M6} (h:ThAt H [Rj,c.map pd] v):[Rc,H,v]:=by
 refine aX h fun a vs eq2 ha hb=>?_;clear h;subst eq2;exact ([Od,a,vs,ha,pC hb])
def rwS:RW->Str
 | .all=>UB
 | .any=>UE
 | .num n=>aT n
def rS (b:Bell) (r:RW):Bell:=⟨b.name,b.start,r,b.lis⟩
theorem G5 {c:Nat} (h:ir c=true):97<=c/\c<=122:=by
 unfold ir at h;rcases StrLaws.occ_head fH ⟨#[c]⟩ 1 (Nat.le_refl _) with ⟨e,_⟩ | ⟨i,r,_,h2,_⟩
 .rw [e] at h;cases h
 .have hm:=[Mf,(([We,fH,i]).mp h2)];have all:∀ c∈fH.cps.toList,97<=c/\c<=122:=L5
  exact all c hm
theorem fN {z:Str} (h:cB z=true):∀ c∈NI,97<=c/\c<=122:=fun c hc=>by
 have h':([N8,[XC,1]] && [N8,[Se,8]] && Sb)=true:=h;rw [Oo] at h';exact G5 ([RI,h'.2,c,hc])
theorem fo {n:Int} (h0:0<=n) (h1:n<=1000):∀ c∈[NU,aT n],48<=c/\c<=57:=by
 obtain ⟨m,rfl⟩:∃ m:Nat,n=m:=[Mw,n.toNat,Mr];exact mh L6
theorem xq {m:Nat} (h:m<1001):gy ([Tw,m]) 9=true:=by
 obtain ⟨l1,l4⟩:=gj h;unfold gy;have ha:([Tw,m]).cps.toList.all mH=true:=List.all_eq_true.mpr fun c hc=>Bb (mh h c hc).1 (mh h c hc).2
 rw [[MA,l1],[MA,[Yu,[My,[MP,[Tw,m]]]<=9]],ha];show ([N8,[Tw,m]="0"] || [N8,[NU,[Tw,m]][0]?≠some 48])=true;rcases (A7 m h).2.2.2 with e | e
 .rw [[MA,[Yh,[Tw,m]="0",eJ (by rw [gR,e,xf])]]];rfl
 .rw [[MA,(show [NU,[Tw,m]][0]?≠some 48 by rw [gR]; exact e)],Bool.or_true]
theorem oF {n:Int} (h0:0<=n) (h1:n<=1000):pW (aT n)=XB:=by
 obtain ⟨m,rfl⟩:∃ m:Nat,n=m:=[Mw,n.toNat,Mr];have h:m<1001:=Mr
 have hw:=xq h;refine cb (pq hw :) fun d1 d2 d3=>?_
 have e:=PySem.intText_digits d1 d2 L6;rw [gZ h] at e;unfold pW;rw [[P9,hw]];exact [R5,Th.int,[YH,e]]
theorem nX:∀ c∈[PK,UB],97<=c:=L5
theorem oO:∀ c∈[PK,UE],97<=c:=L5
theorem FP {n:Int} (h0:0<=n) (h1:n<=1000) {z:Str} (hz:∀ c∈NI,97<=c):aT n≠z:=[UT,by
 have hl:=(kG h0 h1).1;have hne:[NU,aT n]≠[]:=fun q=>by
  rw [<- cu,q] at hl;exact [O9,hl,M0]
 obtain ⟨c,hc⟩:=List.exists_mem_of_ne_nil _ hne;have a:=fo h0 h1 c hc;rw [e] at hc;have b:=hz c hc;omega]
theorem BD {n:Nat} {r:RW} (g:GoodR n r) (h:n<=1000):rk (rwS r)=rwT r:=by
 cases r with
 | all=>exact [P9,Qf]
 | any=>exact [P9,.inr rfl]
 | num i =>
  have g':1<=i/\i<=Pp:=g;unfold rk rwS;rw [[Ph,(fun q=>q.elim (FP L6 L6 nX) (FP L6 L6 oO))]];exact oF L6 L6
theorem tq (names:MB) (l:Lis):[NU,gE names l]=[NU,[YZ,O4]]++43::[NU,Xl++iY l]:=by
 unfold gE;simp only [cy,xD,List.append_assoc];rfl
theorem yB {names:MB} {i:Nat} {z:Str} (nd:names.Nodup) (h:names[i]?=YW):names.findIdx ([Z2,[N8,x=z]])=i:=by
 obtain ⟨f1,_⟩:=AZ [Xg,h];exact ([Y1,[L8,f1],nd]).mp (f1.trans h.symm)
theorem Lb {n:Int} (h0:0<=n) (h1:n<=1000):61∉[NU,aT n]:=fun h=>by
 have:=fo h0 h1 _ h;omega
theorem BE {n:Int} (h0:0<=n) (h1:n<=1000) (l:Lis):Txt.endswith (aT n++iY l) "="=!l.back/\(l.back=true->aT n++iY l=aT n)/\([Vb,l.back]->[NU,aT n++iY l]=[NU,aT n]++[61]):=by
 unfold iY;rw [eq_str];cases l.back with
 | true =>
  have e:aT n++([Mj,true=true,[Rk,""],[P5,61]])=aT n:=eJ (by rw [cy]; exact List.append_nil _);refine (bM ?_ [Qe,e] (fun h=>WB));rw [e];exact Fi (Lb h0 h1)
 | false =>
  have e:[NU,aT n++([Mj,false=true,[Rk,""],[P5,61]])]=[NU,aT n]++[61]:=by rw [cy]; rfl
  exact (bM (CS e) (fun h=>WB) [Qe,e])
theorem xK {n:Int} (h0:0<=n) (h1:n<=1000) (l:Lis):j1 (aT n++iY l)=aT n/\yg (aT n++iY l)=[Mj,l.back,1,0]:=by
 refine cb (BE h0 h1 l :) fun e1 e2 e3=>?_
 unfold j1 yg;rw [e1];cases hb:l.back with
 | true=>exact [Nl,e2 hb]
 | false=>exact [Nl,Ae (e3 hb)]
theorem Bp {names:MB} {l:Lis} {nm:Str} (nd:names.Nodup) (hw:names[l.whom]?=some nm) (hn:iZ [XE,nm]=true) (h1:1<=l.beats) (h2:l.beats<=1000):yo names (gE names l)=lL l:=by
 have hg:[YZ,O4]=nm:=by rw [List.getD_eq_getElem?_getD,hw]; rfl
 have hwd:cB nm=true:=by
  have h':(cB nm && ![N8,nm∈ik])=true:=hn;rw [Oo] at h';exact h'.1
 have hp:[Pf,gE names l,"+"]=(nm,[P5,43],Xl++iY l):=by
  rw [xD];refine kX (by rw [tq,hg]) fun h=>?_
  have:=fN hwd _ h;omega
 obtain ⟨b1,b2⟩:=xK (n:=l.beats) L6 h2 l;unfold yo;rw [hp];dsimp only;rw [[P9,[Mw,hn,[Mf,hw]]],yB nd hw,b1,b2,oF L6 h2];rfl
theorem Fh {names:MB} {l:Lis} {nm:Str} (hw:names[l.whom]?=some nm) (hn:cB nm=true) (h1:1<=l.beats) (h2:l.beats<=1000):32∉[NU,gE names l]:=fun h=>by
 have hg:[YZ,O4]=nm:=by rw [List.getD_eq_getElem?_getD,hw]; rfl
 rw [tq,hg,cy] at h;rcases List.mem_append.mp h with h | h
 .have:=fN hn _ h;omega
 rcases List.mem_cons.mp h with h | h
 .cases h
 rcases List.mem_append.mp h with h | h
 .have:=fo L6 h2 _ h;omega
 .unfold iY at h;rw [eq_str] at h;split at h
  .cases h
  .rcases List.mem_cons.mp h with h | h <;> cases h
theorem E5 {n:Nat} {r:RW} (g:GoodR n r) (h:n<=1000):32∉[NU,rwS r]:=fun q=>by
 cases r with
 | all=>have:=nX _ q; omega
 | any=>have:=oO _ q; omega
 | num i =>
  have g':1<=i/\i<=Pp:=g;have:=fo (n:=i) L6 L6 _ q;omega
def AL (names:MB) (b:Bell):Prop:=[ZV,∃ nm,names[l.whom]?=some nm/\iZ [XE,nm]=true]
theorem tP {z:Str} (h:iZ (R9)=true):cB z=true:=by
 have h':(cB z && ![N8,z∈ik])=true:=h;rw [Oo] at h';exact h'.1
theorem ux {m:Nat} {names:MB} {b:Bell} {r:RW} (hd:AL names b) (hw:cB b.name=true) (g:GoodB m 0 true b) (gr:GoodR OC r):[Rt,lX names b (rwS r)]=[b.name,Ur,rwS r]++[Sd,gE names]:=by
 have n6:=g.n6;rw [Ao];refine hZ (by unfold lX; rw [Ao,fT]) Pz [VV,?_]
 rcases List.mem_append.mp hp with hp | hp
 .rcases List.mem_cons.mp hp with rfl | hp
  .intro h;have:=fN hw _ h;omega
  rcases List.mem_cons.mp hp with rfl | hp
  .intro h;have:=fo g.s0 g.s1 _ h;omega
  rcases List.mem_cons.mp hp with rfl | hp
  .exact E5 gr L6
  .cases hp
 .refine [UJ,hp,fun l hl eq3=>?_];subst eq3;refine [NC,hd l hl,fun nm h1 h2=>?_]
  exact Fh h1 (tP h2) (g.l l hl).2.1 (g.l l hl).2.2.1
theorem CK {m:Nat} {names:MB} {b:Bell} {r:RW} (nd:names.Nodup) (hd:AL names b) (hw:cB b.name=true) (g:GoodB m 0 true b) (gr:GoodR OC r):iO names (lX names b (rwS r))=pd (rS b r):=by
 have n1:=g.n1;have n6:=g.n6;unfold iO;rw [ux hd hw g gr,[Ph,(by rw [List.length_append,List.length_map]; show ¬ 3+OC<4; omega)]];show Th.tup [Sj,pW (Ur),rk (rwS r),.tup ([Tr,[Sd,gE names],yo names])]=.tup [Sj,.int b.start,rwT r,.tup ([Sd,lL])];rw [oF g.s0 g.s1,BD gr L6,Qb];have e:[Sd,yo names ∘ gE names]=[Sd,lL]:=[TM,fun l hl=>by
  refine [NC,hd l hl,fun nm h1 h2=>?_]
  exact Bp nd h1 h2 (g.l l hl).2.1 (g.l l hl).2.2.1]
 rw [e]
theorem Dd {m:Nat} {names:MB} {b:Bell} {r:RW} (hd:AL names b) (hw:cB b.name=true) (g:GoodB m 0 true b) (gr:GoodR OC r):gC (lX names b (rwS r))=b.name:=by
 unfold gC;rw [ux hd hw g gr];rfl
theorem Hu:∀ c∈fH.cps.toList,ir c=true:=L5
theorem Eb {z:Str} (h:kZ z) (h1:[XC,1]) (h8:[Se,8]):cB z=true:=by
 show ([N8,[XC,1]] && [N8,[Se,8]] && Sb)=true;rw [[MA,h1],[MA,h8]];show Sb=true;rw [Wn];exact fun c hc=>Hu c (h c hc)
theorem rn {i lo hi:Int} (h1:lo<=i) (h2:i<=hi):inT (RF) lo hi=true:=by
 show ([N8,lo<=i] && [N8,i<=hi])=true;rw [[MA,h1],[MA,h2]];rfl
theorem Ew {m:Nat} {l:Lis} (g:FG m 0 true l):qo (lL l) m=true:=by
 show (inT (.int l.whom) 0 ([My,m] - 1) && (inT (.int l.beats) 1 1000 && inT ([Va,[Mj,l.back,1,0]]) 0 1))=true;have g1:=g.1;rw [rn L6 L6,rn g.2.1 g.2.2.1,rn (by split <;> omega) (by split <;> omega)];rfl
theorem BR {m:Nat} {b:Bell} {ahead:MB} (g:GoodB m 0 true b) (hw:cB b.name=true) (h4:b.name∉ik) (ha:b.name∉ahead):ur (pd b) ahead m=true:=by
 show (iZ (Sj) && !inA (Sj) ahead && inT (.int b.start) 0 1000 && (mW [Rj,([Sd,lL])] m && qG (rwT b.rule) [RK,[MP,[Sd,lL]]]))=true;have e1:iZ (Sj)=true:=by
  show (cB b.name && ![N8,b.name∈ik])=true;rw [hw,[NJ,h4]];rfl
 have e2:[Vb,inA (Sj) ahead]:=[NJ,ha];have e3:mW [Rj,([Sd,lL])] m=true:=by
  show ([N8,1<=[MP,[Sd,lL]]] && [N8,[MP,[Sd,lL]]<=6] && ([Sd,lL]).all (fun t=>qo t m))=true;rw [Mc,[MA,g.n1],[MA,g.n6]];show ([Sd,lL]).all (fun t=>qo t m)=true;rw [Wn];intro t ht;refine [UJ,ht,fun l hl eq4=>?_];subst eq4;exact Ew (g.l l hl)
 have e4:qG (rwT b.rule) [RK,[MP,[Sd,lL]]]=true:=by
  rw [Mc];have gr:=g.r;cases er:b.rule with
  | all=>rfl
  | any=>show ([N8,[Rk,UE]=UB] || [N8,[Rk,UE]=UE])=true; decide +kernel
  | num n =>
   rw [er] at gr;show ([N8,1<=n] && [N8,n<=[RK,OC]])=true;rw [[MA,gr.1],[MA,gr.2]];rfl
 rw [e1,e2,rn g.s0 g.s1,e3,e4];rfl
structure GoodC (c:List Bell):Prop where
 c1:1<=c.length
 c6:c.length<=6
 gb:∀ b∈c,GoodB c.length 0 true b
 wd:∀ b∈c,cB b.name=true
 f4:∀ b∈c,b.name∉ik
 nd:(c.map (·.name)).Nodup
theorem GoodC.of {c:M6} {ahead names:MB} (g:GoodNm ahead names) (c1:1<=c.length) (c6:c.length<=6) (hcn:Ng=names.take c.length) (gb:[Ru,c,GoodB c.length 0 true b]):Qu:=by
 have inN:[Ru,c,b.name∈names]:=[Pg,by
  have:b.name∈Ng:=[Qg,[Yb,b,hb]];rw [hcn] at this;exact [XO,this]]
 refine ⟨c1,c6,gb,[Pg,Eb (g.lw _ (inN b hb)) (g.ln _ (inN b hb)).1 (g.ln _ (inN b hb)).2],[Pg,(g.fr _ (inN b hb)).2],?_⟩;rw [hcn];exact g.nd.sublist (List.take_sublist _ _)
theorem GoodC.len {c:M6} (g:Qu):[Ru,c,A01<=8]:=[Pg,by
 have h:=g.wd b hb;have h':([N8,1<=A01] && [N8,A01<=8] && b.name.cps.toList.all ir)=true:=h;rw [Oo,Oo] at h';exact [MF,h'.1.2]]
theorem GoodC.heard {c:M6} (g:Qu) {b:Bell} (hb:b∈c):AL (Ng) b:=fun l hl=>by
 have hw:=((g.gb b hb).l l hl).1;refine [Yt,c[l.whom].name,(by rw [List.getElem?_map,List.getElem?_eq_getElem hw]; rfl)];show (cB c[l.whom].name && ![N8,c[l.whom].name∈ik])=true;rw [g.wd _ ([QN,hw]),[NJ,(g.f4 _ ([QN,hw]))]];rfl
theorem GoodC.fresh {c:M6} (g:Qu) {i:Nat} {b:Bell} (h:c[i]?=QZ):b.name∉(Ng).take i:=fun hin=>by
 obtain ⟨j,hj⟩:=[OQ,hin];have hji:j<i:=by
  have:=[L8,hj];rw [Nc] at this;omega
 rw [List.getElem?_take_of_lt hji] at hj;have e2:(Ng)[i]?=some b.name:=by rw [List.getElem?_map,h]; rfl
 have:=([Y1,[L8,hj],g.nd]).mp (hj.trans e2.symm);omega
theorem BH {c:M6} (g:Qu) (rs:Bell->RW) (hr:[Ru,c,GoodR OC (rs b)]) {zs:MB} (hz:zs=c.map fun b=>lX (Ng) b (rwS (rs b))) :
  ZD=Ng/\zs.map (iO (ZD))=[Tr,c.map fun b=>rS b (rs b),pd]/\∀ i z,zs[i]?=YW->ur (iO (ZD) z) ((ZD).take i) Qy=true:=by
 have h1:ZD=Ng:=by
  rw [hz,Qb];exact [TM,[Pg,Dd (g.heard hb) (g.wd b hb) (g.gb b hb) (hr b hb)]]
 have h2:[Ru,c,iO (Ng) (lX (Ng) b (rwS (rs b)))=pd (rS b (rs b))]:=[Pg,CK g.nd (g.heard hb) (g.wd b hb) (g.gb b hb) (hr b hb)]
 refine (bM h1 ?_ (fun i z hi=>?_))
 .rw [h1,hz,Qb,Qb];exact [TM,h2]
 .rw [hz,Mz] at hi;cases e:c[i]? with
  | none=>rw [e] at hi; cases hi
  | some b =>
   rw [e] at hi;have hb:=[Mf,e];have e2:z=lX (Ng) b (rwS (rs b)):=[YH,hi];rw [h1,e2,h2 b hb,hz,Mc];have gb:=g.gb b hb;exact BR (b:=rS b (rs b)) ⟨gb.n1,gb.n6,gb.s0,gb.s1,hr b hb,gb.l⟩ (g.wd b hb) (g.f4 b hb) [Yh,b.name∉_,g.fresh e]
end K82
namespace K82
open PySem L2
theorem AS {names:MB} {m:Nat} {b:Bell} {w:Str} (hw:w.length<=4) (g:GoodB m 0 true b) (hm:m<=UH) (h8:∀ x∈names,x.length<=8) (hb:A01<=8):[MP,lX names b w]<=140:=by
 have h1:∀ y∈[b.name,Ur,w]++[Sd,gE names],y.length<=14:=by
  intro y hy;rcases List.mem_append.mp hy with h | h
  .rcases List.mem_cons.mp h with rfl | h
   .omega
   rcases List.mem_cons.mp h with rfl | h
   .have:=(kG g.s0 g.s1).2;omega
   .rw [[MQ,h]];omega
  .refine [UJ,h,fun l hl eq5=>?_];subst eq5;refine fX (g.l l hl :) fun g1 g2 g3 _=>?_
   exact AE h8 g2 g3 L6
 have h2:=StrLaws.sumLen_le _ h1;have h3:[MP,[b.name,Ur,w]++[Sd,gE names]]<=9:=by
  rw [Na,Mc];have:=g.n6;show 3+OC<=9;omega
 have h4:=StrLaws.join_length_le Xu ([b.name,Ur,w]++[Sd,gE names]);have e1:[RJ,Xu]=1:=L5
 have e2:lX names b w=Str.join Xu ([b.name,Ur,w]++[Sd,gE names]):=StrLaws.glued_eq_join _ _;rw [e2];rw [e1] at h4;omega
theorem yG {n:Nat} {r:RW} (g:GoodR n r) (h:n<=1000):[MP,rwS r]<=4:=by
 cases r with
 | all=>decide +kernel
 | any=>decide +kernel
 | num i =>
  have g':1<=i/\i<=Pp:=g;exact (kG L6 L6).2
end K82
namespace K82.S
open PySem L2
def leO (o:M7) (v:Int):Bool:=match o with
 | some d=>decide (d<=v)
 | none=>false
def cnt (bs:MU) (v:Int):Nat:=bs.countP (fun o=>leO o v)
def tot (bs:MU):Nat:=bs.countP (fun o=>o.isSome)
def Due (bs:MU) (n:Int):[Qp,M7]
 | none=>[My,tot bs]<n
 | some v=>n<=[My,cnt bs v]/\[My,cnt bs (v - 1)]<n
theorem yf {o:M7} {v v':Int} (h:v<=v') (e:leO o v=true):leO o v'=true:=by
 cases o with
 | none=>cases e
 | some d=>exact [MA,([NV,[MF,e]])]
theorem j8 (bs:MU) {v v':Int} (h:v<=v'):cnt bs v<=cnt bs v':=[Vr,fun _ _ e=>yf h e]
theorem qg (bs:MU) (v:Int):cnt bs v<=tot bs:=[Vr,fun o _ e=>by
 cases o with
 | none=>cases e
 | some d=>rfl]
theorem fJ {bs:MU} {n:Int} {o o':M7} (h:Due bs n o) (h':Due bs n o'):o=o':=by
 cases o with
 | none =>
  cases o' with
  | none=>rfl
  | some v =>
   have h1:[My,tot bs]<n:=h;obtain ⟨h2,_⟩:=h';have:=qg bs v;omega
 | some v =>
  cases o' with
  | none =>
   have h1:[My,tot bs]<n:=h';obtain ⟨h2,_⟩:=h;have:=qg bs v;omega
  | some v' =>
   obtain ⟨a1,a2⟩:=h;obtain ⟨b1,b2⟩:=h';rcases Int.lt_trichotomy v v' with c | c | c
   .have:=j8 bs [Yu,v<=v' - 1];omega
   .rw [c]
   .have:=j8 bs [Yu,v'<=v - 1];omega
def wants (b:Bell):Int:=match b.rule with
 | .all=>b.lis.length
 | .any=>1
 | .num n=>n
def gk (before now:MU) (l:Lis):M7:=(([Mj,l.back,before,now])[l.whom]?).join.map (·+l.beats)
def bH (b:Bell) (before now:MU):MU:=[Sd,gk before now]
def Fix (c:M6) (before now:MU):Prop:=[Vn,Vs]/\∀ (k:Nat) b,c[k]?=QZ->∃ o,now[k]?=MN/\Due ([WK,b,now]) (SF) o
def jL (c:M6):Prop:=∀ (k:Nat) b,c[k]?=QZ->[ZV,1<=l.beats]
theorem ip {α:Type} (l:QY) (f:α->M7) (v:Int):cnt (l.map f) v=l.countP ([Z2,leO (f x) v]):=by
 unfold cnt;rw [List.countP_map];rfl
theorem gL {b:Bell} {before now now':MU} {t:Int} (hs:[ZV,1<=l.beats]) (h:∀ (k:Nat) u,u<t->now[k]?=[Mo,NZ]->now'[k]?=[Mo,NZ]):cnt ([WK,b,now]) t<=cnt ([WK,b,now']) t:=by
 unfold bH;rw [ip,ip];refine [Vr,fun l hl e=>?_]
 unfold gk at e ⊢;cases hb:l.back with
 | true=>rw [hb] at e; exact e
 | false =>
  rw [hb] at e;simp only [Bool.false_eq_true,if_false] at e ⊢;cases hn:now[l.whom]? with
  | none=>rw [hn] at e; cases e
  | some o =>
   cases o with
   | none=>rw [hn] at e; cases e
   | some u =>
    rw [hn] at e;have e1:[YJ,u]<=t:=[MF,e];have:=hs l hl;rw [h l.whom u L6 hn];exact [MA,e1]
theorem low (l:MU):∃ B:Int,∀ v,Nw∈l->B<=v:=by
 induction l with
 | nil=>exact ⟨0,fun v h=>by cases h⟩
 | cons o r ih =>
  obtain ⟨B,hB⟩:=ih;cases o with
  | none=>exact ⟨B,fun v h=>by
    rcases List.mem_cons.mp h with z | z
    .cases z
    .exact hB v z⟩
  | some d=>exact ⟨min B d,fun v h=>by
    rcases List.mem_cons.mp h with z | z
    .have:=Option.some.inj z;omega
    .have:=hB v z;omega⟩
theorem Cd {c:M6} (hc:jL c) {before now now':MU} (f:[XI,c,now]) (f':[XI,c,now']) {B:Int} (hB:∀ v,Nw∈now->B<=v) (hB':∀ v,Nw∈now'->B<=v) :
  ∀ (n:Nat) (k:Nat) v,v<B+n->(now[k]?=V2↔now'[k]?=V2):=by
 intro n;induction n with
 | zero =>
  intro k v hv;refine ⟨fun e=>?_,fun e=>?_⟩
  .have:=hB v (List.mem_of_getElem? e); omega
  .have:=hB' v (List.mem_of_getElem? e); omega
 | succ n ih =>
  have one:∀ {x y:List (Option Int)},Fix c before x->Fix c before y->(∀ (k:Nat) v,v<B+n->(x[k]?=some (some v)↔y[k]?=some (some v)))->∀ (k:Nat) v,v<B+(n+1:Nat)->x[k]?=some (some v)->y[k]?=some (some v):=by
   intro x y fx fy ih k v hv e;have hk:k<c.length:=by
    rw [<- fx.1];exact (List.getElem?_eq_some_iff.mp e).1
   have hb:=List.getElem?_eq_getElem hk;refine ar (fx.2 k _ hb :) fun o ho hd=>?_
   rw [e] at ho;cases ho
   refine ar (fy.2 k _ hb :) fun o' ho' hd'=>?_
   have hs:=hc k _ hb;have a1:=gL (before:=before) (now:=x) (now':=y) (t:=v) hs fun k u hu z=>(ih k u (by omega)).mp z
   have a2:=gL (before:=before) (now:=y) (now':=x) (t:=v) hs fun k u hu z=>(ih k u (by omega)).mpr z
   have b1:=gL (before:=before) (now:=x) (now':=y) (t:=v - 1) hs fun k u hu z=>(ih k u (by omega)).mp z
   have b2:=gL (before:=before) (now:=y) (now':=x) (t:=v - 1) hs fun k u hu z=>(ih k u (by omega)).mpr z
   obtain ⟨d1,d2⟩:=hd;have hd2:Due (bH c[k] before y) (wants c[k]) (some v):=⟨by omega,by omega⟩;rw [ho',fJ hd' hd2]
  intro k v hv;exact ⟨one f f' ih k v hv,one f' f (fun k v h=>(ih k v h).symm) k v hv⟩
theorem lN {c:M6} (hc:jL c) {before now now':MU} (f:[XI,c,now]) (f':[XI,c,now']):now=now':=by
 obtain ⟨B1,h1⟩:=low now;obtain ⟨B2,h2⟩:=low now';have ag:=Cd hc f f' (B:=min B1 B2) (fun v h=>[NV,h1 v h]) (fun v h=>[NV,h2 v h]);have all:∀ (k:Nat) v,now[k]?=V2↔now'[k]?=V2:=fun k v=>ag [TF,v - min B1 B2+1] k v L6
 refine List.ext_getElem? fun k=>?_
 by_cases hk:[OA,k]
 .have e1:=[M4,(show k<Vs by rw [f.1]; exact hk)];have e2:=[M4,(show k<now'.length by rw [f'.1]; exact hk)];cases o1:now[k]'(by rw [f.1]; exact hk) with
  | some v =>
   rw [o1] at e1;rw [e1,(all k v).mp e1]
  | none =>
   rw [o1] at e1;cases o2:now'[k]'(by rw [f'.1]; exact hk) with
   | none=>rw [o2] at e2; rw [e1,e2]
   | some v =>
    rw [o2] at e2;have:=(all k v).mpr e2;rw [e1] at this;cases this
 .rw [[Q8,(by rw [f.1]; omega)],[Q8,(by rw [f'.1]; omega)]]
structure Going (c:List Bell) (before now:List (Option Int)):Prop where
 len:now.length=c.length
 found:∀ (k:Nat) b v,c[k]?=some b->now[k]?=some (some v)->Due (bH b before now) (wants b) (some v)
 least:∀ (j:Nat) u (k:Nat) b v,now[j]?=some (some u)->c[k]?=some b->now[k]?=some none->Due (bH b before now) (wants b) (some v)->u<=v
theorem pL (c:M6) (before:MU):Going c before (c.map fun _=>none) where
 len:=VA
 found:=fun k b v hb e=>by
  rw [Mz,hb] at e;cases e
 least:=fun j u k b v e _ _ _=>by
  rw [Mz] at e;cases h:c[j]? with
  | none=>rw [h] at e; cases e
  | some x=>rw [h] at e; cases e
theorem wq {c:M6} (hc:jL c) {before now:MU} (g:Going c before now) {k:Nat} {b:Bell} {beat:Int} (hb:c[k]?=QZ) (hn:now[k]?=OO) (hd:Due ([WK,b,now]) (SF) (XJ))
  (hl:∀ (j:Nat) b' v,c[j]?=some b'->now[j]?=OO->Due ([WK,b',now]) (wants b') (Nw)->beat<=v):Going c before ([ZW,XJ]):=by
 have hk:k<Vs:=[L8,hn];have old:∀ (j:Nat) u,u<beat->(([ZW,XJ])[j]?=[Mo,NZ]->now[j]?=[Mo,NZ]):=fun j u hu e=>by
  by_cases hj:j=k
  .subst hj;rw [[UW,hk]] at e;have:=[Mq,([Mq,e])];omega
  .rw [[Uv,[XS,hj]]] at e;exact e
 have new:∀ (j:Nat) u,(now[j]?=[Mo,NZ]->([ZW,XJ])[j]?=[Mo,NZ]):=fun j u e=>by
  by_cases hj:j=k
  .subst hj;rw [hn] at e;cases e
  .rw [[Uv,[XS,hj]]];exact e
 have same:∀ (j:Nat) b',c[j]?=some b'->∀ t,t<=beat->cnt ([WK,b',([ZW,XJ])]) t=cnt ([WK,b',now]) t:=fun j b' hj t ht=>by
  have a1:=gL (before:=before) (now:=[ZW,XJ]) (now':=now) (t:=t) (hc j b' hj) fun i u hu z=>old i u L6 z
  have a2:=gL (before:=before) (now:=now) (now':=[ZW,XJ]) (t:=t) (hc j b' hj) fun i u hu z=>new i u z
  omega
 refine ⟨[WS,g.len],fun j b' v hj e=>?_,fun j u i b' v e hi ei hd'=>?_⟩
 .by_cases hjk:j=k
  .subst hjk;rw [[UW,hk]] at e;obtain rfl:beat=v:=[Mq,([Mq,e])];rw [hb] at hj;cases hj
   exact [Mw,(by rw [same j b hb beat (by omega)]; exact hd.1),by rw [same j b hb (beat - 1) (by omega)]; exact hd.2]
  .rw [[Uv,[XS,hjk]]] at e;have h1:=g.found j b' v hj e;have h2:=g.least j v k b beat e hb hn hd;exact [Mw,(by rw [same j b' hj v (by omega)]; exact h1.1),by rw [same j b' hj (v - 1) (by omega)]; exact h1.2]
 .have hik:i≠k:=[OE,by
   subst z;rw [[UW,hk]] at ei;cases ei]
  rw [[Uv,[XS,hik]]] at ei;have hbv:beat<=v:=by
   refine [O3,?_]
   have h1:Due ([WK,b',now]) (wants b') (Nw):=[Mw,(by rw [<- same i b' hi v (by omega)]; exact hd'.1),by rw [<- same i b' hi (v - 1) (by omega)]; exact hd'.2];have:=hl i b' v hi ei h1;omega
  by_cases hjk:j=k
  .subst hjk;rw [[UW,hk]] at e;have:=[Mq,([Mq,e])];omega
  .rw [[Uv,[XS,hjk]]] at e;have:=g.least j u k b beat e hb hn hd;omega
theorem nu {c:M6} {before now:MU} (g:Going c before now) (h:∀ (k:Nat) b,c[k]?=QZ->now[k]?=OO->Due ([WK,b,now]) (SF) none):[XI,c,now]:=by
 refine [Mw,g.len,fun k b hb=>?_];have hk:k<Vs:=by rw [g.len]; exact Wy
 have e:=[M4,hk];cases o:now[k] with
 | none=>rw [o] at e; exact (af none e (h k b hb e))
 | some v=>rw [o] at e; exact (af (Nw) e (g.found k b v hb e))
def eP (bs:MU):Nk:=bs.filterMap id
theorem BN (bs:MU):[MP,eP bs]=tot bs:=by
 induction bs with
 | nil=>rfl
 | cons o r ih =>
  cases o with
  | none=>exact ih
  | some d =>
   show (eP r).length+1=(some d::r).countP _;rw [List.countP_cons,ih];rfl
theorem tR (bs:MU) (v:Int):[MP,(eP bs).filter fun d=>[N8,d<=v]]=cnt bs v:=by
 induction bs with
 | nil=>rfl
 | cons o r ih =>
  unfold cnt at ih ⊢;cases o with
  | none=>rw [List.countP_cons]; exact ih
  | some d =>
   show ((d::eP r).filter fun d=>decide (d<=v)).length=_;rw [List.countP_cons,List.filter_cons];by_cases hd:d<=v
   .rw [if_pos (decide_eq_true hd),List.length_cons,ih];simp [leO,hd]
   .rw [if_neg (by simpa using hd),ih];simp [leO,hd]
theorem tV {ns:Nk} (o:ns.Pairwise (·<=·)) {i j:Nat} (hi:i<=j) (hj:j<OY):ns[i]'L6<=ns[j]:=by
 rcases Nat.lt_or_ge i j with h | h
 .exact List.pairwise_iff_getElem.mp o i j L6 hj h
 .have e:i=j:=Mr
  subst e;exact Ov
theorem Gz {ns:Nk} (o:ns.Pairwise (·<=·)) {k:Nat} (hk:k<OY):k+1<=[MP,ns.filter fun d=>[N8,d<=ns[k]]]:=by
 have h1:((ns.take (k+1)).filter fun d=>[N8,d<=ns[k]])=ns.take (k+1):=by
  rw [List.filter_eq_self];intro a ha;obtain ⟨i,hi,rfl⟩:=[TH,ha];rw [Nc] at hi;rw [List.getElem_take];exact [MA,tV o L6 hk]
 have h2:[MP,(ns.take (k+1)++ns.drop (k+1)).filter fun d=>[N8,d<=ns[k]]]=[MP,ns.filter fun d=>[N8,d<=ns[k]]]:=by
  rw [List.take_append_drop]
 rw [<- h2,List.filter_append,h1,Na,Nc];omega
theorem G7 {ns:Nk} (o:ns.Pairwise (·<=·)) {k:Nat} (hk:k<OY) {c:Int} (hc:c<ns[k]):[MP,ns.filter fun d=>[N8,d<=c]]<=k:=by
 have h1:((ns.drop k).filter fun d=>[N8,d<=c])=[]:=by
  rw [List.filter_eq_nil_iff];intro a ha h;obtain ⟨i,hi,rfl⟩:=[TH,ha];rw [SU] at hi;rw [List.getElem_drop] at h;have h3:=tV o (i:=k) (j:=k+i) L6 L6;have h4:=[MF,h];omega
 have h2:[MP,(ns.take k++ns.drop k).filter fun d=>[N8,d<=c]]=[MP,ns.filter fun d=>[N8,d<=c]]:=by
  rw [List.take_append_drop]
 rw [<- h2,List.filter_append,h1,WQ];exact [Qi,List.length_filter_le _ _,(by rw [List.length_take]; omega)]
theorem Er {bs:MU} {ns:Nk} {n:Int} (p:ns.Perm (eP bs)) (h:[My,OY]<n):Due bs n none:=by
 show [My,tot bs]<n;rw [<- BN,<- p.length_eq];exact h
theorem EW {bs:MU} {ns:Nk} {n v:Int} (p:ns.Perm (eP bs)) (o:ns.Pairwise (·<=·)) (h1:1<=n) (hv:ns[[TF,n - 1]]?=Nw):Due bs n (Nw):=by
 obtain ⟨hk,e⟩:=[Uu,hv];subst e;have a:=Gz o hk;have b:=G7 o hk (c:=ns[[TF,n - 1]] - 1) L6;have ea:[MP,ns.filter fun d=>[N8,d<=ns[[TF,n - 1]]]]=cnt bs ns[[TF,n - 1]]:=by rw [<- tR]; exact (p.filter _).length_eq
 have eb:[MP,ns.filter fun d=>[N8,d<=ns[[TF,n - 1]] - 1]]=cnt bs (ns[[TF,n - 1]] - 1):=by rw [<- tR]; exact (p.filter _).length_eq
 exact [Mw,Mr,Mr]
end K82.S
namespace K82.S
open PySem L2
def oV:M7->V
 | none=>.non
 | some i=>RF
theorem Ku {bs:MU} {i:Nat} {y:V} (h:(bs.map oV)[i]?=VI):∃ o,y=oV o/\bs[i]?=MN:=by
 rw [Mz] at h;cases e:bs[i]? with
 | none=>rw [e] at h; cases h
 | some z=>rw [e] at h; exact ([Yb,z,[YH,h]])
theorem xu (l:MU):eP (l++[none])=eP l:=by
 unfold eP;rw [List.filterMap_append];simp
theorem wO (l:MU) (i:Int):eP (l++[some i])=eP l++[i]:=by
 unfold eP;rw [List.filterMap_append];simp
theorem uk (l:MU):[MP,eP l]<=l.length:=List.length_filterMap_le _ _
def RuleAt (K:M3) (ff fw:Addr) (H:Hp) (x:Addr) (n:Int):Prop:=∃ C dx,H x=[Mo,[Ve,C,[(Po,XB)]]]/\Cls K C/\NoAttr K C Po/\Meth K C "falls" ff/\Meth K C "wants" fw
theorem RuleAt.same {K:M3} {ff fw:Addr} {H H':Hp} {x:Addr} {n:Int} (r:RuleAt K ff fw H x n) (s:Pk):RuleAt K ff fw H' x n:=by
 obtain ⟨C,dx,h,r⟩:=r;exact ⟨C,dx,s _ _ h,r⟩
structure Own (K:PySem.W.Frag) (C fi ff fw:Addr):Prop where
 cl:Cls K C
 nN:NoAttr K C "need"
 mks:Mk K C fi
 fl:Meth K C "falls" ff
 w:Meth K C "wants" fw
section
variable {P:Program} {w:World} {K:M3} {mg:Str->Ms} {base:Heap} {f:Addr} {fd:FuncData}
def gi:Sp:=[MV,∃ i:Int,vs=[RF]/\Q (.bl true) H]
theorem jV:[QI,[OL],[OL],g7]:=R1
theorem jQ (F:[UG,Yx,Yx,g7]) (B:Q5):FnOk P w K mg base CX0 1 f fd [OL] gi:=by
 refine [T5,jV]
 .refine ar h fun i eq2 _=>?_;clear h;subst eq2;rfl
 refine ar h fun i eq3 q=>?_;clear h;subst eq3;refine [Yt,_,(av (aI (oG (aL (dI "int") rfl RS NY [RL,NB,eK (v:=.ty "int") rfl B.int_ OZ rfl]) (lj (FZ (aL (dI "bool") rfl RS NY [RL,NB,eK (v:=.ty "bool") rfl B.bool_ PyProof.Rows.boot_bool rfl]))))))];refine [Mu,dh _ _ _ rfl (RF) (Dn K) [Mu,WJ]];refine [Mu,dh _ _ _ rfl (RF) (C8 K) ND];exact q
def cE (K:M3):Sp:=[MV,∃ (p C dx:Addr) (v:V),vs=[TN,v]/\H p=[Mo,[Ve,C,[]]]/\Cls K C/\NoAttr K C Po/\Q .non (upd H p ([Ve,C,[(Po,v)]]))]
def hE (K:M3):Sp:=[MV,∃ (p C dx:Addr),vs=[TN]/\H p=[Mo,[Ve,C,[]]]/\Cls K C/\NoAttr K C Po/\Q .non (upd H p ([Ve,C,[(Po,.int 1)]]))]
theorem sX:[QI,[Nd,Po],[Nd,Po],ma]:=R1
theorem qp (F:[UG,Ql,"Rule.__init__",ma]):FnOk P w K mg base CX0 1 f fd [Nd,Po] (cE K):=by
 refine [T5,sX]
 .refine fB h fun p C dx v eq4 _=>?_;clear h;subst eq4;rfl
 refine cZ h fun p C dx v eq5 hp cl na q=>?_;clear h;subst eq5;refine [Yt,_,av (zF NB RB rfl)];exact [MR,[NA,p,C,dx,[],hp,cl,na,(aH ([Mx,0<1000]) q)]]
theorem sO:[QI,[Nd,QU],[Nd,QU],ml]:=R1
theorem qA {R g:Addr} {gd:FuncData} (F:[UG,Ql,"All.__init__",ml]) (mR:mg "Rule"=[Mv,R]) (c:ClsFn K R Ql g) (G:FnOk P w K mg base CX0 1 g gd [Nd,Po] (cE K)) (b:[TB,K,gd,[Nd,Po]]) :
  FnOk P w K mg base CX0 2 f fd [Nd,QU] (cE K):=by
 refine [T5,sO]
 .refine fB h fun p C dx v eq6 _=>?_;clear h;subst eq6;rfl
 refine cZ h fun p C dx v eq7 hp cl na q=>?_;clear h;subst eq7;refine [Yt,_,(av (cH (iL rfl mR c G hr b .nil dJ [RL,NB,P0])))];exact [MR,[NA,p,C,dx,v,hp,cl,na,q]]
theorem qZ:[QI,[Nd,Po],[Nd,Po],lV]:=R1
theorem tf {R g:Addr} {gd:FuncData} (F:[UG,Ql,"Some.__init__",lV]) (mR:mg "Rule"=[Mv,R]) (c:ClsFn K R Ql g) (G:FnOk P w K mg base CX0 1 g gd [Nd,Po] (cE K)) (b:[TB,K,gd,[Nd,Po]]) :
  FnOk P w K mg base CX0 2 f fd [Nd,Po] (cE K):=by
 refine [T5,qZ]
 .refine fB h fun p C dx v eq8 _=>?_;clear h;subst eq8;rfl
 refine cZ h fun p C dx v eq9 hp cl na q=>?_;clear h;subst eq9;refine [Yt,_,(av (cH (iL rfl mR c G hr b .nil dJ [RL,NB,P0])))];exact [MR,[NA,p,C,dx,v,hp,cl,na,q]]
theorem rV:[QI,[Nd],[Nd],mP]:=R1
theorem qX {R g:Addr} {gd:FuncData} (F:[UG,Ql,"Any.__init__",mP]) (mR:mg "Rule"=[Mv,R]) (c:ClsFn K R Ql g) (G:FnOk P w K mg base CX0 1 g gd [Nd,Po] (cE K)) (b:[TB,K,gd,[Nd,Po]]) :
  FnOk P w K mg base CX0 2 f fd [Nd] (hE K):=by
 refine [T5,rV]
 .refine dZ h fun p C dx eq0 _=>?_;clear h;subst eq0;rfl
 refine fe h fun p C dx eq1 hp cl na q=>?_;clear h;subst eq1;refine [Yt,_,av (cH (iL rfl mR c G hr b .nil dJ (ae NB TV)))];exact [Mu,[NA,p,C,dx,.int 1,hp,cl,na,q]]
def sT (K:M3):Sp:=[MV,∃ (x b C dx:Addr) (n:Int) (bs:MU),vs=[Ya,.ref b]/\H x=[Mo,[Ve,C,[(Po,XB)]]]/\Cls K C/\NoAttr K C Po/\H b=[VM,bs.map oV]/\Wu<=8/\1<=n/\ ∀ (H':Hp) (o:M7),Pk->Due bs n o->Q (oV o) H']
theorem yj:[QI,[Nd,ZM,"come"],[Nd,ZM],vJ]:=R1
theorem DU (F:[UG,"falls","Rule.falls",vJ]) (B:Q5):FnOk P w K mg base CX0 1 f fd [Nd,ZM] (sT K):=by
 refine [T5,yj]
 .refine bN h fun x b C dx pq0=>bU pq0 fun n bs eq2 _=>?_;clear pq0 h;subst eq2;rfl
 refine bN h fun x b C dx pq0=>fz pq0 fun n bs eq3 hx cl na pq1=>fX pq1 fun hb hl8 h1 q=>?_;clear pq0 pq1 h;subst eq3;refine [Xr,[YG,2,yj.nd,(aL wt rfl B.sorted_ A02 [Ou,cz ["beat"] [] [] rfl (de RB) [Qt,[PR,0,([Mg,[[Rk,"beat"]]])]] [Qt,An (aZ vw NB cK U7)] [Qt,Nt]]),ak [Z5,aZ t8 ([Vy,bz,rfl,[Ou,Qn]]) (oE NB rfl) U7,av (aI cK)] (av (aI ([RV,aU,TR,bD jy (oE NB rfl) au])))]]
 refine [Mu,[UN,b,[Tn,hb],Rl]];have hlm:[MP,bs.map oV]=Wu:=VA;refine cX (K:=K) (a:=b) (xs:=bs.map oV) (fun i ys H2=>[Pc,H2]/\ys=[Wj,eP (bs.take i)]) [Nl,aw hD _] (fun i ys H2 _ ⟨s2,_⟩=>[Tn,s2 _ _ hb]) ?_ ?_
 .rintro i y ys H2 hi ⟨s2,rfl⟩ hD2;refine [NC,Ku hi,fun o eq4 ho=>?_];subst eq4;have hil:i<Wu:=[L8,ho];refine ([QW,([U8,ND])]);cases o with
  | none =>
   refine cw [Yt,_,[Nl,s2]];rw [[Tj,ho],xu];exact hD2
  | some z =>
   refine cv [Mu,aC _ hD2 ?_ [Yt,_,[Nl,s2.upd hD _]]]
   .rw [Mc];have:=uk (bs.take i);rw [Nc] at this;exact Sf
   .rw [[Tj,ho],wO,Mt];exact aq
 .rintro ys H2 ⟨s2,rfl⟩ hD2;rw [hlm,NL] at hD2;have hcl:[MP,eP bs]<=8:=[Qi,uk bs,hl8];refine ([Rg,D,eP bs,[NO,hD2],L6,(fun l ns hl p o=>?_)]);have s3:[Pc,([Py,H2,l,NS])]:=s2.trans (aw hl _);have hx3:=s3 _ _ hx;have hl3:([Py,H2,l,NS]) l=[VM,NS]:=aq;have hlen:[MP,NS]=OY:=VA;refine [Mu,[Od,l,_,[T6,[NO,hl3]],[Mu,cf x C dx _ (eY _ rfl hx3 cl na ([QW,XF]))]]];refine dC (fun c=>?_) (fun c=>?_)
  .have c':[RK,[MP,NS]]<n:=[MF,c];rw [hlen] at c';exact q _ none s3 (Er p c')
  .have c':¬ [RK,[MP,NS]]<n:=of_decide_eq_false ([Xd,c]);rw [hlen] at c';have hk:[TF,n - 1]<OY:=Mr
   have en:n - 1=[RK,[TF,n - 1]]:=Mr
   have hv:ns[[TF,n - 1]]?=some ns[[TF,n - 1]]:=[M4,hk];have hat:atI (NS) (n - 1)=[Mo,.int ns[[TF,n - 1]]]:=by
    have:=Eo hv;rw [<- en] at this;exact this
   refine [MR,cf x C dx _ (eY _ rfl hx3 cl na ([QW,([Ux,([NN,l,_,_,_,[NO,hl3],hat,?_])])]))];exact q _ (some _) s3 (EW p o h1 hv)
theorem lO:¬ (V.str [Rk,UE]=V.str [Rk,UB]):=by
 intro h;injection h with h;exact [O9,h,Rb]
theorem fM {H:Hp} {x dx C:Addr} {l1 l2:[V3,V]} (nx:H x=none) (ndx:H dx=none):[Pc,(upd (upd (upd H dx (.own x)) x ([Ve,C,l1])) x ([Ve,C,l2]))]:=[RU,by
 rw [aK (aV e nx),aK (aV e nx),aK (aV e ndx)];exact e]
def jw (K:M3) (ff fw:Addr):Sp:=[MV,∃ (t:Str) (many n:Int),vs=[.str t,.int many]/\(t=UB/\n=many\/t=UE/\n=1)/\∀ x H',Pk->RuleAt K ff fw H' x n->[Xi,x,H']]
theorem vS:[QI,[Ta,QU],[Ta,QU],rW]:=R1
theorem vY {A Y fA fY ff fw:Addr} {dA dY:FuncData} (F:[UG,VP,VP,rW]) (mA:mg "All"=[Mv,A]) (mY:mg "Any"=[Mv,Y]) (oA:Own K A fA ff fw) (oY:Own K Y fY ff fw)
  (GA:FnOk P w K mg base CX0 2 fA dA [Nd,QU] (cE K)) (bA:[TB,K,dA,[Nd,QU]]) (GY:FnOk P w K mg base CX0 2 fY dY [Nd] (hE K)) (bY:[TB,K,dY,[Nd]]) :
  FnOk P w K mg base CX0 4 f fd [Ta,QU] (jw K ff fw):=by
 refine [Sw,vS,(fun cdv A' outer s H vs Q E hr h=>?_)]
 .refine dZ h fun t many n eq5 _=>?_;clear h;subst eq5;rfl
 refine fP h fun t many n eq6 hw q=>?_;clear h;subst eq6;refine [XD,[Z5,aZ c8 NB a8 U7,(av (aI (pZ oA.mks GA hr rfl mA bA .nil dJ [Ou,P0])))],(ak [Z5,aZ c8 NB a8 U7,av (aI (qV oY.mks GY hr rfl mY bY .nil dJ))] cq)]
 refine ([U8,ND]);rcases hw with ⟨rfl,rfl⟩ | ⟨rfl,rfl⟩
 .refine dC [Qe,?_] (fun c=>[O9,([MA,rfl]),c]);refine [Mu,fun x dx nx ndx ne=>([NA,x,A,dx,_,aq,oA.cl,oA.nN,([QW,?_])])];exact q x _ (fM nx ndx) (cD A dx aq oA.cl oA.nN oA.fl oA.w)
 .refine dC (fun c=>[O9,([MF,c]),lO]) [Qe,?_];refine ([U8,ND]);refine dC [Qe,?_] (fun c=>[O9,([MA,rfl]),c]);refine fun x dx nx ndx ne=>([SO,x,Y,dx,aq,oY.cl,oY.nN,([QW,?_])])
  exact q x _ (fM nx ndx) (cD Y dx aq oY.cl oY.nN oY.fl oY.w)
def i9 (K:M3) (ff fw:Addr):Sp:=[MV,∃ (wd:V) (many n:Int),vs=[wd,.int many]/\(wd=.str UB/\n=many\/wd=.str UE/\n=1\/wd=XB/\1<=n/\n<=many)/\∀ x H',Pk->RuleAt K ff fw H' x n->[Xi,x,H']]
theorem lJ:[QI,[Ut,QU],[Ut,QU],iV]:=R1
theorem lM {S fS ff fw:Addr} {dS:FuncData} (F:[UG,"rule_of","rule_of",iV]) (B:Q5) (mS:mg "Some"=[Mv,S]) (oS:Own K S fS ff fw) (GS:FnOk P w K mg base CX0 2 fS dS [Nd,Po] (cE K)) (bS:[TB,K,dS,[Nd,Po]])
  (C_text:[R3,4,VP,[Ta,QU],jw K ff fw]) (C_whole:[R3,1,Yx,[OL],gi]):FnOk P w K mg base CX0 5 f fd [Ut,QU] (i9 K ff fw):=by
 refine [Sw,lJ,(fun cdv A' outer s H vs Q E hr h=>?_)]
 .refine dZ h fun wd many n eq7 _=>?_;clear h;subst eq7;rfl
 refine fP h fun wd many n eq8 hw q=>?_;clear h;subst eq8;have hr3:Room 3 _:=Wx;refine [XD,[Z5,cO (aL (dI Z3) rfl RS NY [RL,NB,eK (v:=.ty Z3) rfl B.str_ Q3 rfl]),(av (aI [VD,C_text,NB,P0]))],(ak [Z5,PW.pt (v8 (cO [S4,C_whole,RH]) (qe (gN hJ hJ au NB RB))),av (aI (pZ oS.mks GS hr3 rfl mS bS .nil dJ RH))] cq)]
 rcases hw with ⟨rfl,rfl⟩ | ⟨rfl,rfl⟩ | ⟨rfl,h1,h2⟩
 .refine [Mu,dh _ _ _ rfl [XE,_] (jN K) [Mu,WJ]];exact [MR,iR UB _ _ rfl [T6,[Nl,rfl]] q]
 .refine [Mu,dh _ _ _ rfl [XE,_] (jN K) [Mu,WJ]];exact [MR,iR UE _ _ rfl (.inr [Nl,rfl]) q]
 .refine [Mu,dh _ _ _ rfl (.int _) (vi K) [Mu,T8]];refine [Mn,[MR,WJ]];refine [Mu,XF];rw [[MA,h1]];refine cv [Mu,XF];rw [[MA,h2]];refine WJ;refine [Mu,fun x dx nx ndx ne=>([NA,x,S,dx,_,aq,oS.cl,oS.nN,([QW,?_])])];exact q x _ (fM nx ndx) (cD S dx aq oS.cl oS.nN oS.fl oS.w)
end
end K82.S
namespace K82.S
open PySem L2
section
variable {P:Program} {w:World} {K:M3} {mg:Str->Ms} {base:Heap} {f:Addr} {fd:FuncData}
def ic (K:M3) (ff fw:Addr):Sp:=[MV,∃ (v:V) (b:Bell),vs=[v]/\BellAt H v b/\GoodR OC b.rule/\∀ x H',Pk->RuleAt K ff fw H' x (SF)->[Xi,x,H']]
theorem pT:[QI,[Oj],[Oj],gP]:=R1
theorem pR {ff fw:Addr} (F:[UG,"rule_of_bell","rule_of_bell",gP]) (B:Q5) (C_rule_of:[R3,5,"rule_of",[Ut,QU],i9 K ff fw]):FnOk P w K mg base CX0 6 f fd [Oj] (ic K ff fw):=by
 refine [T5,pT]
 .refine bU h fun v b eq1 _=>?_;clear h;subst eq1;rfl
 refine e9 h fun v b eq2 pp3 gr q=>?_;clear h;subst eq2;obtain ⟨a,t,ls,rfl,ha,ht,pr⟩:=pp3;refine [Yt,_,(av (aI [VD,C_rule_of,([Tq,NB]),[Vy,bz,rfl,[Ou,[Tq,NB]]]]))];refine [QF,a,_,_,_,WX,[QF,a,_,_,_,WX,([Od,t,_,([PY,[O1,ht]]),iR (ZC) _ (SF) rfl ?_ q])]];have hl:=aJ pr;rw [hl];unfold wants;cases hr:b.rule with
 | all=>exact .inl [Nl,rfl]
 | any=>exact [PY,.inl [Nl,rfl]]
 | num n =>
  rw [hr] at gr;exact [ZT,bM rfl gr.1 gr.2]
def sV:Sp:=[MV,∃ (v:V) (l:Lis) (p r:Addr) (before now:MU),vs=[v,TN,.ref r]/\LisAt H v l/\H p=[VM,before.map oV]/\H r=[VM,Yr]/\l.whom<before.length/\l.whom<Vs/\Q (oV (gk before now l)) H]
theorem DM {bs:MU} {i:Nat} {o:M7} (h:bs[i]?=MN):atI (bs.map oV) X4=[Mo,oV o]:=bh (by rw [List.getElem?_map,h]; rfl)
theorem xg:[QI,[PM,VR,"now",Zy],[PM,VR,"now"],vV]:=R1
theorem ED (F:[UG,"listening_comes","listening_comes",vV]):FnOk P w K mg base CX0 1 f fd [PM,VR,"now"] sV:=by
 refine [T5,xg]
 .refine bN h fun v l p r pq0=>bU pq0 fun before now eq4 _=>?_;clear pq0 h;subst eq4;rfl
 refine bN h fun v l p r pq0=>fz pq0 fun before now eq5 pp6 hp hr' pq1=>cb pq1 fun h1 h2 q=>?_;clear pq0 pq1 h;subst eq5;obtain ⟨a,rfl,ha⟩:=pp6;refine [Xr,[YG,3,xg.nd,(iK (aZ c8 ([Tq,NB]) au U7) ([RV,aU,RB,([Tq,NB])]) ([RV,aU,TR,([Tq,NB])])),av (aI (iK (aZ j3 VY cK U7) cK (bD c9 VY ([Tq,NB]))))]]
 refine [QF,a,_,_,_,WX,([QW,ND])];have e1:=[M4,h1];have e2:=[M4,h2];have hx:=SqT.of (K:=K) ha;cases hb:l.back with
 | true =>
  refine dC [Qe,?_] (fun c=>[O9,rfl,c]);refine [VO,a,_,_,_,hx,rfl,([NN,p,_,_,_,[NO,hp],DM e1,?_])];have hc:gk before now l=[Tr,before[l.whom],(·+l.beats)]:=by
   unfold gk;rw [hb,U2,e1];rfl
  rw [hc] at q;cases ho:before[l.whom] with
  | none =>
   rw [ho] at q;exact ([U8,[Mu,cv q]])
  | some i =>
   rw [ho] at q;exact ([U8,[Mu,cw [VO,a,_,_,_,hx,rfl,([Ux,q])]]])
 | false =>
  refine dC (fun c=>[O9,c,M0]) [Qe,?_];refine [VO,a,_,_,_,hx,rfl,([NN,r,_,_,_,[NO,hr'],DM e2,?_])];have hc:gk before now l=[Tr,now[l.whom],(·+l.beats)]:=by
   unfold gk;rw [hb,[Ph,M0],e2];rfl
  rw [hc] at q;cases ho:now[l.whom] with
  | none =>
   rw [ho] at q;exact ([U8,[Mu,cv q]])
  | some i =>
   rw [ho] at q;exact ([U8,[Mu,cw [VO,a,_,_,_,hx,rfl,([Ux,q])]]])
end
end K82.S
namespace K82.S
open PySem L2
def RuleV (K:M3) (ff fw:Addr) (H:Hp) (v:V) (b:Bell):Prop:=∃ x,v=Ya/\RuleAt K ff fw H x (SF)
def RulesAt (K:M3) (ff fw:Addr) (H:Hp) (r:Addr) (c:M6):Prop:=∃ rs,H r=[MI,rs]/\[Vg,RuleV K ff fw H,rs,c]
theorem RuleV.same {K:M3} {ff fw:Addr} {H H':Hp} {v:V} {b:Bell} (s:Pk) (h:RuleV K ff fw H v b):RuleV K ff fw H' v b:=by
 refine ar h fun x e q=>?_;clear h;exact (af x e (q.same s))
theorem RulesAt.same {K:M3} {ff fw:Addr} {H H':Hp} {r:Addr} {c:M6} (s:Pk) (h:RulesAt K ff fw H r c):RulesAt K ff fw H' r c:=by
 refine ar h fun rs e q=>?_;clear h;exact (af rs (s _ _ e) (bL ([Tz,z.same s]) q))
def Fine (c:M6):Prop:=c.length<=6/\∀ (k:Nat) b,c[k]?=QZ->1<=OC/\OC<=8/\GoodR OC b.rule/\[ZV,[OA,l.whom]/\1<=l.beats]
theorem Fine.slow {c:M6} (h:ZE):jL c:=fun k b hb l hl=>((h.2 k b hb).2.2.2 l hl).2
theorem oM {b:Bell} (h1:1<=OC) (h:GoodR OC b.rule):1<=SF:=by
 unfold wants;cases hr:b.rule with
 | all=>show [My,1]<=[My,OC]; omega
 | any=>exact Int.le_refl 1
 | num n=>rw [hr] at h; exact h.1
def Best (c:M6) (before now:MU) (H:Hp) (i:Nat) (v:V):Prop :=
 (v=.non/\∀ (k:Nat) b,k<i->c[k]?=QZ->now[k]?=OO->Due ([WK,b,now]) (SF) none)\/ ∃ (T:Addr) (beat:Int) (k:Nat) (b:Bell),v=.ref T/\H T=[OD,[.int beat,[MH,k]]]/\c[k]?=QZ/\now[k]?=OO/\Due ([WK,b,now]) (SF) (XJ)/\ ∀ (j:Nat) b' u,j<i->c[j]?=some b'->now[j]?=OO->Due ([WK,b',now]) (wants b') (NZ)->beat<=u
theorem Best.same {c:M6} {before now:MU} {H H':Hp} {i:Nat} {v:V} (s:Pk) (h:Best c before now H i v):Best c before now H' i v:=by
 rcases h with h | ⟨T,beat,k,b,e,hT,r⟩
 .exact .inl h
 .exact [PY,mr T beat k b e (s _ _ hT) r]
theorem Best.skip {c:M6} {before now:MU} {H:Hp} {i:Nat} {v:V} {u:Int} (h:Best c before now H i v) (hn:now[i]?=[Mo,NZ]):Best c before now H (i+1) v:=by
 rcases h with ⟨e,h⟩ | ⟨T,beat,k,b,e,hT,h1,h2,h3,h4⟩
 .refine .inl [Mw,e,fun k b hk hb hz=>?_];rcases Nat.lt_or_ge k i with c1 | c1
  .exact h k b c1 hb hz
  .have ek:k=i:=Mr
   rw [ek,hn] at hz;cases hz
 .refine [PY,az T beat k b e hT h1 h2 (aH h3 (fun j b' u' hj hb hz hd=>?_))];rcases Nat.lt_or_ge j i with c1 | c1
  .exact h4 j b' u' c1 hb hz hd
  .have ek:j=i:=Mr
   rw [ek,hn] at hz;cases hz
theorem Best.late {c:M6} {before now:MU} {H:Hp} {i:Nat} {v:V} {b:Bell} (h:Best c before now H i v) (hb:c[i]?=QZ) (hd:Due ([WK,b,now]) (SF) none):Best c before now H (i+1) v:=by
 rcases h with ⟨e,h⟩ | ⟨T,beat,k,b1,e,hT,h1,h2,h3,h4⟩
 .refine .inl [Mw,e,fun k b1 hk hb1 hz=>?_];rcases Nat.lt_or_ge k i with c1 | c1
  .exact h k b1 c1 hb1 hz
  .obtain rfl:k=i:=Mr
   rw [hb] at hb1;cases hb1
   exact hd
 .refine [PY,az T beat k b1 e hT h1 h2 (aH h3 (fun j b' u' hj hb1 hz hd1=>?_))];rcases Nat.lt_or_ge j i with c1 | c1
  .exact h4 j b' u' c1 hb1 hz hd1
  .obtain rfl:j=i:=Mr
   rw [hb] at hb1;cases hb1
   cases fJ hd hd1
theorem Best.take {c:M6} {before now:MU} {H:Hp} {i:Nat} {b:Bell} {u:Int} {T:Addr} (h:∀ (j:Nat) b' v,j<i->c[j]?=some b'->now[j]?=OO->Due ([WK,b',now]) (wants b') (Nw)->u<=v) (hT:H T=[OD,[.int u,[MH,i]]])
  (hb:c[i]?=QZ) (hn:now[i]?=OO) (hd:Due ([WK,b,now]) (SF) (NZ)):Best c before now H (i+1) [MT,T]:=by
 refine [PY,[NA,T,u,i,b,hT,hb,hn,(aH hd (fun j b' v hj hb' hz hd'=>?_))]];rcases Nat.lt_or_ge j i with c1 | c1
 .exact h j b' v c1 hb' hz hd'
 .obtain rfl:j=i:=Mr
  rw [hb] at hb';cases hb'
  have:=[Mq,fJ hd hd'];omega
section
variable {P:Program} {w:World} {K:M3} {mg:Str->Ms} {base:Heap} {f:Addr} {fd:FuncData}
def sr (K:M3) (ff fw:Addr):Sp:=[MV,∃ (ch:V) (c:M6) (r p n:Addr) (before now:MU),vs=[ch,.ref r,TN,.ref n]/\[Rc,H,ch]/\ZE/\RulesAt K ff fw H r c/\H p=[VM,before.map oV]/\H n=[VM,Yr]/\[Vn,before.length]/\[Vn,Vs]/\ ∀ (H':Hp) (v:V),Pk->Best c before now H' c.length v->Q v H']
theorem iN:[QI,[MC,"rules",VR,"now","best","number",Oj,"beat"],[MC,"rules",VR,"now"],uZ]:=R1
theorem Fo {ff fw:Addr} {df:FuncData} (F:[UG,"next_found","next_found",uZ]) (B:Q5) (C_comes:[R3,1,"listening_comes",[PM,VR,"now"],sV]) (GF:FnOk P w K mg base CX0 1 ff df [Nd,ZM] (sT K)) (bF:[TB,K,df,[Nd,ZM]]):FnOk P w K mg base CX0 2 f fd [MC,"rules",VR,"now"] (sr K ff fw):=by
 refine [T5,iN]
 .refine bN h fun ch c r p pq0=>dZ pq0 fun n before now eq7 _=>?_;clear pq0 h;subst eq7;rfl
 refine bN h fun ch c r p pq0=>fe pq0 fun n before now eq8 pp9 fc pp0 pq1=>dE pq1 fun hp hn lb ln q=>?_;clear pq0 pq1 h;subst eq8;obtain ⟨a,bs,rfl,ha,prb⟩:=pp9;obtain ⟨rs,hR,prr⟩:=pp0;have hr1:Room 1 _:=Wx;refine [Xr,[YG,4,iN.nd,cK,ak (cT Ny rfl (mE rfl B.enumerate_ RH) (fL rfl ([YY,5,iN.nd,([YY,6,iN.nd,dG])])) (av [Z5,aZ j3 ([RV,aU,VY,Yc]) cK U7,([YG,7,iN.nd,(eV ([RV,aU,RB,Yc]) GF hr1 bF .nil dJ [Ou,cz [PM] [VR,"now"] [2,3] rfl (dj ([Tq,pv 6])) [Wf,0,([Mg,[[Rk,PM],[Rk,VR],[Rk,"now"]]])] RN [Qt,[S4,C_comes,(ae NB [RL,RB,Qn])]]]),av [Z5,PW.pt (v8 (aZ vw (pv 7) cK U7) (qe (PW.pt (kY (aZ j3 WN cK U7) (iz (aZ t8 (pv 7) ([Tq,WN]) U7)))))),(av [Vx,4,iN.nd,(dB [RL,pv 7,Yc])])]])])) (av (aI WN))]]
 have hbl:=aJ prb;refine ⟨_,rfl,a,rfl,[T7,WX],kB (K:=K) (a:=a) (xs:=bs) (fun i σ H2=>∃ (v:V) (o5 o6 o7:RT),σ=[Vc,[Mv,r],[Mv,p],[Mv,n],Nw,o5,o6,o7]/\[Pc,H2]/\Best c before now H2 i v) (mr .non none none none rfl (Yk) [T6,[P7,fun k b hk=>[O9,hk,([Tg,k])]]]) (fun i σ H2 _ pr=>wN pr fun _ _ _ _ _ s2 _=>[S2,s2 _ _ ha]) ?_ ?_⟩
 .rintro i y σ H2 T hi ⟨v,o5,o6,o7,rfl,s2,hbest⟩ hT;refine [NC,bg prb hi,fun b hb pp1=>?_];obtain ⟨x,t,ls,rfl,hx,ht,prl⟩:=pp1;have hic:[OA,i]:=Wy;refine [NC,cF prr hb,fun rv hrv pp2=>?_];obtain ⟨ro,rfl,hro⟩:=pp2;have s3:Same H2 ([Rz,H2,T,[[MH,i],Ya]]):=aw hT _;have s23:=Qh;have eT:([Rz,H2,T,[[MH,i],Ya]]) T=[OD,[[MH,i],Ya]]:=aq;refine ([Rg,T,_,([O1,eT]),rfl,([Xp,_,_,ZU])]);have hbest3:=hbest.same s3;generalize upd H2 T (.tup [.int (i:Int),.ref x])=H3 at s3 s23 eT hbest3 ⊢;have en:=[M4,[Yu,i<Vs]];refine [VO,n,_,_,_,[NO,s23 _ _ hn],DM en,([QW,ND])];cases ho:now[i]'(by omega) with
  | some u =>
   rw [ho] at en;exact cw (mr v _ _ _ rfl s23 (hbest3.skip en))
  | none =>
   rw [ho] at en;refine WJ;refine fz (hro.same s23 :) fun C dx hro' cl na mt _=>?_
   refine fX (fc.2 i b hb :) fun g1 g8 gr gl=>?_
   refine [VO,r,_,_,_,[NO,s23 _ _ hR],bh hrv,([NA,C,ro,dx,_,hro',cl,mt,([QW,?_])])];refine [QF,x,_,_,_,[ZG,s23 _ _ hx],([UN,t,[S2,s23 _ _ ht],Rl])];have hll:=aJ prl;refine cJ (K:=K) (a:=t) (xs:=ls) (fun j ys H4=>Same H3 H4/\ys=[Tr,[Tr,b.lis.take j,gk before now],oV]) [Nl,aw hD _] (fun j ys H4 _ ⟨z,_⟩=>[S2,z _ _ (s23 _ _ ht)]) ?_ ?_
   .rintro j y ys H4 hj ⟨s4,rfl⟩ hD4;refine [NC,bg prl hj,fun l hl hla=>?_]
    have s04:=s23.trans s4;obtain ⟨w1,w2⟩:=gl l [Xg,hl];refine V9;refine [Mn,[MR,cf y l p n ([Yv,before,now,(hla.mono [OT,s04]),s04 _ _ hp,s04 _ _ hn,bM L6 L6 ?_])]];refine (aC _ hD4 ?_ [Yt,_,[Nl,s4.upd hD _]])
    .rw [Mc,Mc,Nc];exact Sf
    .rw [[Tj,hl],Mt,Mt];exact aq
   .rintro ys H4 ⟨s4,rfl⟩ hD4;rw [hll,NL] at hD4;have s04:=s23.trans s4;refine (cf ro D C dx ([Yv,SF,([Sd,gk before now]),s4 _ _ hro',cl,na,(fI hD4 ([PQ,g8]) (oM g1 gr) (fun H5 o s5 hd=>?_))]));have s35:=Xk;have s05:=s23.trans s35;have hbest5:=hbest3.same s35;cases o with
    | none=>exact ([U8,[Mu,cw (cw (mr v _ _ _ rfl s05 (hbest5.late hb hd)))]])
    | some u =>
     refine ([U8,[Mu,WJ]]);rcases hbest5 with ⟨rfl,hno⟩ | ⟨T2,beat,k,b2,rfl,hT2,h1,h2,h3,h4⟩
     .refine ([U8,[Mu,cv (WJ)]]);refine [Mu,[U3,Zn,Vz]];refine (mr _ _ _ _ rfl (s05.trans (aw hl _)) (Best.take (fun j b' z hj hb' hz hd'=>?_) aq hb en hd));cases fJ (hno j b' hj hb' hz) hd'
     .refine ([U8,[Mu,T8]]);refine [VO,T2,_,_,_,([O1,hT2]),rfl,XF];refine dC (Xm) (Xm)
      .have hlt:u<beat:=[MF,cc];refine [Mu,[U3,Zn,Vz]];refine (mr _ _ _ _ rfl (s05.trans (aw hl _)) (Best.take (fun j b' z hj hb' hz hd'=>?_) aq hb en hd));have:=h4 j b' z hj hb' hz hd';omega
      .have hge:¬ u<beat:=of_decide_eq_false ([Xd,cc]);refine (mr _ _ _ _ rfl s05 ([PY,[NA,T2,beat,k,b2,hT2,h1,h2,(aH h3 (fun j b' z hj hb' hz hd'=>?_))]]));rcases Nat.lt_or_ge j i with c1 | c1
       .exact h4 j b' z c1 hb' hz hd'
       .obtain rfl:j=i:=Mr
        rw [hb] at hb';cases hb'
        have:=[Mq,fJ hd hd'];omega
 .intro σ H2 pr;refine wN pr fun v o5 o6 o7 eq3 s2 hbest=>?_;clear pr;subst eq3;rw [hbl] at hbest;exact [Mu,q H2 v s2 hbest]
end
end K82.S
namespace K82.S
open PySem L2
def IF:V->Bool
 | .non=>true
 | _=>false
theorem ER (now:MU):(Yr).countP IF=now.countP (·.isNone):=by
 rw [List.countP_map];refine List.countP_congr fun o _=>?_
 cases o <;> rfl
theorem count_set {now:MU} {k:Nat} {u:Int} (h:now[k]?=OO):([ZW,NZ]).countP (·.isNone)<now.countP (·.isNone):=by
 induction now generalizing k with
 | nil=>cases h
 | cons o r ih =>
  cases k with
  | zero =>
   have e:o=none:=by simpa using h
   subst e;simp
  | succ k =>
   have:=ih (k:=k) (by simpa using h);simp only [List.set_cons_succ,List.countP_cons];omega
theorem J2 (now:MU) (k:Nat) (u:Int):(Yr).set k (.int u)=[Tr,[ZW,NZ],oV]:=by
 rw [List.map_set];rfl
def left (n:Addr) (H:Hp):Nat:=match H n with
 | some (.lst xs)=>xs.countP IF
 | _=>0
theorem Ax {n:Addr} {H:Hp} {now:MU} (h:H n=[VM,Yr]):left n H=now.countP (·.isNone):=by
 unfold left;rw [h];exact ER now
section
variable {P:Program} {w:World} {K:M3} {mg:Str->Ms} {base:Heap} {f:Addr} {fd:FuncData}
def oq (K:M3) (ff fw:Addr):Sp:=[MV,∃ (ch:V) (c:M6) (r p:Addr) (before:MU),vs=[ch,.ref r,TN]/\[Rc,H,ch]/\ZE/\RulesAt K ff fw H r c/\H p=[VM,before.map oV]/\[Vn,before.length]/\ ∀ (H':Hp) (n:Addr) (now:MU),Pk->H n=none->H' n=[VM,Yr]->[XI,c,now]->[Xi,n,H']]
theorem kM:[QI,[MC,"rules",VR,"now","found"],[MC,"rules",VR],rT]:=R1
theorem Cw {ff fw:Addr} (F:[UG,"strokes_behind","strokes_behind",rT]) (C_found:[R3,2,"next_found",[MC,"rules",VR,"now"],sr K ff fw]):FnOk P w K mg base CX0 3 f fd [MC,"rules",VR] (oq K ff fw):=by
 refine [T5,kM]
 .refine bN h fun ch c r p pq0=>[W5,fun before eq4 _=>?_];clear pq0 h;subst eq4;rfl
 refine bN h fun ch c r p pq0=>gq pq0 fun before eq5 hch fc hru pq1=>cb pq1 fun hp lb q=>?_;clear pq0 pq1 h;subst eq5;refine aX (id hch :) fun a bs eq6 ha prb=>?_;subst eq6;refine [XD,(cU (i:=3) [Oj] [] [] rfl kM.nd rfl OG (dj NB) [Wf,0,([Mg,[[Rk,Oj]]])] RN [Qt,cK]),([YG,4,kM.nd,[S4,C_found,(ae NB (ae RB [RL,TR,T3]))],ak (i4 Ny (aZ vw WN cK U7) (ak (jg ([Tq,WN]) (oU VY ([Tq,WN]) set_list)) (av [Vx,4,kM.nd,[S4,C_found,(ae NB (ae RB [RL,TR,T3]))]]))) (av (aI VY))])]
 have hbl:=aJ prb;refine [Mu,[UN,a,WX,(fun n hn=>?_)]];refine cJ (K:=K) (a:=a) (xs:=bs) (fun j ys H2=>[Pc,H2]/\ys=[Tr,[Tr,c.take j,fun _=>none],oV]) [Nl,aw hn _] ([ZN,[S2,z _ _ ha]]) ?_ ?_
 .rintro j y ys H2 hj ⟨s2,rfl⟩ hD;refine [NC,bg prb hj,fun b hb _=>?_]
  have hj6:[OA,j]:=Wy;have:=fc.1;refine V9;refine (aC _ hD ?_ [Yt,_,[Nl,s2.upd hn _]])
  .rw [Mc,Mc,Nc];exact Sf
  .rw [[Tj,hb],Mt,Mt];exact aq
 .rintro ys H2 ⟨s2,rfl⟩ hD;rw [hbl,NL] at hD;refine [Mn,[Mn,[MR,cf VU c r p ([SO,n,before,(c.map fun _=>none),([SD,s2]),fc,hru.same s2,(dv (s2 _ _ hp) hD lb (VA) (fun H3 v s3 hbest=>?_))])]]];refine kh (fun σ H4=>∃ (v:V) (now:MU),σ=[Vc,[Mv,r],[Mv,p],[Mv,n],Nw]/\[Pc,H4]/\H4 n=[VM,Yr]/\Going c before now/\Best c before now H4 c.length v) (fun _ H4=>left n H4) ([Yv,v,_,Qh,s3 _ _ hD,pL c before,hbest]) ?_ ?_
  .intro σ H4 pr;refine fz pr fun v now eq7 s4 hn4 go hbest=>?_;clear pr;subst eq7;rcases hbest with ⟨rfl,hno⟩ | ⟨T,beat,k,b,rfl,hT,hb,hk,hd,hl⟩
   .refine ([U8,[Mu,T8]]);exact [Mu,q H4 n now s4 hn hn4 (nu go fun k b hb hz=>hno k b Wy hb hz)]
   .have hkc:[OA,k]:=Wy;have hkn:k<Vs:=[L8,hk];refine ([U8,[Mu,WJ]]);refine [QF,T,_,_,_,([O1,hT]),[VO,T,_,_,_,([O1,hT]),rfl,([NN,n,_,_,k,hn4,?_,?_])]]
    .unfold ixN;rw [[P9,L6],Mc,[P9,L6],ZF]
    rw [J2];have s5:=s4.upd hn [Pl,([Tr,[ZW,XJ],oV])];have hn5:=aq (H:=H4) (a:=n) (o:=.lst ([Tr,[ZW,XJ],oV]));have go5:=wq fc.slow go hb hk hd fun j b' u hj hz hd'=>hl j b' u [L8,hj] hj hz hd'
    have l4:=Ax hn4;generalize upd H4 n (.lst ((now.set k (some beat)).map oV))=H5 at s5 hn5 ⊢;refine [Mn,[Mn,[MR,cf VU c r p ([SO,n,before,([ZW,XJ]),([SD,s5]),fc,hru.same s5,(dv (s5 _ _ hp) hn5 lb ([WS,go.len]) (fun H6 v6 s6 hbest6=>?_))])]]];refine [W4,([Yv,v6,_,s5.trans s6,s6 _ _ hn5,go5,hbest6])];show left n H6<left n H4;rw [l4,Ax (s6 _ _ hn5)];exact count_set hk
  .intro σ H4 Q1 Q2 hq pr;refine bp pr fun z1 e1 e2 pq0=>[W5,fun z2 e3 h=>?_];clear pq0 pr;exact (aC z1 e1 e2 (af z2 e3 (hq _ _ h)))
end
end K82.S
namespace K82.S
open PySem L2
structure Rows (c:List Bell) (rows:List (List (Option Int))):Prop where
 first:∀ row,rows[0]?=some row->row=c.map fun b=>some b.start
 next:∀ (n:Nat) x y,rows[n]?=some x->rows[n+1]?=some y->Fix c x y
theorem Rows.len {c:M6} {rows:[MG,MU]} (h:Rows c rows):∀ (n:Nat) x,rows[n]?=OV->[Vn,x.length]
 | 0,x,e=>by rw [h.first x e,List.length_map]
 | n+1,x,e=>by
  have hn:n<QT:=[NV,[L8,e]]
  exact (h.next n _ x ([M4,hn]) e).1
theorem Rows.snoc {c:M6} {rows:[MG,MU]} {row:MU} (h:Rows c rows) (h0:rows=[]->row=c.map fun b=>some b.start) (h1:∀ x,rows[QT - 1]?=OV->0<QT->Fix c x row):Rows c (rows++[row]) where
 first:=fun r e=>by
  by_cases hn:rows=[]
  .subst hn;have:row=r:=[Ml,e]
   rw [<- this];exact h0 rfl
  .have hp:0<QT:=[Yy,hn];rw [[OP,hp]] at e;exact h.first r e
 next:=fun n x y ex ey=>by
  have hlt:=[L8,ey];rw [Na] at hlt;have hlt':n+1<QT+1:=hlt;have hn:n<QT:=Mr
  rw [[OP,hn]] at ex;by_cases hn1:n+1<QT
  .rw [[OP,hn1]] at ey;exact h.next n x y ex ey
  .have e:n+1=QT:=Mr
   rw [e,YQ] at ey;cases ey
   exact h1 x (by rw [<- e]; exact ex) L6
def RowAt (N:[Qp,Addr]) (H:Hp) (v:V) (row:MU):Prop:=∃ a,v=QM/\N a/\H a=[VM,row.map oV]
section
variable {P:Program} {w:World} {K:M3} {mg:Str->Ms} {base:Heap} {f:Addr} {fd:FuncData}
def g6:Sp:=[MV,∃ (ch:V) (c:M6) (many:Nat),vs=[ch,.int many]/\[Rc,H,ch]/\ZE/\many<=100000/\ ∀ (H':Hp) (t:Addr) (told:Nz) (rows:[MG,MU]),Pk->H t=none->H' t=[MI,told]->[Vg,(RowAt (fun a=>H a=none/\a≠t) H'),told,rows]->QT=many+1->Rows c rows->[Xi,t,H']]
theorem jq:[QI,[MC,QU,"rules","told","n"],[MC,QU],oB]:=R1
theorem RowAt.same {N:[Qp,Addr]} {H H':Hp} {v:V} {row:MU} (s:Pk) (h:RowAt N H v row):RowAt N H' v row:=by
 refine bp h fun a e n q=>?_;clear h;exact (aC a e n (s _ _ q))
theorem Fv {n:Nat} (h:n<=100002):n<sizeLine:=Nat.lt_of_le_of_lt h M0
theorem zZ {ff fw:Addr} (F:[UG,"strokes","strokes",oB]) (B:Q5) (C_rule_of_bell:[R3,6,"rule_of_bell",[Oj],ic K ff fw]) (C_behind:[R3,3,"strokes_behind",[MC,"rules",VR],oq K ff fw]):FnOk P w K mg base CX0 7 f fd [MC,QU] g6:=by
 refine [T5,jq]
 .refine dZ h fun ch c many eq8 _=>?_;clear h;subst eq8;rfl
 refine fe h fun ch c many eq9 hch fc hm q=>?_;clear h;subst eq9;refine aX (id hch :) fun a bs eq0 ha prb=>?_;subst eq0;refine [XD,(cU (i:=2) [Oj] [] [] rfl jq.nd rfl OG (dj NB) [Wf,0,([Mg,[[Rk,Oj]]])] RN [Qt,[S4,C_rule_of_bell,RH]]),([YG,3,jq.nd,cM ah,ak (cT Ny rfl (dH rfl B.range_ [Ou,bD c9 RB au]) [Uy,4,jq.nd] (av (bE (aZ c8 WN au U7) (av (cH (dr Ow P4 P2 dq VY [Ou,cz [Oj] [] [] rfl (dj NB) [Wf,0,([Mg,[[Rk,Oj]]])] RN [Qt,([RZ,Vd,NB])]]))) (av (cH (dr Ow P4 P2 dq VY [Ou,[QP,C_behind,(ae NB [RL,TR,[RV,aU,VY,bD jy WN au]])]])))))) (av (aI VY))])]
 have hbl:=aJ prb;have h6:=fc.1;refine [Mu,[UN,a,WX,(fun r hr0=>?_)]];refine cJ (K:=K) (a:=a) (xs:=bs) (fun j ys H2=>[Pc,H2]/\[Vg,RuleV K ff fw H2,ys,c.take j]) [Mw,aw hr0 _,.nil] ([ZN,[S2,z _ _ ha]]) ?_ ?_
 .rintro j y ys H2 hj ⟨s2,pr2⟩ hD;refine [NC,bg prb hj,fun b hb hbv=>?_]
  have hj6:[OA,j]:=Wy;refine V9;refine [Mu,[Rg,y,b,(hbv.mono [OT,s2]),(fc.2 j b hb).2.2.1,(fun x H3 s3 hx=>?_)]];have hD3:=s3 _ _ hD;refine (aC _ hD3 ?_ (af _ [W4,(Qh).upd hr0 _] aq))
  .rw [aJ pr2,Nc];exact Sf
  .have up:∀ (v:V) (b:Bell),RuleV K ff fw H3 v b->RuleV K ff fw ([Py,H3,r,ys++[Ya]]) v b:=by
    intro v b pr;refine ar pr fun x eq1 pq0=>bU pq0 fun C dx hx z=>?_;clear pq0 pr;subst eq1;refine [Ma,x,bP C dx ?_ z];rw [aK (eR hx hD3 (OF))];exact hx
   rw [[Tj,hb]];exact cP (up _ _ [Ma,x,hx]) (bL ([Tz,up _ _ (z.same s3)]) pr2)
 .rintro ys H2 ⟨s2,pr2⟩ hD;rw [hbl,NL] at pr2;refine [Mw,([Qq,0]),fun t ht=>?_];have nt:H t=none:=s2.free ht;have hru2:RulesAt K ff fw H2 r c:=(af ys hD pr2);have s3:Same H2 ([Py,H2,t,[]]):=aw ht _;have hrt:r≠t:=aV hD ht;refine [Mu,[Ux,(cC [RK,many+1] ?_ L6 L6 ?_)]]
  .rfl
  refine fh (lo:=0) (n:=[TF,[RK,many+1]]) (fun i σ H3=>∃ (told:Nz) (rows:[MG,MU]) (o4:RT),σ=[Vc,[Mo,.int many],[Mv,r],[Mv,t],o4]/\[Pc,H3]/\RulesAt K ff fw H3 r c/\H3 t=[MI,told]/\ [Vg,(RowAt (fun a=>H a=none/\a≠t) H3),told,rows]/\QT=i/\Rows c rows) ([SO,[],[],none,Qh,hru2.same s3,aq,(bM .nil rfl [Mw,fun _ e=>([PL,e]),fun _ _ _ e=>([PL,e])])]) ?_ ?_
  .intro i σ H3 hi pr;refine fe pr fun told rows o4 eq2 s03 hru ht3 pq0=>cb pq0 fun prt hri hrows=>?_;clear pq0 pr;subst eq2;have hti:=[Q9,aJ prt,hri];rw [Xv];have step:∀ (H4:Hp) (n:Addr) (now:MU),Same H3 H4->H3 n=none->H4 n=[VM,Yr]->Rows c (rows++[now])->[Pc,([Py,H4,t,told++[.ref n]])]/\RulesAt K ff fw ([Py,H4,t,told++[.ref n]]) r c/\[Vg,(RowAt (fun a=>H a=none/\a≠t) ([Py,H4,t,told++[.ref n]])),told++[.ref n],rows++[now]]:=fun H4 n now s4 hn hn4 hrn=>by
    have hnt:n≠t:=[UT,by rw [e,ht3] at hn; cases hn]
    have ht4:=s4 _ _ ht3;have up:∀ (v:V) (row:MU),RowAt (fun a=>H a=none/\a≠t) H4 v row->RowAt (fun a=>H a=none/\a≠t) ([Py,H4,t,told++[.ref n]]) v row:=by
     intro v row pr;refine bp pr fun x e pp3 x3=>?_;clear pr;obtain ⟨x1,x2⟩:=pp3;exact (aC x e [Mw,x1,x2] (by rw [aK x2]; exact x3))
    refine (bM ((s03.trans s4).upd nt _) ?_ (cP (up _ _ ([Oz,n,[Mw,s03.free hn,hnt],hn4])) (bL ([Tz,up _ _ (z.same s4)]) prt)));refine [NC,hru.same s4,fun rs e pr=>?_]
    refine (af rs (by rw [aK hrt]; exact e) (bL ?_ pr));intro v b pr;refine ar pr fun x eq4 pq0=>bU pq0 fun C dx hx z=>?_;clear pq0 pr;subst eq4;refine [Ma,x,bP C dx ?_ z];rw [aK (eR hx ht4 (OF))];exact hx
   refine ([U8,ND]);refine dC (Xm) (Xm)
   .have hi0:i=0:=by
     have e:[W2,X4]=[W2,0]:=[MF,cc];injection e with e;omega
    refine ([U3,[T6,([QW,(e8 _ [NO,ht3])])],[Mu,[UN,a,[S2,s03 _ _ ha],Rl]]]);refine cJ (K:=K) (a:=a) (xs:=bs) (fun j ys H4=>Same H3 H4/\ys=[Tr,[Tr,c.take j,fun b=>some b.start],oV]) [Nl,aw hD _] (fun j ys H4 _ ⟨z,_⟩=>[S2,(s03.trans z) _ _ ha]) ?_ ?_
    .rintro j y ys H4 hj ⟨s4,rfl⟩ hD4;refine [NC,bg prb hj,fun b hb pp5=>?_];obtain ⟨x,tt,ls,rfl,hx,_⟩:=pp5;have hj6:[OA,j]:=Wy;refine V9;refine [QF,x,_,_,_,[ZG,(s03.trans s4) _ _ hx],(aC _ hD4 ?_ [Yt,_,[Nl,s4.upd hD _]])]
     .rw [Mc,Mc,Nc];exact Sf
     .rw [[Tj,hb],Mt,Mt];exact aq
    .rintro ys H4 ⟨s4,rfl⟩ hD4;rw [hbl,NL] at hD4;have hr0:rows=[]:=List.eq_nil_of_length_eq_zero L6;have hrn:Rows c (rows++[c.map fun b=>some b.start]):=hrows.snoc [Qe,rfl] (fun x _ h=>by rw [hr0] at h; cases h);refine cb (step H4 D _ s4 hD hD4 hrn :) fun z1 z2 z3=>?_
     exact ([SO,t,_,_,rfl,s4 _ _ ht3,(by rw [hti]; exact Fv L6),([SO,_,_,_,z1,z2,aq,(bM z3 (by rw [List.length_append,hri]; rfl) hrn)])])
   .have hi1:1<=i:=by
     rcases Nat.eq_zero_or_pos i with e | e
     .exact [O9,(by rw [e]; rfl),cc]
     .exact e
    have hv:=[M4,[Yu,i - 1<Yl]];refine [NC,bg prt hv,fun row hrow pp6=>?_];obtain ⟨p,ep,_,hp3⟩:=pp6;have hat:atI told (X4 - 1)=[Mv,p]:=by
     have e:X4 - 1=[RK,i - 1]:=Mr
     rw [e,<- ep];exact bh hv
    refine ([U3,[T6,([QW,(e8 _ [NO,ht3])])],[Mn,[Mn,[MR,[Ux,([NN,t,_,_,_,[NO,ht3],hat,(cf VU c r p (eY row rfl ([SD,s03]) fc hru (bM hp3 (hrows.len _ _ hrow) (fun H4 n now s4 hn hn4 hfix=>?_))))])]]]]]);have hrn:Rows c (rows++[now]):=hrows.snoc ([UT,by rw [e] at hri; exact [O9,hri.symm,([NF,¬ i=0])]]) (fun x hx _=>by rw [hri,hrow] at hx; cases hx; exact hfix);refine cb (step H4 n now s4 hn hn4 hrn :) fun z1 z2 z3=>?_
    exact ([SO,t,_,_,rfl,s4 _ _ ht3,(by rw [hti]; exact Fv L6),([SO,_,_,_,z1,z2,aq,(bM z3 (by rw [List.length_append,hri]; rfl) hrn)])])
  .intro σ H3 pr;refine fe pr fun told rows o4 eq7 s03 hru ht3 pq0=>cb pq0 fun prt hri hrows=>?_;clear pq0 pr;subst eq7;exact [Mu,q H3 t told rows s03 nt ht3 prt (by rw [hri]; omega) hrows]
end
end K82.S
namespace K82.S
open PySem L2
def LQ (l0 l1:Lis):Prop:=l0.whom=l1.whom/\l0.back=l1.back/\l0.beats<=l1.beats
def Quick (c0 c1:M6):Prop:=∀ (k:Nat) b1,c1[k]?=some b1->∃ b0,c0[k]?=some b0/\wants b0=wants b1/\[Vg,LQ,b0.lis,b1.lis]
theorem pz {α:Type} {F:α->[Qp,α]} (h:∀ x,F x x):∀ xs:QY,[Vg,F,xs,xs]
 | []=>.nil
 | x::r=>.cons (h x) (pz h r)
theorem Quick.refl (c:M6):Quick c c:=fun k b hb=>(aC b hb rfl (pz [Qe,bM rfl rfl (Ov)] _))
theorem mq {α β:Type} {F:α->[Qp,β]} {p:α->Bool} {q:β->Bool}:∀ {xs:QY} {ys:Yg},[Vg,F,xs,ys]->(∀ x y,x∈xs->y∈ys->F x y->q y=true->p x=true)->ys.countP q<=xs.countP p
 | _,_,.nil,_=>Mm
 | x::xs,y::ys,.cons r t,h=>by
  have ih:=mq t fun a b ha hb=>h a b ([MX,ha]) ([MX,hb])
  rw [SW,SW];have h1:=h x y Pz Pz r;by_cases hq:q y=true
  .rw [[P9,hq],[P9,h1 hq]];omega
  .rw [[Ph,hq]];split <;> omega
theorem Ak {α:Type} (l:QY) (f:α->M7):tot (l.map f)=l.countP ([Z2,(f x).isSome]):=by
 unfold tot;rw [List.countP_map];rfl
theorem ki {o:M7} {v:Int} (h:leO o v=true):∃ u,o=NZ/\u<=v:=by
 cases o with
 | none=>cases h
 | some u=>exact [Ma,u,([MF,h])]
theorem oj {before now:MU} {l:Lis} {u:Int} (h:gk before now l=NZ):∃ w,([Mj,l.back,before,now])[l.whom]?=[Mo,some w]/\u=[YJ,w]:=by
 unfold gk at h;cases e:(if l.back then before else now)[l.whom]? with
 | none=>rw [e] at h; cases h
 | some o =>
  rw [e] at h;cases o with
  | none=>cases h
  | some w=>exact [Ma,w,[YH,h]]
theorem qj {before now:MU} {l:Lis} {w:Int} (h:([Mj,l.back,before,now])[l.whom]?=[Mo,some w]):gk before now l=[Mo,[YJ,w]]:=by
 unfold gk;rw [h];rfl
theorem Dr {c0 c1:M6} (hc:jL c1) (qk:Quick c0 c1) {b0 b1 n0 n1:MU} (h:∀ (k:Nat) u,b1[k]?=[Mo,NZ]->∃ u',b0[k]?=[Mo,some u']/\u'<=u) (f0:Fix c0 b0 n0) (f1:Fix c1 b1 n1) :
  ∀ (k:Nat) v,n1[k]?=V2->∃ v',n0[k]?=[Mo,some v']/\v'<=v:=by
 obtain ⟨B,hB⟩:=low n1;have all:∀ (n:Nat) (k:Nat) v,v<B+n->n1[k]?=V2->∃ v',n0[k]?=[Mo,some v']/\v'<=v:=by
  intro n;induction n with
  | zero=>intro k v hv e; have:=hB v (List.mem_of_getElem? e); omega
  | succ n ih =>
   intro k v hv e;have hk:k<c1.length:=by rw [<- f1.1]; exact (List.getElem?_eq_some_iff.mp e).1
   have hb:=List.getElem?_eq_getElem hk;refine ar (f1.2 k _ hb :) fun o ho hd=>?_
   rw [e] at ho;cases ho
   refine bp (qk k _ hb :) fun bb hb0 hw hp=>?_
   refine ar (f0.2 k _ hb0 :) fun o' ho' hd'=>?_
   have cn:cnt (bH c1[k] b1 n1) v<=cnt (bH bb b0 n0) v:=by
    unfold bH;rw [ip,ip];refine mq hp fun l0 l1 _ hl1 r hq=>?_
    refine cb r fun r1 r2 r3=>?_;clear r;refine ar (ki hq :) fun u eu hu=>?_
    refine ar (oj eu :) fun w hw' ew=>?_
    have hs:=hc k _ hb l1 hl1;have:∃ w',(if l0.back then b0 else n0)[l0.whom]?=some (some w')/\w'<=w:=by
     rw [r2,r1];cases hbk:l1.back with
     | true=>rw [hbk] at hw'; exact h _ _ hw'
     | false=>rw [hbk] at hw'; exact ih l1.whom w (by omega) hw'
    refine ar this fun w' e' l'=>?_;clear this;rw [qj e'];exact decide_eq_true (by omega)
   rw [hw] at hd';obtain ⟨d1,d2⟩:=hd;cases o' with
   | none =>
    have h1:(tot (bH bb b0 n0):Int)<wants c1[k]:=hd';have:=qg (bH bb b0 n0) v;omega
   | some v' =>
    refine (af v' ho' ?_);refine Classical.byContradiction fun no=>?_
    have:=j8 (bH bb b0 n0) (show v<=v' - 1 by omega);have:=hd'.2;omega
 intro k v e;exact all [TF,v - B+1] k v ([NV,hB v [Xg,e]]) e
theorem rH {c:M6} (hc:jL c) {b0 b1 n0 n1:MU} (h:∀ (k:Nat) u,b1[k]?=[Mo,NZ]->∃ u',b0[k]?=[Mo,some u']) (f0:Fix c b0 n0) (f1:Fix c b1 n1) :
  ∀ (k:Nat) v,n1[k]?=V2->∃ v',n0[k]?=[Mo,some v']:=by
 obtain ⟨B,hB⟩:=low n1;have all:∀ (n:Nat) (k:Nat) v,v<B+n->n1[k]?=V2->∃ v',n0[k]?=[Mo,some v']:=by
  intro n;induction n with
  | zero=>intro k v hv e; have:=hB v (List.mem_of_getElem? e); omega
  | succ n ih =>
   intro k v hv e;have hk:k<c.length:=by rw [<- f1.1]; exact (List.getElem?_eq_some_iff.mp e).1
   have hb:=List.getElem?_eq_getElem hk;refine ar (f1.2 k _ hb :) fun o ho hd=>?_
   rw [e] at ho;cases ho
   refine ar (f0.2 k _ hb :) fun o' ho' hd'=>?_
   cases o' with
   | some v'=>exact ⟨v',ho'⟩
   | none =>
    exfalso;have h1:(tot (bH c[k] b0 n0):Int)<wants c[k]:=hd';have cn:cnt (bH c[k] b1 n1) v<=tot (bH c[k] b0 n0):=by
     unfold bH;rw [ip,Ak];refine List.countP_mono_left fun l hl hq=>?_
     refine ar (ki hq :) fun u eu hu=>?_
     refine ar (oj eu :) fun w hw' ew=>?_
     have hs:=hc k _ hb l hl;have:∃ w',(if l.back then b0 else n0)[l.whom]?=some (some w'):=by
      cases hbk:l.back with
      | true=>rw [hbk] at hw'; exact h _ _ hw'
      | false=>rw [hbk] at hw'; exact ih l.whom w (by omega) hw'
     obtain ⟨w',e'⟩:=this;rw [qj e'];rfl
    have:=hd.1;omega
 intro k v e;exact all [TF,v - B+1] k v ([NV,hB v [Xg,e]]) e
def later (d:Int) (r:MU):MU:=r.map (Option.map (·+d))
theorem m3 {d:Int} {r:MU} {k:Nat}:(later d r)[k]?=[Tr,r[k]?,Option.map (·+d)]:=List.getElem?_map ..
theorem uq (xs:MU) (d v:Int):cnt (later d xs) v=cnt xs (v - d):=by
 unfold later;rw [ip];unfold cnt;refine List.countP_congr fun o _=>?_
 cases o with
 | none=>exact Iff.rfl
 | some u =>
  show [N8,u+d<=v]=true↔[N8,u<=v - d]=true;rw [decide_eq_true_iff,decide_eq_true_iff];omega
theorem BV (xs:MU) (d:Int):tot (later d xs)=tot xs:=by
 unfold later;rw [Ak];unfold tot;refine List.countP_congr fun o _=>?_
 cases o <;> exact Iff.rfl
theorem xr (b:Bell) (d:Int) (b0 n0:MU):bH b (later d b0) (later d n0)=later d (bH b b0 n0):=by
 unfold bH later;rw [Qb];refine [TM,fun l _=>?_]
 show gk (later d b0) (later d n0) l=[Tr,gk b0 n0 l,(·+d)];unfold gk;have j:∀ o:[OM,M7],Option.map (·+l.beats) (Option.map (Option.map (·+d)) o).join=Option.map (·+d) (Option.map (·+l.beats) o.join):=fun o=>by
  cases o with
  | none=>rfl
  | some o =>
   cases o with
   | none=>rfl
   | some u =>
    show [Mo,[YJ,u+d]]=[Mo,[YJ,u]+d];rw [Int.add_right_comm]
 cases l.back
 .simp only [Bool.false_eq_true,if_false,m3];exact j _
 .simp only [if_true,m3];exact j _
theorem C3 {xs:MU} {n d:Int} {o:M7} (h:Due xs n o):Due (later d xs) n (o.map (·+d)):=by
 cases o with
 | none=>show [My,tot (later d xs)]<n; rw [BV]; exact h
 | some v =>
  refine [W4,?_]
  .rw [uq,[MM,v+d - d=v]]; exact h.1
  .rw [uq,[MM,v+d - 1 - d=v - 1]]; exact h.2
theorem nM {c:M6} {b0 n0:MU} (d:Int) (f:Fix c b0 n0):Fix c (later d b0) (later d n0):=by
 refine [Mw,(by unfold later; rw [List.length_map]; exact f.1),fun k b hb=>?_];refine [NC,f.2 k b hb,fun o ho hd=>?_]
 refine [Yt,o.map (·+d),(by rw [m3,ho]; rfl)];rw [xr];exact C3 hd
structure Btw (lo hi:Int) (r r':List (Option Int)):Prop where
 len:r.length=r'.length
 le:∀ (k:Nat) v,r'[k]?=some (some v)->∃ u,r[k]?=some (some u)/\u+lo<=v
 ge:∀ (k:Nat) u,r[k]?=some (some u)->∃ v,r'[k]?=some (some v)/\v<=u+hi
theorem ji {d:Int} {r:MU} {k:Nat} {v:Int}:(later d r)[k]?=V2↔∃ u,r[k]?=[Mo,NZ]/\v=u+d:=by
 rw [m3];cases e:r[k]? with
 | none=>exact [Mw,fun h=>([PL,h]),fun pr=>ar pr fun u h _=>([PL,h])]
 | some o =>
  cases o with
  | none=>exact [Mw,fun h=>([PL,h]),fun pr=>ar pr fun u h _=>([PL,h])]
  | some u=>exact [Mw,fun h=>[Ma,u,[YH,([Mq,h])]],fun pr=>ar pr fun u' h hv=>by
    have:=[Mq,([Mq,h])];subst this hv;rfl]
theorem xW {c:M6} (hc:jL c) {lo hi:Int} {b0 b1 n0 n1:MU} (h:Btw lo hi b0 b1) (f0:Fix c b0 n0) (f1:Fix c b1 n1):Btw lo hi n0 n1 where
 len:=by rw [f0.1,f1.1]
 le:=fun k v e=>by
  obtain ⟨w,hw,hv⟩:=Dr hc (Quick.refl c) (b0:=later lo b0) (n0:=later lo n0) (fun k u hu=>by
   refine [NC,h.le k u hu,fun w hw hl=>?_]
   exact (af (w+lo) (ji.mpr ([Yb,w,hw])) hl)) (nM lo f0) f1 k v e
  refine [NC,ji.mp hw,fun u hu e'=>?_]
  exact (af u hu L6)
 ge:=fun k u e=>by
  obtain ⟨w,hw,hv⟩:=Dr hc (Quick.refl c) (b1:=later hi b0) (n1:=later hi n0) (fun k u hu=>by
   refine [NC,ji.mp hu,fun w hw eq1=>?_];subst eq1;exact h.ge k w hw) f1 (nM hi f0) k (u+hi) (ji.mpr ([Yb,u,e]))
  exact (af w hw hv)
theorem KI {c c':M6} (hc:jL c) (hf:∀ x y,Fix c' x y->Fix c x y) {lo hi:Int} {rows rows':[MG,MU]} (h:Rows c rows) (h':Rows c' rows') (h0:Btw lo hi (c.map fun b=>some b.start) (c'.map fun b=>some b.start)) :
  ∀ (n:Nat) x y,rows[n]?=OV->rows'[n]?=VI->Btw lo hi x y:=by
 intro n;induction n with
 | zero=>intro x y ex ey; rw [h.first x ex,h'.first y ey]; exact h0
 | succ n ih =>
  intro x y ex ey;have hn:n<rows.length:=by have:=(List.getElem?_eq_some_iff.mp ex).1; omega
  have hn':n<rows'.length:=by have:=(List.getElem?_eq_some_iff.mp ey).1; omega
  have e1:=List.getElem?_eq_getElem hn;have e2:=List.getElem?_eq_getElem hn';exact xW hc (ih _ _ e1 e2) (h.next n _ x e1 ex) (hf _ _ (h'.next n _ y e2 ey))
end K82.S
namespace L2
open PySem PySem.Spec PyProof.Rows
theorem uS {X:Cx} {K:M3} {es:OR} {k:Nat} {t:TGs} {n:Nat} {pos:Pos} (hK:X.K=K) (hc:X.calm=true) (h:PGs X es t) (hn:[MP,[Us,es]]=n:=by rfl) (hst:([Us,es]).findIdx? OB=none:=by rfl):PG X (.Tuple es k pos) (Lo K n t):=hK▸fL hc h hn hst
end L2
namespace K82.S
open PySem L2
abbrev starts (c:M6):MU:=c.map fun b=>some b.start
def gF (c:M6) (now:MU) (j:Nat):MB:=[Tr,((c.zip now).take j).filter [OE,z.2.isNone],(·.1.name)]
abbrev cm (c:M6) (now:MU):MB:=gF c now c.length
theorem vH {c:M6} {now:MU} {j:Nat} {b:Bell} {o:M7} (h1:c[j]?=QZ) (h2:now[j]?=MN):(c.zip now)[j]?=some (b,o):=by
 rw [List.getElem?_zip_eq_some];exact [Mw,h1,h2]
theorem mz {c:M6} {now:MU} {j:Nat} {b:Bell} {o:M7} (h1:c[j]?=QZ) (h2:now[j]?=MN):gF c now (j+1)=gF c now j++([Mj,o.isNone=true,[b.name],[]]):=by
 unfold gF;rw [[Tj,vH h1 h2],List.filter_append,Mt];congr 1;cases o <;> rfl
theorem pe (c:M6) (now:MU) (j:Nat):[MP,gF c now j]<=c.length:=by
 unfold gF;rw [Mc];refine [Qi,List.length_filter_le _ _,?_];rw [Nc,List.length_zip];omega
section
variable {P:Program} {w:World} {K:M3} {mg:Str->Ms} {base:Heap} {f:Addr} {fd:FuncData}
def jf:Sp:=[MV,∃ (ch:V) (c:M6),vs=[ch]/\[Rc,H,ch]/\ZE/\∀ (H':Hp) (l:Addr) (now:MU),Pk->H l=none->H' l=[VM,[OI,cm c now]]->Fix c (S8) now->[Xi,l,H']]
theorem zV:[QI,[MC],[MC],ow]:=R1
theorem Af (F:[UG,"waiting","waiting",ow]) (B:Q5) (C_strokes:[R3,7,"strokes",[MC,QU],g6]):FnOk P w K mg base CX0 8 f fd [MC] jf:=by
 refine [T5,zV]
 .refine bU h fun ch c eq2 _=>?_;clear h;subst eq2;rfl
 refine e9 h fun ch c eq3 hch fc q=>?_;clear h;subst eq3;refine [Yt,_,(av (aI (cz [Oj,"beat"] [] [] rfl (Js true false rfl B.zip_ [RL,NB,[RZ,aU,[S4,C_strokes,ae NB TV]]]) [Qt,(uS (n:=2) (K:=K) rfl rfl ([YY,0,([Mg,[[Rk,Oj],[Rk,"beat"]]]),([YY,1,([Mg,[[Rk,Oj],[Rk,"beat"]]]),dG])]))] [Qt,An (aZ j3 RB cK U7)] [Qt,([RZ,Vd,NB])])))];refine [MR,[SO,ch,c,1,hch,fc,L6,(fun H1 t told rows s1 ht ht1 prt hlr hrows=>?_)]];have h0:=[M4,[Yu,0<QT]];have h1:=[M4,[Yu,1<QT]];refine [NC,cF prt h1,fun v1 hv1 pq0=>bp pq0 fun p1 eq4 pp5 hp1=>?_];clear pq0;subst eq4;obtain ⟨np1,npt⟩:=pp5;have fx:=hrows.next 0 _ _ h0 h1;rw [hrows.first _ h0] at fx;generalize rows[1]=now at h1 hp1 fx;refine aX ([SD,s1] :) fun x bs eq6 hx1 prb=>?_;subst eq6;refine ([NN,t,_,_,_,[NO,ht1],bh (j:=1) hv1,([Rg,x,p1,[T7,[O1,hx1]],[T7,[Tn,hp1]],Rl])]);have hbl:=aJ prb;have hnl:=fx.1;have h6:=fc.1;refine D5 (K:=K) (t1:=true) (t2:=false) (a:=x) (b:=p1) (xs:=bs) (ys:=Yr) (fun j zs H2=>Same H1 H2/\zs=[OI,gF c now j]) [Nl,aw hD _] (fun j zs H2 _ ⟨z,_⟩=>[Mw,[S2,z _ _ hx1],[Tn,z _ _ hp1]]) ?_ ?_
 .rintro j y y' zs H2 T hj hj' ⟨s2,rfl⟩ hD2 hT;refine [NC,bg prb hj,fun b hb pp7=>?_];obtain ⟨z,tt,ls,rfl,hz,_⟩:=pp7;refine [NC,Ku hj',fun o eq8 ho=>?_];subst eq8;have s3:=aw hT [Rj,[.ref z,oV o]];have eT:([Rz,H2,T,[.ref z,oV o]]) T=[OD,[.ref z,oV o]]:=aq;refine ([Rg,T,_,([O1,eT]),rfl,([Xp,_,_,ZU])]);have hD3:=s3 _ _ hD2;have s13:=Qh;generalize upd H2 T (.tup [.ref z,oV o])=H3 at s3 eT hD3 s13 ⊢;refine ([QW,([U8,ND])]);cases o with
  | some u =>
   refine cw [Yt,_,[Nl,s13]];rw [mz hb ho];show H3 D=[Mo,HO.lst ([OI,gF c now j++[]])];rw [WQ];exact hD3
  | none =>
   refine cv [QF,z,_,_,_,[ZG,s13 _ _ hz],(aC _ hD3 ?_ [Yt,_,[Nl,s13.upd hD _]])]
   .rw [Mc];have:=pe c now j;exact Sf
   .rw [mz hb ho,Mt];exact aq
 .rintro zs H2 ⟨s2,rfl⟩ hD2;rw [Mc,hnl,hbl,Nat.min_self] at hD2;exact q H2 D now (Rf) (s1.free hD) hD2 fx
end
end K82.S
namespace K82.S
open PySem L2
theorem high (l:MU):∃ B:Int,∀ v,Nw∈l->v<=B:=by
 induction l with
 | nil=>exact ⟨0,fun v h=>by cases h⟩
 | cons o r ih =>
  obtain ⟨B,hB⟩:=ih;cases o with
  | none=>exact ⟨B,fun v h=>by
    rcases List.mem_cons.mp h with z | z
    .cases z
    .exact hB v z⟩
  | some d=>exact ⟨max B d,fun v h=>by
    rcases List.mem_cons.mp h with z | z
    .have:=Option.some.inj z;omega
    .have:=hB v z;omega⟩
theorem y8 (bs:MU) {n:Int} (hn:1<=n):∃ o,Due bs n o:=by
 by_cases ht:[My,tot bs]<n
 .exact [Mw,none,ht]
 obtain ⟨B,hB⟩:=low bs;obtain ⟨T,hT⟩:=high bs;have c0:cnt bs (B - 1)=0:=List.countP_eq_zero.mpr fun o ho z=>by
  cases o with
  | none=>cases z
  | some d =>
   have h1:d<=B - 1:=[MF,z];have:=hB d ho;omega
 have c1:cnt bs T=tot bs:=by
  refine Nat.le_antisymm (qg bs T) ([Vr,fun o ho z=>?_]);cases o with
  | none=>cases z
  | some d=>exact [MA,hT d ho]
 have go:∀ m:Nat,n<=[My,cnt bs (B - 1+m)]->∃ v,Due bs n (Nw):=by
  intro m;induction m with
  | zero=>intro h; rw [show B - 1+((0:Nat):Int)=B - 1 by omega,c0] at h; omega
  | succ m ih =>
   intro h;by_cases h':n<=(cnt bs (B - 1+m):Int)
   .exact ih h'
   .exact (af (B - 1+(m+1:Nat)) h (by rw [show B - 1+((m+1:Nat):Int) - 1=B - 1+m by omega]; omega))
 obtain ⟨v,hv⟩:=go [TF,T - B+1] (by
  have:=j8 bs [Yu,T<=B - 1+[My,[TF,T - B+1]]];omega)
 exact [Mw,Nw,hv]
def yE (c:M6):Prop:=∀ (k:Nat) b,c[k]?=QZ->1<=SF
theorem xh {p:Nat->[Qp,Int]} (hu:∀ k v v',p k v->p k v'->v=v'):∀ m:Nat,(∃ k v,k<m/\p k v)->∃ k v,k<m/\p k v/\∀ k' v',k'<m->p k' v'->v<=v'
 | 0,⟨_,_,h,_⟩=>[O9,h,([Tg,_])]
 | m+1,h=>by
  by_cases h1:∃ k v,k<m/\p k v
  .refine aX (xh hu m h1 :) fun k v hk hp hl=>?_
   by_cases h2:∃ v',p m v'/\v'<v
   .refine ar h2 fun v' hv' hlt=>?_;clear h2;refine (aB m v' L6 hv' (fun k2 v2 hk2 hp2=>?_));rcases Nat.lt_or_ge k2 m with z | z
    .have:=hl k2 v2 z hp2; omega
    .have e:k2=m:=Mr
     subst e;rw [hu k2 v' v2 hv' hp2];exact Ov
   .refine (aB k v L6 hp (fun k2 v2 hk2 hp2=>?_));rcases Nat.lt_or_ge k2 m with z | z
    .exact hl k2 v2 z hp2
    .have e:k2=m:=Mr
     subst e;exact Int.not_lt.mp [OE,h2 (af v2 hp2 z)]
  .refine bU h fun k v hk hp=>?_;clear h;have e:k=m:=by
    rcases Nat.lt_or_ge k m with z | z
    .exact [O9,bP k v z hp,h1]
    .omega
   subst e;refine (aB k v L6 hp (fun k2 v2 hk2 hp2=>?_));rcases Nat.lt_or_ge k2 k with z | z
   .exact [O9,bP k2 v2 z hp2,h1]
   .have e:k2=k:=Mr
    subst e;rw [hu k2 v v2 hp hp2];exact Ov
theorem Cz {now:MU} {k:Nat} {v:Int} (h:now[k]?=OO):([ZW,Nw]).countP (fun o=>o.isNone)+1=now.countP (fun o=>o.isNone):=by
 induction now generalizing k with
 | nil=>cases h
 | cons o r ih =>
  cases k with
  | zero =>
   have e:o=none:=by simpa using h
   subst e;rw [List.set_cons_zero,List.countP_cons,List.countP_cons];rfl
  | succ k =>
   have:=ih (k:=k) (by simpa using h);rw [List.set_cons_succ,List.countP_cons,List.countP_cons];omega
theorem rh {c:M6} (hc:jL c) (hw:yE c) (before:MU):∃ now,[XI,c,now]:=by
 have go:∀ (m:Nat) (now:MU),now.countP (fun o=>o.isNone)=m->Going c before now->∃ now,[XI,c,now]:=by
  intro m;induction m with
  | zero =>
   intro now h0 g;refine ⟨now,nu g fun k b _ hn=>?_⟩;exact absurd rfl (List.countP_eq_zero.mp h0 none (List.mem_of_getElem? hn))
  | succ m ih =>
   intro now hm g;let p:Nat->Int->Prop:=fun k v=>∃ b,c[k]?=some b/\now[k]?=some none/\Due (bH b before now) (wants b) (some v)
   by_cases hp:∃ k v,k<c.length/\p k v
   .obtain ⟨k,v,hk,⟨b,hb,hn,hd⟩,hl⟩:=xh (p:=p) (fun k v v' ⟨b,hb,_,h1⟩ ⟨b',hb',_,h2⟩=>by
     rw [hb] at hb';cases hb'
     exact Option.some.inj (fJ h1 h2)) c.length hp
    refine ih (now.set k (some v)) ?_ (wq hc g hb hn hd fun j b' v' hj hjn hd'=>hl j v' (List.getElem?_eq_some_iff.mp hj).1 (aC b' hj hjn hd'));have:=Cz (v:=v) hn;omega
   .refine ⟨now,nu g fun k b hb hn=>?_⟩;obtain ⟨o,ho⟩:=y8 (bH b before now) (hw k b hb);cases o with
    | none=>exact ho
    | some v=>exact absurd (bP k v (List.getElem?_eq_some_iff.mp hb).1 (aC b hb hn ho)) hp
 exact go _ _ rfl (pL c before)
theorem all_some:∀ {l:MU},(∀ k,k<l.length->∃ v,l[k]?=V2)->∃ r:Nk,l=r.map some
 | [],_=>[Nl,[]]
 | o::l,h=>by
  obtain ⟨v,hv⟩:=h 0 Pz;have e:o=Nw:=[Ml,hv]
  obtain ⟨r,hr⟩:=all_some (l:=l) [ZI,by
   obtain ⟨u,hu⟩:=h (k+1) [Zh,hk];exact [Mw,u,[Ml,hu]]]
  exact [Mw,v::r,by rw [e,hr]; rfl]
theorem Fz {r:Nk} {k:Nat} (h:k<r.length):∃ v,(r.map some)[k]?=V2:=[Mw,r[k],by rw [List.getElem?_map,List.getElem?_eq_getElem h]; rfl]
structure SeqR (c:List Bell) (R:Nat->List Int):Prop where
 first:R 0=c.map (·.start)
 next:∀ n,Fix c ((R n).map some) ((R (n+1)).map some)
theorem SeqR.len {c:M6} {R:Nat->Nk} (h:SeqR c R) (n:Nat):[Vn,[MP,R n]]:=by
 cases n with
 | zero=>rw [h.first,Mc]
 | succ n=>have:=(h.next n).1; rwa [Mc] at this
theorem xM {c:M6} (hc:jL c) {R:Nat->Nk} (h:SeqR c R) {rows:[MG,MU]} (hr:Rows c rows):∀ (n:Nat) row,rows[n]?=some row->row=[Tr,R n,some]:=by
 intro n;induction n with
 | zero =>
  intro row e;rw [hr.first row e,h.first,List.map_map];rfl
 | succ n ih =>
  intro row e;have hn:n<rows.length:=by have:=(List.getElem?_eq_some_iff.mp e).1; omega
  have e0:=List.getElem?_eq_getElem hn;have f:=hr.next n _ row e0 e;rw [ih _ e0] at f;exact lN hc f (h.next n)
def Sh (R:Nat->Nk) (f l:Nat) (d:Int):Prop:=R l=[Tr,R f,(·+d)]
theorem Sh.trans {R:Nat->Nk} {a b e:Nat} {x y:Int} (h:Sh R a b x) (h':Sh R b e y):Sh R a e (x+y):=by
 unfold Sh at h h' ⊢;rw [h',h,Qb];exact [TM,fun v _=>[NF,v+x+y=v+(x+y)]]
theorem Sh.refl (R:Nat->Nk) (a:Nat):Sh R a a 0:=by
 unfold Sh;have e:(fun v:Int=>v+0)=id:=funext fun v=>Int.add_zero v
 rw [e,List.map_id]
theorem ui (r:Nk) (d:Int):later d (r.map some)=[Tr,r.map (·+d),some]:=by
 unfold later;rw [Qb,Qb];rfl
theorem vg {x y:Nk} (h:x.map some=y.map some):x=y:=List.map_inj_right (fun _ _ e=>[Mq,e]) |>.mp h
theorem Sh.on {c:M6} (hc:jL c) {R:Nat->Nk} (s:SeqR c R) {f l:Nat} {d:Int} (h:Sh R f l d):Sh R (f+1) (l+1) d:=by
 have f1:=nM d (s.next f);rw [ui,ui] at f1;have f2:=s.next l;rw [[Nn,R l=[Tr,R f,(·+d)],h]] at f2;exact vg (lN hc f2 f1)
theorem Sh.far {c:M6} (hc:jL c) {R:Nat->Nk} (s:SeqR c R) {f l:Nat} {d:Int} (h:Sh R f l d):∀ t,Sh R (f+t) (l+t) d
 | 0=>h
 | t+1=>(Sh.far hc s h t).on hc s
theorem Sh.times {c:M6} (hc:jL c) {R:Nat->Nk} (s:SeqR c R) {f p:Nat} {d:Int} (h:Sh R f (f+p) d):∀ t:Nat,Sh R f (f+t * p) (t * d)
 | 0=>by
  rw [Nat.zero_mul,show [RK,0] * d=0 by simp];exact Sh.refl R f
 | t+1=>by
  have a:=Sh.times hc s h t;have b:=Sh.far hc s h (t * p);have e:=a.trans b;rw [show f+p+t * p=f+(t+1) * p by rw [Nat.succ_mul]; omega,show [My,t] * d+d=[RK,t+1] * d by rw [Int.natCast_add,Int.add_mul]; simp] at e;exact e
def EM (R:Nat->Nk) (f l:Nat):Prop:=∀ d,¬ Sh R f l d
def qc (R:Nat->Nk) (most:Nat):[Qp,[OM,Nat×Nat×Int]]
 | none=>∀ f l,f<l->l<=most->EM R f l
 | some (f,p,d)=>1<=p/\f+p<=most/\Sh R f (f+p) d/\(∀ f' l,f'<f->f'<l->l<=most->EM R f' l)/\∀ l,f<l->l<f+p->EM R f l
end K82.S
namespace K82.S
open PySem L2
theorem AQ {c c':M6} (hc:jL c) (hf:∀ x y,Fix c' x y->Fix c x y) {lo hi:Int} {R R':Nat->Nk} (h:SeqR c R) (h':SeqR c' R') (h0:Btw lo hi ([Tr,R 0,some]) ([Tr,R' 0,some])):∀ n,Btw lo hi ([Tr,R n,some]) ([Tr,R' n,some])
 | 0=>h0
 | n+1=>xW hc (AQ hc hf h h' h0 n) (h.next n) (hf _ _ (h'.next n))
theorem Sh.first {R:Nat->Nk} {f l:Nat} {d x:Int} (h:Sh R f l d) (hx:(R f)[0]?=OV):(R l)[0]?=[Mo,x+d]:=by
 rw [[Nn,R l=[Tr,R f,(·+d)],h],Mz,hx];rfl
end K82.S
namespace K82.S
open PySem L2
theorem Kp {bs:MU} {n v:Int} (h:Due bs n (Nw)):Nw∈bs:=by
 obtain ⟨h1,h2⟩:=h;refine [O3,?_]
 have:cnt bs v<=cnt bs (v - 1):=[Vr,fun o ho e=>by
  refine [NC,ki e,fun u eq0 hu=>?_];subst eq0;have ne:u≠v:=[OE,no (z▸ho)]
  exact [MA,L6]]
 omega
theorem qW {u v:Int} (h:u<v):∀ {bs:MU},Nw∈bs->cnt bs u+1<=cnt bs v
 | [],hv=>([PL,hv])
 | o::r,hv=>by
  have e:∀ x:Int,cnt (o::r) x=cnt r x+[Mj,leO o x=true,1,0]:=[Z2,List.countP_cons ..]
  rw [e u,e v];rcases List.mem_cons.mp hv with hv | hv
  .have a1:leO o v=true:=by rw [<- hv]; exact [MA,Int.le_refl v]
   have a2:¬ leO o u=true:=by
    rw [<- hv];intro z;have:=[MF,z];omega
   rw [[P9,a1],[Ph,a2]];have:=j8 r [Yu,u<=v];omega
  .have ih:=qW h hv;by_cases a:leO o u=true
   .rw [[P9,a],[P9,yf L6 a]];omega
   .rw [[Ph,a]];omega
theorem xP {c:M6} {before now:MU} (f:[XI,c,now]) {v:Int} (hv:Nw∈now):∃ (b:Bell) (l:Lis) (w:Int),b∈c/\l∈b.lis/\([Mj,l.back,before,now])[l.whom]?=[Mo,some w]/\v=[YJ,w]:=by
 obtain ⟨k,hk⟩:=[OQ,hv];have hkc:[OA,k]:=by
  rw [<- f.1];exact [L8,hk]
 have hb:=[M4,hkc];refine [NC,f.2 k _ hb,fun o ho hd=>?_]
 rw [hk] at ho;cases ho
 refine [UJ,Kp hd,fun l hl e=>?_]
 refine [NC,oj e,fun w h1 h2=>?_]
 exact (dh _ l w ([QN,hkc]) hl h1 h2)
theorem wV {c:M6} {before now:MU} (f:[XI,c,now]) {M:Int} (hM:∀ u,NZ∈before->u<=M) (hb:[Ru,c,[ZV,1<=l.beats/\l.beats<=1000]]):∀ v,Nw∈now->v<=M+1000 * [My,c.length]:=by
 have P:∀ (j:Nat) v,Nw∈now->M+1000 * YB<v->j+1<=cnt now v:=by
  intro j;induction j with
  | zero=>intro v hv _; have:=qW (u:=v - 1) (by omega) hv; omega
  | succ j ih =>
   intro v hv hlt;refine jF (xP f hv :) fun b l w h1 h2 h3 h4=>?_
   have h5:=hb b h1 l h2;cases e:l.back with
   | true =>
    rw [e] at h3;have:=hM w (List.mem_of_getElem? h3);omega
   | false =>
    rw [e] at h3;have i1:=ih w (List.mem_of_getElem? h3) (by omega);have i2:=qW (u:=w) (v:=v) (by omega) hv;omega
 intro v hv;refine [O3,?_]
 have a:=P c.length v hv L6;have b:cnt now v<=Vs:=List.countP_le_length;have d:=f.1;omega
theorem vL {c:M6} {before now:MU} (f:[XI,c,now]) {L:Int} (hL:∀ u,NZ∈before->L<=u) (hb:[Ru,c,[ZV,1<=l.beats/\l.beats<=1000]]):∀ v,Nw∈now->L<=v:=by
 obtain ⟨B,hB⟩:=low now;have P:∀ (n:Nat) v,Nw∈now->v<B+Pp->L<=v:=by
  intro n;induction n with
  | zero=>intro v hv h; have:=hB v hv; omega
  | succ n ih =>
   intro v hv h;refine jF (xP f hv :) fun b l w h1 h2 h3 h4=>?_
   have h5:=hb b h1 l h2;cases e:l.back with
   | true =>
    rw [e] at h3;have:=hL w (List.mem_of_getElem? h3);omega
   | false =>
    rw [e] at h3;have:=ih w (List.mem_of_getElem? h3) (by omega);omega
 intro v hv;exact P [TF,v - B+1] v hv L6
theorem ra {c:M6} {rows:[MG,MU]} (h:Rows c rows) (c6:c.length<=6) (hs:[Ru,c,0<=b.start/\b.start<=1000]) (hb:[Ru,c,[ZV,1<=l.beats/\l.beats<=1000]]):∀ (n:Nat) row,rows[n]?=some row->∀ v,Nw∈row->0<=v/\v<=1000+6000 * Pp
 | 0,row,e,v,hv=>by
  rw [h.first row e] at hv;refine [UJ,hv,fun b hm q=>?_]
  have:=hs b hm;have e2:=[Mq,q];omega
 | n+1,row,e,v,hv=>by
  have hn:n<QT:=by
   have:=[L8,e];omega
  have hr:=[M4,hn];have f:=h.next n _ row hr e;have ih:=ra h c6 hs hb n _ hr;have a:=vL f (L:=0) (fun u hu=>(ih u hu).1) hb v hv;have b:=wV f (M:=1000+6000 * Pp) (fun u hu=>(ih u hu).2) hb v hv;omega
theorem i7 {n:Int} (h:n.natAbs<2 ^ 64):n.natAbs.log2<1920:=by
 by_cases e:n.natAbs=0
 .rw [e];decide
 .exact [NR,(Nat.log2_lt e |>.mpr h),M0]
end K82.S
namespace K82.S
open PySem L2
def d8 (c:M6) (i:Nat):N7:=([Tr,c[i]?,fun b=>[Sd,(·.whom)]]).getD []
theorem qN {c:M6} {i:Nat} {b:Bell} (h:c[i]?=QZ):d8 c i=[Sd,(·.whom)]:=by unfold d8; rw [h]; rfl
inductive Hr (c:List Bell) (b:Nat):Nat->Prop
 | one {k:Nat}:k∈d8 c b->Hr c b k
 | more {j k:Nat}:Hr c b j->k∈d8 c j->Hr c b k
structure FineW (c:List Bell):Prop where
 l6:c.length<=6
 lt:∀ i,∀ k∈d8 c i,k<c.length
theorem Hr.lt {c:M6} (fw:FineW c) {b k:Nat} (h:Hr c b k):[OA,k]:=by
 cases h with
 | one h=>exact fw.lt _ _ h
 | more _ h=>exact fw.lt _ _ h
structure HJ (c:List Bell) (b a j:Nat) (F st:List Nat):Prop where
 nd:F.Nodup
 hr:∀ k∈F,Hr c b k
 sk:∀ k∈st,k=b\/k∈F
 ha:a=b\/a∈F
 cl:∀ x,(x=b\/x∈F)->x∈st\/x=a\/∀ k∈d8 c x,k∈F
 pr:∀ k∈(d8 c a).take j,k∈F
structure HI (c:List Bell) (b:Nat) (F st:List Nat):Prop where
 nd:F.Nodup
 hr:∀ k∈F,Hr c b k
 sk:∀ k∈st,k=b\/k∈F
 cl:∀ x,(x=b\/x∈F)->x∈st\/∀ k∈d8 c x,k∈F
theorem Fy (c:M6) (b:Nat):HI c b [] [b] :=
 ⟨List.nodup_nil,fun k h=>([PL,h]),fun k h=>.inl ([MQ,h]),fun x h=>.inl (by
  rcases h with rfl | h
  .exact [V0,rfl]
  .cases h)⟩
theorem Jq {c:M6} {b a:Nat} {F st:N7} (h:HI c b F (st++[a])):HJ c b a 0 F st :=
 ⟨h.nd,h.hr,[ZI,h.sk k ([PB,hk])],h.sk a ([NH,([V0,rfl])]),[RD,by
  rcases h.cl x hx with z | z
  .rcases List.mem_append.mp z with z | z
   .exact .inl z
   .exact [PY,.inl ([MQ,z])]
  .exact [PY,.inr z]],[ZI,by rw [List.take_zero] at hk; cases hk]⟩
theorem Jl {c:M6} {b a:Nat} {F st:N7} (h:HJ c b a [MP,d8 c a] F st):HI c b F st :=
 ⟨h.nd,h.hr,h.sk,[RD,by
  rcases h.cl x hx with z | rfl | z
  .exact .inl z
  .exact .inr [ZI,h.pr k (by rw [List.take_length]; exact hk)]
  .exact .inr z]⟩
theorem lZ {l:N7} {j k:Nat} (h:l[j]?=some k):l.take (j+1)=l.take j++[k]:=by rw [List.take_add_one,h]; rfl
theorem Ke {c:M6} {b a j k:Nat} {F st:N7} (h:HJ c b a j F st) (hk:(d8 c a)[j]?=some k) (hF:k∈F):HJ c b a (j+1) F st :=
 ⟨h.nd,h.hr,h.sk,h.ha,h.cl,[RD,by
  rw [lZ hk] at hx;rcases List.mem_append.mp hx with z | z
  .exact h.pr x z
  .rw [[MQ,z]]; exact hF]⟩
theorem E6 {c:M6} {b a j k:Nat} {F st:N7} (h:HJ c b a j F st) (hk:(d8 c a)[j]?=some k) (hF:k∉F):HJ c b a (j+1) (F++[k]) (st++[k]):=by
 have hm:k∈d8 c a:=[Mf,hk];refine ⟨?_,ZQ,ZQ,?_,ZQ,ZQ⟩
 .rw [List.nodup_append];refine (bM h.nd ([A0d,[Mw,(nomatch ·),List.nodup_nil]]) (fun x hx y hy e=>?_));rw [[MQ,hy]] at e;exact hF (e▸hx)
 .rcases List.mem_append.mp hx with z | z
  .exact h.hr x z
  .rw [[MQ,z]];rcases h.ha with e | e
   .rw [e] at hm; exact .one hm
   .exact .more (h.hr _ e) hm
 .rcases List.mem_append.mp hx with z | z
  .rcases h.sk x z with e | e
   .exact .inl e
   .exact [PY,[PB,e]]
  .exact [PY,[NH,z]]
 .exact h.ha.imp_right [OE,[PB,z]]
 .by_cases e:x=k
  .exact .inl ([NH,([V0,e])])
  .have hx':x=b\/x∈F:=by
    rcases hx with z | z
    .exact .inl z
    .rcases List.mem_append.mp z with z | z
     .exact .inr z
     .exact [O9,([MQ,z]),e]
   rcases h.cl x hx' with z | z | z
   .exact .inl ([PB,z])
   .exact [PY,.inl z]
   .exact [PY,.inr fun y hy=>[PB,z y hy]]
 .rw [lZ hk] at hx;rcases List.mem_append.mp hx with z | z
  .exact [PB,h.pr x z]
  .exact [NH,z]
theorem Kk {c:M6} {b:Nat} {F:N7} (h:HI c b F []) {k:Nat}:k∈F↔Hr c b k:=by
 refine [Mw,h.hr k,fun r=>?_];induction r with
 | one hk =>
  rcases h.cl b (.inl rfl) with z | z
  .cases z
  .exact z _ hk
 | more _ hk ih =>
  rcases h.cl _ (.inr ih) with z | z
  .cases z
  .exact z _ hk
theorem iT:∀ (n:Nat) (F:N7),F.Nodup->(∀ k∈F,k<n)->F.length<=n:=fun n F nd lt=>by
 have z:=List.Nodup.length_le_of_subset nd (l₂:=[RQ,n]) [ZI,List.mem_range.mpr (lt k hk)]
 rwa [Xw] at z
def HearsIs (c:M6) (b:Nat) (R:N7):Prop:=R.Pairwise (·<·)/\∀ k,k∈R↔Hr c b k
theorem HearsIs.len {c:M6} (fw:FineW c) {b:Nat} {R:N7} (h:HearsIs c b R):R.length<=6 :=
 [Qi,(iT c.length R (h.1.imp Nat.ne_of_lt) [ZI,((h.2 k).mp hk).lt fw]),fw.l6]
def fK (F:N7):Vm:=F.map fun k:Nat=>([TC,PZ],V.bl true)
theorem D4 (F:N7):[MP,fK F]=F.length:=by unfold fK; rw [List.length_map]
theorem Ie (F:N7):[Tr,fK F,OB]=[Tr,F.map fun k:Nat=>PZ,Sum.inl]:=by unfold fK; rw [List.map_map,List.map_map]; rfl
theorem IW {F:N7} {k:Nat} (h:k∈F):(dF (fK F) ([TC,PZ])).isSome=true:=by
 unfold dF fK;rw [Option.isSome_map,List.find?_isSome];exact (af _ ([Qg,[Yb,k,h]]) Pz)
theorem JY {F:N7} {k:Nat} (h:k∉F):dF (fK F) ([TC,PZ])=none:=by
 unfold dF fK;rw [Option.map_eq_none_iff,List.find?_eq_none];intro x hx z;refine [UJ,hx,fun y hy eq1=>?_];subst eq1;have z':([TC,[My,y]]:Key)=[TC,PZ]:=[MF,z];have e:[My,y]=PZ:=Sum.inl.inj z';exact h ([Yu,y=k]▸hy)
theorem J1 {F:N7} {k:Nat} (h:k∉F):putK (fK F) ([TC,PZ]) (V.bl true)=fK (F++[k]):=by
 unfold putK;rw [if_neg]
 .unfold fK; rw [Mt]; rfl
 .intro z;refine [NC,List.any_eq_true.mp z,fun x hx e=>?_]
  unfold fK at hx;refine [UJ,hx,fun y hy eq2=>?_];subst eq2;have e':([TC,[My,y]]:Key)=[TC,PZ]:=[MF,e];have e2:[My,y]=PZ:=Sum.inl.inj e';exact h ([Yu,y=k]▸hy)
def hmu (D S:Addr) (H:Hp):Nat:=match H D,H S with
 | some (.dK kvs),some (.lst xs)=>2 * (6 - kvs.length)+xs.length
 | _,_=>0
theorem DJ {D S:Addr} {H:Hp} {F st:N7} (h1:H D=[Mo,.dK (fK F)]) (h2:H S=[VM,nV st]):hmu D S H=2 * (6 - F.length)+Z8:=by
 unfold hmu; rw [h1,h2]; dsimp only; rw [D4]; unfold nV; rw [Mc]
theorem KL {st:N7} {i k:Nat} (h:st[i]?=some k):(nV st)[i]?=[Mo,[W2,PZ]]:=by unfold nV; rw [List.getElem?_map,h]; rfl
theorem gu (st:N7):[MP,nV st]=Z8:=by unfold nV; rw [List.length_map]
theorem Dm (a:N7) (k:Nat):nV a++[[W2,PZ]]=nV (a++[k]):=by unfold nV; rw [List.map_append]; rfl
theorem HP (a:N7) (k:Nat):(nV (a++[k])).dropLast=nV a:=by rw [<- Dm,List.dropLast_concat]
section
variable {P:Program} {w:World} {K:M3} {mg:Str->Ms} {base:Heap} {f:Addr} {fd:FuncData}
def qH:Sp:=[MV,∃ (ch:V) (c:M6) (b:Nat),vs=[ch,[MH,b]]/\[Rc,H,ch]/\FineW c/\[OA,b]/\∀ (H':Hp) (l:Addr) (R:N7),Pk->H l=none->H' l=[VM,nV R]->HearsIs c b R->[Xi,l,H']]
theorem jT:[QI,[MC,Oj,"found","still_to_ask","asked",PM],[MC,Oj],vO]:=R1
theorem Ek (Fu:[UG,"hears","hears",vO]) (B:Q5):FnOk P w K mg base CX0 1 f fd [MC,Oj] qH:=by
 refine Fu.ok jT Si SM
 .refine dZ h fun ch c b eq3 _=>?_;clear h;subst eq3;rfl
 refine fe h fun ch c b eq4 hch fw hb q=>?_;clear h;subst eq4;have hu:=wb hr;refine [Xr,[YG,2,jT.nd,w5,[YG,3,jT.nd,(cM [Ou,P0]),ak (i4 Ny (aZ qK ([Vy,bz,rfl,[Ou,T3]]) au U7) ([YG,4,jT.nd,IH Ow PySem.F.slot_list_pop PySem.F.type_list_pop Kh VY,av (cT Ny rfl (dj ([Tq,([RV,bo,NB,WN])])) [Uy,5,jT.nd] (av [Z5,rj (kN hu ([Tq,Yc]) TR),(ak (vm hu TR ([Tq,Yc]) gg rfl) (av (cH (dr Ow P4 P2 dq VY [Ou,[Tq,Yc]]))))]))])) (av (aI (aL (uO rfl) rfl B.sorted_ A02 [Ou,Qn])))]]]
 refine aX (id hch :) fun a vs eq5 ha prc=>?_;subst eq5;intro D hD;refine ([U3,([Qq,1]),(fun S hS=>?_)]);have s1:=aw hD (.dK []);have hSD:S≠D:=[OE,by rw [z,aq] at hS; cases hS]
 have hS0:H S=none:=s1.free hS;have s2:[Pc,([Py,upd H D (.dK []),S,[[MH,b]]])]:=s1.upd hS0 _;refine kh (fun σ H4=>∃ (o4 o5:RT) (F st:N7),σ=[Vc,[S3,b],[Mv,D],[Mv,S],o4,o5]/\[Pc,H4]/\H4 D=[Mo,.dK (fK F)]/\H4 S=[VM,nV st]/\HI c b F st/\2 * (6 - F.length)+Z8<=13) (fun _ H4=>hmu D S H4) ([NA,none,none,[],[b],s2,(by rw [aK (Ne.symm hSD),aq]; rfl),aq,(aH (Fy c b) ([Mx,2 * (6 - 0)+1<=13]))]) ?_ ?_
 .intro σ H4 pr;refine cZ pr fun o4 o5 F st eq6 s4 hD4 hS4 pq0=>bZ pq0 fun hi mb=>?_;clear pq0 pr;subst eq6;refine [Mu,[Od,S,_,[T6,[NO,hS4]],XF]];rw [gu];refine dC [UK,?_] [UK,?_]
  .have hpos:0<Z8:=by have z':(Zl<[My,Z8]):=[MF,z]; omega
   obtain ⟨st',x,rfl⟩:∃ st' x,st=st'++[x]:=(pQ st.dropLast (st.getLast (List.ne_nil_of_length_pos hpos)) (List.dropLast_concat_getLast _).symm);have hj:=Jq hi;have hx:[OA,x]:=by
    rcases hj.ha with e | e
    .rw [e]; exact hb
    .exact (hj.hr x e).lt fw
   refine ([U3,[T6,([QW,(e8 _ [NO,hS4])])],([SO,S,_,([MH,x]),rfl,hS4,(KL (by rw [gu,List.length_append,List.length_singleton,Nat.add_sub_cancel,List.getElem?_append_right (Nat.le_refl _),Nat.sub_self]; rfl)),?_])]);rw [HP];have s5:=s4.upd hS0 [Pl,nV st'];have hD5:([Py,H4,S,nV st']) D=[Mo,.dK (fK F)]:=by rw [aK (Ne.symm hSD)]; exact hD4
   have hS5:([Py,H4,S,nV st']) S=[VM,nV st']:=aq;have hm0:=DJ hD4 hS4;generalize upd H4 S (.lst (nV st'))=H5 at s5 hD5 hS5 ⊢;obtain ⟨bl,hbl⟩:∃ bl,c[x]?=some bl:=[Mw,c[x],[M4,hx]];refine [NC,cF prc hbl,fun bv hbv pq0=>jF pq0 fun p t ls eq7 hp ht prl=>?_];clear pq0;subst eq7;have hw:=qN hbl;refine [VO,a,_,_,_,[ZG,s5 _ _ ha],bh hbv,([NN,p,_,_,_,[ZG,s5 _ _ hp],rfl,([UN,t,[S2,s5 _ _ ht],?_])])];refine ni (K:=K) (a:=t) (xs:=ls) (fun j σ H6=>∃ (o5:RT) (F st:N7),σ=[Vc,[S3,b],[Mv,D],[Mv,S],[S3,x],o5]/\[Pc,H6]/\H6 D=[Mo,.dK (fK F)]/\H6 S=[VM,nV st]/\HJ c b x j F st/\2 * (6 - F.length)+Z8<hmu D S H4) ([SO,_,F,st',s5,hD5,hS5,(aH hj (by rw [hm0,List.length_append,List.length_singleton]; omega))]) (fun j σ H6 _ pr=>fP pr fun _ _ _ _ z _=>[S2,z _ _ ht]) ?_ ?_
   .intro j y σ H6 hy pr;refine fe pr fun o5 F st eq8 s6 hD6 hS6 pq0=>bZ pq0 fun hj6 mu6=>?_;clear pq0 pr;subst eq8;refine [NC,bg prl hy,fun l hl pq0=>[W5,fun z eq9 hz=>?_]];clear pq0;subst eq9;have hk:(d8 c x)[j]?=some l.whom:=by rw [hw,List.getElem?_map,hl]; rfl
    have hzz:=SqT.of (K:=K) (s6 _ _ hz);refine [QF,z,_,_,_,hzz,[Mu,[Od,D,_,(DGet.k (k:=[TC,[My,l.whom]]) hD6),ND]]];by_cases hF:l.whom∈F
    .rw [IW hF];refine T8;exact ([SO,_,F,st,s6,hD6,hS6,aH (Ke hj6 hk hF) mu6])
    .rw [JY hF];refine WJ;have hlF:F.length+1<=6:=by
      have z:=E6 hj6 hk hF;have:=iT c.length _ z.nd [ZI,(z.hr k hk).lt fw]
      rw [Na,List.length_singleton] at this;have:=fw.l6;omega
     refine [VO,z,_,_,_,hzz,rfl,([Od,D,_,(DPut.k (k:=[TC,[My,l.whom]]) hD6 (by rw [D4]; exact Sf)),?_])];rw [J1 hF];have s7:=s6.upd hD (.dK (fK (F++[l.whom])));have hD7:=aq (H:=H6) (a:=D) (o:=.dK (fK (F++[l.whom])));have hS7:(upd H6 D (.dK (fK (F++[l.whom])))) S=[VM,nV st]:=by rw [aK hSD]; exact hS6
     have hst6:Z8<1000:=by
      rw [hm0] at mu6;omega
     refine ([U3,[T6,([QW,(e8 _ [NO,hS7])])],[QF,z,_,_,_,[ZG,s7 _ _ hz],([SO,S,_,_,rfl,hS7,(by rw [gu]; exact aM (Nat.le_of_lt hst6)),?_])]]);rw [Dm];refine ([SO,_,F++[l.whom],st++[l.whom],s7.upd hS0 _,(by rw [aK (Ne.symm hSD)]; exact hD7),aq,aH (E6 hj6 hk hF) ?_]);rw [Na,Na,List.length_singleton];omega
   .intro σ H6 pr;refine fe pr fun o5 F st eq0 s6 hD6 hS6 pq0=>bZ pq0 fun hj6 mu6=>?_;clear pq0 pr;subst eq0;have e:ls.length=[MP,d8 c x]:=by rw [hw,List.length_map]; exact aJ prl
    rw [e] at hj6;refine [W4,([NA,_,_,F,st,s6,hD6,hS6,(aH (Jl hj6) (by rw [hm0] at mu6; omega))])];rw [DJ hD6 hS6];exact mu6
  .have h0:st=[]:=by
    have z':¬ (Zl<[My,Z8]):=fun h=>z ([MA,h])
    exact [Tf,L6]
   subst h0;have hl6:F.length<=6:=[Qi,(iT c.length F hi.nd [ZI,(hi.hr k hk).lt fw]),fw.l6];refine [Mu,[SO,D,_,(F.map fun k:Nat=>PZ),hD4,Ie F,Vp,(fun l ns' hl p1 p2=>?_)]];obtain ⟨R,rfl⟩:∃ R:N7,ns'=R.map fun k:Nat=>PZ:=by
    refine [W4,ns'.map Int.toNat];rw [Qb];refine (List.map_id ns').symm.trans ([TM,fun n hn=>?_]);refine [UJ,p1.mem_iff.mp hn,fun k _ eq1=>?_];subst eq1;simp
   have hmem:∀ k,k∈R↔k∈F:=fun k=>by
    have z:=p1.mem_iff (a:=PZ);constructor
    .intro h;refine [UJ,(z.mp ([Qg,[Yb,k,h]])),fun y hy e=>?_]
     have:y=k:=Mr
     exact this▸hy
    .intro h;refine [UJ,(z.mpr ([Qg,[Yb,k,h]])),fun y hy e=>?_]
     have:y=k:=Mr
     exact this▸hy
   have hnd:(R.map fun k:Nat=>PZ).Nodup:=p1.nodup_iff.mpr (List.pairwise_map.mpr (hi.nd.imp fun h e=>h L6));refine q _ l R (s4.trans (aw hl _)) (s4.free hl) ?_ [Mw,?_,fun k=>[Q9,hmem k,Kk hi]]
   .rw [aq,FE]
   .exact ((List.pairwise_map.mp p2).and (List.pairwise_map.mp hnd)).imp fun ⟨h1,h2⟩=>Mr
 .intro σ H4 Q1 Q2 hq pr;refine ar pr fun z1 e1 pq0=>aX pq0 fun S1 xs1 e2 e3 pq1=>aX pq1 fun x1 y1 e4 e5 pq2=>ar pq2 fun z2 e6 h=>?_;clear pq0 pq1 pq2 pr;exact (af z1 e1 (aB S1 xs1 e2 e3 (aB x1 y1 e4 e5 (af z2 e6 (hq _ _ h)))))
end
end K82.S
namespace K82.S
open PySem L2
def bO (c:M6) (b p:Nat):[OM,Lis]:=(c[b]?).bind [Z2,x.lis[p]?]
theorem gY {c:M6} {b p:Nat} {x:Bell} {l:Lis} (h:c[b]?=OV) (h':x.lis[p]?=Qv):bO c b p=Qv:=by unfold bO; rw [h]; exact h'
theorem eC {c:M6} {b p:Nat} {l:Lis} (h:bO c b p=Qv):∃ x,c[b]?=OV/\x.lis[p]?=Qv:=by
 unfold bO at h;cases e:c[b]? with
 | none=>rw [e] at h; cases h
 | some x=>rw [e] at h; exact [Ma,x,h]
theorem dz {c:M6} {b p:Nat} {l:Lis} (h:bO c b p=Qv):l.whom∈d8 c b:=by
 refine [NC,eC h,fun x hx hl=>?_]
 rw [qN hx];exact [Qg,[Yb,l,[Xg,hl]]]
def upf {α:Type} (f:Nat->α) (b:Nat) (v:α):Nat->α:=[Z2,[Mj,x=b,v,f x]]
theorem cV {α:Type} (f:Nat->α) (b:Nat) (v:α):upf f b v b=v:=U2
theorem eh {α:Type} (f:Nat->α) {b x:Nat} (v:α) (h:x≠b):upf f b v x=f x:=[Ph,h]
def iE (c:M6) (B:N7):Prop:=[Ru,B,∀ k∈d8 c b,k∈B]
structure BF (c:List Bell) (B:List Nat) (g:Nat->Nat->Int) (t:Nat) (done:Nat->Nat->Prop) (h:Nat->Int) (pl:Nat->Option Nat) (lf:Option Nat) (R T:Nat->Nat) (m:Nat):Prop where
 r1:∀ x,R x<=t
 r2:∀ x,1<=R x->pl x≠none
 p1:∀ b p,pl b=some p->b∈B/\∃ l,bO c b p=some l/\R b<=R l.whom+1/\(h b<h l.whom+g b p\/(h b=h l.whom+g b p/\T l.whom<T b))
 t1:∀ x,T x<=m
 m1:∀ b∈B,∀ p l,bO c b p=some l->done b p->R l.whom<t->h l.whom+g b p<=h b
 m2:∀ b∈B,∀ p l,bO c b p=some l->R l.whom+1<t->h l.whom+g b p<=h b
 l0:lf=none->∀ x,R x<t
 l1:∀ x,lf=some x->R x=t/\x∈B
 hb:∀ x,0<=h x/\h x<=(m:Int) * 100000
theorem E7 (c:M6) (B:N7) (g:Nat->Nat->Int):BF c B g 1 (Vf) [Qe,0] [Qe,none] none [Qe,0] [Qe,0] 0 :=
 ⟨fun _=>OX,fun _ h=>[O9,h,M0],fun _ _ h=>([PL,h]),fun _=>Mm,fun _ _ _ _ _ h=>h.elim,fun _ _ _ _ _ h=>[O9,h,M0],fun _ _=>Tt,fun _ h=>([PL,h]),fun _=>[Mw,Ov,Tt]⟩
section
variable {c:M6} {B:N7} {g:Nat->Nat->Int} {t m:Nat} {done:Nat->[Qp,Nat]} {h:Nat->Int} {pl:Nat->R8} {lf:R8} {R T:Nat->Nat}
theorem Lu (f:BF c B g t done h pl lf R T m) {b p:Nat} {l:Lis} (hl:bO c b p=Qv) (le:h l.whom+g b p<=h b):BF c B g t (fun x q=>done x q\/(x=b/\q=p)) h pl lf R T m :=
 ⟨f.r1,f.r2,f.p1,f.t1,fun x hx q k hk hd hr=>by
  rcases hd with hd | ⟨rfl,rfl⟩
  .exact f.m1 x hx q k hk hd hr
  .obtain rfl:l=k:=[Mq,hl.symm.trans hk];exact le,f.m2,f.l0,f.l1,f.hb⟩
theorem Hc (f:BF c B g t done h pl lf R T m) {b p:Nat} {l:Lis} (hb:b∈B) (hl:bO c b p=Qv) (gt:h b<h l.whom+g b p) (gG:g b p<=100000) :
  BF c B g t (fun x q=>done x q\/(x=b/\q=p)) (upf h b (h l.whom+g b p)) (upf pl b (some p)) (QZ) (upf R b t) (upf T b (m+1)) (m+1):=by
 have hR:t<=R l.whom+1:=by
  rcases Nat.lt_or_ge (R l.whom+1) t with z | z
  .exact [O9,f.m2 b hb p l hl z,L6]
  .exact z
 have up:∀ x,h x<=upf h b (h l.whom+g b p) x:=[Z2,by
  by_cases e:x=b
  .rw [e,cV]; omega
  .rw [eh _ _ e]; exact Ov]
 have low:∀ w:Nat,upf R b t w<t->w≠b/\R w<t:=fun w z=>by
  have ne:w≠b:=[UT,by rw [e,cV] at z; exact Nat.lt_irrefl _ z]
  rw [eh _ _ ne] at z;exact [Mw,ne,z]
 refine ⟨[Z2,?_],ZQ,fun x q hq=>?_,[Z2,?_],fun x hx q k hk hd hr=>?_,fun x hx q k hk hr=>?_,[UK,[PL,z]],ZQ,[Z2,?_]⟩
 .by_cases e:x=b
  .rw [e,cV]; exact Mm
  .rw [eh _ _ e]; exact f.r1 x
 .by_cases e:x=b
  .rw [e,cV]; intro z; cases z
  .rw [eh _ _ e] at hx ⊢; exact f.r2 x hx
 .by_cases e:x=b
  .subst e;rw [cV] at hq;cases hq
   refine (aH hb (aC l hl ?_ ?_))
   .rw [cV];by_cases e2:l.whom=x
    .rw [e2,cV]; omega
    .rw [eh _ _ e2]; exact hR
   .rw [cV,cV];by_cases e2:l.whom=x
    .left;rw [e2,cV];rw [e2] at gt;omega
    .right;rw [eh _ _ e2,eh _ _ e2];exact [P7,Nat.lt_succ_of_le (f.t1 _)]
  .rw [eh _ _ e] at hq;refine bZ (f.p1 x q hq :) fun xB pq0=>bp pq0 fun k hk r hv=>?_;clear pq0;refine (aH xB (aC k hk ?_ ?_))
   .rw [eh _ _ e];by_cases e2:k.whom=b
    .rw [e2,cV];have:=f.r1 x;omega
    .rw [eh _ _ e2]; exact r
   .rw [eh _ _ e,eh _ _ e];by_cases e2:k.whom=b
    .left;rw [e2,cV];rw [e2] at hv;rcases hv with hv | hv <;> omega
    .rw [eh _ _ e2,eh _ _ e2]; exact hv
 .by_cases e:x=b
  .rw [e,cV]; exact Mm
  .rw [eh _ _ e]; exact Nat.le_succ_of_le (f.t1 x)
 .obtain ⟨ne,hr'⟩:=low _ hr;rw [eh _ _ ne];rcases hd with hd | ⟨rfl,rfl⟩
  .exact [Zj,f.m1 x hx q k hk hd hr',up x]
  .obtain rfl:l=k:=[Mq,hl.symm.trans hk];rw [cV]; exact Ov
 .obtain ⟨ne,_⟩:=low k.whom L6;rw [eh _ _ ne] at hr ⊢;exact [Zj,f.m2 x hx q k hk hr,up x]
 .cases hx
  exact [Mw,cV _ _ _,hb]
 .have hx:=f.hb x;have hw:=f.hb l.whom;have hbb:=f.hb b;have ec:[RK,m+1] * 100000=[My,m] * 100000+100000:=Mr
  rw [ec];by_cases e:x=b
  .rw [e,cV]; omega
  .rw [eh _ _ e]; omega
def jO (c:M6) (B:N7) (g:Nat->Nat->Int) (h:Nat->Int):Prop:=[Ru,B,∀ p l,bO c b p=Qv->h l.whom+g b p<=h b]
theorem Eg (f:BF c B g t done h pl none R T m) (all:[Ru,B,∀ p l,bO c b p=Qv->done b p]):jO c B g h:=fun b hb p l hl=>f.m1 b hb p l hl (all b hb p l hl) (f.l0 rfl _)
theorem Gv (f:BF c B g t done h pl lf R T m) (all:[Ru,B,∀ p l,bO c b p=Qv->done b p]):BF c B g (t+1) (Vf) h pl none R T m :=
 ⟨[Z2,Nat.le_succ_of_le (f.r1 x)],f.r2,f.p1,f.t1,fun _ _ _ _ _ z=>z.elim,fun b hb p l hl hr=>f.m1 b hb p l hl (all b hb p l hl) L6,fun _ x=>Nat.lt_succ_of_le (f.r1 x),fun _ z=>([PL,z]),f.hb⟩
end
def nx (c:M6) (pl:Nat->R8) (x:Nat):Nat:=([Tr,(pl x).bind fun p=>bO c x p,(·.whom)]).getD x
theorem wm {c:M6} {pl:Nat->R8} {x p:Nat} {l:Lis} (h:pl x=some p) (h':bO c x p=Qv):nx c pl x=l.whom:=by
 unfold nx; rw [h]; show ([Tr,bO c x p,(·.whom)]).getD x=_; rw [h']; rfl
def nxi (c:M6) (pl:Nat->R8) (x:Nat):Nat->Nat
 | 0=>x
 | i+1=>nx c pl ([Xh,c,x,i])
theorem jC (c:M6) (pl:Nat->R8) (x i:Nat):∀ j,[Xh,c,x,i+j]=[Xh,c,([Xh,c,x,i]),j]
 | 0=>rfl
 | j+1=>by show nx c pl ([Xh,c,x,i+j])=nx c pl _; rw [jC c pl x i j]
structure Round0 (c:List Bell) (B:List Nat) (pl:Nat->Option Nat) (y:Nat):Prop where
 mem:∀ i,nxi c pl y i∈B
 set:∀ i,∃ p l,pl (nxi c pl y i)=some p/\bO c (nxi c pl y i) p=some l
 back:∃ d,1<=d/\d<=B.length/\nxi c pl y d=y
theorem Kj:∀ (n:Nat) (f:Nat->Nat) (B:N7),B.length=n->(∀ i,i<=n->f i∈B)->∃ i j,i<j/\j<=n/\f i=f j:=fun n f B hl hf=>by
 refine [O3,?_]
 have nd:([Tr,[RQ,n+1],f]).Nodup:=by
  rw [List.nodup_iff_pairwise_ne,List.pairwise_map];refine List.pairwise_lt_range.imp_of_mem fun ha hb lt e=>no (aB _ _ lt ?_ e)
  have:=[Xs,hb];omega
 have z:=List.Nodup.length_le_of_subset nd (l₂:=B) [RD,by
  refine [UJ,hx,fun i hi eq2=>?_];subst eq2;exact hf i ([NV,[Xs,hi]])]
 rw [Mc,Xw] at z;omega
section
variable {c:M6} {B:N7} {g:Nat->Nat->Int} {t m:Nat} {done:Nat->[Qp,Nat]} {h:Nat->Int} {pl:Nat->R8} {lf:R8} {R T:Nat->Nat}
theorem kf (cl:iE c B) (f:BF c B g t done h pl lf R T m) {x:Nat} (hx:x∈B) (hR:R x=t):∀ i,i<=t->[Xh,c,x,i]∈B/\t<=R ([Xh,c,x,i])+i
 | 0,_=>[Mw,hx,[NF,t<=R x+0]]
 | i+1,hi=>by
  obtain ⟨a,b⟩:=kf cl f hx hR i L6;have s:=f.r2 ([Xh,c,x,i]) L6;cases e:pl (nxi c pl x i) with
  | none=>exact [O9,e,s]
  | some p =>
   refine bZ (f.p1 _ p e :) fun _ pq0=>bp pq0 fun l hl r _=>?_;clear pq0;show nx c pl ([Xh,c,x,i])∈B/\_;have en:[Xh,c,x,i+1]=l.whom:=wm e hl;rw [en,wm e hl];exact [Mw,cl _ a _ (dz hl),Mr]
theorem D0 (cl:iE c B) (f:BF c B g t done h pl lf R T m) {x:Nat} (hx:x∈B) (hR:R x=t) {i:Nat} (hi:i<t):∃ p l,pl ([Xh,c,x,i])=some p/\bO c ([Xh,c,x,i]) p=Qv:=by
 obtain ⟨a,b⟩:=kf cl f hx hR i L6;have s:=f.r2 ([Xh,c,x,i]) L6;cases e:pl (nxi c pl x i) with
 | none=>exact [O9,e,s]
 | some p =>
  refine bZ (f.p1 _ p e :) fun _ pq0=>[W5,fun l hl _=>?_];clear pq0;exact ([Xp,p,l,hl])
theorem EA (cl:iE c B) (f:BF c B g t done h pl lf R T m) (ht:t=B.length) {x:Nat} (hx:x∈B) (hR:R x=t):Round0 c B pl ([Xh,c,x,t]):=by
 refine aX (Kj t (nxi c pl x) B ht.symm fun i hi=>(kf cl f hx hR i hi).1 :) fun i j ij jt e=>?_
 have per:∀ k,∃ q,i<=q/\q<j/\[Xh,c,x,i+k]=[Xh,c,x,q]:=by
  intro k;induction k with
  | zero=>exact (aC i (Nat.le_refl _) ij rfl)
  | succ k ih =>
   refine bp ih fun q q1 q2 eq=>?_;clear ih;have e2:nxi c pl x (i+(k+1))=nxi c pl x (q+1):=by show nx c pl (nxi c pl x (i+k))=nx c pl (nxi c pl x q); rw [eq]
   by_cases z:q+1=j
   .exact (aC i (Nat.le_refl _) ij (by rw [e2,z,<- e]))
   .exact (aC (q+1) (by omega) (by omega) e2)
 have at':∀ k,∃ q,i<=q/\q<j/\[Xh,c,([Xh,c,x,t]),k]=[Xh,c,x,q]:=fun k=>by
  refine bp (per (t+k - i) :) fun q q1 q2 eq=>?_
  refine (aC q q1 q2 ?_);rw [<- jC,<- eq,[MM,i+(t+k - i)=t+k]]
 refine ⟨fun k=>?_,fun k=>?_,j - i,Mr,Mr,?_⟩
 .refine bp (at' k :) fun q _ q2 eq=>?_
  rw [eq]; exact (kf cl f hx hR q L6).1
 .refine bp (at' k :) fun q _ q2 eq=>?_
  rw [eq]; exact D0 cl f hx hR L6
 .rw [<- jC];have shift:∀ k,[Xh,c,x,j+k]=[Xh,c,x,i+k]:=fun k=>by rw [jC,<- e,<- jC]
  have:=shift (t - i);rw [[MM,t+(j - i)=j+(t - i)],this,[MM,i+(t - i)=t]]
theorem He (f:BF c B g t done h pl lf R T m):∃ (N:Int) (ph:Nat->Int),0<N/\∀ b p l,pl b=some p->bO c b p=Qv->ph b<ph l.whom+N * g b p:=by
 refine (bP ([My,m]+1) ([Z2,([My,m]+1) * h x - [My,T x]]) L6 (fun b p l hp hl=>?_));refine bZ (f.p1 b p hp :) fun _ pq0=>bp pq0 fun l' hl' _ hv=>?_;clear pq0;obtain rfl:l'=l:=[Mq,hl'.symm.trans hl];have t1:=f.t1 l'.whom;show ([My,m]+1) * h b - [My,T b]<([My,m]+1) * h l'.whom - [My,T l'.whom]+([My,m]+1) * g b p;have e:([My,m]+1) * (h l'.whom+g b p)=([My,m]+1) * h l'.whom+([My,m]+1) * g b p:=Int.mul_add _ _ _;rcases hv with hv | ⟨hv,tv⟩
 .have z:([My,m]+1) * (h b+1)<=([My,m]+1) * (h l'.whom+g b p):=[SA,L6,L6];rw [Int.mul_add,Int.mul_one] at z;omega
 .rw [<- hv] at e;omega
end
def ck (g:Nat->Nat->Int):QE->Int
 | []=>0
 | s::r=>g s.1 s.2+ck g r
def iW (c:M6):QE->[Qp,Nat]
 | [],_=>True
 | [s],goal=>∃ l,bO c s.1 s.2=Qv/\l.whom=goal
 | s::u::r,goal=>(∃ l,bO c s.1 s.2=Qv/\l.whom=u.1)/\iW c (u::r) goal
theorem lK {c:M6}:∀ {r:QE} {u:Nat×Nat} {goal:Nat},iW c r u.1->(∃ l,bO c u.1 u.2=Qv/\l.whom=goal)->iW c (r++[u]) goal
 | [],_,_,_,h=>h
 | [s],u,_,h,h'=>[Mw,h,h']
 | s::v::r,u,_,h,h'=>[Mw,h.1,lK (r:=v::r) h.2 h']
theorem sG {c:M6} {g:Nat->Nat->Int} {N:Int} {ph:Nat->Int}:∀ {r:QE} {goal:Nat} {s:Nat×Nat},iW c (s::r) goal->(∀ u∈s::r,∀ l,bO c u.1 u.2=Qv->ph u.1<ph l.whom+N * g u.1 u.2)->ph s.1<ph goal+N * ck g (s::r)
 | [],goal,s,h,H=>by
  refine ar h fun l h1 h2=>?_;clear h;have:=H s ME l h1;rw [h2] at this;show _<_+N * (g s.1 s.2+0);rw [Int.add_zero]; exact this
 | u::r,goal,s,h,H=>by
  obtain ⟨⟨l,h1,h2⟩,h'⟩:=h;have a:=H s ME l h1;rw [h2] at a;have b:=sG h' fun v hv=>H v ([MX,hv])
  show _<_+N * (g s.1 s.2+ck g (u::r));rw [Int.mul_add];omega
theorem sf {c:M6} {g:Nat->Nat->Int} {h:Nat->Int}:∀ {r:QE} {goal:Nat} {s:Nat×Nat},iW c (s::r) goal->(∀ u∈s::r,∀ l,bO c u.1 u.2=Qv->h l.whom+g u.1 u.2<=h u.1)->h goal+ck g (s::r)<=h s.1
 | [],goal,s,h0,H=>by
  refine ar h0 fun l h1 h2=>?_;clear h0;have:=H s ME l h1;rw [h2] at this;show h goal+(g s.1 s.2+0)<=_;rw [Int.add_zero]; exact this
 | u::r,goal,s,h0,H=>by
  obtain ⟨⟨l,h1,h2⟩,h'⟩:=h0;have a:=H s ME l h1;rw [h2] at a;have b:=sf h' fun v hv=>H v ([MX,hv])
  show h goal+(g s.1 s.2+ck g (u::r))<=_;omega
structure RingIs (c:List Bell) (B:List Nat) (r:List (Nat×Nat)):Prop where
 ne:r≠[]
 nd:(r.map (·.1)).Nodup
 mem:∀ s∈r,s.1∈B
 lis:∀ s∈r,∃ l,bO c s.1 s.2=some l
 lead:∀ s,r[0]?=some s->iW c r s.1
def dU (c:M6) (pl:Nat->R8) (y:Nat) (m:Nat):QE:=[Tr,[RQ,m],fun i=>([Xh,c,y,i],(pl ([Xh,c,y,i])).getD 0)]
theorem m9 (c:M6) (pl:Nat->R8) (y m:Nat):dU c pl y (m+1)=dU c pl y m++[([Xh,c,y,m],(pl ([Xh,c,y,m])).getD 0)]:=by
 unfold dU; rw [List.range_succ,Mt]; rfl
theorem j5 (c:M6) (pl:Nat->R8) (y m:Nat):[MP,dU c pl y m]=m:=by unfold dU; rw [List.length_map,List.length_range]
section
variable {c:M6} {B:N7} {pl:Nat->R8} {y:Nat}
theorem qQ (R:Round0 c B pl y):∀ m,iW c (dU c pl y m) ([Xh,c,y,m])
 | 0=>trivial
 | m+1=>by
  rw [m9];refine lK (qQ R m) ?_;refine bU (R.set m :) fun p l hp hl=>?_
  refine [Yt,l,?_]
  .show bO c _ ((pl ([Xh,c,y,m])).getD 0)=_;rw [hp]; exact hl
  .exact (wm hp hl).symm
theorem zj (R:Round0 c B pl y):∃ d,1<=d/\d<=B.length/\[Xh,c,y,d]=y/\∀ k,1<=k->k<d->[Xh,c,y,k]≠y:=by
 refine bp R.back fun d d1 d2 e=>?_
 have key:∀ n d,d<=n->1<=d->[Xh,c,y,d]=y->∃ d',1<=d'/\d'<=d/\[Xh,c,y,d']=y/\∀ k,1<=k->k<d'->[Xh,c,y,k]≠y:=by
  intro n;induction n with
  | zero=>intro d h1 h2; omega
  | succ n ih =>
   intro d h1 h2 e;by_cases z:∃ k,1<=k/\k<d/\nxi c pl y k=y
   .refine bp z fun k k1 k2 ek=>?_;clear z;refine iD (ih k (by omega) k1 ek :) fun d' a b cc dd=>?_
    exact (cC d' a (by omega) cc dd)
   .exact (cC d h2 (Nat.le_refl _) e (fun k k1 k2 ek=>z (aC k k1 k2 ek)))
 refine iD (key d d Tx d1 e :) fun d' a b cc dd=>?_
 exact (cC d' a ([Qi,b,d2]) cc dd)
theorem zo (R:Round0 c B pl y) {d:Nat} (d1:1<=d) (e:[Xh,c,y,d]=y) (fst:∀ k,1<=k->k<d->[Xh,c,y,k]≠y):RingIs c B (dU c pl y d):=by
 refine ⟨[OE,?_],?_,fun s hs=>?_,fun s hs=>?_,fun s hs=>?_⟩
 .have:=j5 c pl y d;rw [z] at this;exact [O9,this.symm,([NF,¬ d=0])]
 .unfold dU;rw [Qb,List.nodup_iff_pairwise_ne,List.pairwise_map];refine List.pairwise_lt_range.imp_of_mem fun {i j} hi hj lt ee=>?_
  have hj':=[Xs,hj];have ee':[Xh,c,y,i]=[Xh,c,y,j]:=ee;refine fst (d - j+i) L6 L6 ?_;have z:[Xh,c,y,i+(d - j)]=y:=by rw [jC,ee',<- jC,show j+(d - j)=d by omega]; exact e
  rwa [[MM,d - j+i=i+(d - j)]]
 .unfold dU at hs;refine [UJ,hs,fun i _ eq3=>?_];subst eq3;exact R.mem i
 .unfold dU at hs;refine [UJ,hs,fun i _ eq4=>?_];subst eq4;refine bU (R.set i :) fun p l hp hl=>?_
  refine [W4,l];show bO c _ ((pl ([Xh,c,y,i])).getD 0)=_;rw [hp]; exact hl
 .have h0:s.1=y:=by
   unfold dU at hs;rw [Mz,[A0e,L6]] at hs;cases hs; rfl
  rw [h0];have:=qQ R d;rwa [e] at this
end
end K82.S
namespace K82.S
open PySem L2
def bkI (l:Lis):Int:=[Mj,l.back,1,0]
def btF (c:M6) (b p:Nat):Int:=([Tr,bO c b p,(·.beats)]).getD 0
def bkF (c:M6) (b p:Nat):Int:=([Tr,bO c b p,bkI]).getD 0
def gnF (c:M6) (sd mt mb:Int) (b p:Nat):Int:=sd * (btF c b p * mb - bkF c b p * mt)
theorem iA {c:M6} {b p:Nat} {l:Lis} (h:bO c b p=Qv):btF c b p=l.beats:=by unfold btF; rw [h]; rfl
theorem gX {c:M6} {b p:Nat} {l:Lis} (h:bO c b p=Qv):bkF c b p=bkI l:=by unfold bkF; rw [h]; rfl
theorem om (l:Lis):0<=bkI l/\bkI l<=1:=by unfold bkI; split <;> decide
theorem p9 (c:M6) (sd mt mb:Int):∀ r,ck (gnF c sd mt mb) r=sd * (ck (Wr) r * mb - ck (UO) r * mt)
 | []=>by show Zl=sd * (0 * mb - 0 * mt); simp
 | s::r=>by
  show gnF c sd mt mb s.1 s.2+ck (gnF c sd mt mb) r=sd * ((btF c s.1 s.2+ck (Wr) r) * mb - (bkF c s.1 s.2+ck (UO) r) * mt);rw [p9 c sd mt mb r];unfold gnF;grind
structure FineP (c:List Bell):Prop where
 l6:c.length<=6
 bell:∀ b∈c,1<=b.lis.length/\b.lis.length<=6/\∀ l∈b.lis,l.whom<c.length/\1<=l.beats/\l.beats<=1000
theorem FineP.lis {c:M6} (f:T4) {b p:Nat} {l:Lis} (h:bO c b p=Qv):[OA,l.whom]/\1<=l.beats/\l.beats<=1000:=by
 refine [NC,eC h,fun x hx hl=>?_]
 exact (f.bell x [Xg,hx]).2.2 l [Xg,hl]
theorem FineP.w {c:M6} (f:T4):FineW c:=[Mw,f.l6,fun i k hk=>by
 unfold d8 at hk;cases e:c[i]? with
 | none=>rw [e] at hk; cases hk
 | some b =>
  rw [e] at hk;refine [UJ,hk,fun l hl eq5=>?_];subst eq5;exact ((f.bell b [Xg,e]).2.2 l hl).1]
theorem FineP.fst {c:M6} (f:T4) {b:Nat} (hb:[OA,b]):∃ l,bO c b 0=Qv:=by
 have hx:c[b]?=some c[b]:=[M4,hb];have:=(f.bell _ [Xg,hx]).1;exact [T7,gY hx ([M4,this])]
theorem f9 {c:M6} (f:T4):∀ {r:QE},(∀ s∈r,∃ l,bO c s.1 s.2=Qv)->[My,r.length]<=ck (Wr) r/\ck (Wr) r<=1000 * r.length/\0<=ck (UO) r/\ck (UO) r<=r.length
 | [],_=>(fI (Ov) (Ov) (Ov) (Ov))
 | s::r,h=>by
  obtain ⟨l,hl⟩:=h s ME;refine fX (f9 f (r:=r) fun s hs=>h s ([MX,hs]) :) fun a b cc d=>?_
  have e1:=iA hl;have e2:=gX hl;have:=(f.lis hl).2;have:=om l;show _<=btF c s.1 s.2+ck (Wr) r/\btF c s.1 s.2+ck (Wr) r<=_/\0<=bkF c s.1 s.2+ck (UO) r/\bkF c s.1 s.2+ck (UO) r<=_;rw [Pd];omega
theorem RingIs.len {c:M6} {B:N7} {r:QE} (h:RingIs c B r) (lt:[Ru,B,[OA,b]]) (f:T4):1<=r.length/\r.length<=6:=by
 refine [W4,[Yy,h.ne]];have:=iT c.length _ h.nd [ZI,by
  refine [UJ,hk,fun s hs eq6=>?_];subst eq6;exact lt _ (h.mem s hs)]
 rw [Mc] at this;exact [Qi,this,f.l6]
def tm (now:MU) (k:Nat):Int:=(now[k]?).join.getD 0
theorem FN {c:M6} {now:MU} (fx:Fix c (S8) now) (nw:cm c now=[]) {k:Nat} {b:Bell} (hb:c[k]?=QZ):now[k]?=[Mo,[Mo,tm now k]]/\Due (bH b (S8) now) (SF) ([Mo,tm now k]):=by
 refine [NC,fx.2 k b hb,fun o ho du=>?_]
 cases o with
 | some v =>
  have e:tm now k=v:=by unfold tm; rw [ho]; rfl
  rw [e]; exact [Mw,ho,du]
 | none =>
  exfalso;have hk:[OA,k]:=Wy;have z:(b,(none:M7))∈(c.zip now).take c.length:=by
   refine List.mem_of_getElem? (i:=k) ?_;rw [List.getElem?_take,[P9,hk]]; exact vH hb ho
  have z2:b.name∈cm c now:=[Qg,[Yb,(b,none),([A0c,[Nl,z]])]];rw [nw] at z2; cases z2
theorem xJ {before now:MU} {l:Lis} {u:Int} (hb:[Vb,l.back]) (h:gk before now l=NZ):u=[YJ,tm now l.whom]:=by
 unfold gk at h;rw [hb] at h;unfold tm;have h':[Tr,(now[l.whom]?).join,(·+l.beats)]=NZ:=h;cases e:(now[l.whom]?).join with
 | none=>rw [e] at h'; cases h'
 | some t=>rw [e] at h'; cases h'; rfl
theorem DC {b:Bell} {before now:MU} {v:Int} {l:Lis} (h:leO (gk before now l) v=true):∃ u,gk before now l=NZ/\u<=v:=by
 cases e:gk before now l with
 | none=>rw [e] at h; cases h
 | some u=>rw [e] at h; exact [Ma,u,([MF,h])]
theorem Hw {c:M6} {now:MU} (fx:Fix c (S8) now) (nw:cm c now=[]) (wa:[Ru,c,SF=OC]) {b p:Nat} {l:Lis} (hl:bO c b p=Qv) (hb:[Vb,l.back]):[YJ,tm now l.whom]<=tm now b:=by
 refine [NC,eC hl,fun x hx hp=>?_]
 refine cb (FN fx nw hx :) fun _ du _=>?_
 rw [wa x [Xg,hx]] at du;unfold bH at du;rw [ip] at du;have le:=List.countP_le_length (p:=fun y=>leO (gk (S8) now y) (tm now b)) (l:=x.lis);have eq:x.lis.countP (fun y=>leO (gk (S8) now y) (tm now b))=YR:=Mr
 refine [NC,DC (b:=x) (List.countP_eq_length.mp eq l [Xg,hp]),fun u hu uv=>?_]
 rw [xJ hb hu] at uv;exact uv
theorem Ig {c:M6} {now:MU} (fx:Fix c (S8) now) (nw:cm c now=[]) (wa:[Ru,c,SF=1]) {b:Nat} (hb:[OA,b]):∃ p l,bO c b p=Qv/\(l.back=true\/[YJ,tm now l.whom]<=tm now b):=by
 have hx:c[b]?=some c[b]:=[M4,hb];refine cb (FN fx nw hx :) fun _ du _=>?_
 rw [wa _ [Xg,hx]] at du;unfold bH at du;rw [ip] at du;have pos:0<(c[b].lis.countP [Z2,leO (gk (S8) now x) (tm now b)]):=Mr
 refine [NC,List.countP_pos_iff.mp pos,fun l hl le=>?_]
 refine [NC,DC (b:=c[b]) le,fun u hu uv=>?_]
 obtain ⟨p,hp,e⟩:=[TH,hl];refine (bP p l (gY hx (by rw [List.getElem?_eq_getElem hp,e])) ?_);cases hbk:l.back with
 | true=>exact Qf
 | false=>right; rw [<- xJ hbk hu]; exact uv
theorem uj {c:M6}:∀ {r:QE},(∀ s∈r,∃ l,bO c s.1 s.2=Qv)->ck (UO) r<=0->∀ s∈r,∀ l,bO c s.1 s.2=Qv->[Vb,l.back]
 | [],_,_,_,h=>([PL,h])
 | u::r,H,z,s,hs=>by
  have nn:∀ {r:QE},(∀ s∈r,∃ l,bO c s.1 s.2=Qv)->0<=ck (UO) r:=fun {r}=>by
   induction r with
   | nil=>intro _; exact Int.le_refl _
   | cons v r ih =>
    intro h;obtain ⟨l,hl⟩:=h v List.mem_cons_self;have:=ih fun s hs=>h s (List.mem_cons_of_mem _ hs)
    have:=(om l).1;show 0<=bkF c v.1 v.2+ck (bkF c) r;rw [gX hl]; omega
  have hr:=nn (r:=r) fun s hs=>H s ([MX,hs])
  obtain ⟨l0,hl0⟩:=H u ME;have z':bkF c u.1 u.2+ck (UO) r<=0:=z;have b0:=(om l0).1;rw [gX hl0] at z';rcases List.mem_cons.mp hs with rfl | hs
  .intro l hl;obtain rfl:l0=l:=[Mq,hl0.symm.trans hl];cases e:l0.back with
   | false=>rfl
   | true=>unfold bkI at z' b0; rw [e,U2] at z'; omega
  .exact uj (r:=r) (fun s hs=>H s ([MX,hs])) L6 s hs
theorem yL {c:M6} {B:N7} {r:QE} (f:T4) (ri:RingIs c B r) {now:MU} (fx:Fix c (S8) now) (nw:cm c now=[]) (wa:[Ru,c,SF=OC]):1<=ck (UO) r:=by
 refine [O3,?_]
 have bk:=uj ri.lis L6;refine dW ([A0f,ri.ne] :) fun s r' eq7=>?_;subst eq7;have ld:=ri.lead s rfl;have z:=sf (g:=Wr) (h:=tm now) ld fun u hu l hl=>by
  rw [iA hl];exact Hw fx nw wa hl (bk u hu l hl)
 have:=(f9 f ri.lis).1;rw [Pd] at this;omega
theorem lQ:∀ (B:N7) (h:Nat->Int),B≠[]->∃ b∈B,∀ x∈B,h b<=h x
 | [],_,ne=>[O9,rfl,ne]
 | [b],h,_=>(af b ME ([RD,by rw [List.mem_singleton.mp hx]; exact Ov]))
 | b::d::B,h,_=>by
  refine [NC,lQ (d::B) h ([QH,_]),fun y hy le=>?_]
  by_cases z:h b<=h y
  .exact ⟨b,ME,[RD,by
    rcases List.mem_cons.mp hx with rfl | hx
    .exact Ov
    .exact [Zj,z,le x hx]]⟩
  .exact ⟨y,[MX,hy],[RD,by
    rcases List.mem_cons.mp hx with rfl | hx
    .omega
    .exact le x hx]⟩
theorem Bf {c:M6} {B:N7} (f:T4) (ne:B≠[]) (cl:iE c B) (lt:[Ru,B,[OA,b]]) {h:Nat->Int} (st:jO c B (gnF c 1 0 1) h):False:=by
 refine [NC,lQ B h ne,fun b hb mn=>?_]
 obtain ⟨l,hl⟩:=f.fst (lt b hb);have z:=st b hb 0 l hl;have y:=mn l.whom (cl b hb _ (dz hl));unfold gnF at z;rw [iA hl] at z;have:=(f.lis hl).2.1;omega
def ke (g:Nat->Int):Nat->Int
 | 0=>0
 | n+1=>ke g n+g n
theorem qh {g h:Nat->Int}:∀ n,(∀ i,i<n->g i<=h i)->ke g n<=ke h n
 | 0,_=>Ov
 | n+1,H=>Int.add_le_add (qh n fun i hi=>H i L6) (H n L6)
theorem x6 (g h:Nat->Int):∀ n,ke (fun i=>g i+h i) n=ke g n+ke h n
 | 0=>rfl
 | n+1=>by show ke _ n+(g n+h n)=(ke g n+g n)+(ke h n+h n); rw [x6 g h n]; omega
theorem sN (v:Int) (b:Nat):∀ n,ke (fun i=>[Mj,i=b,v,0]) n=[Mj,b<n,v,0]
 | 0=>by rw [if_neg (Nat.not_lt_zero b)]; rfl
 | n+1=>by
  show ke _ n+([Mj,n=b,v,0])=_;rw [sN v b n];by_cases e:n=b
  .subst e; rw [[Ph,WC],U2,[P9,Wv]]; omega
  .rw [[Ph,e]];by_cases z:b<n
   .rw [[P9,z],[P9,L6]]; omega
   .rw [[Ph,z],[Ph,L6]]; rfl
theorem vo {g:Nat->Int}:∀ n,(∀ i,i<n->0<=g i)->0<=ke g n
 | 0,_=>Ov
 | n+1,H=>Int.add_nonneg (vo n fun i hi=>H i L6) (H n L6)
def btB (b:Bell):Int:=([Sd,(·.beats)]).sum
def btN (c:M6) (i:Nat):Int:=([Tr,c[i]?,btB]).getD 0
theorem rO (c:M6):∀ n,ke (btN c) n=([Tr,c.take n,btB]).sum
 | 0=>rfl
 | n+1=>by
  show ke (btN c) n+btN c n=_;rw [rO c n];cases e:c[n]? with
  | none =>
   have g:=[A04,e];rw [[Oy,g],[Oy,[Yu,c.length<=n+1]]];unfold btN; rw [e]; show _+Zl=_; omega
  | some b =>
   rw [List.take_add_one,e,Mt,List.sum_append];unfold btN; rw [e];show _+btB b=_+([btB b]:Nk).sum;simp
theorem rD:∀ {ns:Nk},(∀ n∈ns,0<=n)->∀ n∈ns,n<=ns.sum
 | [],_,_,h=>([PL,h])
 | m::ns,H,n,h=>by
  have nn:∀ {ns:Nk},(∀ n∈ns,0<=n)->0<=ns.sum:=fun {ns}=>by
   induction ns with
   | nil=>intro _; exact Int.le_refl _
   | cons a ns ih=>intro h; rw [List.sum_cons]; exact Int.add_nonneg (h a List.mem_cons_self) (ih fun n hn=>h n (List.mem_cons_of_mem _ hn))
  have h1:=nn fun n hn=>H n (List.mem_cons_of_mem m hn)
  have h2:=H m ME;rw [Yf];rcases List.mem_cons.mp h with rfl | h
  .omega
  .have:=rD (fun n hn=>H n ([MX,hn])) n h;omega
theorem yF {c:M6} (f:T4) {b p:Nat} {l:Lis} (hl:bO c b p=Qv):l.beats<=btN c b:=by
 refine [NC,eC hl,fun x hx hp=>?_]
 unfold btN; rw [hx];show l.beats<=btB x;unfold btB;refine rD (fun n hn=>?_) _ ([Qg,[Yb,l,[Xg,hp]]]);refine [UJ,hn,fun y hy eq8=>?_];subst eq8;have:=((f.bell x [Xg,hx]).2.2 y hy).2.1;omega
theorem sR {c:M6} (f:T4) (i:Nat):0<=btN c i:=by
 unfold btN;cases e:c[i]? with
 | none=>exact Ov
 | some x =>
  have:=f.bell x [Xg,e];obtain ⟨l,hl⟩:∃ l,x.lis[0]?=Qv:=[T7,[M4,this.1]];have z:=yF f (gY e hl);unfold btN at z; rw [e] at z;have:=(this.2.2 l [Xg,hl]).2.1;exact [Zj,L6,z]
def wUp (c:M6) (now:MU) (v:Int):Int:=ke (fun i=>[Mj,tm now i<=v,btN c i,0]) c.length
theorem JO {c:M6} (f:T4) (now:MU) (v:Int):0<=wUp c now v/\wUp c now v<=(WL).sum:=by
 have e:(WL).sum=ke (btN c) c.length:=by rw [rO,List.take_length]
 rw [e];exact [Mw,(vo _ fun i _=>by split; exact sR f i; exact Ov),qh _ fun i _=>by split; exact Ov; exact sR f i]
theorem x9 {c:M6} (f:T4) (now:MU) {b:Nat} (hb:[OA,b]):btN c b<=wUp c now (tm now b):=by
 have z:=sN (btN c b) b c.length;rw [[P9,hb]] at z;rw [<- z];refine qh _ fun i _=>?_
 by_cases e:i=b
 .subst e; rw [U2,[P9,Ov]]; exact Ov
 .rw [[Ph,e]]; split; exact sR f i; exact Ov
theorem D8 {c:M6} (f:T4) (now:MU) {b k:Nat} (hb:[OA,b]) (lt:tm now k<tm now b):wUp c now (tm now k)+btN c b<=wUp c now (tm now b):=by
 have z:=sN (btN c b) b c.length;rw [[P9,hb]] at z;unfold wUp;rw [<- z,<- x6];refine qh _ fun i _=>?_
 by_cases e:i=b
 .subst e;rw [U2,[P9,Ov],[Ph,L6]]; omega
 .rw [[Ph,e]];by_cases y:tm now i<=tm now k
  .rw [[P9,y],[P9,L6]]; omega
  .rw [[Ph,y]];split
   .have:=sR f i; omega
   .omega
theorem CJ {c:M6} {B:N7} (f:T4) (ne:B≠[]) (cl:iE c B) (lt:[Ru,B,[OA,b]]) {now:MU} (fx:Fix c (S8) now) (nw:cm c now=[]) (wa:[Ru,c,SF=1])
  {h:Nat->Int} (st:jO c B (gnF c (-1) ((WL).sum+1) 1) h):False:=by
 have key:∀ (n:Nat) (b:Nat),b∈B->wUp c now (tm now b)<=n->∃ y∈B,h y+(WL).sum+1 - wUp c now (tm now b)<=h b:=by
  intro n;induction n with
  | zero =>
   intro b hb z;have:=x9 f now (lt b hb);obtain ⟨l,hl⟩:=f.fst (lt b hb);have:=yF f hl;have:=(f.lis hl).2.1;omega
  | succ n ih =>
   intro b hb z;refine bU (Ig fx nw wa (lt b hb) :) fun p l hl o=>?_
   have s:=st b hb p l hl;unfold gnF at s;rw [iA hl,gX hl] at s;have b1:=yF f hl;have wB:=cl b hb _ (dz hl);have ws:=x9 f now (lt b hb);have l1:=(f.lis hl).2.1;cases e:l.back with
   | true =>
    refine (af l.whom wB ?_);unfold bkI at s;rw [e,if_pos rfl] at s;omega
   | false =>
    have tl:tm now l.whom+l.beats<=tm now b:=by
     rcases o with o | o
     .rw [e] at o; cases o
     .exact o
    have st':=D8 f now (k:=l.whom) (lt b hb) (by omega);refine ar (ih l.whom wB (by omega) :) fun y hy le=>?_
    refine (af y hy ?_);unfold bkI at s;rw [e,if_neg Bool.false_ne_true] at s;omega
 refine [NC,lQ B h ne,fun b hb mn=>?_]
 obtain ⟨w0,wS⟩:=JO f now (tm now b);refine [NC,key [TF,wUp c now (tm now b)] b hb L6,fun y hy le=>?_]
 have:=mn y hy;omega
structure LowF (t b:Int):Prop where
 pos:1<=b
 low:Int.gcd t b=1
def q60 (t b:Int):Int:=60 * t / b
theorem F5 {t b:Int} (h1:1<=b) (h6:b<=6):q60 t b * b=60 * t:=by
 unfold q60;have:b=1\/b=2\/b=3\/b=4\/b=5\/b=6:=Mr
 rcases this with rfl | rfl | rfl | rfl | rfl | rfl <;> omega
theorem F6 {t b t' b':Int} (h1:1<=b) (h6:b<=6) (h1':1<=b') (h6':b'<=6) (h:t * b'<t' * b):q60 t b<q60 t' b':=by
 have e:=F5 (t:=t) h1 h6;have e':=F5 (t:=t') h1' h6';refine [O3,?_]
 have le:q60 t' b'<=q60 t b:=Mr
 have z:q60 t' b' * (b * b')<=q60 t b * (b * b'):=[Ua,le,Int.mul_nonneg L6 L6];have z1:q60 t' b' * (b * b')=60 * (t' * b):=by rw [Int.mul_comm b b',<- Int.mul_assoc,e',Int.mul_assoc]
 have z2:q60 t b * (b * b')=60 * (t * b'):=by rw [<- Int.mul_assoc,e,Int.mul_assoc]
 omega
end K82.S
namespace K82.S
open PySem L2
structure IsFrac (t b p q:Int):Prop where
 pos:1<=q
 low:Int.gcd p q=1
 eq:p * b=t * q
 ple:p.natAbs<=t.natAbs
 qle:q<=b
theorem abs_eq (i:Int):([Mj,i<0,-i,i])=[My,i.natAbs]:=Mr
theorem DY {a b:Nat} (h:0<b):Nat.gcd b (a % b)=Nat.gcd a b:=by
 rw [Nat.gcd_comm b,<- Nat.gcd_rec,Nat.gcd_comm]
theorem Fb (a b:Nat):([My,a] % [My,b])=[RK,a % b]:=Mr
theorem G0 {t b:Int} (hb:1<=b) {g:Nat} (hg:g=Nat.gcd t.natAbs b.toNat):0<g/\[My,g]<=b/\IsFrac t b (t / [My,g]) (b / [My,g]):=by
 have eb:b=[My,b.toNat]:=Mr
 have hb0:0<b.toNat:=Mr
 have g0:0<g:=by rw [hg]; exact Nat.gcd_pos_of_pos_right _ hb0
 have gb:g ∣ b.toNat:=by rw [hg]; exact Nat.gcd_dvd_right _ _
 have gt:g ∣ t.natAbs:=by rw [hg]; exact Nat.gcd_dvd_left _ _
 have gle:g<=b.toNat:=Nat.le_of_dvd hb0 gb;have gbI:[My,g] ∣ b:=by rw [eb]; exact Int.natCast_dvd_natCast.mpr gb
 have gtI:[My,g] ∣ t:=Int.ofNat_dvd_left.mpr gt;obtain ⟨p,hp⟩:=gtI;obtain ⟨q,hq⟩:=gbI;have gI:Zl<[My,g]:=Mr
 have gne:[My,g]≠0:=Mr
 have e1:t / [My,g]=p:=by rw [hp]; exact Int.mul_ediv_cancel_left p gne
 have e2:b / [My,g]=q:=by rw [hq]; exact Int.mul_ediv_cancel_left q gne
 rw [e1,e2];have q1:1<=q:=by
  rcases Int.lt_or_le 0 q with h | h
  .omega
  .have:[My,g] * q<=0:=Int.mul_nonpos_of_nonneg_of_nonpos L6 h;omega
 refine (bM g0 L6 ⟨q1,?_,?_,?_,?_⟩)
 .
  have hq':b.toNat=g * q.toNat:=by
   have:[My,b.toNat]=[My,g] * [My,q.toNat]:=by
    rw [<- eb,hq];congr 1;omega
   exact_mod_cast this
  have hp':t.natAbs=g * p.natAbs:=by rw [hp,Int.natAbs_mul,Int.natAbs_natCast]
  have hh:g=g * Nat.gcd p.natAbs q.toNat:=by
   rw [<- Nat.gcd_mul_left,<- hp',<- hq'];exact hg
  have h1:Nat.gcd p.natAbs q.toNat=1:=by
   have:g * 1=g * Nat.gcd p.natAbs q.toNat:=Mr
   exact (Nat.eq_of_mul_eq_mul_left g0 this).symm
  have eq':q.natAbs=q.toNat:=Mr
  show Nat.gcd p.natAbs q.natAbs=1;rw [eq'];exact h1
 .rw [hp,hq];grind
 .rw [hp,Int.natAbs_mul,Int.natAbs_natCast];exact Nat.le_mul_of_pos_left _ g0
 .rw [hq];have:1 * q<=[My,g] * q:=[Ua,L6,L6];omega
section
variable {P:Program} {w:World} {K:M3} {mg:Str->Ms} {base:Heap} {f:Addr} {fd:FuncData}
def zt:Sp:=[MV,∃ a b:Nat,vs=[.int a,.int b]/\Q ([MH,(Nat.gcd a b:Nat)]) H]
theorem vW:[QI,["one","other","rest"],["one","other"],fD]:=R1
theorem Jm (F:[UG,"greatest_common","greatest_common",fD]):FnOk P w K mg base CX0 1 f fd ["one","other"] zt:=by
 refine [T5,vW]
 .refine bU h fun a b eq1 _=>?_;clear h;subst eq1;rfl
 refine bU h fun a b eq2 q=>?_;clear h;subst eq2;refine [XD,(i4 Ny (aZ qK RB au U7) ([YG,2,vW.nd,bD oP NB RB,[YG,0,vW.nd,RB,av [Vx,1,vW.nd,TR]]])),av (aI NB)]
 refine [Yt,(fun m σ H'=>H'=H/\∃ (x y:Nat) (z:RT),σ=[[Mo,.int x],[Mo,.int y],z]/\y=m/\Nat.gcd x y=Nat.gcd a b),[Ma,b,iR a b none rfl rfl rfl]];intro m σ H' pr;refine bZ pr fun eq3 pq0=>fP pq0 fun x y z eq4 eq5 e=>?_;clear pq0 pr;subst eq3;subst eq4;subst eq5;refine [Mu,XF];refine dC (fun c=>[Yt,_,(fun σ' H' h=>h)]) (fun c=>?_)
 .have hy:Zl<[My,y]:=[MF,c];refine [MR,[VX,_,_,hy,[Mn,ND]]];refine (aC (x % y) (Nat.mod_lt _ L6) rfl (iR y (x % y) ([Mo,[Va,[My,x] % [My,y]]]) ?_ rfl ?_))
  .rw [<- Fb];rfl
  .rw [DY L6];exact e
 .have hy:¬ Zl<[My,y]:=of_decide_eq_false ([Xd,c]);have y0:y=0:=Mr
  refine ND;rw [y0,Nat.gcd_zero_right] at e;rw [<- e] at q;exact q
def ib:Sp:=[MV,∃ t b:Int,vs=[.int t,.int b]/\1<=b/\Big b/\∀ r p q,H r=none->IsFrac t b p q->[Xi,r,([Rz,H,r,[.int p,.int q]])]]
theorem pK:[QI,["top","bottom","shared"],["top","bottom"],lH]:=R1
theorem yd (F:[UG,"fraction","fraction",lH]) (B:Q5) (C_gcd:[R3,1,"greatest_common",["one","other"],zt]):FnOk P w K mg base CX0 2 f fd ["top","bottom"] ib:=by
 refine [T5,pK]
 .refine bU h fun a b eq6 _=>?_;clear h;subst eq6;rfl
 refine e9 h fun t b eq7 hb hB q=>?_;clear h;subst eq7;refine [Xr,[YG,2,pK.nd,[VD,C_gcd,aL w9 rfl B.abs_ PyProof.Rows.boot_abs RH,P0],av (aI (dB [RL,bD wj NB TR,bD wj RB TR]))]]
 have eb:b=[RK,b.toNat]:=Mr
 refine cb (G0 (t:=t) hb (g:=Nat.gcd t.natAbs b.toNat) rfl :) fun g0 gb fr=>?_
 refine [Mn,[MR,bP t.natAbs b.toNat ?_ ?_]]
 .show [[W2,([Mj,t<0,-t,t])],[W2,b]]=[[W2,[My,t.natAbs]],[W2,[My,b.toNat]]];rw [abs_eq,<- eb]
 have gB:Big [RK,Nat.gcd t.natAbs b.toNat]:=by
  unfold Big at *;omega
 have gp:Zl<[RK,Nat.gcd t.natAbs b.toNat]:=Mr
 refine [MR,[VX,_,_,[Mw,gp,gB],[MR,[Yv,_,_,rfl,[Mw,gp,gB],Zn,(fun r hr=>?_)]]]];exact q r _ _ hr fr
end
end K82.S
namespace K82.S
open PySem L2
def But2 (a b:Addr) (H H':Hp):Prop:=∀ x o,x≠a->x≠b->H x=MN->H' x=MN
theorem But2.refl (a b:Addr) (H:Hp):But2 a b H H:=fun _ _ _ _ h=>h
theorem But2.trans {a b:Addr} {H H1 H2:Hp} (s:But2 a b H H1) (t:But2 a b H1 H2):But2 a b H H2:=fun x o n1 n2 h=>t x o n1 n2 (s x o n1 n2 h)
theorem Same.but2 {a b:Addr} {H H':Hp} (s:Pk):But2 a b H H':=fun x o _ _ h=>s x o h
theorem But2.updA {a b:Addr} {H H':Hp} (s:But2 a b H H') (o:HO):But2 a b H (upd H' a o):=fun x u n1 n2 h=>by rw [aK n1]; exact s x u n1 n2 h
theorem But2.updB {a b:Addr} {H H':Hp} (s:But2 a b H H') (o:HO):But2 a b H (upd H' b o):=fun x u n1 n2 h=>by rw [aK n2]; exact s x u n1 n2 h
theorem But2.same {a b:Addr} {H0 H H':Hp} (s:But2 a b H H') (s0:Same H0 H) (na:H0 a=none) (nb:H0 b=none):Same H0 H':=fun x o e=>s x o (aV e na) (aV e nb) (s0 x o e)
theorem But2.tup {a b:Addr} {H H':Hp} {xs ys:Nz} (s:But2 a b H H') (ha:H a=[MI,xs]) (hb:H b=ZR):iQ H H':=fun x zs e=>s x _ (eR e ha (OF)) (eR e hb (OF)) e
def pV:R8->V
 | none=>.non
 | some p=>[MH,p]
def uP (g:Nat->Nat->Int) (b n:Nat):Nz:=[Tr,[RQ,n],fun p=>[W2,g b p]]
theorem Ge {g:Nat->Nat->Int} {b n p:Nat} (h:p<n):(uP g b n)[p]?=[Mo,[W2,g b p]]:=by unfold uP; rw [List.getElem?_map,List.getElem?_range h]; rfl
def GainsAt (H:Hp) (gA hA pA:Addr) (c:M6) (g:Nat->Nat->Int):Prop:=gA≠hA/\gA≠pA/\∃ gs,H gA=[MI,gs]/\∀ b x,c[b]?=OV->∃ a,a≠hA/\a≠pA/\gs[b]?=Vc/\H a=[VM,uP g b YR]
theorem GainsAt.but {H H':Hp} {gA hA pA:Addr} {c:M6} {g:Nat->Nat->Int} (h:GainsAt H gA hA pA c g) (s:But2 hA pA H H'):GainsAt H' gA hA pA c g:=by
 refine cb h fun n1 n2 pq0=>[W5,fun gs e r=>?_];clear pq0 h;refine (bM n1 n2 (af gs (s _ _ n1 n2 e) (fun b x hx=>?_)));refine iD (r b x hx :) fun a m1 m2 e1 e2=>?_
 exact (cC a m1 m2 e1 (s _ _ m1 m2 e2))
def hF (hs:Nk) (x:Nat):Int:=hs.getD x 0
def pF (ps:[MG,R8]) (x:Nat):R8:=(ps[x]?).join
theorem Dz {hs:Nk} {x:Nat} (h:x<hs.length):(hs.map V.int)[x]?=[Mo,[W2,hF hs x]]:=by
 unfold hF; rw [Mz,Nj,[M4,h]]; rfl
theorem DV {ps:[MG,R8]} {x:Nat} (h:x<Rn):(XM)[x]?=[Mo,pV (pF ps x)]:=by
 unfold pF; rw [Mz,[M4,h]]; rfl
theorem Jh {hs:Nk} {b:Nat} (h:b<hs.length) (v:Int):hF (hs.set b v)=upf (hF hs) b v:=by
 funext x;unfold hF upf;rw [Nj,List.getElem?_set];by_cases e:x=b
 .subst e; rw [U2,[P9,h],U2]; rfl
 .rw [[Ph,[XS,e]],[Ph,e]];show hs[x]?.getD 0=hs.getD x 0;rw [Nj]
theorem J9 {ps:[MG,R8]} {b:Nat} (h:b<Rn) (v:R8):pF (ps.set b v)=upf Zt b v:=by
 funext x;unfold pF upf;rw [List.getElem?_set];by_cases e:x=b
 .subst e; rw [U2,[P9,h],U2]; rfl
 .rw [[Ph,[XS,e]],[Ph,e]]
theorem uI {n k:Nat} (h:k<n):ixN n PZ=some k:=by unfold ixN; rw [if_pos (by omega),if_pos (by omega),Int.toNat_natCast]
section
variable {P:Program} {w:World} {K:M3} {mg:Str->Ms} {base:Heap} {f:Addr} {fd:FuncData}
def vZ:Sp:=[MV,∃ (v:V) (l:Lis) (m:Addr) (mt mb sd:Int),vs=[v,.ref m,.int sd]/\LisAt H v l/\1<=l.beats/\l.beats<=1000/\H m=[OD,[.int mt,.int mb]]/\(sd=1\/sd=-1)/\Q ([Va,sd * ([Z0,mb] - bkI l * mt)]) H]
theorem GU:[QI,[PM,"mean",Y8],[PM,"mean",Y8],yH]:=R1
theorem Hg (F:[UG,"gain","gain",yH]):FnOk P w K mg base CX0 1 f fd [PM,"mean",Y8] vZ:=by
 refine [T5,GU]
 .refine bN h fun v l m mt pq0=>bU pq0 fun mb sd eq8 _=>?_;clear pq0 h;subst eq8;rfl
 refine bN h fun v l m mt pq0=>fz pq0 fun mb sd eq9 pp0 b1 b2 pq1=>cb pq1 fun hm hsd q=>?_;clear pq0 pq1 h;subst eq9;obtain ⟨a,rfl,ha⟩:=pp0;refine [Yt,_,(av (aI (bD gW TR (bD jy (bD gW ([Tq,NB]) ([Tq,RB])) (bD gW ([Tq,NB]) ([Tq,RB]))))))];have h1:=SqT.of (K:=K) ha;have h2:=SqT.of (K:=K) hm;have hb:=om l;refine [VO,a,_,_,_,h1,rfl,[QF,m,_,_,_,h2,([VX,_,_,[T6,[Mw,Mr,Mr]],[QF,a,_,_,_,h1,[QF,m,_,_,_,h2,([VX,_,_,[T6,[W4,?_]],([Ux,([VX,_,_,[T6,[Mw,Mr,Mr]],q])])])]]])]]
 .unfold bkI at hb; omega
 .unfold bkI at hb; omega
def vK:Sp:=[MV,∃ (ch:V) (c:M6) (bA gA hA pA:Addr) (B:N7) (g:Nat->Nat->Int) (hs:Nk) (ps:[MG,R8]) (t m:Nat) (R T:Nat->Nat),vs=[ch,.ref bA,.ref gA,.ref hA,.ref pA]/\[Rc,H,ch]/\T4/\ H bA=[VM,nV B]/\bA≠hA/\bA≠pA/\hA≠pA/\([Ru,B,[OA,b]])/\GainsAt H gA hA pA c g/\H hA=[VM,hs.map V.int]/\H pA=[VM,XM]/\[Vn,hs.length]/\[Vn,Rn]/\BF c B g t (Vf) (hF hs) Zt none R T m/\(∀ b p l,bO c b p=Qv->g b p<=100000)/\ ∀ (H':Hp) (hs':Nk) (ps':[MG,R8]) (lf:R8) (R' T':Nat->Nat) (m':Nat) (dn:Nat->[Qp,Nat]),But2 hA pA H H'->H' hA=[VM,hs'.map V.int]->H' pA=[VM,ps'.map pV]->[Vn,hs'.length]->[Vn,ps'.length]-> BF c B g t dn (hF hs') (pF ps') lf R' T' m'->([Ru,B,∀ p l,bO c b p=Qv->dn b p])->m'<=m+6 * B.length->Q (pV lf) H']
theorem jD:[QI,[MC,Sn,"gains","heights","places","lifted",Oj,"place",PM,"height"],[MC,Sn,"gains","heights","places"],j2]:=R1
theorem Gk (F:[UG,"lift_once","lift_once",j2]) (B0:Q5):FnOk P w K mg base CX0 1 f fd [MC,Sn,"gains","heights","places"] vK:=by
 refine [T5,jD]
 .refine bN h fun ch c bA gA pq0=>bN pq0 fun hA pA B g pq1=>bN pq1 fun hs ps t m pq2=>bU pq2 fun R T eq1 _=>?_;clear pq0 pq1 pq2 h;subst eq1;rfl
 refine bN h fun ch c bA gA pq0=>bN pq0 fun hA pA B g pq1=>bN pq1 fun hs ps t m0 pq2=>fz pq2 fun R T eq2 hch fp hB pq3=>dE pq3 fun nB1 nB2 nHP ltB pq4=>dE pq4 fun hG hH hP lh pq5=>fX pq5 fun lp bf gG q=>?_;clear pq0 pq1 pq2 pq3 pq4 pq5 h;subst eq2;refine [Xr,[YG,5,jD.nd,cK,ak (cT Ny rfl (de RB) [Uy,6,jD.nd] (av (cT Ny rfl (mE rfl B0.enumerate_ [Ou,[Tq,([RV,bo,NB,pv 6])]]) (fL rfl ([YY,7,jD.nd,([YY,8,jD.nd,dG])])) ([YG,9,jD.nd,(bD c9 ([RV,aU,VY,([Tq,pv 8])]) ([RV,aU,([RV,aU,TR,pv 6]),pv 7])),av [Z5,aZ qK (pv 9) ([RV,aU,VY,pv 6]) U7,(ak (jg (pv 9) (oU VY (pv 6) set_list)) (ak (jg (pv 7) (oU WN (pv 6) set_list)) (av [Vx,5,jD.nd,pv 6])))]])))) (av (aI (Yc)))]]
 refine aX (id hch :) fun a vs eq3 ha prc=>?_;subst eq3;refine [Mu,[UN,bA,[Tn,hB],?_]];refine j9 (K:=K) (a:=bA) (xs:=nV B) (fun i σ H2=>∃ (o6 o7 o8 o9:RT) (hs:Nk) (ps:[MG,R8]) (lf:R8) (R T:Nat->Nat) (m:Nat) (dn:Nat->[Qp,Nat]),σ=[Vc,[Mv,bA],[Mv,gA],[Mv,hA],[Mv,pA],[Mo,pV lf],o6,o7,o8,o9]/\ But2 hA pA H H2/\H2 hA=[VM,hs.map V.int]/\H2 pA=[VM,XM]/\[Vn,hs.length]/\[Vn,Rn]/\BF c B g t dn (hF hs) Zt lf R T m/\(∀ j,j<i->∀ b,B[j]?=QZ->∀ p l,bO c b p=Qv->dn b p)/\m<=m0+6 * i) (cf _ _ _ _ (cf hs ps none R ([SO,T,m0,_,.refl _ _ H,hH,hP,(dv lh lp bf (fun j hj=>[O9,hj,([Tg,j])]) Tx)]))) (fun i σ H2 _ pr=>bN pr fun _ _ _ _ pq0=>bN pq0 fun _ _ _ _ pq1=>fP pq1 fun _ _ _ _ z _=>[Tn,z _ _ nB1 nB2 hB]) ?_ ?_
 .intro i y σ H2 hy pr;refine bN pr fun o6 o7 o8 o9 pq0=>bN pq0 fun hs ps lf R pq1=>fe pq1 fun T m dn eq4 s2 hH2 hP2 pq2=>dE pq2 fun lh lp bf dn1 mi=>?_;clear pq0 pq1 pq2 pr;subst eq4;obtain ⟨b,hb,rfl⟩:∃ b,B[i]?=QZ/\y=[MH,b]:=by
   unfold nV at hy;rw [Mz] at hy;cases e:B[i]? with
   | none=>rw [e] at hy; cases hy
   | some k=>rw [e] at hy; cases hy; exact [Ma,k,rfl]
  have bB:b∈B:=[Mf,hb];have bc:[OA,b]:=ltB b bB;obtain ⟨x,hx⟩:∃ x,c[b]?=OV:=[Mw,c[b],[M4,bc]];refine [NC,cF prc hx,fun bv hbv pq0=>jF pq0 fun p tt ls eq5 hp ht prl=>?_];clear pq0;subst eq5;have tS:=s2.tup hH hP;refine [VO,a,_,_,_,[ZG,tS _ _ ha],bh hbv,([NN,p,_,_,_,[ZG,tS _ _ hp],rfl,([UN,tt,[S2,tS _ _ ht],?_])])];refine kB (K:=K) (a:=tt) (xs:=ls) (fun j σ H3=>∃ (o7 o8 o9:RT) (hs:Nk) (ps:[MG,R8]) (lf:R8) (R T:Nat->Nat) (m:Nat) (dn:Nat->[Qp,Nat]),σ=[Vc,[Mv,bA],[Mv,gA],[Mv,hA],[Mv,pA],[Mo,pV lf],[S3,b],o7,o8,o9]/\ But2 hA pA H H3/\H3 hA=[VM,hs.map V.int]/\H3 pA=[VM,XM]/\[Vn,hs.length]/\[Vn,Rn]/\BF c B g t dn (hF hs) Zt lf R T m/\(∀ j,j<i->∀ b,B[j]?=QZ->∀ p l,bO c b p=Qv->dn b p)/\(∀ p,p<j->dn b p)/\m<=m0+6 * i+j) (cf _ _ _ hs (cf ps lf R T ([Yv,m,dn,s2,hH2,hP2,(dv lh lp bf dn1 (aH ([VV,[O9,hp,([Tg,p])]]) mi))]))) (fun j σ H3 _ pr=>bN pr fun _ _ _ _ pq0=>bN pq0 fun _ _ _ _ pq1=>aX pq1 fun _ _ _ z _=>[S2,(z.tup hH hP) _ _ ht]) ?_ ?_
  .rintro j z σ H3 TT hz ⟨o7,o8,o9,hs,ps,lf,R,T,m,dn,rfl,s3,hH3,hP3,lh,lp,bf,dn1,dn2,mj⟩ hTT;refine [NC,bg prl hz,fun l hl pq0=>[W5,fun zz eq6 hzz=>?_]];clear pq0;subst eq6;have hla:bO c b j=Qv:=gY hx hl;have s4:Same H3 ([Rz,H3,TT,[[MH,j],.ref zz]]):=aw hTT _;have eT:([Rz,H3,TT,[[MH,j],.ref zz]]) TT=[OD,[[MH,j],.ref zz]]:=aq;refine ([Rg,TT,_,([O1,eT]),rfl,([Xp,_,_,ZU])]);have hH4:=s4 _ _ hH3;have hP4:=s4 _ _ hP3;have s04:But2 hA pA H _:=s3.trans (Same.but2 s4);generalize upd H3 TT (.tup [.int (j:Int),.ref zz])=H4 at s4 eT hH4 hP4 s04 ⊢;have tS4:=s04.tup hH hP;refine cb (hG.but s04 :) fun _ _ pq0=>[W5,fun gs hgs rows=>?_];clear pq0;refine iD (rows b x hx :) fun ga _ _ hga hrow=>?_
   have wc:=(fp.lis hla).1;have jl:j<YR:=[L8,hl];refine [VO,zz,_,_,_,[ZG,tS4 _ _ hzz],rfl,([NN,hA,_,_,_,[NO,hH4],bh (Dz L6),[VO,gA,_,_,_,[NO,hgs],bh hga,[NW,ga,_,_,_,[NO,hrow],bh (Ge jl),ZU]]])];refine [Mn,[VO,hA,_,_,_,[NO,hH4],bh (Dz L6),XF]];refine dC (Xm) (Xm)
   .have gt:hF hs b<hF hs l.whom+g b j:=[MF,cc];have bf2:=Hc bf bB hla gt (gG b j l hla);refine [Mn,[VO,hA,_,_,b,hH4,([PQ,uI L6]),?_]];rw [<- List.map_set];have s5:=s04.updA [Pl,([Wj,hs.set b (hF hs l.whom+g b j)])];have hH5:=aq (H:=H4) (a:=hA) (o:=.lst ([Wj,hs.set b (hF hs l.whom+g b j)]));have hP5:([Py,H4,hA,([Wj,hs.set b (hF hs l.whom+g b j)])]) pA=[VM,XM]:=by rw [aK (Ne.symm nHP)]; exact hP4
    generalize upd H4 hA (.lst ((hs.set b (hF hs l.whom+g b j)).map V.int))=H5 at s5 hH5 hP5 ⊢;refine [Mn,[VO,pA,_,_,b,hP5,([PQ,uI L6]),?_]];have es:(XM).set b ([W2,YB])=[Tr,ps.set b (some j),pV]:=by rw [List.map_set]; rfl
    rw [es];refine ND;refine (cf _ _ _ (hs.set b (hF hs l.whom+g b j)) (cf (ps.set b (some j)) (QZ) (upf R b t) (upf T b (m+1)) ([Yv,m+1,(fun x q=>dn x q\/(x=b/\q=j)),s5.updB _,(by rw [aK nHP]; exact hH5),aq,(dv ([WS,lh]) ([WS,lp]) ?_ (fun k hk y hy p l hl=>.inl (dn1 k hk y hy p l hl)) (aH ([VV,?_]) L6))])))
    .rw [Jh L6,J9 L6]; exact bf2
    .by_cases e:p=j
     .exact .inr [P7,e]
     .exact .inl (dn2 p L6)
   .have le:hF hs l.whom+g b j<=hF hs b:=by have z:¬ (hF hs b<hF hs l.whom+g b j):=[OE,cc ([MA,z])]; omega
    refine (cf _ _ _ hs (cf ps lf R T ([Yv,m,(fun x q=>dn x q\/(x=b/\q=j)),s04,hH4,hP4,(dv lh lp (Lu bf hla le) (fun k hk y hy p l hl=>.inl (dn1 k hk y hy p l hl)) (aH ([VV,?_]) L6))])));by_cases e:p=j
    .exact .inr [P7,e]
    .exact .inl (dn2 p L6)
  .intro σ H3 pr;refine bN pr fun o7 o8 o9 hs pq0=>bN pq0 fun ps lf R T pq1=>fz pq1 fun m dn eq7 s3 hH3 hP3 pq2=>dE pq2 fun lh lp bf dn1 pq3=>bZ pq3 fun dn2 mj=>?_;clear pq0 pq1 pq2 pq3 pr;subst eq7;have l6:=(fp.bell x [Xg,hx]).2.1;rw [aJ prl] at mj;refine (cf _ _ _ _ (cf hs ps lf R ([SO,T,m,dn,s3,hH3,hP3,(dv lh lp bf (fun k hk y hy p l hl=>?_) L6)])));by_cases e:k=i
   .rw [e,hb] at hy;cases hy
    refine [NC,eC hl,fun x' hx' hl'=>?_]
    rw [hx] at hx';cases hx'
    refine dn2 p ?_;rw [aJ prl];exact [L8,hl']
   .exact dn1 k L6 y hy p l hl
 .intro σ H2 pr;refine bN pr fun o6 o7 o8 o9 pq0=>bN pq0 fun hs ps lf R pq1=>fe pq1 fun T m dn eq8 s2 hH2 hP2 pq2=>dE pq2 fun lh lp bf dn1 mi=>?_;clear pq0 pq1 pq2 pr;subst eq8;rw [gu] at mi;refine [Mu,q H2 hs ps lf R T m dn s2 hH2 hP2 lh lp bf (fun b hb p l hl=>?_) mi];obtain ⟨k,hk,e⟩:=[TH,hb];exact dn1 k (by rw [gu]; exact hk) b (by rw [List.getElem?_eq_getElem hk,e]) p l hl
end
end K82.S
namespace K82.S
open PySem L2
def StepAt (H:Hp) (v:V) (s:Nat×Nat):Prop:=∃ a,v=QM/\H a=[OD,[[MH,s.1],[MH,s.2]]]
theorem StepAt.mono {H H':Hp} (t:iQ H H') {v:V} {s:Nat×Nat} (h:StepAt H v s):StepAt H' v s:=by
 refine ar h fun a e q=>?_;clear h;exact (af a e (t _ _ q))
def RingAt (H:Hp) (r:Addr) (ring:QE):Prop:=∃ vs,H r=[MI,vs]/\[Vg,StepAt H,vs,ring]
theorem RingAt.same {H H':Hp} (s:Pk) {r:Addr} {ring:QE} (h:RingAt H r ring):RingAt H' r ring:=by
 refine ar h fun vs e p=>?_;clear h;exact (af vs (s _ _ e) (bL ([Tz,z.mono [OT,s]]) p))
def yi (r:Addr) (H:Hp):Nat:=match H r with
 | some (.lst xs)=>xs.length
 | _=>0
theorem xS {r:Addr} {H:Hp} {xs:Nz} (h:H r=[MI,xs]):yi r H=Mh:=by unfold yi; rw [h]
theorem hop {H:Hp} {vs:Nz} {c:M6} (prc:[Vg,BellAt H,vs,c]) {x p:Nat} {l:Lis} (hl:bO c x p=Qv) :
  ∃ q t ls zz,vs[x]?=[Mv,q]/\(∃ v1 v2 v3,H q=[OD,[v1,v2,v3,.ref t]])/\H t=[OD,ls]/\ls[p]?=[Mv,zz]/\H zz=[OD,JL l]:=by
 refine [NC,eC hl,fun b hb hp=>?_]
 refine [NC,cF prc hb,fun bv hbv pq0=>jF pq0 fun q t ls eq1 hq ht prl=>?_];clear pq0;subst eq1;refine [NC,cF prl hp,fun z hz pq0=>[W5,fun zz eq2 hzz=>?_]];clear pq0;subst eq2;exact (az q t ls zz hbv (Dt _ _ _ hq) ht hz hzz)
section
variable {P:Program} {w:World} {K:M3} {mg:Str->Ms} {base:Heap} {f:Addr} {fd:FuncData}
def kj:Sp:=[MV,∃ (ch:V) (c:M6) (pA:Addr) (ps:[MG,R8]) (B:N7) (y:Nat),vs=[ch,.ref pA,[MH,y]]/\[Rc,H,ch]/\H pA=[VM,XM]/\[Vn,Rn]/\([Ru,B,[OA,b]])/\B.length<=6/\Round0 c B Zt y/\ ∀ (H':Hp) (r:Addr) (ring:QE),Pk->H r=none->RingAt H' r ring->RingIs c B ring->(∀ s∈ring,pF ps s.1=some s.2)->[Xi,r,H']]
theorem iw:[QI,[MC,"places",Oj,A03,"after"],[MC,"places",Oj],j0]:=R1
theorem wZ (F:[UG,"ring_from","ring_from",j0]):FnOk P w K mg base CX0 1 f fd [MC,"places",Oj] kj:=by
 refine [T5,iw]
 .refine bN h fun ch c pA ps pq0=>bU pq0 fun B y eq3 _=>?_;clear pq0 h;subst eq3;rfl
 refine bN h fun ch c pA ps pq0=>fz pq0 fun B y eq4 hch hP lp pq1=>fX pq1 fun ltB b6 ro q=>?_;clear pq0 pq1 h;subst eq4;refine [Xr,[YG,3,iw.nd,(cM [Ou,dB [RL,TR,[RV,aU,RB,TR]]]),[YG,4,iw.nd,([Tq,([RV,bo,([Tq,([RV,bo,NB,TR])]),([RV,aU,RB,TR])])]),ak (i4 Ny (aZ wx WN TR U7) (ak (cH (dr Ow P4 P2 dq VY [Ou,dB [RL,WN,[RV,aU,RB,WN]]])) (av [Vx,4,iw.nd,([Tq,([RV,bo,([Tq,([RV,bo,NB,WN])]),([RV,aU,RB,WN])])])]))) (av (aI VY))]]]
 refine aX (id hch :) fun a vs eq5 ha prc=>?_;subst eq5;refine iD (zj ro :) fun d d1 d2 ed fb=>?_
 have yc:[OA,y]:=ltB _ (ro.mem 0);have at1:∀ m,∃ (p:Nat) (l:Lis),pF ps (nxi c Zt y m)=some p/\bO c (nxi c Zt y m) p=Qv/\nxi c Zt y m<Rn/\nxi c Zt y (m+1)=l.whom:=fun m=>by
  refine bU (ro.set m :) fun p l hp hl=>?_
  exact (bJ p l hp hl (by rw [lp]; exact ltB _ (ro.mem m)) (wm hp hl))
 refine e9 (at1 0 :) fun p0 l0 hp0 hl0 y0 n1=>?_
 refine cZ (hop prc hl0 :) fun q0 t0 ls0 z0 g1 pp6 g3 g4 g5=>?_;obtain ⟨_,_,_,g2⟩:=pp6;have pat0:(XM)[y]?=[S3,p0]:=by have z:=DV y0; rw [hp0] at z; exact z
 refine [Mn,[VO,pA,_,_,_,[NO,hP],bh pat0,(aH (Zn) (fun t ht=>?_))]];have s1:=aw ht [Rj,[[MH,y],[MH,p0]]];refine [Mw,([Qq,1]),fun r hr0=>?_];have s2:=s1.trans ([XG,hr0,[.ref t]]);have hr1:=aq (H:=[Rz,H,t,[[MH,y],[MH,p0]]]) (a:=r) (o:=.lst [.ref t]);have ht2:([Py,([Rz,H,t,[[MH,y],[MH,p0]]]),r,[.ref t]]) t=[OD,[[MH,y],[MH,p0]]]:=aw hr0 _ _ _ aq;have nr:H r=none:=s1.free hr0;generalize (upd (upd H t (.tup [.int (y:Int),.int (p0:Int)])) r (.lst [.ref t]))=H2 at s2 hr1 ht2 ⊢;refine [VO,a,_,_,_,[ZG,s2 _ _ ha],bh g1,([NN,q0,_,_,_,[ZG,s2 _ _ g2],rfl,[VO,pA,_,_,_,[NO,s2 _ _ hP],bh pat0,([NN,t0,_,_,_,[ZG,s2 _ _ g3],bh g4,([NN,z0,_,_,_,[ZG,s2 _ _ g5],rfl,?_])])]])];have e1:([W2,[My,l0.whom]])=[W2,(nxi c Zt y 1:Nat)]:=by rw [n1]
 have ring1:RingAt H2 r (dU c Zt y 1):=by
  refine (af _ hr1 (.cons [Ma,t,?_] .nil));show H2 t=[OD,[[MH,(nxi c Zt y 0:Nat)],[MH,((pF ps (nxi c Zt y 0)).getD 0:Nat)]]];rw [hp0]; exact ht2
 refine kh (fun σ H4=>∃ m,1<=m/\m<=d/\σ=[Vc,[Mv,pA],[S3,y],[Mv,r],[S3,(nxi c Zt y m:Nat)]]/\[Pc,H4]/\RingAt H4 r (dU c Zt y m)) (fun _ H4=>d - yi r H4) (eY 1 Tx d1 (by show _=[[Mo,V.ref a],[Mo,V.ref pA],[Mo,[W2,[My,y]]],[Mo,V.ref r],[Mo,[W2,[RK,nxi c Zt y 1]]]]; rw [<- e1]; rfl) s2 ring1) ?_ ?_
 .intro σ H4 pr;refine gq pr fun m m1 m2 eq7 s4 rg=>?_;clear pr;subst eq7;refine [Mu,[U8,ND]];refine dC [UK,?_] [UK,?_]
  .have ne:nxi c Zt y m≠y:=[UT,by rw [e] at z; simp at z]
   have md:m<d:=by
    rcases Nat.lt_or_ge m d with h | h
    .exact h
    .have:m=d:=Mr
     rw [this] at ne;exact [O9,ed,ne]
   refine e9 (at1 m :) fun p l hp hl xl nn=>?_
   refine cZ (hop prc hl :) fun q1 t1 ls1 z1 k1 pp8 k3 k4 k5=>?_;obtain ⟨_,_,_,k2⟩:=pp8;have pat:(XM)[nxi c Zt y m]?=[S3,p]:=by rw [DV xl,hp]; rfl
   refine [NC,id rg,fun xs hxs prx=>?_]
   have lx:=aJ prx;rw [j5] at lx;refine ([U3,[T6,([QW,(e8 _ [NO,hxs])])],[Mn,[VO,pA,_,_,_,[NO,s4 _ _ hP],bh pat,(aH (Zn) (fun t ht=>?_))]]]);have s5:=aw ht [Rj,[[MH,(nxi c Zt y m:Nat)],[MH,p]]];have hxs5:=s5 _ _ hxs;refine ([SO,r,_,_,rfl,hxs5,Sf,?_]);have s6:=(Xk).upd nr [Pl,xs++[.ref t]];have tS:iQ ([Rz,H4,t,[[MH,(nxi c Zt y m:Nat)],[MH,p]]]) ([Py,([Rz,H4,t,[[MH,(nxi c Zt y m:Nat)],[MH,p]]]),r,xs++[.ref t]]):=vA fun zs e=>by rw [hxs5] at e; cases e
   have rg6:RingAt ([Py,([Rz,H4,t,[[MH,(nxi c Zt y m:Nat)],[MH,p]]]),r,xs++[.ref t]]) r (dU c Zt y (m+1)):=by
    refine [Yt,_,aq];rw [m9];refine cP [Pw,t,rfl] (bL ([Tz,(z.mono [OT,s5]).mono tS]) prx);rw [hp];exact tS _ _ aq
   generalize (upd (upd H4 t (.tup [.int ((nxi c (pF ps) y m:Nat):Int),.int (p:Int)])) r (.lst (xs++[.ref t])))=H6 at s6 rg6 ⊢;refine [VO,a,_,_,_,[ZG,s6 _ _ ha],bh k1,([NN,q1,_,_,_,[ZG,s6 _ _ k2],rfl,[VO,pA,_,_,_,[NO,s6 _ _ hP],bh pat,([NN,t1,_,_,_,[ZG,s6 _ _ k3],bh k4,([NN,z1,_,_,_,[ZG,s6 _ _ k5],rfl,?_])])]])];refine [W4,eY (m+1) L6 md ?_ s6 rg6]
   .show _=[[Mo,V.ref a],[Mo,V.ref pA],[Mo,[W2,[My,y]]],[Mo,V.ref r],[Mo,[W2,[RK,nxi c Zt y (m+1)]]]];rw [nn]; rfl
   .refine ar rg6 fun xs6 h6 p6=>?_;clear rg6;have l6:=aJ p6;rw [j5] at l6;show d - yi r H6<d - yi r H4;rw [xS h6,xS hxs];omega
  .have e:nxi c Zt y m=y:=by
    refine Classical.byContradiction fun ne=>z ?_
    have:¬ [W2,[RK,nxi c Zt y m]]=[W2,[My,y]]:=fun zz=>by injection zz with zz; omega
    show (!decide _)=true;rw [[NJ,this]]; rfl
   have md:m=d:=by
    rcases Nat.lt_or_ge m d with h | h
    .exact [O9,e,fb m m1 h]
    .omega
   subst md;refine [Mu,q H4 r _ s4 nr rg (zo ro m1 e fb) fun s hs=>?_];unfold dU at hs;refine [UJ,hs,fun i _ eq9=>?_];subst eq9;refine bU (ro.set i :) fun p l hp _=>?_
   show pF ps (nxi c Zt y i)=[Mo,(pF ps (nxi c Zt y i)).getD 0];rw [hp]; rfl
 .intro σ H4 Q1 Q2 hq pr;refine ar pr fun z1 e1 pq0=>bp pq0 fun z2 e2 e3 pq1=>ar pq1 fun z3 e4 h=>?_;clear pq0 pq1 pr;exact (af z1 e1 (aC z2 e2 e3 (af z3 e4 (hq _ _ h))))
def lU:Sp:=[MV,∃ (ch:V) (c:M6) (bA mA:Addr) (B:N7) (mt mb sd:Int),vs=[ch,.ref bA,.ref mA,.int sd]/\[Rc,H,ch]/\T4/\H bA=[VM,nV B]/\B≠[]/\B.length<=6/\([Ru,B,[OA,b]])/\iE c B/\H mA=[OD,[.int mt,.int mb]]/\(sd=1\/sd=-1)/\(0<=mt/\mt<=40000/\1<=mb/\mb<=6)/\ (∀ (H':Hp) (T hA:Addr) (hs:Nk),Pk->H T=none->H' T=[OD,[.ref hA,.non]]->H' hA=[VM,hs.map V.int]->[Vn,hs.length]->jO c B (gnF c sd mt mb) (hF hs)->(∀ x,0<=hF hs x/\hF hs x<=21600000)->[Xi,T,H'])/\ ∀ (H':Hp) (T r:Addr) (ring:QE),Pk->H T=none->H' T=[OD,[.non,.ref r]]->H r=none->RingAt H' r ring->RingIs c B ring->0<ck (gnF c sd mt mb) ring->[Xi,T,H']]
theorem dP:[QI,[MC,Sn,"mean",Y8,"gains","heights","places","lifted","turn"],[MC,Sn,"mean",Y8],ou]:=R1
theorem CO {c:M6} {B:N7} {g:Nat->Nat->Int} {t m:Nat} {done:Nat->[Qp,Nat]} {h:Nat->Int} {pl:Nat->R8} {lf:R8} {R T:Nat->Nat} (f:BF c B g t done h pl lf R T m) {ring:QE} (ri:RingIs c B ring) (hp:∀ s∈ring,pl s.1=some s.2):0<ck g ring:=by
 refine bU (He f :) fun N ph N0 st=>?_
 refine dW ([A0f,ri.ne] :) fun s r eq0=>?_;subst eq0;have z:=sG (N:=N) (ph:=ph) (g:=g) (ri.lead s rfl) fun u hu l hl=>st _ _ _ (hp u hu) hl
 refine [O3,?_]
 have:N * ck g (s::r)<=0:=Int.mul_nonpos_of_nonneg_of_nonpos L6 L6;omega
theorem zh (F:[UG,"settled","settled",ou]) (B0:Q5) (C_gain:[R3,1,"gain",[PM,"mean",Y8],vZ]) (C_lift:[R3,1,"lift_once",[MC,Sn,"gains","heights","places"],vK]) (C_ring:[R3,1,"ring_from",[MC,"places",Oj],kj]) :
  FnOk P w K mg base CX0 2 f fd [MC,Sn,"mean",Y8] lU:=by
 refine [T5,dP]
 .refine bN h fun ch c bA mA pq0=>fB pq0 fun B mt mb sd eq1 _=>?_;clear pq0 h;subst eq1;rfl
 refine bN h fun ch c bA mA pq0=>cZ pq0 fun B mt mb sd eq2 hch fp hB pq1=>dE pq1 fun neB b6 ltB cl pq2=>dE pq2 fun hM hsd pp3 qS qR=>?_;clear pq0 pq1 pq2 h;subst eq2;obtain ⟨mt0,mt4,mb1,mb6⟩:=pp3;refine [XD,(cU (i:=4) [Oj] ["mean",Y8] [2,3] rfl dP.nd rfl OG (dj NB) [Wf,0,([Mg,[[Rk,Oj],[Rk,"mean"],[Rk,Y8]]])] RN [Qt,(cz [PM] ["mean",Y8] [1,2] rfl (Am (K:=K) rfl ([RZ,Vd,NB])) [Wf,0,([Mg,[[Rk,PM],[Rk,"mean"],[Rk,Y8]]])] RN [Qt,[S4,C_gain,(ae NB [RL,RB,Qn])]])]),(ak (cU (i:=5) [Oj] [] [] rfl dP.nd rfl OG (dj NB) [Wf,0,([Mg,[[Rk,Oj]]])] RN [Qt,au]) (ak (cU (i:=6) [Oj] [] [] rfl dP.nd rfl OG (dj NB) [Wf,0,([Mg,[[Rk,Oj]]])] RN [Qt,cK]) ([YG,7,dP.nd,cK,ak (cT Ny rfl (dH rfl B0.range_ [Ou,[NX,bz,rfl,B0.len_,[Ou,P0]]]) [Uy,8,dP.nd] ([YG,7,dP.nd,[S4,C_lift,(ae NB (ae RB (ae WN [RL,Yc,pv 6])))],av [Z5,aZ j3 (pv 7) cK U7,(av (aI (dB (ae (Yc) [Ot,cK]))))]])) (ak (cT Ny rfl (dH rfl B0.range_ [Ou,[NX,bz,rfl,B0.len_,[Ou,P0]]]) [Uy,8,dP.nd] (av [Vx,7,dP.nd,([Tq,([RV,bo,([Tq,([RV,bo,NB,pv 7])]),([RV,aU,pv 6,pv 7])])])])) (av (aI (dB [RL,cK,[QP,C_ring,(ae NB [RL,pv 6,pv 7])]]))))])))]
 refine aX (id hch :) fun a vs eq4 ha prc=>?_;subst eq4;have lvc:=aJ prc;have c6:=fp.l6;have gAt:∀ {b p:Nat} {l:Lis},bO c b p=Qv->gnF c sd mt mb b p=sd * ([Z0,mb] - bkI l * mt):=fun {b p l} hl=>by unfold gnF; rw [iA hl,gX hl]
 have gG:∀ b p l,bO c b p=Qv->gnF c sd mt mb b p<=100000:=fun b p l hl=>by
  rw [gAt hl];refine cb (fp.lis hl :) fun _ w1 w2=>?_
  have hk:=om l;have p1:[Z0,mb]<=1000 * mb:=[Ua,w2,L6];have p2:0<=[Z0,mb]:=Int.mul_nonneg L6 L6;have p3:bkI l * mt<=1 * mt:=[Ua,hk.2,mt0];have p4:0<=bkI l * mt:=Int.mul_nonneg hk.1 mt0;rcases hsd with e | e <;> rw [e] <;> omega
 generalize hg:gnF c sd mt mb=g at *;refine [Mu,[UN,a,WX,(fun gA hgA=>?_)]];refine cJ (K:=K) (a:=a) (xs:=vs) (fun j ys H2=>[Pc,H2]/\NQ=j/\∀ b x,b<j->c[b]?=OV->∃ y,H y=none/\ys[b]?=[Mv,y]/\y≠gA/\H2 y=[VM,uP g b YR]) (bM (aw hgA _) rfl (fun b x hb=>[O9,hb,([Tg,b])])) ([ZN,[S2,z _ _ ha]]) ?_ ?_
 .rintro j y ys H2 hj ⟨s2,yl,rows⟩ hD2;refine [NC,bg prc hj,fun x hx pp5=>?_];obtain ⟨bq,t,ls,rfl,hbq,ht,prl⟩:=pp5;have jc:[OA,j]:=[L8,hx];refine V9;refine [QF,bq,_,_,_,[ZG,s2 _ _ hbq],([UN,t,[S2,s2 _ _ ht],Rl])];refine cJ (K:=K) (a:=t) (xs:=ls) (fun i zs H3=>Same H2 H3/\zs=uP g j i) [Nl,aw hD _] (fun i zs H3 _ ⟨z,_⟩=>[S2,z _ _ (s2 _ _ ht)]) ?_ ?_
  .rintro i z zs H3 hi ⟨s3,rfl⟩ hD3;refine [NC,bg prl hi,fun l hl hla=>?_]
   have s03:=Qh;have il:i<YR:=[L8,hl];have l6:=(fp.bell x [Xg,hx]).2.1;have la:=gY hx hl;refine cb (fp.lis la :) fun _ w1 w2=>?_
   refine V9;refine [Mn,[MR,cf z l mA mt ([Yv,mb,sd,(hla.mono [OT,s03]),w1,w2,bM (s03 _ _ hM) hsd ?_])]];refine (aC _ hD3 ?_ [Yt,_,[Nl,s3.upd hD _]])
   .unfold uP; rw [Mc,Xw]; exact Sf
   .have e:uP g j (i+1)=uP g j i++[[W2,(sd * ([Z0,mb] - bkI l * mt))]]:=by
     unfold uP; rw [List.range_succ,Mt,<- gAt la]; rfl
    rw [e]; exact aq
  .rintro zs H3 ⟨s3,rfl⟩ hD3;have e3:ls.length=YR:=aJ prl;rw [e3] at hD3;have hD2':=s3 _ _ hD2;have nDg:D≠gA:=[UT,by rw [e,hD2] at hD; cases hD]
   refine (aC _ hD2' (Sf) (af _ (bM ((Qh).upd hgA _) (by rw [List.length_append,yl]; rfl) (fun b x' hb hx'=>?_)) aq));by_cases e:b=j
   .subst e;rw [hx] at hx'; cases hx'
    refine (cC D (s2.free hD) ?_ nDg (by rw [aK nDg]; exact hD3));rw [[S9,L6],yl,Nat.sub_self]; rfl
   .refine iD (rows b x' L6 hx' :) fun y y0 y1 y2 y3=>?_
    refine (cC y y0 ?_ y2 (by rw [aK y2]; exact s3 _ _ y3));rw [[OP,L6]]; exact y1
 rintro gs H1 ⟨s1,gl,rows⟩ hgA1;refine [Mu,[UN,a,[S2,s1 _ _ ha],(fun hA hhA=>?_)]];refine cJ (K:=K) (a:=a) (xs:=vs) (fun j ys H2=>Same H1 H2/\ys=[Wj,[OW,j,Zl]]) [Nl,aw hhA _] ([ZN,[S2,z _ _ (s1 _ _ ha)]]) ?_ ?_
 .rintro j y ys H2 hj ⟨s2,rfl⟩ hD2;have jv:j<Ro:=[L8,hj];refine V9;refine (aC _ hD2 ?_ [Yt,_,[Nl,s2.upd hhA _]])
  .rw [Mc,Qo]; exact Sf
  .rw [List.replicate_succ',Mt]; exact aq
 rintro ys H2 ⟨s2,rfl⟩ hhA2;rw [lvc] at hhA2;refine [Mu,[UN,a,[S2,s2 _ _ (s1 _ _ ha)],(fun pA hpA=>?_)]];refine cJ (K:=K) (a:=a) (xs:=vs) (fun j ys H3=>Same H2 H3/\ys=[Tr,[OW,j,(none:R8)],pV]) [Nl,aw hpA _] (fun j ys H3 _ ⟨z,_⟩=>[S2,z _ _ (s2 _ _ (s1 _ _ ha))]) ?_ ?_
 .rintro j y ys H3 hj ⟨s3,rfl⟩ hD3;have jv:j<Ro:=[L8,hj];refine V9;refine (aC _ hD3 ?_ [Yt,_,[Nl,s3.upd hpA _]])
  .rw [Mc,Qo]; exact Sf
  .rw [List.replicate_succ',Mt]; exact aq
 rintro ys H3 ⟨s3,rfl⟩ hpA3;rw [lvc] at hpA3;have s03:=s1.trans (Qh);have hhA3:=s3 _ _ hhA2;have nHP:hA≠pA:=aV hhA2 hpA;have nh:H hA=none:=s1.free hhA;have np:H pA=none:=(Rf).free hpA;have hG:GainsAt H3 gA hA pA c g:=by
  refine (bM (aV hgA1 hhA) (aV (s2 _ _ hgA1) hpA) (af gs (s3 _ _ (s2 _ _ hgA1)) (fun b x hx=>?_)));refine iD (rows b x (by rw [lvc]; exact [L8,hx]) hx :) fun y y0 y1 y2 y3=>?_
  exact (cC y (aV y3 hhA) (aV (s2 _ _ y3) hpA) y1 (s3 _ _ (s2 _ _ y3)))
 have e0:hF ([OW,c.length,Zl])=fun _=>0:=by
  funext x;unfold hF;rw [Nj,Rp];split <;> rfl
 have e1:pF ([OW,c.length,(none:R8)])=fun _=>none:=by
  funext x;unfold pF;rw [Rp];split <;> rfl
 have nB1:bA≠hA:=aV hB nh;have nB2:bA≠pA:=aV hB np;have b1:1<=B.length:=[Yy,neB];refine [Mu,[Od,bA,_,[T6,[NO,s03 _ _ hB]],(cC _ rfl L6 (by rw [gu]; omega) ?_)]];rw [gu];refine fh (n:=B.length) (fun i σ H4=>∃ (o8:RT) (hs:Nk) (ps:[MG,R8]) (lf:R8) (R T:Nat->Nat) (m:Nat) (dn:Nat->[Qp,Nat]),σ=[Vc,[Mv,bA],[Mv,mA],[Mo,.int sd],[Mv,gA],[Mv,hA],[Mv,pA],[Mo,pV lf],o8]/\ But2 hA pA H3 H4/\H4 hA=[VM,hs.map V.int]/\H4 pA=[VM,XM]/\[Vn,hs.length]/\[Vn,Rn]/\((i=0/\BF c B g 1 (Vf) (hF hs) Zt none R T m)\/(1<=i/\lf≠none/\BF c B g i dn (hF hs) Zt lf R T m/\[Ru,B,∀ p l,bO c b p=Qv->dn b p]))/\m<=36 * i) (cf _ ([OW,c.length,0]) ([OW,c.length,none]) none ([NA,_,_,0,Vf,.refl _ _ H3,hhA3,hpA3,(fI Qo Qo [T6,[P7,by rw [e0,e1]; exact E7 c B g]] (OX))])) ?_ ?_
 .intro i σ H4 hi pr;refine bN pr fun o8 hs ps lf pq0=>cZ pq0 fun R T m dn eq6 s4 hH4 hP4 pq1=>fX pq1 fun lh lp st mi=>?_;clear pq0 pq1 pr;subst eq6;have s04:[Pc,H4]:=s4.same s03 nh np;have bf:BF c B g (i+1) (Vf) (hF hs) Zt none R T m:=by
   rcases st with ⟨rfl,b⟩ | ⟨_,_,b,al⟩
   .exact b
   .exact Gv b al
  refine [Mn,[Mn,[Mn,[MR,cf VU c bA gA (cf hA pA B g (cf hs ps (i+1) m ([Yv,R,T,([SD,s04]),fp,s04 _ _ hB,(dv nB1 nB2 nHP ltB (dv (hG.but s4) hH4 hP4 lh (fI lp bf gG (fun H5 hs' ps' lf' R' T' m' dn' s5 hH5 hP5 lh' lp' bf' al' mm=>?_))))])))]]]];have m36:m'<=36 * (i+1):=Mr
  have s05:[Pc,H5]:=(Xk).same s03 nh np;cases lf' with
  | none =>
   refine ([U8,[Mu,WJ]]);refine ([U3,Zn,(fun T0 hT0=>?_)]);exact qS _ T0 hA hs' (s05.trans (aw hT0 _)) (s05.free hT0) aq (aw hT0 _ _ _ hH5) lh' (Eg bf' al') [Z2,by have z:=bf'.hb x; have:[My,m']<=216:=L6; omega]
  | some x =>
   refine ([U8,[Mu,T8]]);exact (cf _ hs' ps' (OV) ([NA,R',T',m',dn',Xk,hH5,hP5,(fI lh' lp' ([PY,fI L6 [UK,[PL,z]] bf' al']) m36)]))
 .intro σ H4 pr;refine bN pr fun o8 hs ps lf pq0=>cZ pq0 fun R T m dn eq7 s4 hH4 hP4 pq1=>fX pq1 fun lh lp st _=>?_;clear pq0 pq1 pr;subst eq7;have s04:[Pc,H4]:=s4.same s03 nh np;rcases st with ⟨z,_⟩ | ⟨_,nlf,bf,al⟩
  .omega
  cases lf with
  | none=>exact [O9,rfl,nlf]
  | some x =>
   obtain ⟨Rx,xB⟩:=bf.l1 x rfl;refine [Mu,[Od,bA,_,[T6,[NO,s04 _ _ hB]],(cC _ rfl L6 (by rw [gu]; omega) ?_)]];rw [gu];refine fh (n:=B.length) (fun i σ H5=>H5=H4/\∃ o8:RT,σ=[Vc,[Mv,bA],[Mv,mA],[Mo,.int sd],[Mv,gA],[Mv,hA],[Mv,pA],[S3,(nxi c Zt x i:Nat)],o8]) ([QW,e8 _ rfl]) ?_ ?_
   .intro i σ H5 hi pr;refine bZ pr fun eq8 pq0=>iC pq0 fun o8 eq9=>?_;clear pq0 pr;subst eq8;subst eq9;refine bU (D0 cl bf xB Rx hi :) fun p l hp hl=>?_
    refine cZ (hop prc hl :) fun q1 t1 ls1 z1 k1 pp0 k3 k4 k5=>?_;obtain ⟨_,_,_,k2⟩:=pp0;have xl:nxi c Zt x i<Rn:=by rw [lp]; exact ltB _ (kf cl bf xB Rx i L6).1
    have pat:(XM)[nxi c Zt x i]?=[S3,p]:=by rw [DV xl,hp]; rfl
    refine [VO,a,_,_,_,[ZG,s04 _ _ ha],bh k1,([NN,q1,_,_,_,[ZG,s04 _ _ k2],rfl,[VO,pA,_,_,_,[NO,hP4],bh pat,([NN,t1,_,_,_,[ZG,s04 _ _ k3],bh k4,([NN,z1,_,_,_,[ZG,s04 _ _ k5],rfl,?_])])]])];refine ([QW,(e8 ([Mo,[Va,0+X4]]) ?_)]);show _=[[Mo,V.ref a],[Mo,V.ref bA],[Mo,V.ref mA],[Mo,[W2,sd]],[Mo,V.ref gA],[Mo,V.ref hA],[Mo,V.ref pA],[Mo,[W2,[RK,nxi c Zt x (i+1)]]],[Mo,[W2,0+X4]]];rw [[Nn,nxi c Zt x (i+1)=l.whom,wm hp hl]]; rfl
   .intro σ H5 pr;refine bZ pr fun eq1 pq0=>iC pq0 fun o8 eq2=>?_;clear pq0 pr;subst eq1;subst eq2;have ro:=EA cl bf rfl xB Rx;refine [Mn,[MR,cf VU c pA ps ([Yv,B,_,([SD,s04]),hP4,lp,(fI ltB b6 ro (fun H6 r ring s6 nr rg ri pls=>?_))])]];refine [Mw,Zn,fun T0 hT0=>?_];have s7:=aw hT0 [Rj,[.non,.ref r]];exact qR _ T0 r ring (s04.trans (s6.trans s7)) ((s04.trans s6).free hT0) aq (s04.free nr) (rg.same s7) ri (CO bf ri pls)
end
end K82.S
namespace K82.S
open PySem L2
def mU (c:M6) (ring:QE):List Lis:=[WZ,(bO c s.1 s.2).getD ⟨0,0,false⟩]
theorem qF {c:M6}:∀ {ring:QE},(∀ s∈ring,∃ l,bO c s.1 s.2=Qv)->([Tr,mU c ring,(·.beats)]).sum=ck (Wr) ring/\([Tr,mU c ring,bkI]).sum=ck (UO) ring
 | [],_=>[Nl,rfl]
 | s::r,h=>by
  obtain ⟨l,hl⟩:=h s ME;obtain ⟨a,b⟩:=qF (ring:=r) fun s hs=>h s ([MX,hs])
  have e:mU c (s::r)=l::mU c r:=by unfold mU; rw [List.map_cons,hl]; rfl
  rw [e,PH,PH,Yf,Yf,a,b];show _=btF c s.1 s.2+ck (Wr) r/\_=bkF c s.1 s.2+ck (UO) r;rw [iA hl,gX hl];exact [Nl,rfl]
theorem dQ {α:Type} {l:QY} {j:Nat} {x:α} (h:l[j]?=OV):l.take (j+1)=l.take j++[x]:=by rw [List.take_add_one,h]; rfl
section
variable {P:Program} {w:World} {K:M3} {mg:Str->Ms} {base:Heap} {f:Addr} {fd:FuncData}
def oI:Sp:=[MV,∃ (ch:V) (c:M6) (r:Addr) (ring:QE),vs=[ch,.ref r]/\[Rc,H,ch]/\T4/\RingAt H r ring/\(∀ s∈ring,∃ l,bO c s.1 s.2=Qv)/\ring.length<=6/\1<=ck (UO) ring/\ ∀ (H':Hp) (m:Addr) (p q:Int),Pk->H m=none->H' m=[OD,[.int p,.int q]]->IsFrac (ck (Wr) ring) (ck (UO) ring) p q->[Xi,m,H']]
theorem ky:[QI,[MC,A03,"listenings",ZM,"backs"],[MC,A03],oz]:=R1
theorem BA (F:[UG,"mean_of","mean_of",oz]) (B0:Q5) (C_fraction:[R3,2,"fraction",["top","bottom"],ib]):FnOk P w K mg base CX0 3 f fd [MC,A03] oI:=by
 refine [T5,ky]
 .refine fB h fun ch c r ring eq3 _=>?_;clear h;subst eq3;rfl
 refine cZ h fun ch c r ring eq4 hch fp rg pq0=>fX pq0 fun val r6 bk1 q=>?_;clear pq0 h;subst eq4;refine [XD,(cU (i:=2) [Oj,"place"] [MC] [0] rfl ky.nd rfl OG (de RB) [Qt,(uS (n:=2) (K:=K) rfl rfl ([YY,0,([Mg,[[Rk,Oj],[Rk,"place"],[Rk,MC]]]),([YY,1,([Mg,[[Rk,Oj],[Rk,"place"],[Rk,MC]]]),dG])]))] RN [Qt,([RV,Vd,([RZ,Vd,([RV,Vd,TR,NB])]),RB])]),([YG,3,ky.nd,(aL (kE rfl) rfl B0.sum_ VQ [Ou,cz [PM] [] [] rfl (de TR) [Wf,0,([Mg,[[Rk,PM]]])] RN [Qt,([RZ,Vd,NB])]]),[YG,4,ky.nd,(aL (kE rfl) rfl B0.sum_ VQ [Ou,cz [PM] [] [] rfl (de TR) [Wf,0,([Mg,[[Rk,PM]]])] RN [Qt,([RZ,Vd,NB])]]),av (aI [VD,C_fraction,VY,UL])]])]
 refine aX (id hch :) fun a vs eq5 ha prc=>?_;subst eq5;refine [NC,id rg,fun xs hxs prx=>?_]
 have lx:=aJ prx;refine [Mu,[UN,r,[Tn,hxs],(fun L hL=>?_)]];refine cX (K:=K) (a:=r) (xs:=xs) (fun j ys H2=>[Pc,H2]/\[Vg,LisAt H2,ys,mU c (ring.take j)]) [Mw,aw hL _,by rw [List.take_zero]; exact .nil] ([ZN,[Tn,z _ _ hxs]]) ?_ ?_
 .rintro j y ys H2 hj ⟨s2,pl⟩ hD2;refine [NC,bg prx hj,fun st hst pq0=>[W5,fun T eq6 hT=>?_]];clear pq0;subst eq6;have jr:j<ring.length:=[L8,hst];obtain ⟨l,hl⟩:=val st [Xg,hst];refine cZ (hop prc hl :) fun q1 t1 ls1 z1 k1 pp7 k3 k4 k5=>?_;obtain ⟨_,_,_,k2⟩:=pp7;refine ([Rg,T,_,[ZG,s2 _ _ hT],rfl,([Xp,_,_,ZU])]);refine V9;refine [VO,a,_,_,_,[ZG,s2 _ _ ha],bh k1,([NN,q1,_,_,_,[ZG,s2 _ _ k2],rfl,[NW,t1,_,_,_,[ZG,s2 _ _ k3],bh k4,?_]])];have ly:=aJ pl;unfold mU at ly;rw [Mc,Nc] at ly;have tS:iQ H2 ([Py,H2,L,ys++[.ref z1]]):=vA fun zs e=>by rw [hD2] at e; cases e
  refine (aC _ hD2 (Sf) (af _ [W4,s2.upd hL _] aq));have e:mU c (ring.take (j+1))=mU c (ring.take j)++[l]:=by unfold mU; rw [dQ hst,List.map_append,List.map_singleton,hl]; rfl
  rw [e];exact cP ⟨z1,rfl,tS _ _ (s2 _ _ k5)⟩ (bL ([Tz,z.mono tS]) pl)
 rintro ys H1 ⟨s1,pl⟩ hL1;rw [lx,NL] at pl;have ly:=aJ pl;have ll:[MP,mU c ring]=ring.length:=by unfold mU; rw [List.length_map]
 obtain ⟨sb,sk⟩:=qF val;refine [Mu,[UN,L,[Tn,hL1],Rl]];refine cX (K:=K) (a:=L) (xs:=ys) (fun j zs H2=>Same H1 H2/\zs=[Wj,[Tr,(mU c ring).take j,(·.beats)]]) [Nl,aw hD _] (fun j zs H2 _ ⟨z,_⟩=>[Tn,z _ _ hL1]) ?_ ?_
 .rintro j y zs H2 hj ⟨s2,rfl⟩ hD2;refine [NC,bg pl hj,fun l hl pq0=>[W5,fun z eq8 hz=>?_]];clear pq0;subst eq8;refine V9;refine [QF,z,_,_,_,[ZG,s2 _ _ hz],?_];refine (aC _ hD2 ?_ [Yt,_,[Nl,s2.upd hD _]])
  .rw [Mc,Mc,Nc]; exact Sf
  .rw [dQ hl,Mt,Mt]; exact aq
 rintro zs H2 ⟨s2,rfl⟩ hD2;rw [ly,NL] at hD2;refine ([Od,D,_,[NO,hD2],?_]);rw [sb];refine [Mu,[UN,L,[Tn,s2 _ _ hL1],(fun D' hD'=>?_)]];refine cX (K:=K) (a:=L) (xs:=ys) (fun j zs H3=>Same H2 H3/\zs=[Wj,[Tr,(mU c ring).take j,bkI]]) [Nl,aw hD' _] (fun j zs H3 _ ⟨z,_⟩=>[Tn,z _ _ (s2 _ _ hL1)]) ?_ ?_
 .rintro j y zs H3 hj ⟨s3,rfl⟩ hD3;refine [NC,bg pl hj,fun l hl pq0=>[W5,fun z eq9 hz=>?_]];clear pq0;subst eq9;refine V9;refine [QF,z,_,_,_,[ZG,s3 _ _ (s2 _ _ hz)],?_];refine (aC _ hD3 ?_ [Yt,_,[Nl,s3.upd hD' _]])
  .rw [Mc,Mc,Nc]; exact Sf
  .rw [dQ hl,Mt,Mt]; exact aq
 rintro zs H3 ⟨s3,rfl⟩ hD3;rw [ly,NL] at hD3;refine ([Od,D',_,[NO,hD3],?_]);rw [sk];refine fX (f9 fp val :) fun _ _ _ bk2=>?_
 have s03:=s1.trans (Qh);refine [MR,[Rg,_,_,bk1,?_,(fun m p qq hm fr=>?_)]]
 .unfold Big;exact [NR,[Yu,(ck (UO) ring).natAbs<2 ^ 10],Nat.pow_le_pow_right M0 M0]
 .exact q _ m p qq (s03.trans (aw hm _)) (s03.free hm) aq fr
def lA:Sp:=[MV,∃ (ch:V) (c:M6) (sd:Int),vs=[ch,.int sd]/\[Rc,H,ch]/\T4/\∀ (H':Hp) (m:Addr),Pk->H m=none->H' m=[OD,[[Va,[Mj,sd=1,0,(WL).sum+1]],.int 1]]->[Xi,m,H']]
theorem Ag:[QI,[MC,Y8],[MC,Y8],eB]:=R1
theorem zk (F:[UG,Yz,Yz,eB]) (B0:Q5):FnOk P w K mg base CX0 1 f fd [MC,Y8] lA:=by
 refine [T5,Ag]
 .refine dZ h fun ch c sd eq0 _=>?_;clear h;subst eq0;rfl
 refine jF h fun ch c sd eq1 hch fp q=>?_;clear h;subst eq1;refine [XD,[Z5,aZ c8 RB au U7,av (aI (dB (ae au TV)))],(av (aI (dB (ae (bD c9 (aL (kE rfl) rfl B0.sum_ VQ [Ou,cz [Oj] [] [] rfl (dj NB) [Wf,0,([Mg,[[Rk,Oj]]])] RN [Qt,(aL (Ac (K:=K) rfl rfl) rfl B0.sum_ VQ [Ou,cz [PM] [] [] rfl (Am (K:=K) rfl ([RZ,Vd,NB])) [Wf,0,([Mg,[[Rk,PM]]])] RN [Qt,([RZ,Vd,NB])]])]]) au) TV))))]
 refine aX (id hch :) fun a vs eq2 ha prc=>?_;subst eq2;have lvc:=aJ prc;have c6:=fp.l6;refine ([U8,[Mu,dC [UK,?_] [UK,?_]]])
 .have e:sd=1:=by have z':[W2,sd]=[W2,1]:=[MF,z]; injection z'
  refine [Mw,Zn,fun m hm=>?_];refine q _ m (aw hm _) hm ?_;rw [[P9,e]]; exact aq
 .have e:¬ sd=1:=[UT,z ([MA,(by rw [e])])]
  rw [[Ph,e]] at q;refine [Mu,[UN,a,WX,Rl]];refine cJ (K:=K) (a:=a) (xs:=vs) (fun j ys H2=>[Pc,H2]/\ys=[Wj,[Tr,c.take j,btB]]) [Nl,aw hD _] ([ZN,[S2,z _ _ ha]]) ?_ ?_
  .rintro j y ys H2 hj ⟨s2,rfl⟩ hD2;refine [NC,bg prc hj,fun x hx pp3=>?_];obtain ⟨bq,t,ls,rfl,hbq,ht,prl⟩:=pp3;have jc:[OA,j]:=[L8,hx];have l6:=(fp.bell x [Xg,hx]).2.1;refine V9;refine [QF,bq,_,_,_,[ZG,s2 _ _ hbq],([UN,t,[S2,s2 _ _ ht],(fun D' hD'=>?_)])];refine cJ (K:=K) (a:=t) (xs:=ls) (fun i zs H3=>Same H2 H3/\zs=[Wj,[Tr,x.lis.take i,(·.beats)]]) [Nl,aw hD' _] (fun i zs H3 _ ⟨z,_⟩=>[S2,z _ _ (s2 _ _ ht)]) ?_ ?_
   .rintro i z zs H3 hi ⟨s3,rfl⟩ hD3;refine [NC,bg prl hi,fun l hl pq0=>[W5,fun zz eq4 hzz=>?_]];clear pq0;subst eq4;refine V9;refine [QF,zz,_,_,_,[ZG,s3 _ _ (s2 _ _ hzz)],?_];refine (aC _ hD3 ?_ [Yt,_,[Nl,s3.upd hD' _]])
    .rw [Mc,Mc,Nc]; exact Sf
    .rw [dQ hl,Mt,Mt]; exact aq
   rintro zs H3 ⟨s3,rfl⟩ hD3;rw [aJ prl,NL] at hD3;refine ([Od,D',_,[NO,hD3],?_]);refine (aC _ (s3 _ _ hD2) ?_ [Yt,_,[Nl,(Qh).upd hD _]])
   .rw [Mc,Mc,Nc]; exact Sf
   .rw [dQ hx,Mt,Mt]; exact aq
  rintro ys H2 ⟨s2,rfl⟩ hD2;rw [lvc,NL] at hD2;refine ([Od,D,_,[NO,hD2],([VX,_,_,Zn,(fun m hm=>?_)])]);exact q _ m (s2.trans (aw hm _)) (s2.free hm) aq
end
end K82.S
namespace K82.S
open PySem L2
def wG (c:M6) (b goal:Nat) (r:QE):Prop:=(r=[]/\goal=b)\/(goal≠b/\[Tr,r[0]?,OB]=QZ/\iW c r goal/\∀ s∈r,∃ l,bO c s.1 s.2=Qv)
def wK (W:[Qx,Addr]):Vm:=W.map [Z2,([TC,[My,x.1]],V.ref x.2)]
theorem vc (W:[Qx,Addr]):[MP,wK W]=W.length:=by unfold wK; rw [List.length_map]
theorem HM (W:[Qx,Addr]):[Tr,wK W,(fun kv=>kV kv.1)]=nV (W.map OB):=by unfold wK nV; rw [List.map_map,List.map_map]; rfl
theorem uQ:∀ {W:[Qx,Addr]} {k:Nat},k∈W.map OB->∃ a,(k,a)∈W/\dF (wK W) ([TC,PZ])=Vc
 | (k0,a0)::W,k,h=>by
  by_cases e:k0=k
  .subst e;refine [Yt,a0,ME];unfold dF wK;rw [PH,List.find?_cons];simp
  .have h':k∈W.map OB:=by
    rcases List.mem_cons.mp h with z | z
    .exact [O9,z.symm,e]
    .exact z
   refine [NC,uQ h',fun a h1 h2=>?_]
   refine [Yt,a,([MX,h1])];unfold dF wK at h2 ⊢;rw [PH,List.find?_cons];have:[Vb,[N8,([TC,[My,k0]]:Key)=[TC,PZ]]]:=[NJ,[OE,e (by have z':[My,k0]=PZ:=Sum.inl.inj z; omega)]]
   rw [this];exact h2
theorem F0 {W:[Qx,Addr]} {k:Nat} (h:k∉W.map OB):dF (wK W) ([TC,PZ])=none:=by
 unfold dF wK;rw [Option.map_eq_none_iff,List.find?_eq_none];intro x hx z;refine [UJ,hx,fun y hy eq1=>?_];subst eq1;have z':([TC,[My,y.1]]:Key)=[TC,PZ]:=[MF,z];have e:[My,y.1]=PZ:=Sum.inl.inj z';refine h ([Qg,[Yn,y,hy]]);omega
theorem Jt {W:[Qx,Addr]} {k:Nat} {a:Addr} (h:k∉W.map OB):putK (wK W) ([TC,PZ]) (V.ref a)=wK (W++[(k,a)]):=by
 unfold putK;rw [if_neg]
 .unfold wK; rw [Mt]; rfl
 .intro z;refine [NC,List.any_eq_true.mp z,fun x hx e=>?_]
  unfold wK at hx;refine [UJ,hx,fun y hy eq2=>?_];subst eq2;have e':([TC,[My,y.1]]:Key)=[TC,PZ]:=[MF,e];have e2:[My,y.1]=PZ:=Sum.inl.inj e';refine h ([Qg,[Yn,y,hy]]);omega
def Bm (D:Addr) (H:Hp):Nat:=match H D with
 | some (.dK kvs)=>kvs.length
 | _=>0
theorem AA {D:Addr} {H:Hp} {kvs:Vm} (h:H D=[Mo,Yj]):Bm D H=Q7:=by unfold Bm; rw [h]
structure WI (c:List Bell) (b:Nat) (H0 H:Hp) (D:Addr) (W:List (Nat×Addr)):Prop where
 nd:(W.map (·.1)).Nodup
 hb:b∈W.map (·.1)
 hr:∀ k∈W.map (·.1),k=b\/Hr c b k
 way:∀ x∈W,x.2≠D/\H0 x.2=none/\∃ r,RingAt H x.2 r/\wG c b x.1 r/\r.length<W.length
theorem WI.lt {c:M6} (fw:FineW c) {b:Nat} (bc:[OA,b]) {H0 H:Hp} {D:Addr} {W:[Qx,Addr]} (h:WI c b H0 H D W):∀ k∈W.map OB,[OA,k]:=[ZI,by
 rcases h.hr k hk with e | e
 .rw [e]; exact bc
 .exact e.lt fw]
theorem WI.len {c:M6} (fw:FineW c) {b:Nat} (bc:[OA,b]) {H0 H:Hp} {D:Addr} {W:[Qx,Addr]} (h:WI c b H0 H D W):W.length<=6:=by
 have:=iT c.length _ h.nd (h.lt fw bc);rw [Mc] at this;exact [Qi,this,fw.l6]
theorem WI.same {c:M6} {b:Nat} {H0 H H':Hp} {D:Addr} {W:[Qx,Addr]} (h:WI c b H0 H D W) (s:Pk):WI c b H0 H' D W :=
 ⟨h.nd,h.hb,h.hr,[RD,by refine cb (h.way x hx :) fun n z pq0=>bp pq0 fun r a bb cc=>?_;clear pq0; exact (bM n z (aC r (a.same s) bb cc))]⟩
section
variable {P:Program} {w:World} {K:M3} {mg:Str->Ms} {base:Heap} {f:Addr} {fd:FuncData}
def rY:Sp:=[MV,∃ (ch:V) (c:M6) (b goal:Nat),vs=[ch,[MH,b],[MH,goal]]/\[Rc,H,ch]/\T4/\[OA,b]/\(goal=b\/Hr c b goal)/\ ∀ (H':Hp) (r:Addr) (way:QE),Pk->H r=none->RingAt H' r way->wG c b goal way->way.length<6->[Xi,r,H']]
theorem jX:[QI,[MC,Oj,"goal","ways","reached","place",PM],[MC,Oj,"goal"],rP]:=R1
theorem Es (F:[UG,"way_to","way_to",rP]) (B0:Q5):FnOk P w K mg base CX0 1 f fd [MC,Oj,"goal"] rY:=by
 refine [T5,jX]
 .refine fB h fun ch c b goal eq3 _=>?_;clear h;subst eq3;rfl
 refine cZ h fun ch c b goal eq4 hch fp bc pq0=>bZ pq0 fun hgoal q=>?_;clear pq0 h;subst eq4;have fw:=fp.w;have hu:=wb hr;refine [Xr,[YG,3,jX.nd,Ky RB (cM ah),ak (i4 Ny (rj (kN hu TR VY)) (av (cT Ny rfl (de (bX (zL rfl) rfl B0.list_ PyProof.Rows.boot_list [Ou,T3])) [Uy,4,jX.nd] (av (cT Ny rfl (mE rfl B0.enumerate_ [Ou,[Tq,([RV,bo,NB,WN])]]) (fL rfl ([YY,5,jX.nd,([YY,6,jX.nd,dG])])) (av [Z5,rj (kN hu ([Tq,pv 6]) VY),(av (vm hu VY ([Tq,pv 6]) (bD zG (uG hu VY WN P6) (cM [Ou,dB [RL,WN,Yc]])) rfl))])))))) (av (aI (uG hu VY TR P6)))]]
 refine aX (id hch :) fun a vs eq5 ha prc=>?_;subst eq5;intro D hD;refine ([U3,([Qq,0]),(fun l0 hl0=>?_)]);have nDl:D≠l0:=[OE,by rw [<- z,aq] at hl0; cases hl0]
 have nl0:H l0=none:=by rw [aK (Ne.symm nDl)] at hl0; exact hl0
 refine ([Oz,([TC,[My,b]]),(by rw [aK nDl,aq]),?_]);have s0:[Pc,(upd ([Py,upd H D (.dK []),l0,[]]) D (.dK [([TC,[My,b]],.ref l0)]))]:=(((aw hD (.dK [])).upd nl0 _).upd hD _);have wi0:WI c b H (upd ([Py,upd H D (.dK []),l0,[]]) D (.dK [([TC,[My,b]],.ref l0)])) D [(b,l0)] :=
  ⟨[A0d,[Mw,(nomatch ·),List.nodup_nil]],ME,[ZI,.inl ([MQ,hk])],[RD,by
   rw [[MQ,hx]];exact (bM [XS,nDl] nl0 (aC [] (af [] (by rw [aK (Ne.symm nDl),aq]) .nil) [T6,[Nl,rfl]] ([Mx,0<1])))]⟩
 refine kh (fun σ H4=>∃ (o4 o5 o6:RT) (W:[Qx,Addr]),σ=[Vc,[S3,b],[S3,goal],[Mv,D],o4,o5,o6]/\[Pc,H4]/\H4 D=[Mo,.dK (wK W)]/\WI c b H H4 D W) (fun _ H4=>6 - Bm D H4) (rL none none none [(b,l0)] rfl s0 aq wi0) ?_ ?_
 .intro σ H4 pr;refine F3 pr fun o4 o5 o6 W0 eq6 s4 hD4 wi=>?_;clear pr;subst eq6;have W6:=wi.len fw bc;refine [MR,[Od,D,_,(DGet.k (k:=[TC,[My,goal]]) hD4),ND]];by_cases hg:goal∈VZ
  .refine [NC,uQ hg,fun ga gm gv=>?_]
   rw [gv];refine T8;refine cb (wi.way _ gm :) fun _ ng pq0=>bp pq0 fun r rg wy rl=>?_;clear pq0;refine [MR,[Od,D,_,?_,q H4 ga r s4 ng rg wy L6]];have z:=DGet.k (k:=[TC,[My,goal]]) hD4;rw [gv] at z;exact z
  .rw [F0 hg];refine WJ;have d4:Bm D H4=W0.length:=by rw [AA hD4,vc]
   refine [Mu,[Rg,D,_,hD4,(by rw [vc]; omega),(fun L hL=>?_)]];rw [HM];have s5:=[XG,hL,nV (VZ)];have hL5:=aq (H:=H4) (a:=L) (o:=.lst (nV (VZ)));have s05:=Xk;have hD5:=s5 _ _ hD4;have wi5:=wi.same s5;have nLD:L≠D:=[OE,by rw [z,hD4] at hL; cases hL]
   generalize upd H4 L (.lst (nV (W0.map (·.1))))=H5 at s5 hL5 s05 hD5 wi5 ⊢;have nL:H L=none:=s4.free hL;refine ([UN,L,[Tn,hL5],?_]);refine j9 (K:=K) (a:=L) (xs:=nV (VZ)) (fun i σ H6=>∃ (o4 o5 o6:RT) (W:[Qx,Addr]),σ=[Vc,[S3,b],[S3,goal],[Mv,D],o4,o5,o6]/\[Pc,H6]/\H6 L=[VM,nV (VZ)]/\H6 D=[Mo,.dK (wK W)]/\WI c b H H6 D W/\(∃ nw,W=W0++nw)/\∀ j,j<i->∀ k,(VZ)[j]?=some k->∀ x∈d8 c k,x∈W.map OB) ([NA,_,_,_,W0,s05,hL5,hD5,(bM wi5 [Mw,[],by rw [List.append_nil]] (fun j hj=>[O9,hj,([Tg,j])]))]) (fun i σ H6 _ pr=>F3 pr fun _ _ _ _ _ _ z _=>[Tn,z]) ?_ ?_
   .intro i y σ H6 hy pr;refine cZ pr fun o4 o5 o6 W eq7 s6 hL6 hD6 pq0=>cb pq0 fun wi6 pp8 cov=>?_;clear pq0 pr;subst eq7;obtain ⟨nw,rfl⟩:=pp8;obtain ⟨k,hk,rfl⟩:∃ k,(VZ)[i]?=some k/\y=[MH,k]:=by
     unfold nV at hy;rw [Mz] at hy;cases e:(W0.map (·.1))[i]? with
     | none=>rw [e] at hy; cases hy
     | some k=>rw [e] at hy; cases hy; exact [Ma,k,rfl]
    have kW:k∈VZ:=[Mf,hk];have kc:[OA,k]:=wi.lt fw bc k kW;obtain ⟨x,hx⟩:∃ x,c[k]?=OV:=[Mw,c[k],[M4,kc]];refine [NC,cF prc hx,fun bv hbv pq0=>jF pq0 fun p t ls eq9 hp ht prl=>?_];clear pq0;subst eq9;refine [VO,a,_,_,_,[ZG,s6 _ _ ha],bh hbv,([NN,p,_,_,_,[ZG,s6 _ _ hp],rfl,([UN,t,[S2,s6 _ _ ht],?_])])];refine kB (K:=K) (a:=t) (xs:=ls) (fun j σ H7=>∃ (o5 o6:RT) (W:[Qx,Addr]),σ=[Vc,[S3,b],[S3,goal],[Mv,D],[S3,k],o5,o6]/\[Pc,H7]/\H7 L=[VM,nV (VZ)]/\H7 D=[Mo,.dK (wK W)]/\WI c b H H7 D W/\(∃ nw,W=W0++nw)/\(∀ j,j<i->∀ k,(VZ)[j]?=some k->∀ x∈d8 c k,x∈W.map OB)/\∀ p,p<j->∀ l,x.lis[p]?=Qv->l.whom∈W.map OB) ([SO,_,_,W0++nw,s6,hL6,hD6,(fI wi6 [Nl,nw] cov ([VV,[O9,hp,([Tg,p])]]))]) (fun j σ H7 _ pr=>fP pr fun _ _ _ _ z _=>[S2,z _ _ ht]) ?_ ?_
    .rintro j z σ H7 TT hz ⟨o5,o6,W,rfl,s7,hL7,hD7,wi7,⟨nw,rfl⟩,cov,cv2⟩ hTT;refine [NC,bg prl hz,fun l hl pq0=>[W5,fun zz eq0 hzz=>?_]];clear pq0;subst eq0;have s8:Same H7 ([Rz,H7,TT,[[MH,j],.ref zz]]):=aw hTT _;have eT:([Rz,H7,TT,[[MH,j],.ref zz]]) TT=[OD,[[MH,j],.ref zz]]:=aq;refine ([Rg,TT,_,([O1,eT]),rfl,([Xp,_,_,ZU])]);have s08:=s7.trans s8;have hL8:=s8 _ _ hL7;have hD8:=s8 _ _ hD7;have wi8:=wi7.same s8;have W6':=wi7.len fw bc;generalize upd H7 TT (.tup [.int (j:Int),.ref zz])=H8 at s8 eT s08 hL8 hD8 wi8 ⊢;have hzq:=SqT.of (K:=K) (s08 _ _ hzz);refine [QF,zz,_,_,_,hzq,[Mu,[Od,D,_,(DGet.k (k:=[TC,[My,l.whom]]) hD8),ND]]];by_cases hw:l.whom∈[Tr,W0++nw,OB]
     .refine [NC,uQ hw,fun _ _ gv=>?_]
      rw [gv];refine T8;refine ([SO,_,_,W0++nw,s08,hL8,hD8,(fI wi8 [Nl,nw] cov (fun p hp l' hl'=>?_))]);by_cases e:p=j
      .rw [e,hl] at hl'; cases hl'; exact hw
      .exact cv2 p L6 l' hl'
     .rw [F0 hw];refine WJ;have kW':k∈[Tr,W0++nw,OB]:=by rw [List.map_append]; exact [PB,kW]
      refine [NC,uQ kW',fun ka km kv=>?_]
      have dk:=DGet.k (k:=[TC,PZ]) hD8;rw [kv] at dk;refine cb (wi8.way _ km :) fun kn knone pq0=>bp pq0 fun r pp1 wy rl=>?_;clear pq0;obtain ⟨xs,hxs,prx⟩:=pp1;refine [MR,[Od,D,_,dk,[Mu,[U3,Zn,(fun T2 hT2=>?_)]]]];have s9:=aw hT2 [Rj,[[MH,k],[MH,j]]];refine [Mw,([Qq,1]),fun L2 hL2=>?_];have s10:=[XG,hL2,[.ref T2]];have hL10:=aq (H:=[Rz,H8,T2,[[MH,k],[MH,j]]]) (a:=L2) (o:=.lst [.ref T2]);have hT10:=s10 _ _ (aq (H:=H8) (a:=T2) (o:=.tup [[MH,k],[MH,j]]));have s810:=s9.trans s10;generalize upd (upd H8 T2 (.tup [.int (k:Int),.int (j:Int)])) L2 (.lst [.ref T2])=H10 at s10 hL10 hT10 s810 ⊢;have lx:=aJ prx;refine ([NN,ka,L2,xs,_,s810 _ _ hxs,hL10,(aH (by rw [sizeLine_eq]; show Mh+1<=_; omega) (fun nL3 hnL3=>?_))]);have s11:=[XG,hnL3,xs++[.ref T2]];have hN11:=aq (H:=H10) (a:=nL3) (o:=.lst (xs++[.ref T2]));have s811:=s810.trans s11;have hD11:=s811 _ _ hD8;have hT11:=s11 _ _ hT10;have nND:nL3≠D:=[OE,by rw [z,s810 _ _ hD8] at hnL3; cases hnL3]
      have nNL:nL3≠L:=[OE,by rw [z,s810 _ _ hL8] at hnL3; cases hnL3]
      have nN:H nL3=none:=(s08.trans s810).free hnL3;generalize upd H10 nL3 (.lst (xs++[.ref T2]))=H11 at s11 hN11 s811 hD11 hT11 ⊢;refine [VO,zz,_,_,_,[ZG,s811 _ _ (s08 _ _ hzz)],rfl,([Od,D,_,(DPut.k (k:=[TC,[My,l.whom]]) hD11 (by rw [vc]; exact Sf)),?_])];rw [Jt hw];have s12:[Pc,_]:=(s08.trans s811).upd hD (.dK (wK (W0++nw++[(l.whom,nL3)])));have nDW:∀ x∈W0++nw,x.2≠D:=[RD,(wi8.way x hx).1]
      have tS:iQ H11 (upd H11 D (.dK (wK (W0++nw++[(l.whom,nL3)])))):=vA fun zs e=>by rw [hD11] at e; cases e
      have rgU:∀ {x:Addr} {r:QE},x≠D->RingAt H11 x r->RingAt (upd H11 D (.dK (wK (W0++nw++[(l.whom,nL3)])))) x r:=fun {x r} nx h=>by
       refine ar h fun ys e p=>?_;clear h;exact (af ys (by rw [aK nx]; exact e) (bL ([Tz,z.mono tS]) p))
      have la:bO c k j=Qv:=gY hx hl;have newway:wG c b l.whom (r++[(k,j)]):=by
       have nb:l.whom≠b:=[UT,hw (by rw [e]; exact wi7.hb)]
       refine [PY,fI nb ?_ ?_ ?_]
       .rcases wy with ⟨rfl,kb⟩ | ⟨_,h0,_,_⟩
        .show some k=QZ;rw [[Nn,k=b,kb]]
        .cases r with
         | nil=>cases h0
         | cons s r=>exact h0
       .refine lK (u:=(k,j)) ?_ ([Yb,l,la]);rcases wy with ⟨rfl,_⟩ | ⟨_,_,ld,_⟩
        .exact trivial
        .exact ld
       .intro s hs;rcases List.mem_append.mp hs with hs | hs
        .rcases wy with ⟨rfl,_⟩ | ⟨_,_,_,v⟩
         .cases hs
         .exact v s hs
        .rw [[MQ,hs]]; exact [Mw,l,la]
      have wi12:WI c b H (upd H11 D (.dK (wK (W0++nw++[(l.whom,nL3)])))) D (W0++nw++[(l.whom,nL3)]):=by
       refine ⟨?_,?_,fun y hy=>?_,fun y hy=>?_⟩
       .rw [Mt,List.nodup_append];refine (bM wi7.nd ([A0d,[Mw,(nomatch ·),List.nodup_nil]]) (fun u hu v hv e=>?_));rw [[MQ,hv]] at e;have e':u=l.whom:=e;exact hw (e'▸hu)
       .rw [Mt]; exact [PB,wi7.hb]
       .rw [Mt] at hy;rcases List.mem_append.mp hy with z | z
        .exact wi7.hr y z
        .rw [[MQ,z]];right;rcases wi7.hr k kW' with e | e
         .rw [e] at la; exact .one (dz la)
         .exact .more e (dz la)
       .rcases List.mem_append.mp hy with z | z
        .refine cb (wi8.way y z :) fun n1 n2 pq0=>bp pq0 fun r' rg' wy' rl'=>?_;clear pq0;exact (bM n1 n2 (aC r' (rgU n1 (rg'.same s811)) wy' (by rw [List.length_append]; exact [NR,rl',Nat.le_add_right _ _])))
        .rw [[MQ,z]];refine (bM nND nN (aC (r++[(k,j)]) (rgU nND [Yt,_,hN11]) newway ?_))
         .exact cP ⟨T2,rfl,hT11⟩ (bL ([Tz,z.mono [OT,s811]]) prx)
         .rw [Na,Na];exact Nat.succ_lt_succ rl
      refine ([SO,_,_,(W0++nw++[(l.whom,nL3)]),s12,(by rw [aK nLD]; exact s811 _ _ hL8),aq,(fI wi12 [Mw,nw++[(l.whom,nL3)],by rw [List.append_assoc]] (fun i' hi' k' hk' y hy=>?_) (fun p hp l' hl'=>?_))])
      .rw [Mt]; exact [PB,cov i' hi' k' hk' y hy]
      .rw [Mt];by_cases e:p=j
       .rw [e,hl] at hl'; cases hl'
        exact [NH,([V0,rfl])]
       .exact [PB,cv2 p L6 l' hl']
    .intro σ H7 pr;refine fe pr fun o5 o6 W eq2 s7 hL7 hD7 pq0=>fX pq0 fun wi7 hnw cov cv2=>?_;clear pq0 pr;subst eq2;refine ([NA,_,_,_,W,s7,hL7,hD7,(bM wi7 hnw (fun j hj k' hk' y hy=>?_))]);by_cases e:j=i
     .rw [e,hk] at hk'; cases hk'
      rw [qN hx] at hy;refine [UJ,hy,fun l hl eq3=>?_];subst eq3;obtain ⟨p,hp,e2⟩:=[TH,hl];exact cv2 p (by rw [aJ prl]; exact hp) l (by rw [List.getElem?_eq_getElem hp,e2])
     .exact cov j L6 k' hk' y hy
   .intro σ H6 pr;refine cZ pr fun o4 o5 o6 W eq4 s6 hL6 hD6 pq0=>cb pq0 fun wi6 pp5 cov=>?_;clear pq0 pr;subst eq4;obtain ⟨nw,rfl⟩:=pp5;refine [W4,rL _ _ _ (W0++nw) rfl s6 hD6 wi6];show 6 - Bm D H6<6 - Bm D H4;rw [d4,AA hD6,vc,Na];have W6':=wi6.len fw bc;rw [Na] at W6';have:nw≠[]:=[UT,by
     subst e;rw [WQ] at cov;have cl:∀ k∈VZ,∀ x∈d8 c k,x∈VZ:=fun k hk x hx=>by
      obtain ⟨j,hj,e⟩:=[TH,hk];exact cov j (by rw [gu]; exact hj) k (by rw [List.getElem?_eq_getElem hj,e]) x hx
     have all:∀ k,Hr c b k->k∈VZ:=fun k h=>by
      induction h with
      | one h=>exact cl b wi.hb _ h
      | more _ h ih=>exact cl _ ih _ h
     rcases hgoal with e | e
     .rw [e] at hg; exact hg wi.hb
     .exact hg (all _ e)]
    have:=[Yy,this];omega
 .intro σ H4 Q1 Q2 hq pr;refine ar pr fun z1 e1 pq0=>[W5,fun z2 e2 pq1=>aX pq1 fun z3 z4 e3 e4 pq2=>ar pq2 fun z5 e5 h=>?_];clear pq0 pq1 pq2 pr;exact (af z1 e1 (af z2 e2 (aB z3 z4 e3 e4 (af z5 e5 (hq _ _ h)))))
end
end K82.S
namespace K82.S
open PySem L2
def shp (r:Nk):Nk:=r.map (· - r.headD 0)
theorem AK {x y:Nk} (hx:x≠[]) (hl:x.length=y.length):shp y=shp x↔y=x.map (·+(y.headD 0 - x.headD 0)):=by
 constructor
 .intro h;have e:y=[Tr,shp y,(·+y.headD 0)]:=by
   unfold shp;rw [Qb];have:((fun v:Int=>v+y.headD 0) ∘ fun v=>v - y.headD 0)=id:=funext fun v=>[NF,v - y.headD 0+y.headD 0=v]
   rw [this,List.map_id]
  refine e.trans ?_;rw [h];unfold shp;rw [Qb];exact [TM,fun v _=>[NF,v - x.headD 0+y.headD 0=v+(y.headD 0 - x.headD 0)]]
 .intro h;unfold shp;generalize y.headD 0=y0 at h ⊢;rw [h,Qb];exact [TM,fun v _=>[NF,v+(y0 - x.headD 0) - y0=v - x.headD 0]]
theorem G4 {R:Nat->Nk} {f l:Nat} {d:Int} (hn:R f≠[]) (h:Sh R f l d):d=(R l).headD 0 - (R f).headD 0:=by
 unfold Sh at h;cases e:R f with
 | nil=>exact [O9,e,hn]
 | cons v r =>
  rw [h,e];show d=v+d - v;omega
theorem qv:∀ xs ys:Nk,eqL (xs.map V.int) (ys.map V.int)=[N8,xs=ys]
 | [],[]=>rfl
 | [],_::_=>rfl
 | _::_,[]=>rfl
 | x::xs,y::ys=>by
  show ((x == y) && eqL (xs.map V.int) (ys.map V.int))=[N8,x::xs=y::ys];rw [qv xs ys,VF];simp
theorem t7 (xs:Nk):(xs.map V.int).all gD=true:=by
 rw [Wn];intro x hx;refine [UJ,hx,fun i _ eq6=>?_];subst eq6;rfl
theorem Fn (r:Nk):[Tr,r.map some,oV]=r.map V.int:=by
 rw [Qb];rfl
theorem rQ {r:Nk} (h:r≠[]):atI (r.map V.int) 0=[Mo,[Va,r.headD 0]]:=by
 cases r with
 | nil=>exact [O9,rfl,h]
 | cons v r=>exact bh (j:=0) rfl
def Ir:[OM,Nat×Nat×Int]->Nz
 | none=>[.str Wa]
 | some (f,p,d)=>[.str ZO,.int f,.int p,.int d]
theorem C1 {c:M6} {now:MU} (hl:[Vn,Vs]) (h:cm c now=[]):∀ k,[OA,k]->∃ v,now[k]?=V2:=by
 intro k hk;have e1:=[M4,hk];have e2:=[M4,[Yu,k<Vs]];cases o:now[k]'(by omega) with
 | some v=>rw [o] at e2; exact [Mw,v,e2]
 | none =>
  exfalso;rw [o] at e2;have hz:(c.zip now)[k]?=some (c[k],none):=vH e1 e2;have hm:(c[k],(none:M7))∈((c.zip now).take c.length).filter [UK,z.2.isNone]:=[A0c,[Nl,[Mf,(by rw [List.getElem?_take,if_pos hk]; exact hz)]]];have:c[k].name∈cm c now:=[Qg,[Yb,_,hm]];rw [h] at this;cases this
theorem qz {c:M6} (fc:ZE) {now:MU} (fx:Fix c (S8) now) (wn:cm c now=[]):∃ R,SeqR c R:=by
 have hw:yE c:=fun k b hb=>oM (fc.2 k b hb).1 (fc.2 k b hb).2.2.1
 have full:=C1 fx.1 wn;have step:∀ r:{ r:Nk // [Vn,r.length] },∃ r':{ r:Nk // [Vn,r.length] },Fix c (r.1.map some) (r'.1.map some):=fun r=>by
  obtain ⟨now',f'⟩:=rh fc.slow hw (r.1.map some);obtain ⟨r',hr'⟩:=all_some (l:=now') [ZI,by
   have hkc:[OA,k]:=by rw [<- f'.1]; exact hk
   obtain ⟨v,hv⟩:=full k hkc;exact rH fc.slow (b0:=r.1.map some) (b1:=S8) (fun k u hu=>by
    have hk':[OA,k]:=by have:=[L8,hu]; rw [List.length_map] at this; exact this
    exact Fz (by rw [r.2]; exact hk')) f' fx k v hv]
  subst hr';exact [Mw,([Mw,r',by have:=f'.1; rwa [List.length_map] at this]),f']
 let S:Nat->{ r:Nk // [Vn,r.length] }:=fun n=>Nat.rec [Mw,c.map (·.start),VA] (fun _ r=>Classical.choose (step r)) n
 exact ⟨fun n=>(S n).1,rfl,fun n=>Classical.choose_spec (step (S n))⟩
def xI (c:M6):Prop:=∀ now,Fix c (S8) now->cm c now=[]
theorem DN {c:M6} (fc:ZE) {now:MU} (fx:Fix c (S8) now) (h:cm c now=[]):xI c:=fun now' fx'=>by
 rw [lN fc.slow fx' fx];exact h
section
variable {P:Program} {w:World} {K:M3} {mg:Str->Ms} {base:Heap} {f:Addr} {fd:FuncData}
def kO:Sp:=[MV,∃ (ch:V) (c:M6),vs=[ch]/\[Rc,H,ch]/\ZE/\xI c/\∀ (H':Hp),Pk->Q .non H']
theorem ue:[QI,[MC,WU],[MC],fO]:=R1
theorem Bk (F:[UG,YS,YS,fO]) (B:Q5) (C_waiting:[R3,8,"waiting",[MC],jf]):FnOk P w K mg base CX0 9 f fd [MC] kO:=by
 refine [T5,ue]
 .refine bU h fun ch c eq7 _=>?_;clear h;subst eq7;rfl
 refine fz h fun ch c eq8 hch fc ag q=>?_;clear h;subst eq8;refine [Xr,[YG,1,ue.nd,[S4,C_waiting,RH],av [Z5,aZ qK ([Vy,bz,rfl,[Ou,P0]]) au U7,cq]]]
 refine [Mu,[Rg,ch,c,hch,fc,(fun H1 l now s1 hl hl1 fx=>?_)]];rw [ag now fx] at hl1;refine [Mu,[Od,l,_,[T6,[NO,hl1]],([Ux,[Mu,cw (q H1 s1)]])]]
def qB:Sp:=[MV,∃ (ch:V) (c:M6) (most:Nat) (R:Nat->Nk),vs=[ch,.int most]/\[Rc,H,ch]/\ZE/\1<=c.length/\most<=1000/\xI c/\SeqR c R/\∀ (H':Hp) (x:Addr) o,Pk->H x=none->qc R most o->H' x=[OD,Ir o]->[Xi,x,H']]
theorem j4:[QI,[MC,Wb,"told","shapes","first","later"],[MC,Wb],lR]:=R1
theorem Em (F:[UG,"round_of","round_of",lR]) (B:Q5) (C_refuse:[R3,9,YS,[MC],kO]) (C_strokes:[R3,7,"strokes",[MC,QU],g6]):FnOk P w K mg base CX0 10 f fd [MC,Wb] qB:=by
 refine [T5,j4]
 .refine fB h fun ch c most R eq9 _=>?_;clear h;subst eq9;rfl
 refine cZ h fun ch c most R eq0 hch fc c1 pq0=>fX pq0 fun hm ag sq q=>?_;clear pq0 h;subst eq0;refine [XD,(cH [S4,C_refuse,RH]),([YG,2,j4.nd,[VD,C_strokes,NB,P0],ak (cU (i:=3) [ZM] [] [] rfl j4.nd rfl OG (de TR) [Qt,([MY,0,([Mg,[[Rk,ZM]]]),Yq])] RN [Qt,(cz ["beat"] [ZM] [0] rfl (El (K:=K) rfl NB) [Wf,0,([Mg,[[Rk,"beat"],[Rk,ZM]]])] RN [Qt,(bD jy NB ([RZ,qu (K:=K) rfl,RB]))])]) (ak (cT Ny rfl (dH rfl B.range_ [Ou,[Vy,bz,rfl,[Ou,Qn]]]) [Uy,4,j4.nd] (av (cT Ny rfl (BS rfl B.range_ [RL,bD c9 WN au,[Vy,bz,rfl,[Ou,Qn]]]) [Uy,5,j4.nd] (av [Z5,aZ (Jg hr.units0) ([RV,aU,VY,Yc]) ([RV,aU,VY,WN]) U7,(av (aI (dB (ae a8 (ae WN [RL,bD jy (Yc) WN,bD jy ([RZ,aU,([RV,aU,TR,Yc])]) ([RZ,aU,([RV,aU,TR,WN])])])))))])))) (av (aI (dB [Ot,a8]))))])]
 refine [Mu,[Yv,ch,c,hch,fc,ag,(fun H1 s1=>?_)]];refine [MR,[SO,ch,c,most,([SD,s1]),fc,L6,(fun H2 t told rows s2 ht1 ht2 prt hlr hrows=>?_)]];have s02:=Rf;have htl:=[Q9,aJ prt,hlr];have rne:∀ n,R n≠[]:=fun n e=>by
  have h1:=sq.len n;rw [e] at h1;have h2:=c1;rw [<- h1] at h2;exact [O9,h2,([NF,¬ 1<=0])]
 have rowOf:∀ (n:Nat) v,told[n]?=Nw->∃ x,v=Ya/\H2 x=[VM,[Wj,R n]]:=fun n v hv=>by
  refine [NC,bg prt hv,fun row hrow pq0=>bp pq0 fun x eq1 _ hx=>?_];clear pq0;subst eq1;rw [xM fc.slow sq hrows n row hrow,Fn] at hx;exact [Ma,x,hx]
 clear prt ht1;refine [Mu,[UN,t,[Tn,ht2],Rl]];refine cX (K:=K) (a:=t) (xs:=told) (fun j ys H3=>Same H2 H3/\NQ=j/\∀ (n:Nat) v,ys[n]?=Nw->∃ x,v=Ya/\x≠D/\H3 x=[VM,[Wj,shp (R n)]]) (bM (aw hD _) rfl (fun _ _ e=>([PL,e]))) (fun j ys H3 _ ⟨z,_⟩=>[Tn,z _ _ ht2]) ?_ ?_
 .rintro j y ys H3 hj ⟨s3,hyl,hys⟩ hD3;refine [NC,rowOf j y hj,fun x eq2 hx=>?_];subst eq2;have hjm:j<Yl:=[L8,hj];have hx3:=s3 _ _ hx;refine V9;refine [Mu,[UN,x,[Tn,hx3],(fun D2 hD2=>?_)]];have nD:D2≠D:=[UT,by rw [e,hD3] at hD2; cases hD2]
  refine cX (K:=K) (a:=x) (xs:=[Wj,R j]) (fun i zs H4=>Same H3 H4/\zs=[Wj,[Tr,(R j).take i,(· - (R j).headD 0)]]) [Nl,aw hD2 _] (fun i zs H4 _ ⟨z,_⟩=>[Tn,z _ _ hx3]) ?_ ?_
  .rintro i y zs H4 hi ⟨s4,rfl⟩ hD4;rw [Mz] at hi;refine [NC,[VC,hi],fun u hu eq3=>?_];subst eq3;have hi6:i<[MP,R j]:=[L8,hu];have h6:=fc.1;rw [sq.len] at hi6;refine V9;refine [VO,x,_,_,_,[NO,s4 _ _ hx3],rQ (rne j),([Ux,(aC _ hD4 ?_ [Yt,_,[Nl,s4.upd hD2 _]])])]
   .rw [Mc,Mc,Nc];exact Sf
   .rw [[Tj,hu],Mt,Mt];exact aq
  .rintro zs H4 ⟨s4,rfl⟩ hD4;rw [Mc,NL] at hD4;have hD34:=s4 _ _ hD3;refine (aC _ hD34 (by rw [hyl]; exact Sf) (af _ (bM ((s3.trans s4).upd hD _) (by rw [List.length_append,hyl]; rfl) (fun n v hv=>?_)) aq));by_cases hn:n<NQ
   .rw [[OP,hn]] at hv;refine bp (hys n v hv :) fun x' eq4 nx hx'=>?_;subst eq4;exact ([Oz,x',nx,(by rw [aK nx]; exact s4 _ _ hx')])
   .have hlt:=[L8,hv];rw [Na] at hlt;have hlt':n<NQ+1:=hlt;have en:n=NQ:=Mr
    rw [en,YQ] at hv;cases hv
    refine ([Oz,D2,nD,?_]);rw [aK nD,en,hyl];exact hD4
 rintro ys H3 ⟨s3,hyl,hys⟩ hD3;have s03:=XH;have ht3:=s3 _ _ ht2;clear hD;have shapeAt:∀ n,n<=most->∃ x,atI ys Pp=[Mv,x]/\H3 x=[VM,[Wj,shp (R n)]]:=fun n hn=>by
  have e:=[M4,[Yu,n<NQ]];refine bp (hys n _ e :) fun x hv _ hx=>?_
  exact (af x (by rw [<- hv]; exact bh e) hx)
 have toldAt:∀ n,n<=most->∃ x,atI told Pp=[Mv,x]/\H3 x=[VM,[Wj,R n]]:=fun n hn=>by
  have e:=[M4,[Yu,n<Yl]];refine [NC,rowOf n _ e,fun x hv hx=>?_]
  exact (af x (by rw [<- hv]; exact bh e) (s3 _ _ hx))
 refine [Mu,[Od,t,_,[T6,[NO,ht3]],(cC [My,Yl] rfl L6 L6 ?_)]];refine fh (lo:=0) (n:=((Yl:Nat):Int).toNat) (fun i σ H4=>∃ (o4 o5:RT),σ=[some ch,[Mo,.int most],[Mv,t],[Mv,D],o4,o5]/\H4=H3/\∀ f',f'<i->∀ l,f'<l->l<=most->EM R f' l) ([ON,none,none,(fun _ h=>[O9,h,([Tg,_])])]) ?_ ?_
 .intro i σ H4 hi pr;refine aX pr fun o4 o5 eq5 eq6 no=>?_;clear pr;subst eq5;subst eq6;rw [Xv];have him:i<=most:=Mr
  refine [Mu,[Ux,[Mu,[Od,t,_,[T6,[NO,ht3]],([Od,X4+1,[My,Yl],fI L6 L6 L6 L6,?_])]]]];refine fh (lo:=X4+1) (n:=[TF,[My,Yl] - (X4+1)]) (fun j σ H5=>∃ (o5:RT),σ=[some ch,[Mo,.int most],[Mv,t],[Mv,D],[Mo,RF],o5]/\H5=H4/\∀ l,i<l->l<i+1+j->EM R i l) ([U8,(fun l h1 h2=>Mr)]) ?_ ?_
  .intro j σ H5 hj pr;refine bp pr fun o5 eq7 eq8 no2=>?_;clear pr;subst eq7;subst eq8;have hl:i+1+j<=most:=Mr
   have el:X4+1+YB=[RK,i+1+j]:=Mr
   rw [el];refine [NC,shapeAt (i+1+j) hl,fun x1 a1 k1=>?_]
   refine [NC,shapeAt i him,fun x2 a2 k2=>?_]
   refine [VO,D,_,_,_,[NO,hD3],a1,[VO,D,_,_,_,[NO,hD3],a2,([NN,x1,x2,_,_,[NO,k1],[NO,k2],bM (t7 _) (t7 _) ND])]];have lens:[MP,R i]=[MP,R (i+1+j)]:=by rw [sq.len,sq.len]
   refine dC (Xm) (Xm)
   .have cc':eqL ([Wj,shp (R (i+1+j))]) ([Wj,shp (R i)])=true:=cc;rw [qv] at cc';have sh:Sh R i (i+1+j) ((R (i+1+j)).headD 0 - (R i).headD 0):=(AK (rne i) lens).mp ([MF,cc']);refine [NC,toldAt (i+1+j) hl,fun y1 b1 m1=>?_]
    refine [NC,toldAt i him,fun y2 b2 m2=>?_]
    refine [Mn,[MR,[Ux,[VO,t,_,_,_,[NO,ht3],b1,([NN,y1,_,_,_,[NO,m1],rQ (rne _),[VO,t,_,_,_,[NO,ht3],b2,([NN,y2,_,_,_,[NO,m2],rQ (rne _),([VX,_,_,([Qq,4]),(fun T hT=>?_)])])]])]]]];refine q _ T (some (i,1+j,(R (i+1+j)).headD 0 - (R i).headD 0)) (s03.trans (aw hT _)) (s03.free hT) (dv L6 L6 (by rw [show i+(1+j)=i+1+j by omega]; exact sh) (fun f' l h1 h2 h3=>no f' h1 l h2 h3) (fun l h1 h2=>no2 l h1 L6)) ?_;have ep:[RK,i+1+j] - X4=[RK,1+j]:=Mr
    rw [aq];dsimp only;rw [ep];rfl
   .refine ([U8,(fun l h1 h2=>?_)]);by_cases e:l=i+1+j
    .subst e;intro d sh;refine cc ?_;show eqL ([Wj,shp (R (i+1+j))]) ([Wj,shp (R i)])=true;rw [qv];refine [MA,(AK (rne i) lens).mpr ?_];have hd:=G4 (rne i) sh;rw [<- hd];exact sh
    .exact no2 l h1 L6
  .intro σ H5 pr;refine bp pr fun o5 eq9 eq0 no2=>?_;clear pr;subst eq9;subst eq0;refine ([Ux,(fun f' h1 l h2 h3=>?_)]);by_cases e:f'=i
   .subst e;exact no2 l h2 L6
   .exact no f' L6 l h2 h3
 .intro σ H4 pr;refine aX pr fun o4 o5 eq1 eq2 no=>?_;clear pr;subst eq1;subst eq2;refine [Mw,([Qq,1]),fun T hT=>?_];exact q _ T none (s03.trans (aw hT _)) (s03.free hT) (fun f' l h1 h2=>no f' L6 l h1 h2) aq
def word:[OM,Nat×Nat×Int]->Str
 | none=>Wa
 | some _=>ZO
end
end K82.S
namespace K82.S
open PySem L2
def js (c:M6):Prop:=[Ru,c,SF=OC]
def lE (c:M6):Prop:=[Ru,c,SF=1]
def k8 (c:M6) (sd:Int):Prop:=(js c/\sd=1)\/(¬ js c/\lE c/\sd=-1)
section
variable {P:Program} {w:World} {K:M3} {mg:Str->Ms} {base:Heap} {f:Addr} {fd:FuncData}
def kD (K:M3):Sp:=[MV,∃ (x C dx:Addr) (n:Int),vs=[Ya]/\H x=[Mo,[Ve,C,[(Po,XB)]]]/\Cls K C/\NoAttr K C Po/\Q (XB) H]
theorem Bj:[QI,[Nd],[Nd],sQ]:=R1
theorem Cm (F:[UG,"wants","Rule.wants",sQ]):FnOk P w K mg base CX0 1 f fd [Nd] (kD K):=by
 refine [T5,Bj]
 .refine fB h fun x C dx n eq1 _=>?_;clear h;subst eq1;rfl
 refine cZ h fun x C dx n eq2 hx cl na q=>?_;clear h;subst eq2;refine [Yt,_,av (aI (oE NB rfl))];exact [Mu,cf x C dx _ (eY _ rfl hx cl na ([QW,q]))]
def ve:Sp:=[MV,∃ (ch:V) (c:M6),vs=[ch]/\[Rc,H,ch]/\ZE/\(js c\/lE c)/\∀ (H':Hp) (sd:Int),Pk->k8 c sd->Q (.int sd) H']
theorem Ht:[QI,[MC],[MC],nB]:=R1
theorem all_map {c:M6} {g:Bell->Bool}:((c.map g).all id=true)↔[Ru,c,g b=true]:=by rw [List.all_map,List.all_eq_true]; exact Iff.rfl
theorem GV {ff fw:Addr} {dw:FuncData} (F:[UG,"side_of","side_of",nB]) (B0:Q5) (GW:FnOk P w K mg base CX0 1 fw dw [Nd] (kD K)) (bW:[TB,K,dw,[Nd]])
  (C_rob:[R3,6,"rule_of_bell",[Oj],ic K ff fw]):FnOk P w K mg base CX0 7 f fd [MC] ve:=by
 refine [T5,Ht]
 .refine bU h fun ch c eq3 _=>?_;clear h;subst eq3;rfl
 refine fz h fun ch c eq4 hch fc ao q12=>?_;clear h;subst eq4;have hr1:Room 1 _:=Wx;refine [XD,[Z5,cO (aL (hV rfl) rfl B0.all_ SG [Ou,cz [Oj] [] [] rfl (dj NB) [Wf,0,([Mg,[[Rk,Oj]]])] RN [Qt,(fE c8 (tT (K:=K) (pl:=_) rfl [S4,C_rob,RH] GW hr1 bW .nil dJ) ([NX,tN (K:=K) rfl,rfl,B0.len_,[Ou,[RZ,Vd,NB]]]) U7)]]),av (aI au)],(ak [Z5,cO (aL (hV rfl) rfl B0.all_ SG [Ou,cz [Oj] [] [] rfl (dj NB) [Wf,0,([Mg,[[Rk,Oj]]])] RN [Qt,(fE c8 (tT (K:=K) (pl:=_) rfl [S4,C_rob,RH] GW hr1 bW .nil dJ) au U7)]]),av (aI (Im EJ au))] cq)]
 refine aX (id hch :) fun a vs eq5 ha prc=>?_;subst eq5;have lvc:=aJ prc;have c6:=fc.1;refine [Mu,[UN,a,WX,Rl]];refine cJ (K:=K) (a:=a) (xs:=vs) (fun j ys H2=>[Pc,H2]/\ys=[Tr,[Tr,c.take j,fun b=>[N8,[W2,SF]=[W2,[RK,OC]]]],V.bl]) [Nl,aw hD _] ([ZN,[S2,z _ _ ha]]) ?_ ?_
 .rintro j y ys H2 hj ⟨s2,rfl⟩ hD2;refine [NC,bg prc hj,fun b hb pp6=>?_];obtain ⟨x,t,ls,rfl,hx,ht,prl⟩:=pp6;have jc:[OA,j]:=Wy;refine V9;refine [Mu,[Rg,[MT,x],b,(dh x t ls rfl (s2 _ _ hx) (s2 _ _ ht) (bL ([Tz,z.mono [OT,s2]]) prl)),(fc.2 j b hb).2.2.1,(fun o H3 s3 pr=>fz pr fun C dx ho cl nN mf mw=>?_)]];have s03:=Qh;refine ([NA,C,o,dx,_,ho,cl,mw,([QW,([NA,o,C,dx,_,ho,cl,nN,?_])])]);refine [QF,x,_,_,_,[ZG,s03 _ _ hx],([Rg,t,_,([PY,[S2,s03 _ _ ht]]),rfl,?_])];rw [aJ prl];refine (aC _ (s3 _ _ hD2) ?_ [Yt,_,[Nl,(Qh).upd hD _]])
  .rw [Mc,Mc,Nc]; exact Sf
  .rw [dQ hb,Mt,Mt]; exact aq
 rintro ys H2 ⟨s2,rfl⟩ hD2;rw [lvc,NL] at hD2;refine ([Od,D,_,[NO,hD2],ND]);refine dC [UK,?_] [UK,?_]
 .refine q12 H2 1 s2 [T6,[Nl,[Pg,?_]]];have z':[W2,SF]=[W2,[RK,OC]]:=[MF,all_map.mp z b hb];injection z'
 have nA:¬ js c:=fun h=>z (all_map.mpr [Pg,[MA,(by rw [h b hb])]])
 refine [Mu,[UN,a,[S2,s2 _ _ ha],(fun D' hD'=>?_)]];refine cJ (K:=K) (a:=a) (xs:=vs) (fun j ys H3=>Same H2 H3/\ys=[Tr,[Tr,c.take j,fun b=>[N8,[W2,SF]=[W2,1]]],V.bl]) [Nl,aw hD' _] (fun j ys H3 _ ⟨z,_⟩=>[S2,z _ _ (s2 _ _ ha)]) ?_ ?_
 .rintro j y ys H3 hj ⟨s3,rfl⟩ hD3;refine [NC,bg prc hj,fun b hb pp7=>?_];obtain ⟨x,t,ls,rfl,hx,ht,prl⟩:=pp7;have jc:[OA,j]:=Wy;have s03:=Qh;refine V9;refine [Mu,[Rg,[MT,x],b,(dh x t ls rfl (s03 _ _ hx) (s03 _ _ ht) (bL ([Tz,z.mono [OT,s03]]) prl)),(fc.2 j b hb).2.2.1,(fun o H4 s4 pr=>fz pr fun C dx ho cl nN mf mw=>?_)]];refine ([NA,C,o,dx,_,ho,cl,mw,([QW,([NA,o,C,dx,_,ho,cl,nN,([QW,?_])])])]);refine (aC _ (s4 _ _ hD3) ?_ [Yt,_,[Nl,(s3.trans s4).upd hD' _]])
  .rw [Mc,Mc,Nc]; exact Sf
  .rw [dQ hb,Mt,Mt]; exact aq
 rintro ys H3 ⟨s3,rfl⟩ hD3;rw [lvc,NL] at hD3;have s03:=Qh;refine ([Od,D',_,[NO,hD3],ND]);refine dC [UK,?_] [UK,?_]
 .refine [Mu,q12 H3 (-1) s03 ([PY,bM nA ([Pg,?_]) rfl])];have z':[W2,SF]=[W2,1]:=[MF,all_map.mp z b hb];injection z'
 .exact (z (all_map.mpr [Pg,[MA,(by rw [(ao.resolve_left nA) b hb])]])).elim
end
end K82.S
namespace K82.S
open PySem L2
def IS (H:Hp) (nA:Addr) (n:Nat) (B:N7) (sd mb:Int) (h:Nat->Int):Prop:=∃ vs,H nA=[MI,vs]/\Ro=n/\∀ k,k<n->(k∈B->∃ a p q,vs[k]?=Vc/\H a=[OD,[.int p,.int q]]/\IsFrac (sd * h k) mb p q)/\(k∉B->vs[k]?=some .non)
structure PaceIs (c:List Bell) (b:Nat) (B:List Nat) (sd mt mb:Int) (way ring:List (Nat×Nat)) (h:Nat->Int):Prop where
 side:k8 c sd
 mem:∀ x,x∈B↔x=b\/Hr c b x
 up:B.Pairwise (·<·)
 mb1:1<=mb
 mb6:mb<=6
 low:Int.gcd mt mb=1
 mt0:0<=mt
 mt6:mt<=40000
 rg:RingIs c B ring
 backs:1<=ck (bkF c) ring
 mean:ck (btF c) ring * mb=ck (bkF c) ring * mt
 wy:∀ s,ring[0]?=some s->wG c b s.1 way
 way6:way.length<6
 still:jO c B (gnF c sd mt mb) h
 hb:∀ x,0<=h x/\h x<=21600000
theorem Ib {bt bk mt mb p q:Int} (bk1:1<=bk) (q1:1<=q) (e:p * bk=bt * q) (lt:bk * mt<bt * mb):mt * q<p * mb:=by
 refine Int.lt_of_mul_lt_mul_left (a:=bk) ?_ L6;have z:(bk * mt) * q<(bt * mb) * q:=Int.mul_lt_mul_of_pos_right lt L6;have e1:bk * (mt * q)=(bk * mt) * q:=by rw [Int.mul_assoc]
 have e2:bk * (p * mb)=(bt * mb) * q:=by
  have:bk * (p * mb)=(p * bk) * mb:=U1
  rw [this,e]; grind
 rw [e1,e2]; exact z
theorem Ba {bt bk mt mb p q:Int} (bk1:1<=bk) (q1:1<=q) (e:p * bk=bt * q) (lt:bt * mb<bk * mt):p * mb<mt * q:=by
 refine Int.lt_of_mul_lt_mul_left (a:=bk) ?_ L6;have z:(bt * mb) * q<(bk * mt) * q:=Int.mul_lt_mul_of_pos_right lt L6;have e1:bk * (mt * q)=(bk * mt) * q:=by rw [Int.mul_assoc]
 have e2:bk * (p * mb)=(bt * mb) * q:=by
  have:bk * (p * mb)=(p * bk) * mb:=U1
  rw [this,e]; grind
 rw [e1,e2]; exact z
theorem y9:∀ {ns:Nk} {k:Int},(∀ n∈ns,n<=k)->ns.sum<=k * [My,OY]
 | [],_,_=>[NF,Zl<=_ * 0]
 | n::ns,k,h=>by
  have a:=y9 fun m hm=>h m (List.mem_cons_of_mem n hm)
  have b:=h n ME;rw [Yf,Pd];have e:k * [RK,OY+1]=k * [My,OY]+k:=by rw [Int.natCast_add]; grind
  rw [e]; omega
theorem Jx {c:M6} (f:T4):0<=(WL).sum/\(WL).sum<=36000:=by
 constructor
 .have e:(WL).sum=ke (btN c) c.length:=by rw [rO,List.take_length]
  rw [e]; exact vo _ fun i _=>sR f i
 .have z:=y9 (ns:=WL) (k:=6000) fun n hn=>by
   refine [UJ,hn,fun b hb eq8=>?_];subst eq8;refine cb (f.bell b hb :) fun _ b6 bl=>?_
   have y:=y9 (ns:=[Sd,(·.beats)]) (k:=1000) fun n hn=>by
    refine [UJ,hn,fun l hl eq9=>?_];subst eq9;exact (bl l hl).2.2
   rw [Mc] at y;show ([Sd,(·.beats)]).sum<=6000;omega
  rw [Mc] at z;have:=f.l6;omega
theorem Kl {t b:Int} (h1:1<=b) (h6:b<=6) (t0:0<=t):0<=q60 t b/\q60 t b<=60 * t:=by
 unfold q60;have:b=1\/b=2\/b=3\/b=4\/b=5\/b=6:=Mr
 rcases this with rfl | rfl | rfl | rfl | rfl | rfl <;> omega
def Iq (sd:Int) (o:[OM,HO]):Nat:=match o with
 | some (.tup [.int t,.int b])=>if sd=1 then (360000 - q60 t b).toNat else (q60 t b).toNat
 | _=>0
def Lp (sd:Int) (H:Hp):[OM,RT]->Nat
 | some (some (.ref m))=>Iq sd (H m)
 | _=>0
def uh (sd:Int) (σ:[MG,RT]) (H:Hp):Nat:=Lp sd H (σ[4]?)
theorem iJ {sd mt mb:Int} {H:Hp} {m:Addr} {v0 v1 v2 v3:RT} {σ:[MG,RT]} (h:H m=[OD,[.int mt,.int mb]]):uh sd (v0::v1::v2::v3::[Mv,m]::σ) H=[Mj,sd=1,[TF,360000 - q60 mt mb],[TF,q60 mt mb]]:=by
 show Iq sd (H m)=_;rw [h]; rfl
inductive FoundAt (c:List Bell) (B:List Nat) (sd mt mb:Int) (H0 H:Hp) (fA:Addr) (rv:V):Prop
 | ring (r:Addr) (ring:List (Nat×Nat)) (h1:H fA=some (.tup [.non,.ref r])) (h2:H0 r=none) (h3:RingAt H r ring) (h4:RingIs c B ring) (h5:0<ck (gnF c sd mt mb) ring)
 | still (hA r:Addr) (hs:List Int) (ring:List (Nat×Nat)) (h1:H fA=some (.tup [.ref hA,.non])) (h2:H hA=some (.lst (hs.map V.int))) (h3:hs.length=c.length) (h4:jO c B (gnF c sd mt mb) (hF hs)) (hb:∀ x,0<=hF hs x/\hF hs x<=21600000) (e:rv=.ref r) (h5:H0 r=none) (h6:RingAt H r ring) (h7:RingIs c B ring)
   (h8:1<=ck (bkF c) ring) (h9:ck (btF c) ring * mb=ck (bkF c) ring * mt)
section
variable {P:Program} {w:World} {K:M3} {mg:Str->Ms} {base:Heap} {f:Addr} {fd:FuncData}
def p7:Sp:=[MV,∃ (ch:V) (c:M6) (b:Nat) (now:MU),vs=[ch,[MH,b]]/\[Rc,H,ch]/\ZE/\T4/\[OA,b]/\Fix c (S8) now/\cm c now=[]/\(js c\/lE c)/\ ∀ (H':Hp) (T mA wA rA nA:Addr) (B:N7) (sd mt mb:Int) (way ring:QE) (h:Nat->Int),Pk->H T=none->H wA=none->H rA=none->H nA=none->H' T=[OD,[.ref mA,.ref wA,.ref rA,.ref nA]]-> H' mA=[OD,[.int mt,.int mb]]->RingAt H' wA way->RingAt H' rA ring->IS H' nA c.length B sd mb h->[Zo,c,b,B,sd,mt,mb,way,h]->[Xi,T,H']]
theorem fG:[QI,[MC,Oj,Y8,Sn,"mean",A03,"found","numbers","other"],[MC,Oj],zX]:=R1
theorem Gd (F:[UG,"pace","pace",zX]) (B0:Q5) (C_refuse:[R3,9,YS,[MC],kO]) (C_side:[R3,7,"side_of",[MC],ve]) (C_hears:[R3,1,"hears",[MC,Oj],qH])
  (C_all:[R3,1,Yz,[MC,Y8],lA]) (C_settled:[R3,2,"settled",[MC,Sn,"mean",Y8],lU]) (C_mean:[R3,3,"mean_of",[MC,A03],oI]) (C_fraction:[R3,2,"fraction",["top","bottom"],ib])
  (C_way:[R3,1,"way_to",[MC,Oj,"goal"],rY]):FnOk P w K mg base CX0 10 f fd [MC,Oj] p7:=by
 refine [T5,fG]
 .refine fB h fun ch c b now eq0 _=>?_;clear h;subst eq0;rfl
 refine cZ h fun ch c b now eq1 hch fc fp pq0=>dE pq0 fun bc fx nw ao q=>?_;clear pq0 h;subst eq1;have ag:=DN fc fx nw;refine [XD,(cH [S4,C_refuse,RH]),([YG,2,fG.nd,[S4,C_side,RH],[YG,3,fG.nd,(aL (vh rfl) rfl B0.sorted_ A02 [Ou,bX (Cr rfl) rfl B0.set_ PyProof.Rows.boot_set [Ou,bD zG (cM [Ou,P0]) [VD,C_hears,NB,P0]]]),[YG,4,fG.nd,[VD,C_all,NB,Qn],[YG,5,fG.nd,cK,[YG,6,fG.nd,[S4,C_settled,(ae NB (ae VY [RL,WN,Qn]))],ak (i4 Ny (aZ j3 ([Tq,pv 6]) cK U7) ([YG,5,fG.nd,([Tq,pv 6]),[YG,4,fG.nd,[VD,C_mean,NB,Yc],av [Vx,6,fG.nd,[S4,C_settled,(ae NB (ae VY [RL,WN,Qn]))]]]])) (ak (cU (i:=7) ["other"] [] [] rfl fG.nd rfl OG (dj NB) [Wf,0,([Mg,[[Rk,"other"]]])] RN [Qt,cK]) (ak (cT Ny rfl (de VY) [Uy,8,fG.nd] (av (jg [VD,C_fraction,(bD gW TR ([RV,aU,([Tq,pv 6]),pv 8])),[Tq,WN]] (oU (pv 7) (pv 8) set_list)))) (av (aI (dB (ae WN (ae [S4,C_way,(ae NB [RL,RB,[Tq,([RZ,aU,Yc])]])] [RL,Yc,pv 7])))))))]]]]])]
 refine aX (id hch :) fun a vs eq2 ha prc=>?_;subst eq2;have lvc:=aJ prc;have c6:=fc.1;have fw:=fp.w;refine [Mu,[Yv,VU,c,hch,fc,ag,(fun H1 s1=>?_)]];refine [Mu,[Yv,VU,c,([SD,s1]),fc,ao,(fun H2 sd s2 hsd=>?_)]];have s02:=Rf;have sd1:sd=1\/sd=-1:=hsd.imp [UK,z.2] [OE,z.2.2]
 refine ([U3,([Qq,1]),(fun l0 hl0=>?_)]);have s3:=[XG,hl0,[[MH,b]]];have hl3:=aq (H:=H2) (a:=l0) (o:=.lst [[MH,b]]);have s03:=XH;generalize upd H2 l0 (.lst [.int (b:Int)])=H3 at s3 hl3 s03 ⊢;refine [MR,[SO,VU,c,b,([SD,s03]),fw,bc,(fun H4 l1 R s4 nl1 hl1 hR=>?_)]];have s04:=s03.trans s4;have R6:=hR.len fw;refine ([NN,l0,l1,_,_,s4 _ _ hl3,hl1,(aH (by rw [gu,sizeLine_eq]; show 1+R.length<=_; omega) (fun l2 hl2=>?_))]);have s5:=[XG,hl2,nV (b::R)];have hl5:=aq (H:=H4) (a:=l2) (o:=.lst (nV (b::R)));have s05:=s04.trans s5;show _;have b6:∀ k∈b::R,k<6:=[ZI,by
  rcases List.mem_cons.mp hk with rfl | hk
  .omega
  .exact [NR,((hR.2 k).mp hk).lt fw,c6]]
 refine ([Rg,l2,b::R,[NO,hl5],b6,(fun sA m hsA hm=>?_)]);have s6:=s05.trans (aw hsA (SetO w sA m));refine ([Od,sA,m,aq,(fun bA hbA=>?_)]);have s7:=s6.trans ([XG,hbA,nV (SQ.ofM m)]);have hB7:=aq (H:=upd ([Py,H4,l2,nV (b::R)]) sA (SetO w sA m)) (a:=bA) (o:=.lst (nV (SQ.ofM m)));rw [hm] at s7 hB7;rw [hm];have memB:∀ x,x∈SQ.ym (b::R)↔x=b\/Hr c b x:=[Z2,by
  rw [SQ.DP,List.mem_cons,hR.2 x];refine [Mw,[OE,z.2],[OE,[Mw,?_,z]]];rcases z with z | z
  .rw [z]; omega
  .exact [NR,z.lt fw,c6]]
 have upB:(SQ.ym (b::R)).Pairwise (·<·):=List.Pairwise.filter _ List.pairwise_lt_range;generalize SQ.ym (b::R)=B at s7 hB7 memB upB ⊢;have bB:b∈B:=(memB b).mpr (Qf);have neB:B≠[]:=[OE,by rw [z] at bB; cases bB]
 have ltB:∀ x∈B,[OA,x]:=[RD,by
  rcases (memB x).mp hx with z | z
  .rw [z]; exact bc
  .exact z.lt fw]
 have clB:iE c B:=fun x hx k hk=>by
  rcases (memB x).mp hx with z | z
  .rw [z] at hk; exact (memB k).mpr ([PY,.one hk])
  .exact (memB k).mpr ([PY,.more z hk])
 have lB:B.length<=6:=[Qi,iT c.length B (upB.imp Nat.ne_of_lt) ltB,c6];refine [MR,dh VU c sd rfl ([SD,s7]) fp (fun H8 mA s8 nmA hmA=>?_)];have s08:=s7.trans s8;have hB8:=s8 _ _ hB7;obtain ⟨S0,S1⟩:=Jx fp;have m0:0<=([Mj,sd=1,0,(WL).sum+1])/\([Mj,sd=1,0,(WL).sum+1])<=40000:=by split <;> omega
 have never:∀ h,¬ jO c B (gnF c sd ([Mj,sd=1,0,(WL).sum+1]) 1) h:=fun h st=>by
  rcases hsd with ⟨_,e⟩ | ⟨_,aO,e⟩
  .subst e;rw [U2] at st;exact Bf fp neB clB ltB st
  .subst e;rw [[Ph,M0]] at st;exact CJ fp neB clB ltB fx nw aO st
 generalize (if sd=1 then 0 else (c.map btB).sum+1)=mt at hmA m0 never;refine [Mn,[Mn,[MR,cf VU c bA mA ([NA,B,mt,1,sd,([SD,s08]),fp,hB8,(dv neB lB ltB clB (dv hmA sd1 (fI m0.1 m0.2 M0 M0) (fun H9 T hA hs s9 _ hT hh lh st _=>[O9,st,never _]) (fun H9 T r ring s9 nT hT nr rg ri pos=>?_)))])]]];have rback:∀ {ring:QE} {mt mb:Int},1<=mb->RingIs c B ring->0<ck (gnF c sd mt mb) ring->1<=ck (UO) ring:=fun {ring mt mb} mb1 ri pos=>by
  refine fX (f9 fp ri.lis :) fun x1 x2 x3 x4=>?_
  rcases hsd with ⟨aA,e⟩ | ⟨_,_,e⟩
  .exact yL fp ri fx nw aA
  .rw [p9,e] at pos;refine [O3,?_]
   have z:ck (UO) ring=0:=Mr
   rw [z] at pos;have:0<=ck (Wr) ring * mb:=Int.mul_nonneg L6 L6;omega
 have s09:=s08.trans s9;refine kh (fun σ H4=>∃ (mA fA:Addr) (rv:V) (mt mb:Int),σ=[Vc,[S3,b],[Mo,.int sd],[Mv,bA],[Mv,mA],some rv,[Mv,fA],none,none]/\[Pc,H4]/\H4 bA=[VM,nV B]/\H4 mA=[OD,[.int mt,.int mb]]/\(0<=mt/\mt<=40000/\1<=mb/\mb<=6/\Int.gcd mt mb=1)/\FoundAt c B sd mt mb H H4 fA rv) (uh sd) (cf mA T .non mt (eY 1 rfl s09 (s9 _ _ hB8) (s9 _ _ hmA) (aH (dv m0.1 m0.2 M0 M0 (Int.gcd_one_right _)) (.ring r ring hT (s08.free nr) rg ri pos)))) ?_ ?_
 .intro σ H4 pr;refine bN pr fun mA fA rv mt pq0=>gq pq0 fun mb eq3 s4' hB4 hM4 pq1=>bZ pq1 fun pp4 fd=>?_;clear pq0 pq1 pr;subst eq3;obtain ⟨mt0,mt4,mb1,mb6,low⟩:=pp4;rcases fd with ⟨r,ring,h1,h2,h3,h4,h5⟩ | ⟨hA,r,hs,ring,h1,h2,h3,h4,hb,rfl,h5,h6,h7,h8,h9⟩
  .
   have hf:=SqT.of (K:=K) h1;have bk1:=rback mb1 h4 h5;refine fX (f9 fp h4.lis :) fun x1 x2 x3 x4=>?_
   obtain ⟨rl1,rl6⟩:=h4.len ltB fp;refine [QF,fA,_,_,_,hf,([Su,WJ])];refine [QF,fA,_,_,_,hf,?_];refine [MR,[NA,VU,c,r,ring,([SD,s4']),fp,h3,(fI h4.lis rl6 bk1 (fun H5 mA' p q' s5 nm hm' fr=>?_))]];have s05':=s4'.trans s5;have q1:=fr.pos;have qle:=fr.qle;have p0:0<=p:=by
    have e:=fr.eq;refine [O3,?_]
    have z:p * ck (UO) ring<0:=Int.mul_neg_of_neg_of_pos L6 L6;have z2:0<=ck (Wr) ring * q':=Int.mul_nonneg L6 L6;omega
   have p6:p<=6000:=[NV,fr.ple]
   have q6:q'<=6:=Mr
   have meq:ck (Wr) ring * q'=ck (UO) ring * p:=by rw [Int.mul_comm (ck (bkF c) ring) p]; exact fr.eq.symm
   have less:uh sd [Vc,[S3,b],[Mo,.int sd],[Mv,bA],[Mv,mA'],[Mv,r],[Mv,fA],none,none] H5<uh sd [Vc,[S3,b],[Mo,.int sd],[Mv,bA],[Mv,mA],some rv,[Mv,fA],none,none] H4:=by
    rw [iJ hm',iJ hM4];rw [p9] at h5;obtain ⟨n1,n2⟩:=Kl q1 q6 p0;rcases sd1 with e | e
    .rw [[P9,e],[P9,e]];rw [e] at h5;have:=F6 mb1 mb6 q1 q6 (Ib (mt:=mt) (mb:=mb) bk1 q1 fr.eq L6);omega
    .rw [[Ph,L6],[Ph,L6]];rw [e] at h5;have:=F6 q1 q6 mb1 mb6 (Ba (mt:=mt) (mb:=mb) bk1 q1 fr.eq L6);omega
   refine [Mn,[Mn,[MR,cf VU c bA mA' ([NA,B,p,q',sd,([SD,s05']),fp,s5 _ _ hB4,(dv neB lB ltB clB (dv hm' sd1 (fI p0 L6 q1 q6) (fun H6 T hA hs s6 nT hT hh lh st hb=>?_) (fun H6 T r2 ring2 s6 nT hT nr2 rg2 ri2 pos2=>?_)))])]]]
   .refine [W4,(cf mA' T [MT,r] p (eY q' rfl (s05'.trans s6) (s6 _ _ (s5 _ _ hB4)) (s6 _ _ hm') (aH (dv p0 L6 q1 q6 fr.low) (.still hA r hs ring hT hh lh st hb rfl h2 ((h3.same s5).same s6) h4 bk1 meq))))];show uh sd [Vc,[S3,b],[Mo,.int sd],[Mv,bA],[Mv,mA'],[Mv,r],[Mv,T],none,none] H6<_;rw [iJ (s6 _ _ hm')];rw [iJ hm'] at less;exact less
   .refine [W4,(cf mA' T [MT,r] p (eY q' rfl (s05'.trans s6) (s6 _ _ (s5 _ _ hB4)) (s6 _ _ hm') (aH (dv p0 L6 q1 q6 fr.low) (.ring r2 ring2 hT (s05'.free nr2) rg2 ri2 pos2))))];show uh sd [Vc,[S3,b],[Mo,.int sd],[Mv,bA],[Mv,mA'],[Mv,r],[Mv,T],none,none] H6<_;rw [iJ (s6 _ _ hm')];rw [iJ hm'] at less;exact less
  .
   have hf:=SqT.of (K:=K) h1;refine [QF,fA,_,_,_,hf,([Su,T8])];refine [Mu,[UN,a,[S2,s4' _ _ ha],(fun nA hnA=>?_)]];refine cJ (K:=K) (a:=a) (xs:=vs) (fun j ys H5=>Same H4 H5/\ys=[OW,j,V.non]) [Nl,aw hnA _] (fun j ys H5 _ ⟨z,_⟩=>[S2,z _ _ (s4' _ _ ha)]) ?_ ?_
   .rintro j y ys H5 hj ⟨s5,rfl⟩ hD5;have jv:j<Ro:=[L8,hj];refine V9;refine (aC _ hD5 ?_ [Yt,_,[Nl,s5.upd hnA _]])
    .rw [Qo]; exact Sf
    .rw [List.replicate_succ']; exact aq
   rintro ys H5 ⟨s5,rfl⟩ hnA5;rw [lvc] at hnA5;have nnA:H nA=none:=s4'.free hnA;refine [Mu,[UN,bA,[Tn,s5 _ _ hB4],?_]];refine j9 (K:=K) (a:=bA) (xs:=nV B) (fun i σ H6=>∃ (o8:RT) (zs:Nz),σ=[Vc,[S3,b],[Mo,.int sd],[Mv,bA],[Mv,mA],[Mv,r],[Mv,fA],[Mv,nA],o8]/\Same H4 H6/\H6 nA=[MI,zs]/\[Vn,Qy]/\ ∀ k,[OA,k]->(k∈B.take i->∃ x p q,zs[k]?=[Mv,x]/\x≠nA/\H6 x=[OD,[.int p,.int q]]/\IsFrac (sd * hF hs k) mb p q)/\(k∉B.take i->zs[k]?=some .non)) ([Yv,_,_,s5,hnA5,Qo,([ZI,[Mw,([UK,by rw [List.take_zero] at z; cases z]),fun _=>by rw [List.getElem?_replicate,if_pos hk]]])]) (fun i σ H6 _ pr=>aX pr fun _ _ _ z _=>[Tn,z _ _ hB4]) ?_ ?_
   .intro i y σ H6 hy pr;refine fz pr fun o8 zs eq5 s6 hN6 lz ent=>?_;clear pr;subst eq5;obtain ⟨k,hk,rfl⟩:∃ k,B[i]?=some k/\y=[MH,k]:=by
     unfold nV at hy;rw [Mz] at hy;cases e:B[i]? with
     | none=>rw [e] at hy; cases hy
     | some k=>rw [e] at hy; cases hy; exact [Ma,k,rfl]
    have kc:[OA,k]:=ltB k [Xg,hk];refine [VO,fA,_,_,_,[ZG,s6 _ _ h1],rfl,[NW,hA,_,_,_,[NO,s6 _ _ h2],bh (Dz L6),([VX,_,_,[T6,[Mw,Mr,Mr]],[QF,mA,_,_,_,[ZG,s6 _ _ hM4],([Rg,_,_,mb1,?_,(fun x p q' hx fr=>?_)])]])]]
    .unfold Big;exact [NR,[Yu,mb.natAbs<2 ^ 10],Nat.pow_le_pow_right M0 M0]
    have s7':=aw hx [Rj,[.int p,.int q']];have hN7:=s7' _ _ hN6;have nxN:x≠nA:=[OE,by rw [z,hN6] at hx; cases hx]
    refine [VO,nA,_,_,k,hN7,uI L6,?_];refine ([Yv,_,(zs.set k [MT,x]),(s6.trans s7').upd hnA _,aq,([WS,lz]),(fun k' hk'=>[Mw,[OE,?_],[OE,?_]])])
    .rw [dQ hk] at z;by_cases e:k'=k
     .subst e;exact (dh x p q' (by rw [List.getElem?_set,if_pos rfl,if_pos (by omega)]) nxN (by rw [aK nxN]; exact aq) fr)
     .have z':k'∈B.take i:=by
       rcases List.mem_append.mp z with z | z
       .exact z
       .exact [O9,([MQ,z]),e]
      refine jF ((ent k' hk').1 z' :) fun x' p' q'' e1 e2 e3 e4=>?_
      exact (dh x' p' q'' (by rw [List.getElem?_set,if_neg (Ne.symm e)]; exact e1) e2 (by rw [aK e2]; exact s7' _ _ e3) e4)
    .rw [dQ hk] at z;have e:k'≠k:=[UT,z ([NH,([V0,e])])]
     rw [List.getElem?_set,[Ph,[XS,e]]];exact (ent k' hk').2 fun zz=>z ([PB,zz])
   .intro σ H6 pr;refine fz pr fun o8 zs eq6 s6 hN6 lz ent=>?_;clear pr;subst eq6;have s06:=s4'.trans s6;rw [gu,NL] at ent;refine dW ([A0f,h7.ne] :) fun st ring' eq7=>?_;subst eq7;refine [NC,id h6,fun xs hxs prx=>?_]
    refine [NC,cF prx (i:=0) rfl,fun v0 hv0 pq0=>[W5,fun t0 eq8 ht0=>?_]];clear pq0;subst eq8;have stB:=h7.mem st ME;refine [Mn,[Mn,[VO,r,_,_,_,[NO,s6 _ _ hxs],bh hv0,([NN,t0,_,_,_,[ZG,s6 _ _ ht0],rfl,([NA,VU,c,b,st.1,([SD,s06]),fp,bc,(aH ((memB _).mp stB) (fun H7 wA way s7' nw' rgw wy w6=>?_))])])]]];refine [Mu,[U3,([Qq,4]),(fun T2 hT2=>?_)]];have s8':=aw hT2 [Rj,[.ref mA,.ref wA,.ref r,.ref nA]];have s68:=s7'.trans s8';refine q _ T2 mA wA r nA B sd mt mb way (st::ring') (hF hs) (s06.trans s68) ((s06.trans s7').free hT2) (s06.free nw') h5 nnA aq (s68 _ _ (s6 _ _ hM4)) (rgw.same s8') ((h6.same s6).same s68) (aC zs (s68 _ _ hN6) lz ([ZI,[Mw,[OE,?_],(ent k hk).2]])) ⟨hsd,memB,upB,mb1,mb6,low,mt0,mt4,h7,h8,h9,fun s' e=>?_,w6,h4,hb⟩
    .refine jF ((ent k hk).1 z :) fun x p q' e1 _ e3 e4=>?_
     exact (iR x p q' e1 (s68 _ _ e3) e4)
    .cases e; exact wy
 .intro σ H4 Q1 Q2 hq pr;refine ar pr fun z1 e1 pq0=>cZ pq0 fun z2 z3 z4 z5 e2 e3 e4 e5 pq1=>bZ pq1 fun e6 pq2=>ar pq2 fun z6 e7 h=>?_;clear pq0 pq1 pq2 pr;exact (af z1 e1 (az z2 z3 z4 z5 e2 e3 e4 e5 (aH e6 (af z6 e7 (hq _ _ h)))))
end
end K82.S
namespace K82.S
open PySem L2
theorem Gp {bs:MU} {v:Int} (h:Due bs [My,Wu] (Nw)):(∀ o∈bs,∃ u,o=NZ/\u<=v)/\Nw∈bs:=by
 obtain ⟨h1,h2⟩:=h;have e:bs.countP (fun o=>leO o v)=Wu:=by
  have:=List.countP_le_length (p:=fun o=>leO o v) (l:=bs);have h1':[My,Wu]<=[RK,bs.countP fun o=>leO o v]:=h1;omega
 have all:∀ o∈bs,∃ u,o=NZ/\u<=v:=fun o ho=>ki (List.countP_eq_length.mp e o ho)
 refine [Mw,all,[O3,?_]];have e2:bs.countP (fun o=>leO o (v - 1))=Wu:=List.countP_eq_length.mpr fun o ho=>by
  refine [NC,all o ho,fun u eq1 hu=>?_];subst eq1;refine [MA,?_];have:u≠v:=[OE,no (z▸ho)]
  omega
 have h2':[RK,bs.countP fun o=>leO o (v - 1)]<[My,Wu]:=h2;omega
theorem GL {bs:MU} {v:Int} (h:Due bs 1 (Nw)):(∀ u,NZ∈bs->v<=u)/\Nw∈bs:=by
 obtain ⟨h1,h2⟩:=h;have h1':[My,1]<=[RK,bs.countP fun o=>leO o v]:=h1;have h2':[RK,bs.countP fun o=>leO o (v - 1)]<1:=h2;have low:∀ u,NZ∈bs->v<=u:=fun u hu=>by
  have:=List.countP_eq_zero.mp [Yu,bs.countP (fun o=>leO o (v - 1))=0] _ hu;have:¬ u<=v - 1:=[OE,this ([MA,z])]
  omega
 refine [W4,low];refine [NC,List.countP_pos_iff.mp [Yu,0<bs.countP (fun o=>leO o v)],fun o ho z=>?_]
 refine [NC,ki z,fun u eq2 hu=>?_];subst eq2;have:=low u ho;have:u=v:=Mr
 exact this▸ho
def Jo (c:M6) (row:MU):Prop:=∀ k,[OA,k]->∃ u,row[k]?=[Mo,NZ]
theorem xG {c:M6} {before now:MU} (fx:[XI,c,now]) (h:cm c now=[]):Jo c now:=[ZI,by
 refine [NC,fx.2 k c[k] ([M4,hk]),fun o ho _=>?_]
 cases o with
 | some u=>exact [Mw,u,ho]
 | none =>
  have m:(c[k],(none:M7))∈(c.zip now).filter [OE,z.2.isNone]:=[A0c,[Nl,[Mf,(vH ([M4,hk]) ho)]]];have e:((c.zip now).filter [OE,z.2.isNone])=[]:=by
   have e:=[Z7,h];rwa [[Oy,(by rw [List.length_zip]; omega)]] at e
  rw [e] at m;cases m]
theorem xX {c:M6} (hc:jL c) {rows:[MG,MU]} (h:Rows c rows) {now:MU} (fx:Fix c (S8) now) (go:Jo c now):∀ (n:Nat) (x:MU),rows[n]?=OV->Jo c x
 | 0,x,e,k,hk=>by
  rw [h.first x e];exact [Mw,c[k].start,by rw [List.getElem?_map,List.getElem?_eq_getElem hk]; rfl]
 | n+1,x,e,k,hk=>by
  have nl:n<QT:=[NV,[L8,e]]
  have ih:=xX hc h fx go n rows[n] ([M4,nl]);have f:=h.next n _ x ([M4,nl]) e;obtain ⟨u,hu⟩:=go k hk;refine rH hc (fun j w hj=>?_) f fx k u hu;have jl:j<[MP,S8]:=[L8,hj];exact ih j (by unfold starts at jl; rwa [List.length_map] at jl)
def at2 (rows:[MG,MU]) (n x:Nat):Int:=(((rows[n]?).bind (·[x]?)).join).getD 0
theorem rb {rows:[MG,MU]} {n x:Nat} {row:MU} {v:Int} (h:rows[n]?=some row) (h':row[x]?=V2):at2 rows n x=v:=by unfold at2; rw [h]; show ((row[x]?).join).getD 0=v; rw [h']; rfl
def bkN (l:Lis):Nat:=[Mj,l.back,1,0]
theorem Ik (l:Lis):[RK,bkN l]=bkI l:=by unfold bkN bkI; split <;> rfl
structure Strk (c:List Bell) (sd:Int) (N:Nat) (R:Nat->Nat->Int):Prop where
 z:∀ x b,c[x]?=some b->R 0 x=b.start
 le:∀ n x p l,n<N->bO c x p=some l->sd * (R (n+1 - bkN l) l.whom+l.beats)<=sd * R (n+1) x
 ex:∀ n x,n<N->x<c.length->∃ p l,bO c x p=some l/\R (n+1) x=R (n+1 - bkN l) l.whom+l.beats
theorem Gx {c:M6} {sd:Int} (fi:ZE) {rows:[MG,MU]} (h:Rows c rows) (hs:k8 c sd) {now:MU} (fx:Fix c (S8) now) (w0:cm c now=[]) {N:Nat} (hN:QT=N+1):Strk c sd N (at2 rows):=by
 have al:=xX fi.slow h fx (xG fx w0);have row:∀ n,n<=N->∃ r,rows[n]?=some r:=fun n hn=>[Mw,rows[n]'L6,[M4,_]]
 have come1:∀ n,n<N->∀ x y,rows[n]?=OV->rows[n+1]?=VI->∀ l:Lis,[OA,l.whom]->gk x y l=[Mo,[YJ,at2 rows (n+1 - bkN l) l.whom]]:=fun n hn x y hx hy l hl=>by
  unfold bkN;cases hb:l.back with
  | true =>
   obtain ⟨u,hu⟩:=al n x hx l.whom hl;rw [qj (w:=u) (by rw [hb]; exact hu)];congr 2;exact (rb hx hu).symm
  | false =>
   obtain ⟨u,hu⟩:=al (n+1) y hy l.whom hl;rw [qj (w:=u) (by rw [hb]; exact hu)];congr 2;exact (rb hy hu).symm
 have due:∀ n,n<N->∀ x b,c[x]?=QZ->([ZV,sd * ([YJ,at2 rows (n+1 - bkN l) l.whom])<=sd * at2 rows (n+1) x])/\∃ l∈b.lis,at2 rows (n+1) x=[YJ,at2 rows (n+1 - bkN l) l.whom]:=fun n hn x b hb=>by
  obtain ⟨r,hr⟩:=row n L6;obtain ⟨r',hr'⟩:=row (n+1) L6;have f:=h.next n r r' hr hr';refine [NC,f.2 x b hb,fun o ho d=>?_]
  have xc:[OA,x]:=Wy;obtain ⟨v,hv⟩:=al (n+1) r' hr' x xc;obtain rfl:o=Nw:=[Mq,ho.symm.trans hv];rw [rb hr' hv];have lw:[ZV,gk r r' l=[Mo,[YJ,at2 rows (n+1 - bkN l) l.whom]]]:=fun l hl=>come1 n hn r r' hr hr' l ((fi.2 x b hb).2.2.2 l hl).1
  have mem:Nw∈bH b r r'->∃ l∈b.lis,v=[YJ,at2 rows (n+1 - bkN l) l.whom]:=fun m=>by
   refine [UJ,m,fun l hl e=>?_]
   exact (af l hl ([Mq,e.symm.trans (lw l hl)]))
  have inn:[ZV,[Mo,[YJ,at2 rows (n+1 - bkN l) l.whom]]∈bH b r r']:=fun l hl=>[Qg,af l hl (lw l hl)]
  rcases hs with ⟨aa,rfl⟩ | ⟨_,ao,rfl⟩
  .rw [aa b [Xg,hb]] at d;have e:OC=[MP,bH b r r']:=(VA).symm;rw [e] at d;obtain ⟨d1,d2⟩:=Gp d;refine [Mw,Vz,mem d2];refine [NC,d1 _ (inn l hl),fun u e hu=>?_]
   have:=[Mq,e];omega
  .rw [ao b [Xg,hb]] at d;obtain ⟨d1,d2⟩:=GL d;refine [Mw,Vz,mem d2];have:=d1 _ (inn l hl);omega
 refine ⟨fun x b hb=>?_,fun n x p l hn hl=>?_,fun n x hn hx=>?_⟩
 .obtain ⟨r,hr⟩:=row 0 (OX);have e:=h.first r hr;refine rb hr ?_;rw [e,Mz,hb];rfl
 .refine [NC,eC hl,fun b hb hp=>?_]
  exact (due n hn x b hb).1 l [Xg,hp]
 .refine [NC,(due n hn x c[x] ([M4,hx])).2,fun l hl e=>?_]
  obtain ⟨p,hp⟩:=[OQ,hl];exact (bP p l (gY ([M4,hx]) hp) e)
theorem JH (R:Nat->Int):∀ k:Nat,∃ low:Int,∀ x,x<k->low<=R x
 | 0=>[Mw,0,fun x h=>[O9,h,([Tg,x])]]
 | k+1=>by
  obtain ⟨low,h⟩:=JH R k;refine [Mw,[Mj,low<=R k,low,R k],ZQ];by_cases e:x=k
  .subst e; split <;> omega
  .have:=h x L6;split <;> omega
theorem Av {c:M6} {B:N7} {sd mt mb Q D:Int} {N:Nat} {R:Nat->Nat->Int} {h:Nat->Int} (S:Strk c sd N R) (fp:T4) (st:jO c B (gnF c sd mt mb) h) (cl:iE c B) (lt:[Ru,B,[OA,b]]) (Q0:0<=Q)
  (base:∀ y∈B,∀ b,c[y]?=QZ->Q * (sd * b.start * mb - h y)<=D):∀ n,n<=N->∀ x∈B,Q * (sd * R n x * mb - h x - sd * mt * n)<=D
 | 0,_,x,hx=>by
  have e:=[M4,lt x hx];have:=base x hx _ e;rw [S.z x _ e,Int.natCast_zero,Int.mul_zero,Int.sub_zero];exact this
 | n+1,hn,x,hx=>by
  have ih:=Av S fp st cl lt Q0 base n L6;obtain ⟨low,hlow⟩:=JH (R (n+1)) c.length;have key:∀ m:Nat,∀ x∈B,[TF,R (n+1) x - low]<=m->Q * (sd * R (n+1) x * mb - h x - sd * mt * [RK,n+1])<=D:=by
   intro m;induction m with
   | zero =>
    intro x hx hm;refine bU (S.ex n x (by omega) (lt x hx) :) fun p l hl e=>?_
    have lb:=fp.lis hl;have wB:l.whom∈B:=cl x hx _ (dz hl);have s:=st x hx p l hl;unfold gnF at s;rw [iA hl,gX hl] at s;have b1:=hlow x (lt x hx);cases hb:l.back with
    | false =>
     have b0:bkN l=0:=by unfold bkN; rw [hb]; rfl
     rw [b0] at e;have:=hlow l.whom lb.1;have e':R (n+1) x=R (n+1) l.whom+l.beats:=e;omega
    | true =>
     have b0:bkN l=1:=by unfold bkN; rw [hb]; rfl
     have bI:bkI l=1:=by unfold bkI; rw [hb]; rfl
     rw [b0] at e;have e':R (n+1) x=R n l.whom+l.beats:=e;rw [bI] at s;refine Int.le_trans (Int.mul_le_mul_of_nonneg_left ?_ Q0) (ih _ wB);rw [e',Int.natCast_add,Int.natCast_one];have q1:sd * (R n l.whom+l.beats) * mb=sd * R n l.whom * mb+sd * (l.beats * mb):=by grind
     have q2:sd * (l.beats * mb - 1 * mt)=sd * (l.beats * mb) - sd * mt:=by grind
     have q3:sd * mt * ((n:Int)+1)=sd * mt * n+sd * mt:=by grind
     rw [q2] at s;rw [q1,q3];omega
   | succ m im =>
    intro x hx hm;refine bU (S.ex n x (by omega) (lt x hx) :) fun p l hl e=>?_
    have lb:=fp.lis hl;have wB:l.whom∈B:=cl x hx _ (dz hl);have s:=st x hx p l hl;unfold gnF at s;rw [iA hl,gX hl] at s;cases hb:l.back with
    | false =>
     have b0:bkN l=0:=by unfold bkN; rw [hb]; rfl
     have bI:bkI l=0:=by unfold bkI; rw [hb]; rfl
     rw [b0] at e;have e':R (n+1) x=R (n+1) l.whom+l.beats:=e;have:=hlow l.whom lb.1;rw [bI] at s;refine Int.le_trans (Int.mul_le_mul_of_nonneg_left ?_ Q0) (im _ wB (by omega));rw [e'];have q1:sd * (R (n+1) l.whom+l.beats) * mb=sd * R (n+1) l.whom * mb+sd * (l.beats * mb):=by grind
     have q2:sd * (l.beats * mb - 0 * mt)=sd * (l.beats * mb):=by grind
     rw [q2] at s;rw [q1];omega
    | true =>
     have b0:bkN l=1:=by unfold bkN; rw [hb]; rfl
     have bI:bkI l=1:=by unfold bkI; rw [hb]; rfl
     rw [b0] at e;have e':R (n+1) x=R n l.whom+l.beats:=e;rw [bI] at s;refine Int.le_trans (Int.mul_le_mul_of_nonneg_left ?_ Q0) (ih _ wB);rw [e',Int.natCast_add,Int.natCast_one];have q1:sd * (R n l.whom+l.beats) * mb=sd * R n l.whom * mb+sd * (l.beats * mb):=by grind
     have q2:sd * (l.beats * mb - 1 * mt)=sd * (l.beats * mb) - sd * mt:=by grind
     have q3:sd * mt * ((n:Int)+1)=sd * mt * n+sd * mt:=by grind
     rw [q2] at s;rw [q1,q3];omega
  exact key _ x hx Tx
theorem E2 (c:M6):∀ r:QE,0<=ck (UO) r
 | []=>Ov
 | s::r=>by
  have:=E2 c r;have z:0<=bkF c s.1 s.2:=by
   cases e:bO c s.1 s.2 with
   | none=>unfold bkF; rw [e]; decide
   | some l=>rw [gX e]; exact (om l).1
  show 0<=bkF c s.1 s.2+ck (UO) r;omega
theorem t9 {c:M6} {sd:Int} {N:Nat} {R:Nat->Nat->Int} (S:Strk c sd N R) (hs:sd=1\/sd=-1):∀ {r:QE} {s:Nat×Nat} {goal n k:Nat},iW c (s::r) goal->1<=n->PZ=ck (UO) (s::r)->n+k<=N-> sd * (R n goal+ck (Wr) (s::r))<=sd * R (n+k) s.1
 | [],s,goal,n,k,⟨l,h1,h2⟩,n1,hk,hN=>by
  have e1:ck (UO) [s]=bkI l:=by show bkF c s.1 s.2+0=_; rw [gX h1]; omega
  have e2:ck (Wr) [s]=l.beats:=by show btF c s.1 s.2+0=_; rw [iA h1]; omega
  rw [e1,<- Ik] at hk;have hk':k=bkN l:=Mr
  have z:=S.le (n+k - 1) s.1 s.2 l L6 h1;rw [[MM,n+k - 1+1=n+k],[MM,n+k - bkN l=n],h2] at z;rw [e2];exact z
 | u::r,s,goal,n,k,⟨⟨l,h1,h2⟩,h3⟩,n1,hk,hN=>by
  have e1:ck (UO) (s::u::r)=bkI l+ck (UO) (u::r):=by show bkF c s.1 s.2+_=_; rw [gX h1]
  have e2:ck (Wr) (s::u::r)=l.beats+ck (Wr) (u::r):=by show btF c s.1 s.2+_=_; rw [iA h1]
  have nn:=E2 c (u::r);obtain ⟨k',hk'⟩:=[UI,nn];rw [e1,<- Ik,hk'] at hk;have ek:k=bkN l+k':=Mr
  have z:=S.le (n+k - 1) s.1 s.2 l L6 h1;have ih:=t9 S hs h3 n1 (k:=k') hk'.symm L6;rw [[MM,n+k - 1+1=n+k],[MM,n+k - bkN l=n+k'],h2] at z;rw [e2];rcases hs with rfl | rfl <;> omega
end K82.S
namespace K82.S
open PySem L2
structure StrkE (c:List Bell) (sd:Int) (R:Nat->Nat->Int):Prop where
 at_:∀ N,Strk c sd N R
theorem Kc {a b C:Int} (h:∀ j:Nat,YB * a<=YB * b+C):a<=b:=by
 refine [O3,?_]
 have lt:b+1<=a:=Mr
 have z:=h (C.toNat+1);have e:[RK,C.toNat+1] * (b+1)<=[RK,C.toNat+1] * a:=[SA,lt,Int.natCast_nonneg _];rw [Int.mul_add,Int.mul_one] at e;omega
theorem yK {c:M6} {b:Nat} {B:N7} {sd mt mb d:Int} {way ring:QE} {h:Nat->Int} {R:Nat->Nat->Int} {n0 p:Nat} (S:StrkE c sd R) (fp:T4) (hsd:sd=1\/sd=-1) (pi:[Zo,c,b,B,sd,mt,mb,way,h]) (cl:iE c B) (lt:∀ x∈B,[OA,x])
  (per:∀ x,[OA,x]->∀ n,n0<=n->∀ j:Nat,R (n+j * p) x=R n x+j * d):mt * p=d * mb:=by
 match ring,pi with
 | [],pi=>exact absurd rfl pi.rg.ne
 | st::ring',pi =>
 have stB:=pi.rg.mem st List.mem_cons_self;have stc:=lt _ stB;obtain ⟨D,hD⟩:∃ D:Int,∀ y∈B,∀ b',c[y]?=some b'->1 * (sd * b'.start * mb - h y)<=D:=by
  obtain ⟨low,hl⟩:=JH (fun y=>-(1 * (sd * (((c[y]?).map (·.start)).getD 0) * mb - h y))) c.length;refine ⟨-low,fun y hy b' hb'=>?_⟩;have z:=hl y (lt y hy);rw [hb'] at z;have z':low<=-(1 * (sd * b'.start * mb - h y)):=z;omega
 have up:∀ n,1 * (sd * R n st.1 * mb - h st.1 - sd * mt * n)<=D:=fun n=>Av (S.at_ n) fp pi.still cl lt (by decide) hD n (Nat.le_refl _) st.1 stB
 have a1:sd * d * mb<=sd * mt * p:=by
  refine Kc (C:=D+h st.1+sd * mt * n0 - sd * R n0 st.1 * mb) fun j=>?_
  have z:=up (n0+j * p);rw [per _ stc n0 (Nat.le_refl _) j] at z;have e1:sd * (R n0 st.1+(j:Int) * d) * mb=sd * R n0 st.1 * mb+(j:Int) * (sd * d * mb):=by grind
  have e2:sd * mt * ((n0+j * p:Nat):Int)=sd * mt * n0+(j:Int) * (sd * mt * p):=by rw [Int.natCast_add,Int.natCast_mul]; grind
  rw [e1,e2] at z;omega
 obtain ⟨k,hk⟩:=Int.eq_ofNat_of_zero_le (show 0<=ck (bkF c) (st::ring') from by have:=pi.backs; omega);have k1:1<=k:=by have:=pi.backs; omega
 have ringj:∀ j n:Nat,1<=n->sd * R n st.1+(j:Int) * (sd * ck (btF c) (st::ring'))<=sd * R (n+j * k) st.1:=by
  intro j;induction j with
  | zero=>intro n _; rw [Nat.zero_mul,Int.natCast_zero,Int.zero_mul,Int.add_zero]; exact Int.le_refl _
  | succ j ih =>
   intro n n1;have z1:=ih n n1;have z2:=t9 (S.at_ (n+j * k+k)) hsd (pi.rg.lead st rfl) (n:=n+j * k) (k:=k) (by omega) hk.symm (Nat.le_refl _);rw [Nat.succ_mul,<- Nat.add_assoc,Int.natCast_add,Int.natCast_one,Int.add_mul,Int.one_mul];have e:sd * (R (n+j * k) st.1+ck (btF c) (st::ring'))=sd * R (n+j * k) st.1+sd * ck (btF c) (st::ring'):=Int.mul_add ..;rw [e] at z2;omega
 have a2:(p:Int) * (sd * ck (btF c) (st::ring'))<=k * (sd * d):=by
  have z:=ringj p (n0+1) (by omega);rw [Nat.mul_comm p k,per _ stc (n0+1) (by omega) k,Int.mul_add] at z;have e:sd * ((k:Int) * d)=(k:Int) * (sd * d):=by grind
  rw [e] at z;omega
 have a3:sd * mt * p<=sd * d * mb:=by
  have mean:=pi.mean;rw [hk] at mean;refine Int.le_of_mul_le_mul_left (a:=(k:Int)) ?_ (by omega);have z:=Int.mul_le_mul_of_nonneg_right a2 (show 0<=mb by have:=pi.mb1; omega);have e1:(p:Int) * (sd * ck (btF c) (st::ring')) * mb=p * (sd * (ck (btF c) (st::ring') * mb)):=by grind
  have mean':ck (btF c) (st::ring') * mb=(k:Int) * mt:=mean;rw [e1,mean'] at z;have e2:(p:Int) * (sd * ((k:Int) * mt))=(k:Int) * (sd * mt * p):=by grind
  have e3:(k:Int) * (sd * d) * mb=(k:Int) * (sd * d * mb):=by grind
  rw [e2,e3] at z;exact z
 have eq:sd * (mt * p)=sd * (d * mb):=by
  have e1:sd * mt * p=sd * (mt * p):=by grind
  have e2:sd * d * mb=sd * (d * mb):=by grind
  omega
 rcases hsd with rfl | rfl <;> omega
theorem AY {c:M6} {b1 b2:Nat} {B1 B2:N7} {sd mt1 mb1 mt2 mb2:Int} {w1 r1 w2 r2:QE} {h1 h2:Nat->Int} (p1:PaceIs c b1 B1 sd mt1 mb1 w1 r1 h1) (p2:PaceIs c b2 B2 sd mt2 mb2 w2 r2 h2) (sub:∀ u∈r2,u.1∈B1):sd * (mt2 * mb1)<=sd * (mt1 * mb2):=by
 match r2,p2,sub with
 | [],p2,_=>exact absurd rfl p2.rg.ne
 | st::r,p2,sub =>
 have z:=sf (h:=h1) (g:=gnF c sd mt1 mb1) (p2.rg.lead st rfl) fun u hu l hl=>p1.still u.1 (sub u hu) u.2 l hl
 rw [p9] at z;have bk:=p2.backs;have mean:=p2.mean;have m2:=p2.mb1;refine Int.le_of_mul_le_mul_left (a:=ck (bkF c) (st::r)) ?_ (by omega);have z':mb2 * (sd * (ck (btF c) (st::r) * mb1 - ck (bkF c) (st::r) * mt1))<=mb2 * 0:=Int.mul_le_mul_of_nonneg_left (by omega) (by omega);have e1:mb2 * (sd * (ck (btF c) (st::r) * mb1 - ck (bkF c) (st::r) * mt1))=sd * mb1 * (ck (btF c) (st::r) * mb2) - ck (bkF c) (st::r) * (sd * (mt1 * mb2)):=by grind
 rw [e1,mean] at z';have e2:sd * mb1 * (ck (bkF c) (st::r) * mt2)=ck (bkF c) (st::r) * (sd * (mt2 * mb1)):=by grind
 rw [e2] at z';omega
theorem Bd {m1 k1 m2 k2:Nat} (e:m2 * k1=m1 * k2) (g1:Nat.gcd m1 k1=1) (g2:Nat.gcd m2 k2=1):m1=m2/\k1=k2:=by
 have d1:k1 ∣ k2:=(Nat.Coprime.dvd_of_dvd_mul_left (k:=k1) (m:=m1) (n:=k2) (Nat.Coprime.symm g1) [Mw,m2,by rw [<- e,Nat.mul_comm]]);have d2:k2 ∣ k1:=(Nat.Coprime.dvd_of_dvd_mul_left (k:=k2) (m:=m2) (n:=k1) (Nat.Coprime.symm g2) [Mw,m1,by rw [e,Nat.mul_comm]]);have ek:=Nat.dvd_antisymm d1 d2;have d3:m1 ∣ m2:=(Nat.Coprime.dvd_of_dvd_mul_right (k:=m1) (n:=k1) (m:=m2) g1 [Mw,k2,e]);have d4:m2 ∣ m1:=(Nat.Coprime.dvd_of_dvd_mul_right (k:=m2) (n:=k2) (m:=m1) g2 [Mw,k1,e.symm]);exact [Mw,Nat.dvd_antisymm d3 d4,ek]
theorem tX {c:M6} {b1 b2:Nat} {B1 B2:N7} {sd mt1 mb1 mt2 mb2:Int} {w1 r1 w2 r2:QE} {h1 h2:Nat->Int} (hsd:sd=1\/sd=-1) (p1:PaceIs c b1 B1 sd mt1 mb1 w1 r1 h1) (p2:PaceIs c b2 B2 sd mt2 mb2 w2 r2 h2) (s1:∀ u∈r2,u.1∈B1) (s2:∀ u∈r1,u.1∈B2):mt1=mt2/\mb1=mb2:=by
 have a:=AY p1 p2 s1;have b:=AY p2 p1 s2;have e:mt2 * mb1=mt1 * mb2:=by rcases hsd with rfl | rfl <;> omega
 obtain ⟨m1,rfl⟩:=[UI,p1.mt0];obtain ⟨m2,rfl⟩:=[UI,p2.mt0];obtain ⟨k1,rfl⟩:=[UI,(show 0<=mb1 by have:=p1.mb1; omega)];obtain ⟨k2,rfl⟩:=[UI,(show 0<=mb2 by have:=p2.mb1; omega)];have g1:Nat.gcd m1 k1=1:=p1.low;have g2:Nat.gcd m2 k2=1:=p2.low;have e':m2 * k1=m1 * k2:=by exact_mod_cast e
 obtain ⟨x,y⟩:=Bd e' g1 g2;rw [x,y];exact [Nl,rfl]
end K82.S
namespace K82.S
open PySem L2
def mn:Nk->Int
 | []=>0
 | [x]=>x
 | x::y::r=>min x (mn (y::r))
theorem yA:∀ {r:Nk},r≠[]->mn r∈r
 | [],h=>[O9,rfl,h]
 | [x],_=>[V0,rfl]
 | x::y::r,_=>by
  have:=yA (r:=y::r) Pz;show min x (mn (y::r))∈x::y::r;by_cases h:x<=mn (y::r)
  .rw [Int.min_eq_left h]; exact ME
  .rw [Int.min_eq_right L6]; exact [MX,this]
theorem Io:∀ {r:Nk} {a:Int},a∈r->mn r<=a
 | [],_,h=>([PL,h])
 | [x],a,h=>by rw [List.mem_singleton.mp h]; exact Ov
 | x::y::r,a,h=>by
  show min x (mn (y::r))<=a;rcases List.mem_cons.mp h with rfl | h
  .exact Int.min_le_left _ _
  .exact [Zj,Int.min_le_right _ _,Io h]
end K82.S
namespace K82.S
open PySem L2
def yx:[V3,Str]:=[("drop","c"),("show","c"),(Zy,"cbn"),("waits","c"),("pace","cb"),(A03,"cb"),(ZO,"cn"),("alike","ccnb"),("slow","cbnn"),("join","ccc")]
def nF:Vm:=yx.map [OE,(([U4,z.1]:Key),V.str z.2)]
theorem Iw:[Rk,"n"]=[P5,110]:=L5
section
variable {P:Program} {w:World} {K:M3} {mg:Str->Ms} {base:Heap} {f:Addr} {fd:FuncData}
def rZ:Sp:=[MV,∃ (ch:V) (c:M6) (i:Nat) (b:Bell),vs=[ch,Sj]/\[Rc,H,ch]/\c.length<=6/\c[i]?=QZ/\(Ng).Nodup/\∀ H',Pk->Q ([MH,i]) H']
theorem sZ:[QI,[MC,"name","number",Oj],[MC,"name"],lT]:=R1
theorem EU (F:[UG,"place_of","place_of",lT]) (B:Q5):FnOk P w K mg base CX0 1 f fd [MC,"name"] rZ:=by
 refine [T5,sZ]
 .refine fB h fun ch c i b eq1 _=>?_;clear h;subst eq1;rfl
 refine cZ h fun ch c i0 b0 eq2 pp3 h6 hi0 pq0=>bZ pq0 fun nd q=>?_;clear pq0 h;subst eq2;obtain ⟨a,bs,rfl,ha,prb⟩:=pp3;refine [XD,(cT Ny rfl (mE rfl B.enumerate_ RH) (fL rfl ([YY,2,sZ.nd,([YY,3,sZ.nd,dG])])) (av [Z5,aZ c8 ([Tq,VY]) RB U7,av (aI TR)])),cq]
 have hbl:=aJ prb;have at0:(Ng)[i0]?=some b0.name:=by rw [List.getElem?_map,hi0]; rfl
 refine ⟨_,rfl,a,rfl,[T7,WX],kB (K:=K) (a:=a) (xs:=bs) (fun i σ H2=>∃ (o2 o3:RT),σ=[Vc,[Mo,.str b0.name],o2,o3]/\[Pc,H2]/\∀ (j:Nat) b',j<i->c[j]?=some b'->b'.name≠b0.name) ([Od,none,none,Yk,(fun j b' hj=>[O9,hj,([Tg,j])])]) (fun i σ H2 _ pr=>aX pr fun _ _ _ s2 _=>[S2,s2 _ _ ha]) ?_ ?_⟩
 .rintro i y σ H2 T hi ⟨o2,o3,rfl,s2,no⟩ hT;refine [NC,bg prb hi,fun b hb pp4=>?_];obtain ⟨x,t,ls,rfl,hx,ht,prl⟩:=pp4;have s3:Same H2 ([Rz,H2,T,[[MH,i],Ya]]):=aw hT _;have s23:=Qh;have eT:([Rz,H2,T,[[MH,i],Ya]]) T=[OD,[[MH,i],Ya]]:=aq;refine ([Rg,T,_,([O1,eT]),rfl,([Xp,_,_,ZU])]);refine [QF,x,_,_,_,[ZG,s23 _ _ hx],?_];refine ([U8,ND]);refine dC (Xm) (Xm)
  .have e:V.str b.name=V.str b0.name:=[MF,cc];injection e with e;have ai:(Ng)[i]?=some b0.name:=by rw [List.getElem?_map,hb,<- e]; rfl
   have ei:i=i0:=([Y1,[L8,ai],nd]).mp (ai.trans at0.symm);subst ei;exact [Mu,q _ s23]
  .refine ([Od,_,_,s23,(fun j b' hj hb'=>?_)]);rcases Nat.lt_succ_iff_lt_or_eq.mp hj with hlt | rfl
   .exact no j b' hlt hb'
   .rw [hb] at hb';cases hb'
    exact [UT,cc ([MA,([R5,V.str,e])])]
 .intro σ H2 pr;refine aX pr fun o2 o3 eq5 s2 no=>?_;clear pr;subst eq5;exact [O9,rfl,(no i0 b0 (by rw [hbl]; exact [L8,hi0]) hi0)]
def uX:Sp:=[MV,∃ (l:Addr) (ws:MB) (h0 fm:Str),vs=[X5]/\H l=[VM,Sv]/\ws[0]?=some h0/\dF nF ([U4,h0])=[Mo,.str fm]/\h0≠"alike"/\Q [XE,fm] H]
theorem AR:[QI,[Xy,"form"],[Xy],nG]:=R1
theorem gH {ws:MB} {h0:Str} (h:ws[0]?=some h0):atI (Sv) 0=[Mo,.str h0]:=bh (j:=0) (by rw [List.getElem?_map,h]; rfl)
theorem Hq {aF:Addr} (F:[UG,"form_of","form_of",nG]) (mF:mg "FORMS"=[Mv,aF]) (kF:yw P w K aF nF):FnOk P w K mg base CX0 1 f fd [Xy] uX:=by
 refine [T5,AR]
 .refine fB h fun l ws h0 fm eq6 _=>?_;clear h;subst eq6;rfl
 refine cZ h fun l ws h0 fm eq7 hl e0 hv pq0=>bZ pq0 fun na q=>?_;clear pq0 h;subst eq7;refine [XD,[Z5,rj (Cq kF ([RZ,aU,NB]) (eA (v:=.ref aF) rfl mF rfl)),cq],([YG,1,AR.nd,(Ij kF (eA (v:=.ref aF) rfl mF rfl) ([RZ,aU,NB]) P6),ak [Z5,aZ c8 ([RZ,aU,NB]) a8 U7,cq] (av (aI RB))])]
 have T0:SqL K H l (Sv):=[Tn,hl];refine [NW,l,_,_,_,T0,gH e0,([Oz,([U4,h0]),rfl,ND])];rw [hv];refine T8;refine [NW,l,_,_,_,T0,gH e0,([VX,([U4,h0]),_,hv,?_])];refine [NW,l,_,_,_,T0,gH e0,([QW,ND])];rw [[NJ,[Yh,¬ (V.str h0=V.str "alike"),[OE,na (by injection z)]]]];exact cw [Mn,q]
def Aq (fm:Str) (ws:MB):Prop:=VN=fm.length+1/\fm.cps.all (·<128)=true/\∀ (i:Nat) c z,fm.cps[i]?=Qj->ws[i+1]?=YW->[Se,1000]/\(c=110->gy z 4=true)/\(c≠110->cB z=true)
def zI:Sp:=[MV,∃ (l:Addr) (ws:MB) (h0 fm:Str),vs=[X5]/\H l=[VM,Sv]/\ws[0]?=some h0/\dF nF ([U4,h0])=[Mo,.str fm]/\h0≠"alike"/\Aq fm ws/\VN<=100/\∀ H',Pk->Q .non H']
theorem sD:[QI,[Xy,"form","sort",Ut,"good"],[Xy],eE]:=R1
theorem GZ (ws:MB) (h:1<=VN):jJ (Sv) (some 1) none=[OI,ws.drop 1]:=by
 unfold jJ;rw [[Nn,[My,1]=[RK,1],rfl],HT.mx,HT.iP,Mc,Nat.min_eq_left h,<- List.map_drop];exact [Oy,(by rw [List.length_map,List.length_drop]; omega)]
theorem Jv {tM:Tok} (F:[UG,YA,YA,eE]) (B:Q5) (mM:mg "MOST_FIGURES_desk"=[Mo,.int 4 tM]) (C_form:[R3,1,"form_of",[Xy],uX]) (C_writ:[R3,1,Xx,[Ta,"most_figures"],qd]) (C_word:[R3,1,"is_word",[OL],mT]) :
  FnOk P w K mg base CX0 2 f fd [Xy] zI:=by
 refine [T5,sD]
 .refine fB h fun l ws h0 fm eq8 _=>?_;clear h;subst eq8;rfl
 refine cZ h fun l ws h0 fm eq9 hl e0 hv pq0=>fX pq0 fun na pp0 w100 q=>?_;clear pq0 h;subst eq9;obtain ⟨wl,asc,wok⟩:=pp0;refine [Xr,[YG,1,sD.nd,[S4,C_form,RH],ak [Z5,aZ wx (bD jy ([Vy,bz,rfl,RH]) au) ([Vy,gJ,rfl,[Ou,P0]]) U7,cq] (av (cT Ny rfl (Gs rfl B.zip_ [RL,RB,gc qi NB (ia au) iu]) (fL rfl ([YY,2,sD.nd,([YY,3,sD.nd,dG])])) ([YG,4,sD.nd,(iK (aZ c8 TR a8 U7) [VD,C_writ,VY,eA (v:=.int 4) rfl mM [Nl,tM]] [S4,C_word,[Ou,T3]]),av [Z5,dm (cO WN),cq]])))]]
 refine [Mu,[NA,l,ws,h0,fm,hl,e0,hv,aH na ?_]];have fl:fm.length<=100:=Mr
 refine [Mu,[Od,l,_,[T6,[NO,hl]],([Ux,[Mu,cC fm rfl (Nh) rfl [Mu,dC (Xm) [Qe,?_]]]])]]
 .have ec:([RK,[MP,Sv]] - 1)=[RK,fm.length]:=Vp
  have c2:(![N8,[W2,([RK,[MP,Sv]] - 1)]=[W2,[RK,fm.length]]])=true:=cc;rw [ec] at c2;simp at c2
 refine [Mn,[MR,[Od,l,_,[NO,hl],([VV,?_])]]];rw [GZ ws L6];have s1:=[XG,hp,([OI,ws.drop 1])];have hp1:([Py,H,p,([OI,ws.drop 1])]) p=[VM,[OI,ws.drop 1]]:=aq;generalize upd H p (.lst ((ws.drop 1).map V.str))=H1 at s1 hp1 ⊢;have tl:=cu fm;have zs:fm.cps.size=[MP,[OI,ws.drop 1]]:=by
  rw [Mc,SU,wl];show fm.length=_;omega
 refine ⟨fm,p,rfl,asc,[T7,[Tn,hp1]],C5 (K:=K) (z:=fm) (b:=p) (ys:=[OI,ws.drop 1]) (fun i σ H2=>∃ (o2 o3 o4:RT),σ=[[Mv,l],[Mo,.str fm],o2,o3,o4]/\Same H1 H2) (pU none none none rfl (.refl H1)) zs (fun i σ H2 _ pr=>dZ pr fun _ _ _ _ z=>[Tn,z _ _ hp1]) ?_ ?_⟩
 .rintro i c y σ H2 T hc hy ⟨o2,o3,o4,rfl,s2⟩ hT;rw [Mz,Zg] at hy;refine [NC,[VC,hy],fun z hz eq1=>?_];subst eq1;rw [Nat.add_comm] at hz;refine cb (wok i c z hc hz :) fun z1000 zn zw=>?_
  have s3:=aw hT [Rj,[sgn c,R9]];have eT:([Rz,H2,T,[sgn c,R9]]) T=[OD,[sgn c,R9]]:=aq;generalize upd H2 T (.tup [sgn c,.str z])=H3 at s3 eT ⊢;have s13:=Qh;refine ([Rg,T,_,([O1,eT]),rfl,([Xp,_,_,ZU])]);refine ([U8,[Mu,dC (Xm) (Xm)]])
  .have e:V.str Ss=V.str "n":=[MF,cc];injection e with e;rw [Iw] at e;have ec:c=110:=by
    have:=[R5,(fun x:Str=>Ob),e];exact List.head_eq_of_cons_eq this
   refine [Mu,[Od,z,4,z1000,(fun H4 s4=>?_)]];rw [zn ec];exact [MR,cw (pU _ _ _ rfl (s13.trans s4))]
  .have ec:c≠110:=[UT,cc ([MA,(by rw [e,Iw]; rfl)])]
   refine [Mu,[Od,R9,R9,[P7,z1000],(fun H4 s4=>?_)]];have ew:tU (R9)=true:=zw ec;rw [ew];exact [MR,cw (pU _ _ _ rfl (s13.trans s4))]
 .intro σ H2 pr;refine dZ pr fun o2 o3 o4 eq2 s2=>?_;clear pr;subst eq2;exact q H2 (Rf)
def kJ:Sp:=[MV,∃ n lo hi:Int,vs=[XB,.int lo,.int hi]/\lo<=n/\n<=hi/\Q .non H]
theorem B9:[QI,["number",ZJ,Wb],["number",ZJ,Wb],gw]:=R1
theorem Bg (F:[UG,"refuse_beyond","refuse_beyond",gw]) (C_within:[R3,2,Ws,[OL,ZJ,Wb],iS]):FnOk P w K mg base CX0 3 f fd ["number",ZJ,Wb] kJ:=by
 refine [T5,B9]
 .refine dZ h fun n lo hi eq3 _=>?_;clear h;subst eq3;rfl
 refine jF h fun n lo hi eq4 h1 h2 q=>?_;clear h;subst eq4;refine [Xr,av [Z5,dm (cO [S4,C_within,(ae NB [RL,RB,Qn])]),cq]]
 refine [Mn,[MR,mr (XB) (XB) lo hi rfl rfl ?_]];rw [rn h1 h2];exact [Mu,cw q]
end
end K82.S
namespace K82.S
open PySem L2
def Ej:M7->Str
 | none=>"never"
 | some v=>aT v
def pJ (ws:MB):Str:=[Mj,ws=[],Wa,[PU,Xu,ws]]
def Gm:[OM,Nat×Nat×Int]->Str
 | none=>Wa
 | some (f,p,d)=>[PU,Xu,[[Tw,f],[Tw,p],aT d]]
def qx (c:M6) (n i:Nat) (o:M7):Prop:=∃ rows row,Rows c rows/\QT=n+1/\rows[n]?=some row/\row[i]?=MN
theorem c7 {c:M6} (g:Qu):ZE:=[Mw,g.c6,fun k b hb=>by
 have h:=g.gb b [Xg,hb];have:=h.n6;exact (fI h.n1 L6 h.r (fun l hl=>[Mw,(h.l l hl).1,(h.l l hl).2.1]))]
theorem qJ {c:M6} (g:Qu):[Ru,c,0<=b.start/\b.start<=1000]:=[Pg,[Mw,(g.gb b hb).s0,(g.gb b hb).s1]]
theorem jH {c:M6} (g:Qu):[Ru,c,[ZV,1<=l.beats/\l.beats<=1000]]:=fun b hb l hl=>[Mw,((g.gb b hb).l l hl).2.1,((g.gb b hb).l l hl).2.2.1]
theorem fQ {c:M6} {R:Nat->Nk} (g:Qu) (s:SeqR c R):∀ (n:Nat) v,v∈R n->0<=v/\v<=1000+6000 * Pp
 | 0,v,hv=>by
  rw [s.1] at hv;refine [UJ,hv,fun b hb eq5=>?_];subst eq5;have:=qJ g b hb;omega
 | n+1,v,hv=>by
  have f:=s.2 n;have c6:=g.c6;have ih:∀ u,NZ∈[Tr,R n,some]->0<=u/\u<=1000+6000 * Pp:=fun u hu=>by
   refine [UJ,hu,fun w hw e=>?_]
   have:=fQ g s n w hw;have:=[Mq,e];omega
  have a:=vL f (L:=0) (fun u hu=>(ih u hu).1) (jH g) v ([Qg,[Yb,v,hv]]);have b:=wV f (M:=1000+6000 * Pp) (fun u hu=>(ih u hu).2) (jH g) v ([Qg,[Yb,v,hv]]);omega
theorem gQ {sep:Str} {ss:MB} (hs:sep.length<=5) (hl:ss.length<=100) (h:∀ z∈ss,[Se,1000]):JoinOk sep ss=true:=by
 have h2:=StrLaws.sumLen_le _ h;refine PyProof.Rows.joinOk_of ?_;have:ss.length * sep.length<=100 * 5:=Nat.mul_le_mul hl hs;have:ss.length * 1000<=100 * 1000:=Nat.mul_le_mul_right 1000 hl;omega
theorem ju:[RJ,Xu]=1:=L5
theorem k9 {n:Int} (h0:0<=n) (h1:n<2 ^ 64):[MP,aT n]<=1000:=by
 have e:n=[RK,n.toNat]:=Mr
 rw [e,<- cu,gR];unfold dg;rw [Mc];have:[MP,Nat.toDigitsCore 10 (n.toNat+1) n.toNat []]<=0+20:=PySem.digitsCore_len_pow 10 M0 20 (n.toNat+1) n.toNat [] M0 L6;show [MP,Nat.toDigitsCore 10 (n.toNat+1) n.toNat []]<=1000;omega
theorem oX {c:M6} {R:Nat->Nk} (g:Qu) (s:SeqR c R) {f p:Nat} {d:Int} (h:Sh R f (f+p) d) (hm:f+p<=1000):0<=d/\d<2 ^ 64:=by
 have ne:R f≠[]:=[UT,by
  have h1:=s.len f;rw [e] at h1;have h2:=g.c1;have h3:c.length=0:=h1.symm;omega]
 have low:∀ t:Nat,∀ x∈R (f+t),mn (R f)<=x:=by
  intro t;induction t with
  | zero=>exact fun x hx=>Io hx
  | succ t ih =>
   intro x hx;exact vL (s.2 (f+t)) (L:=mn (R f)) (fun u hu=>by
    refine ar (List.mem_map.mp hu :) fun w hw e=>?_
    have:=ih w hw;have:=Option.some.inj e;omega) (jH g) x (List.mem_map.mpr (af x hx rfl))
 have hin:mn (R f)+d∈R (f+p):=by
  rw [h];exact [Qg,[Yb,_,yA ne]]
 have a:=low p _ hin;have b:=fQ g s (f+p) _ hin;have e:=fQ g s f _ (yA ne);omega
theorem CB {K:M3} {H:Hp} {x y:Addr} {o:[OM,Nat×Nat×Int]} (hne:x≠y) (hx:H x=[OD,Ir o]) (hy:H y=[OD,[.str Wa]]):EqH K H 1 [MT,x] [MT,y] o.isNone:=by
 cases o with
 | none =>
  have h:=EqH.tup (K:=K) (H:=H) (n:=0) [Qe,true] hne ([O1,hx]) ([O1,hy]) fun i u v eu ev=>by
   cases i with
   | succ i=>cases ev
   | zero =>
    have e1:V.str Wa=u:=[Mq,eu];have e2:V.str Wa=v:=[Mq,ev];subst e1 e2;have:=EqH.flat (K:=K) (H:=H) (n:=0) (x:=.str Wa) (y:=.str Wa) rfl rfl;rw [[Vh,eqV [XE,Wa] [XE,Wa]=true]] at this;exact this
  exact h
 | some z =>
  obtain ⟨f,p,d⟩:=z;have hn:[Vb,eqV [XE,ZO] [XE,Wa]]:=L5
  have h:=EqH.tup (K:=K) (H:=H) (n:=0) [Qe,false] hne ([O1,hx]) ([O1,hy]) fun i u v eu ev=>by
   cases i with
   | succ i=>cases ev
   | zero =>
    have e1:V.str ZO=u:=[Mq,eu];have e2:V.str Wa=v:=[Mq,ev];subst e1 e2;have:=EqH.flat (K:=K) (H:=H) (n:=0) (x:=.str ZO) (y:=.str Wa) rfl rfl;rw [hn] at this;exact this
  exact h
section
variable {P:Program} {w:World} {K:M3} {mg:Str->Ms} {base:Heap} {f:Addr} {fd:FuncData}
def lg:Sp:=[MV,∃ (ch:V) (c:M6) (i n:Nat),vs=[ch,[MH,i],[MH,n]]/\[Rc,H,ch]/\Qu/\[OA,i]/\n<=2000/\∀ (H':Hp) (o:M7),Pk->qx c n i o->Q [XE,Ej o] H']
theorem qD:[QI,[MC,Oj,"n","beat"],[MC,Oj,"n"],iG]:=R1
theorem Ah {tS:Tok} (F:[UG,"tell_stroke","tell_stroke",iG]) (B:Q5) (mS:mg "MOST_STROKES"=[Mo,.int 2000 tS]) (C_beyond:[R3,3,"refuse_beyond_desk",["number",ZJ,Wb],kJ]) (C_strokes:[R3,7,"strokes",[MC,QU],g6]):FnOk P w K mg base CX0 8 f fd [MC,Oj,"n"] lg:=by
 refine [T5,qD]
 .refine fB h fun ch c i n eq6 _=>?_;clear h;subst eq6;rfl
 refine cZ h fun ch c i n eq7 hch g hi pq0=>bZ pq0 fun hn q=>?_;clear pq0 h;subst eq7;refine [XD,(cH [S4,C_beyond,(ae TR [RL,au,eA (v:=.int 2000) rfl mS [Nl,tS]])]),([YG,3,qD.nd,([RV,aU,([RV,aU,[VD,C_strokes,NB,Qn],TR]),RB]),av (aI (iK (aZ j3 VY cK U7) a8 (bX fV rfl B.str_ Q3 [Ou,T3])))])]
 refine [Mu,dh n 0 2000 rfl L6 L6 ?_];refine [MR,[SO,ch,c,n,hch,c7 g,L6,(fun H1 t told rows s1 t0 ht prt hlr hrows=>?_)]];obtain ⟨row,hrow⟩:∃ row,rows[n]?=some row:=[T7,[M4,[Yu,n<QT]]];refine [NC,cF prt hrow,fun v hv pq0=>bp pq0 fun x eq8 _ hx=>?_];clear pq0;subst eq8;have hlen:=hrows.len n _ hrow;obtain ⟨o,hcell⟩:∃ o,row[i]?=MN:=[T7,[M4,[Yu,i<row.length]]];refine [NW,t,_,_,_,[NO,ht],bh hv,[NW,x,_,_,_,[NO,hx],(bh (by rw [List.getElem?_map,hcell]; rfl)),?_]];refine ([U8,ND]);have hs:qx c n i o:=(bJ rows row hrows hlr hrow hcell);cases o with
 | none=>exact cv (q H1 none s1 hs)
 | some u =>
  have b:=ra hrows g.c6 (qJ g) (jH g) n row hrow u [Xg,hcell];exact cw [Mu,[ZT,[Oz,u,i7 L6,q H1 (NZ) s1 hs]]]
def oJ:Sp:=[MV,∃ (ch:V) (c:M6),vs=[ch]/\[Rc,H,ch]/\Qu/\∀ (H':Hp) (now:MU),Pk->Fix c (S8) now->Q [XE,pJ (cm c now)] H']
theorem tQ:[QI,[MC,WU],[MC],jz]:=R1
theorem Fd {c:M6} {now:MU} {z:Str} (h:z∈cm c now):∃ b∈c,b.name=z:=by
 refine [UJ,h,fun x hx eq9=>?_];subst eq9;have h1:=[XO,(List.mem_filter.mp hx).1];exact ([Yb,x.1,(List.of_mem_zip h1).1])
theorem DH {c:M6} (g:Qu) (now:MU):JoinOk Xu (cm c now)=true:=gQ (by rw [ju]; decide) (by show [MP,gF c now c.length]<=100; have:=pe c now c.length; have:=g.c6; omega) fun z hz=>by
 refine [NC,Fd hz,fun b hb eq0=>?_];subst eq0;have:=g.len b hb;omega
theorem Cp (F:[UG,"tell_waits","tell_waits",jz]) (B:Q5) (C_waiting:[R3,8,"waiting",[MC],jf]):FnOk P w K mg base CX0 9 f fd [MC] oJ:=by
 refine [T5,tQ]
 .refine bU h fun ch c eq1 _=>?_;clear h;subst eq1;rfl
 refine e9 h fun ch c eq2 hch g q=>?_;clear h;subst eq2;refine [Xr,[YG,1,tQ.nd,[S4,C_waiting,RH],av (aI (iK (aZ c8 ([Vy,bz,rfl,[Ou,P0]]) au U7) a8 (dr O5 Uj Ui kI a8 [Ou,P0])))]]
 refine [Mu,[Rg,ch,c,hch,c7 g,(fun H1 l now s1 l0 hl fx=>?_)]];have q:=q H1 now s1 fx;have jo:=DH g now;unfold pJ at q;refine [Mu,[Rg,l,_,[T6,[NO,hl]],rfl,[Mu,dC (Xm) (Xm)]]]
 .have e:cm c now=[]:=by
   have z:[W2,[RK,[MP,[OI,cm c now]]]]=[W2,0]:=[MF,cc];injection z with z;rw [Mc] at z;exact [Tf,L6]
  rw [[P9,e]] at q;exact q
 .have e:cm c now≠[]:=[OE,cc (by rw [z]; rfl)]
  rw [[Ph,e]] at q;exact ([Su,[SO,_,l,_,rfl,hl,jo,q]])
def og:Sp:=[MV,∃ (ch:V) (c:M6) (most:Nat) (R:Nat->Nk),vs=[ch,[MH,most]]/\[Rc,H,ch]/\Qu/\1<=most/\most<=500/\xI c/\SeqR c R/\∀ (H':Hp) o,Pk->qc R most o->Q [XE,Gm o] H']
theorem uE:[QI,[MC,Wb,"told"],[MC,Wb],jA]:=R1
theorem CA {tS:Tok} (F:[UG,"tell_round","tell_round",jA]) (B:Q5) (mS:mg "MOST_OF_ROUND"=[Mo,.int 500 tS]) (C_beyond:[R3,3,"refuse_beyond_desk",["number",ZJ,Wb],kJ]) (C_round:[R3,10,"round_of",[MC,Wb],qB]):FnOk P w K mg base CX0 11 f fd [MC,Wb] og:=by
 refine [T5,uE]
 .refine fB h fun ch c most R eq3 _=>?_;clear h;subst eq3;rfl
 refine cZ h fun ch c most R eq4 hch g m1 pq0=>fX pq0 fun m5 ag sq q=>?_;clear pq0 h;subst eq4;refine [XD,(cH [S4,C_beyond,(ae RB [RL,au,eA (v:=.int 500) rfl mS [Nl,tS]])]),([YG,2,uE.nd,[VD,C_round,NB,P0],av (aI (iK (aZ (JS hr.units) TR (dB [Ot,a8]) U7) a8 (dr O5 Uj Ui kI a8 [Ou,cz ["part"] [] [] rfl (dj (gc Hj TR (ia au) iu)) [Wf,0,([Mg,[[Rk,"part"]]])] RN [Qt,bX fV rfl B.str_ Q3 RH]])))])]
 refine [Mu,dh most 1 500 rfl L6 L6 ?_];refine [MR,[NA,ch,c,most,R,hch,c7 g,g.c1,(fI L6 ag sq (fun H1 x o s1 x0 ro hx=>?_))]];refine ([U3,([Qq,1]),(fun y hy=>?_)]);have s2:=aw hy [Rj,[.str Wa]];have hy2:([Rz,H1,y,[.str Wa]]) y=[OD,[.str Wa]]:=aq;have hne:x≠y:=aV hx hy;have hx2:=s2 _ _ hx;generalize upd H1 y (.tup [.str "none"])=H2 at s2 hy2 hx2 ⊢;have s02:=Rf;refine ([NN,1,_,x,y,hne,M0,aH (CB hne hx2 hy2) ND]);rw [[Ph,MZ]];cases o with
 | none=>exact cv (q H2 none s02 ro)
 | some z =>
  obtain ⟨f1,p1,d1⟩:=z;refine fX (id ro :) fun k1 k2 k3 _=>?_
  obtain ⟨d0,d64⟩:=oX g sq k3 L6;refine T8;refine ([QW,[MR,[Od,x,_,hx2,(fun p H3 s3 hp=>?_)]]]);have hp':H3 p=[OD,[[MH,f1],[MH,p1],.int d1]]:=hp;refine ([UN,p,[O1,hp'],Rl]);refine cJ (K:=K) (a:=p) (xs:=[[MH,f1],[MH,p1],.int d1]) (fun j ys Hx=>Same H3 Hx/\ys=([OI,[[Tw,f1],[Tw,p1],aT d1].take j])) [Nl,aw hD _] (fun j ys Hx _ ⟨z,_⟩=>[S2,z _ _ hp']) ?_ ?_
  .rintro j y ys Hx hj ⟨sx,rfl⟩ hDx;obtain ⟨u,rfl,hu,u0,u64⟩:∃ u:Int,y=.int u/\[[Tw,f1],[Tw,p1],aT d1][j]?=[Mo,aT u]/\0<=u/\u<2 ^ 64:=by
    match j,hj with
    | 0,hj=>exact (cC f1 (Option.some.inj hj).symm rfl (by omega) (by omega))
    | 1,hj=>exact (cC p1 (Option.some.inj hj).symm rfl (by omega) (by omega))
    | 2,hj=>exact (cC d1 (Option.some.inj hj).symm rfl d0 d64)
    | j+3,hj=>cases hj
   refine V9;refine [Mu,[ZT,[Oz,u,i7 L6,?_]]];refine (aC _ hDx ?_ (af _ [W4,sx.upd hD _] aq))
   .have h3:[[Tw,f1],[Tw,p1],aT d1].length=3:=rfl;rw [Mc,Nc,h3];exact Sf
   .rw [[Tj,hu],Mt];rfl
  .rintro ys Hx ⟨sx,rfl⟩ hDx;refine ([SO,_,D,[[Tw,f1],[Tw,p1],aT d1],rfl,hDx,(gQ (by rw [ju]; decide) ([Mx,3<=100]) (fun z hz=>?_)),(q Hx (some (f1,p1,d1)) (s02.trans (s3.trans sx)) ro)]);rcases List.mem_cons.mp hz with rfl | hz
   .exact k9 L6 L6
   rcases List.mem_cons.mp hz with rfl | hz
   .exact k9 L6 L6
   rw [[MQ,hz]];exact k9 d0 d64
end
end K82.S
namespace K82.S
open PySem L2
def pP (t b:Int):Str:=O4++aT t++"/"++aT b
theorem fZ {n:Int} (h0:0<=n) (h1:n<2 ^ 64):[MP,aT n]<=20:=by
 have e:n=[RK,n.toNat]:=Mr
 rw [e,<- cu,gR];unfold dg;rw [Mc];have:[MP,Nat.toDigitsCore 10 (n.toNat+1) n.toNat []]<=0+20:=PySem.digitsCore_len_pow 10 M0 20 (n.toNat+1) n.toNat [] M0 L6;show [MP,Nat.toDigitsCore 10 (n.toNat+1) n.toNat []]<=20;omega
structure PaceOk (c:List Bell) (now:List (Option Int)):Prop where
 fp:FineP c
 fx:Fix c (starts c) now
 nw:cm c now=[]
 ao:js c\/lE c
def nameAt (c:M6) (i:Nat):Str:=(Ng).getD i O4
section
variable {P:Program} {w:World} {K:M3} {mg:Str->Ms} {base:Heap} {f:Addr} {fd:FuncData}
def rf:Sp:=[MV,∃ (ch:V) (c:M6) (b:Nat) (now:MU),vs=[ch,[MH,b]]/\[Rc,H,ch]/\Qu/\PaceOk c now/\[OA,b]/\∀ (H':Hp) (B:N7) (sd mt mb:Int) (way ring:QE) (h:Nat->Int),Pk->[Zo,c,b,B,sd,mt,mb,way,h]->Q [XE,pP mt mb] H']
theorem mB:[QI,[MC,Oj,"mean","top","bottom"],[MC,Oj],kg]:=R1
theorem DZ (F:[UG,"tell_pace","tell_pace",kg]) (C_pace:[R3,10,"pace",[MC,Oj],p7]):FnOk P w K mg base CX0 11 f fd [MC,Oj] rf:=by
 refine [T5,mB]
 .refine fB h fun ch c b now eq5 _=>?_;clear h;subst eq5;rfl
 refine cZ h fun ch c b now eq6 hch g po pq0=>bZ pq0 fun hb q=>?_;clear pq0 h;subst eq6;refine [Xr,[YG,2,mB.nd,([Tq,[VD,C_pace,NB,P0]]),[YG,3,mB.nd,([Tq,TR]),[YG,4,mB.nd,([Tq,TR]),av (aI (Gi (vI (De VY) (vI a8 (vI (De WN) JG)))))]]]]
 refine [MR,[NA,ch,c,b,now,hch,c7 g,po.fp,(dv hb po.fx po.nw po.ao (fun H1 T mA wA rA nA B sd mt mb way ring h s1 nT nW nR nN hT hM rgw rgr nn pi=>?_))]];refine ([NN,T,_,_,_,([O1,hT]),rfl,?_]);refine [QF,mA,_,_,_,([O1,hM]),?_];refine [QF,mA,_,_,_,([O1,hM]),?_];have m0:=pi.mt0;have m6:=pi.mt6;have b1:=pi.mb1;have b6:=pi.mb6;have l1:=fZ (n:=mt) m0 L6;have l2:=fZ (n:=mb) L6 L6;have e0:Wt=0:=rfl;have es:[RJ,"/"]=1:=L5
 have e1:=a9 O4 (aT mt);have e2:=a9 (O4++aT mt) "/";have e3:=a9 (O4++aT mt++"/") (aT mb);refine [Mu,[PY,[U3,i7 L6,([U3,([NF,[MP,O4++aT mt]<=1000]),([U3,([NF,[MP,O4++aT mt++"/"]<=1000]),?_])])]]];exact [Mu,[PY,[U3,i7 L6,(cC _ rfl ([NF,[MP,O4++aT mt++"/"++aT mb]<=1000]) ([NF,[MP,O4++aT mt++"/"++aT mb]<=1000]) (q H1 B sd mt mb way ring h s1 pi))]]]
def rF:Sp:=[MV,∃ (ch:V) (c:M6) (b:Nat) (now:MU),vs=[ch,[MH,b]]/\[Rc,H,ch]/\Qu/\PaceOk c now/\[OA,b]/\∀ (H':Hp) (B:N7) (sd mt mb:Int) (way ring:QE) (h:Nat->Int),Pk->[Zo,c,b,B,sd,mt,mb,way,h]->Q [XE,([PU,Xu,([WZ,[W7,s.1]])])] H']
theorem wM:[QI,[MC,Oj,WU],[MC,Oj],jY]:=R1
theorem Ft (F:[UG,"tell_ring","tell_ring",jY]) (C_names_of:[R3,1,"names_of",[MC],jU]) (C_pace:[R3,10,"pace",[MC,Oj],p7]):FnOk P w K mg base CX0 11 f fd [MC,Oj] rF:=by
 refine [T5,wM]
 .refine fB h fun ch c b now eq7 _=>?_;clear h;subst eq7;rfl
 refine cZ h fun ch c b now eq8 hch g po pq0=>bZ pq0 fun hb q=>?_;clear pq0 h;subst eq8;refine [XD,([N9,2,wM.nd,Yq,[S4,C_names_of,RH]]),(av (aI (dr O5 Uj Ui kI a8 [Ou,cz ["step"] [WU] [2] rfl (de ([Tq,[VD,C_pace,NB,P0]])) [Wf,0,([Mg,[[Rk,"step"],[Rk,WU]]])] RN [Qt,([RV,qu (K:=K) rfl,RB,([RZ,Vd,NB])])]])))]
 refine [Mu,[Rg,ch,c,hch,g.c6,(fun H1 nl s1 nl0 hnl=>?_)]];refine ([QW,[MR,[NA,ch,c,b,now,([SD,s1]),c7 g,po.fp,(dv hb po.fx po.nw po.ao (fun H2 T mA wA rA nA B sd mt mb way ring h s2 nT nW nR nN hT hM rgw rgr nn pi=>?_))]]]);refine ar rgr fun vs hr2 prs=>?_;clear rgr;have hl:=aJ prs;have lt:∀ x∈B,[OA,x]:=[RD,by
  rcases (pi.mem x).mp hx with e | e
  .omega
  .exact e.lt po.fp.w]
 have r6:=(pi.rg.len lt po.fp).2;have hn2:=s2 _ _ hnl;refine ([NN,T,_,_,_,([O1,hT]),rfl,([UN,rA,[Tn,hr2],Rl])]);refine cX (K:=K) (a:=rA) (xs:=vs) (fun j ys H3=>Same H2 H3/\ys=[OI,[Tr,ring.take j,fun s=>[W7,s.1]]]) [Nl,aw hD _] (fun j ys H3 _ ⟨z,_⟩=>[Tn,z _ _ hr2]) ?_ ?_
 .rintro j x ys H3 hx ⟨s3,rfl⟩ hD3;refine [NC,bg prs hx,fun st hst pq0=>[W5,fun sa eq9 hsa=>?_]];clear pq0;subst eq9;have hlt:=lt _ (pi.rg.mem st [Xg,hst]);have hj:=[L8,hst];have hnm:([OI,Ng])[st.1]?=[Mo,.str ([W7,st.1])]:=by
   unfold nameAt;rw [Mz,Nj,Mz,[M4,hlt]];rfl
  refine V9;refine [VO,sa,_,_,_,[ZG,s3 _ _ hsa],rfl,([NN,nl,_,_,_,[NO,s3 _ _ hn2],bh hnm,?_])];refine (aC _ hD3 ?_ (af _ [W4,s3.upd hD _] aq))
  .rw [Mc,Mc,Nc];exact Sf
  .rw [[Tj,hst],Mt,Mt];rfl
 .rintro ys H3 ⟨s3,rfl⟩ hD3;rw [hl,NL] at hD3;refine ([SO,_,D,_,rfl,hD3,(gQ (by rw [ju]; decide) (Vp) fun z hz=>?_),q H3 B sd mt mb way ring h (s1.trans (Qh)) pi]);refine [UJ,hz,fun st hst eq0=>?_];subst eq0;have hlt:=lt _ (pi.rg.mem st hst);have e:[W7,st.1]=(c[st.1]'hlt).name:=by
   unfold nameAt;rw [Nj,Mz,[M4,hlt]];rfl
  rw [e];have:=g.len _ ([QN,hlt]);omega
end
end K82.S
namespace K82.S
open PySem L2
theorem ifS {a b:Str} {p q:Prop} (e:a=b) (h:p):[Mj,[N8,V.str a=V.str b]=true,p,q]:=by
 rw [[P9,([MA,(by rw [e])])]];exact h
theorem ifN {a b:Str} {p q:Prop} (e:a≠b) (h:q):[Mj,[N8,V.str a=V.str b]=true,p,q]:=by
 rw [[Ph,[UK,e (by have z':=[MF,z]; injection z')]]];exact h
def Askable (c:M6) (ws:MB):Prop:=(∃ w,ws=[[Rk,"waits"],w]/\cB w=true)\/(∃ (w:Str) (most:Nat),ws=[[Rk,ZO],w,[Tw,most]]/\cB w=true/\1<=most/\most<=500/\xI c/\∃ R,SeqR c R)\/ (∃ (w:Str) (i n:Nat) (b:Bell),ws=[[Rk,Zy],w,b.name,XQ]/\cB w=true/\c[i]?=QZ/\n<=1000)\/(∃ (w:Str) (i:Nat) (b:Bell) (now:MU),ws=[[Rk,"pace"],w,b.name]/\cB w=true/\c[i]?=QZ/\PaceOk c now)\/∃ (w:Str) (i:Nat) (b:Bell) (now:MU),ws=[[Rk,A03],w,b.name]/\cB w=true/\c[i]?=QZ/\PaceOk c now
def Ans (c:M6) (ws:MB) (z:Str):Prop:=(∃ w now,ws=[[Rk,"waits"],w]/\Fix c (S8) now/\z=pJ (cm c now))\/ (∃ (w:Str) (most:Nat) (R:Nat->Nk) (o:[OM,Nat×Nat×Int]),ws=[[Rk,ZO],w,[Tw,most]]/\most<=500/\SeqR c R/\qc R most o/\z=Gm o)\/(∃ (w:Str) (i n:Nat) (b:Bell) (o:M7),ws=[[Rk,Zy],w,b.name,XQ]/\n<=1000/\c[i]?=QZ/\qx c n i o/\z=Ej o)\/ (∃ (w:Str) (i:Nat) (b:Bell) (B:N7) (sd mt mb:Int) (way ring:QE) (h:Nat->Int),ws=[[Rk,"pace"],w,b.name]/\c[i]?=QZ/\[Zo,c,i,B,sd,mt,mb,way,h]/\z=pP mt mb)\/∃ (w:Str) (i:Nat) (b:Bell) (B:N7) (sd mt mb:Int) (way ring:QE) (h:Nat->Int),ws=[[Rk,A03],w,b.name]/\c[i]?=QZ/\[Zo,c,i,B,sd,mt,mb,way,h]/\z=[PU,Xu,([WZ,[W7,s.1]])]
theorem xF:[RJ,"; "]=2:=L5
theorem Cy {zs:MB} (h:∀ z∈zs,[Se,140]) (h6:Qy<=6):JoinOk "; " zs=true:=gQ (by rw [xF]; decide) L6 fun z hz=>[NV,h z hz]
section
variable {P:Program} {w:World} {K:M3} {mg:Str->Ms} {base:Heap} {f:Addr} {fd:FuncData}
def uK:Sp:=[MV,∃ (ch:V) (c:M6) (l:Addr) (ws:MB),vs=[ch,X5]/\[Rc,H,ch]/\Qu/\H l=[VM,Sv]/\Askable c ws/\∀ (H':Hp) z,Pk->Ans c ws z->Q (R9) H']
theorem Al:[QI,[MC,Xy,Oj],[MC,Xy],oo]:=R1
theorem Gg (F:[UG,"tell_of","tell_of",oo]) (B:Q5) (C_twaits:[R3,9,"tell_waits",[MC],oJ]) (C_tround:[R3,11,"tell_round",[MC,Wb],og]) (C_place:[R3,1,"place_of",[MC,"name"],rZ]) (C_tstroke:[R3,8,"tell_stroke",[MC,Oj,"n"],lg]) (C_tpace:[R3,11,"tell_pace",[MC,Oj],rf]) (C_tring:[R3,11,"tell_ring",[MC,Oj],rF]) :
  FnOk P w K mg base CX0 12 f fd [MC,Xy] uK:=by
 refine [T5,Al]
 .refine fB h fun ch c l ws eq1 _=>?_;clear h;subst eq1;rfl
 refine cZ h fun ch c l ws eq2 hch g hl pq0=>bZ pq0 fun ask q=>?_;clear pq0 h;subst eq2;refine [XD,[Z5,aZ c8 ([RZ,aU,RB]) a8 U7,cq],(ak [Z5,aZ c8 ([RZ,aU,RB]) a8 U7,(av (aI [S4,C_twaits,RH]))] (ak [Z5,aZ c8 ([RZ,aU,RB]) a8 U7,(av (aI [VD,C_tround,NB,bX cW rfl B.int_ OZ [Ou,[RZ,aU,RB]]]))] ([YG,2,Al.nd,[VD,C_place,NB,[RZ,aU,RB]],ak [Z5,aZ c8 ([RZ,aU,RB]) a8 U7,(av (aI [S4,C_tstroke,(ae NB [RL,TR,bX cW rfl B.int_ OZ [Ou,[RZ,aU,RB]]])]))] (ak [Z5,aZ c8 ([RZ,aU,RB]) a8 U7,(av (aI [VD,C_tpace,NB,Qn]))] (av (aI [VD,C_tring,NB,Qn])))])))]
 have T0:SqL K H l (Sv):=[Tn,hl];rcases ask with ⟨w',rfl,hw⟩ | ⟨w',most,rfl,hw,m1,m5,ag,R,sq⟩ | ⟨w',i,n,b,rfl,hw,hb,hn⟩ | ⟨w',i,b,now,rfl,hw,hb,po⟩ | ⟨w',i,b,now,rfl,hw,hb,po⟩
 .refine [QF,l,_,_,_,T0,([Su,ifN Rb ?_])];refine [QF,l,_,_,_,T0,([Su,ifS rfl ?_])];exact [Mu,[Rg,ch,c,hch,g,(fun H1 now s1 fx=>q H1 _ s1 [T6,([Od,w',now,fx,rfl])])]]
 .refine [QF,l,_,_,_,T0,([Su,ifN Rb ?_])];refine [QF,l,_,_,_,T0,([Su,ifN Rb ?_])];refine [QF,l,_,_,_,T0,([Su,ifS rfl ?_])];have nl:=gj [Yu,most<1001];refine [VO,l,_,_,_,T0,rfl,([Rg,([Tw,most]),most,L6,gZ L6,?_])];exact ([NA,ch,c,most,R,hch,g,m1,(fI m5 ag sq (fun H1 o s1 ro=>q H1 _ s1 ([PY,.inl ([NA,w',most,R,o,m5,sq,ro,rfl])])))])
 .refine [QF,l,_,_,_,T0,([Su,ifN Rb ?_])];refine [QF,l,_,_,_,T0,([Su,ifN Rb ?_])];refine [QF,l,_,_,_,T0,([Su,ifN Rb ?_])];refine [VO,l,_,_,_,T0,rfl,([NA,ch,c,i,b,hch,g.c6,hb,(aH g.nd (fun H1 s1=>?_))])];have T1:SqL K H1 l ([[Rk,Zy],w',b.name,XQ].map V.str):=[Tn,s1 _ _ hl];refine [QF,l,_,_,_,T1,([Su,ifS rfl ?_])];have nl:=gj [Yu,n<1001];refine [Mn,[VO,l,_,_,_,T1,rfl,([Rg,XQ,n,L6,gZ L6,?_])]];exact ([NA,ch,c,i,n,([SD,s1]),g,Wy,(aH L6 (fun H2 o s2 so=>q H2 _ (Rf) ([ZT,.inl (cf w' i n b (eY o rfl hn hb so rfl))])))])
 .refine [QF,l,_,_,_,T0,([Su,ifN Rb ?_])];refine [QF,l,_,_,_,T0,([Su,ifN Rb ?_])];refine [QF,l,_,_,_,T0,([Su,ifN Rb ?_])];refine [VO,l,_,_,_,T0,rfl,([NA,ch,c,i,b,hch,g.c6,hb,(aH g.nd (fun H1 s1=>?_))])];have T1:SqL K H1 l ([[Rk,"pace"],w',b.name].map V.str):=[Tn,s1 _ _ hl];refine [QF,l,_,_,_,T1,([Su,ifN Rb ?_])];refine [QF,l,_,_,_,T1,([Su,ifS rfl ?_])];exact [MR,[NA,ch,c,i,now,([SD,s1]),g,po,(aH Wy (fun H2 B sd mt mb way ring h s2 pi=>q H2 _ (Rf) ([ZT,[PY,.inl (cf w' i b B (cf sd mt mb way ([Rg,ring,h,hb,pi,rfl])))]])))]]
 .refine [QF,l,_,_,_,T0,([Su,ifN Rb ?_])];refine [QF,l,_,_,_,T0,([Su,ifN Rb ?_])];refine [QF,l,_,_,_,T0,([Su,ifN Rb ?_])];refine [VO,l,_,_,_,T0,rfl,([NA,ch,c,i,b,hch,g.c6,hb,(aH g.nd (fun H1 s1=>?_))])];have T1:SqL K H1 l ([[Rk,A03],w',b.name].map V.str):=[Tn,s1 _ _ hl];refine [QF,l,_,_,_,T1,([Su,ifN Rb ?_])];refine [QF,l,_,_,_,T1,([Su,ifN Rb ?_])];exact [MR,[NA,ch,c,i,now,([SD,s1]),g,po,(aH Wy (fun H2 B sd mt mb way ring h s2 pi=>q H2 _ (Rf) ([ZT,[ZT,cf w' i b B (cf sd mt mb way ([Rg,ring,h,hb,pi,rfl]))]])))]]
structure DeskC (K:PySem.W.Frag) (C fi fs ft fk fc:Addr):Prop where
 cl:Cls K C
 nS:NoAttr K C "stands"
 mks:Mk K C fi
 say:Meth K C "say" fs
 std:Meth K C "standing" ft
 kp:Meth K C "keep" fk
 chr:Meth K C "say_choir" fc
def DeskAt (C:Addr) (H:Hp) (D d:Addr) (kvs:Vm):Prop:=(∃ dx,H D=[Mo,[Ve,C,[("stands",.ref d)]]])/\H d=[Mo,Yj]
theorem DeskAt.same {C:Addr} {H H':Hp} {D d:Addr} {kvs:Vm} (h:DeskAt C H D d kvs) (s:Pk):DeskAt C H' D d kvs:=by
 obtain ⟨⟨dx,h1⟩,h2⟩:=h;exact [Mw,[Mw,dx,s _ _ h1],s _ _ h2]
def rC (K:M3):Sp:=[MV,∃ (p C dx:Addr),vs=[TN]/\H p=[Mo,[Ve,C,[]]]/\Cls K C/\NoAttr K C "stands"/\∀ d,H d=none->Q .non (upd (upd H d (.dK [])) p ([Ve,C,[("stands",.ref d)]]))]
theorem C9:[QI,[Nd],[Nd],uV]:=R1
theorem E4 (F:[UG,Ql,"Desk.__init__",uV]):FnOk P w K mg base CX0 1 f fd [Nd] (rC K):=by
 refine [T5,C9]
 .refine dZ h fun p C dx eq3 _=>?_;clear h;subst eq3;rfl
 refine fe h fun p C dx eq4 hp cl na q=>?_;clear h;subst eq4;refine [Yt,_,av (zF NB w5 rfl)];intro d hd;have ne:p≠d:=aV hp hd;exact [Mu,[NA,p,C,dx,[],(by rw [aK ne]; exact hp),cl,na,(aH ([Mx,0<1000]) (q d hd))]]
def rE (C:Addr):Sp:=[MV,∃ (D d:Addr) (kvs:Vm) (w:Str) (v:V),vs=[.ref D,.str w]/\DeskAt C H D d kvs/\dF kvs ([U4,w])=Nw/\Q v H]
theorem EK:[QI,[Nd,Ut],[Nd,Ut],jM]:=R1
theorem FJ {C fi fs ft fk fc:Addr} (F:[UG,"standing","Desk.standing",jM]) (O:DeskC K C fi fs ft fk fc):FnOk P w K mg base CX0 1 f fd [Nd,Ut] (rE C):=by
 refine [T5,EK]
 .refine bN h fun D d kvs w' pq0=>[W5,fun v eq5 _=>?_];clear pq0 h;subst eq5;rfl
 refine bN h fun D d kvs w' pq0=>iD pq0 fun v eq6 pp7 hv q=>?_;clear pq0 h;subst eq6;obtain ⟨⟨dx,hD⟩,hd⟩:=pp7;refine [XD,[Z5,rj (kN (wb hr) RB (oE NB rfl)),cq],av (aI (uG (wb hr) (oE NB rfl) RB P6))]
 have dg:DGet H d (kV ([U4,w'])) (Nw):=by rw [<- hv]; exact DGet.k hd
 refine [MR,cf D C dx _ (eY _ rfl hD O.cl O.nS ([QW,([Od,d,Nw,dg,[Mu,T8]])]))];exact [Mu,cf D C dx _ (eY _ rfl hD O.cl O.nS ([Su,[Od,d,v,dg,q]]))]
def vQ (C:Addr):Sp:=[MV,∃ (D d:Addr) (kvs:Vm) (w:Str) (v:V),vs=[.ref D,.str w,v]/\DeskAt C H D d kvs/\Q7<=900/\Q [XE,"ok"] (upd H d (.dK (putK kvs ([U4,w]) v)))]
theorem Ic:[QI,[Nd,Ut,MC],[Nd,Ut,MC],vD]:=R1
theorem Ha {C fi fs ft fk fc:Addr} (F:[UG,"keep","Desk.keep",vD]) (O:DeskC K C fi fs ft fk fc):FnOk P w K mg base CX0 1 f fd [Nd,Ut,MC] (vQ C):=by
 refine [T5,Ic]
 .refine bN h fun D d kvs w' pq0=>[W5,fun v eq8 _=>?_];clear pq0 h;subst eq8;rfl
 refine bN h fun D d kvs w' pq0=>iD pq0 fun v eq9 pp0 hl q=>?_;clear pq0 h;subst eq9;obtain ⟨⟨dx,hD⟩,hd⟩:=pp0;refine [XD,vm (wb hr) (oE NB rfl) RB TR rfl,av (aI a8)]
 exact [MR,cf D C dx _ (eY _ rfl hD O.cl O.nS ([Su,[Od,d,_,(DPut.k (k:=[U4,w']) hd (Nh)),q]]))]
structure Readable (zs:List Str) (cc:List Bell):Prop where
 n1:1<=zs.length
 n6:zs.length<=6
 short:∀ z∈zs,z.length<=140
 free:∀ z∈zs,59∉z.cps.toList
 good:∀ i z,zs[i]?=some z->ur (iO (zs.map gC) z) ((zs.map gC).take i) zs.length=true
 told:zs.map (iO (zs.map gC))=cc.map pd
theorem DA:[PK,"; "]=59::[32]:=L5
theorem Bc:[Wo,[Rk,"; "]]=1:=L5
theorem Readable.split {zs:MB} {cc:M6} (h:Readable zs cc):Txt.split ([PU,"; ",zs]) "; "=zs:=y7 DA Bc (zA "; " zs) ([UT,by have:=h.n1; rw [e] at this; exact [O9,this,M0]]) h.free
theorem Readable.len {zs:MB} {cc:M6} (h:Readable zs cc):[MP,[PU,"; ",zs]]<=1000:=by
 have h2:=StrLaws.sumLen_le _ h.short;have h4:=StrLaws.join_length_le "; " zs;have e2:[PU,"; ",zs]=Str.join "; " zs:=StrLaws.glued_eq_join _ _;have n6:=h.n6;rw [e2];rw [xF] at h4;omega
def nZ (C:Addr):Sp:=[MV,∃ (D d l:Addr) (kvs:Vm) (p w:Str) (zs:MB) (cc:M6),vs=[.ref D,X5]/\DeskAt C H D d kvs/\Q7<=900/\H l=[MI,[.str p,.str w,.str ([PU,"; ",zs])]]/\cB w=true/\Readable zs cc/\ ∀ H' v,But d H H'->H' d=[Mo,.dK (putK kvs ([U4,w]) v)]->ChoirAt H' v cc->Q [XE,"ok"] H']
theorem BY:[QI,[Nd,"parts"],[Nd,"parts"],jj]:=R1
theorem eU {z:Str} (h:cB z=true):[Se,8]:=by
 have h':([N8,[XC,1]] && [N8,[Se,8]] && Sb)=true:=h;rw [Oo,Oo] at h';exact [MF,h'.1.2]
theorem Ci {C fi fs ft fk fc:Addr} {dk:FuncData} (F:[UG,"say_choir","Desk.say_choir",jj]) (B:Q5) (O:DeskC K C fi fs ft fk fc) (GK:FnOk P w K mg base CX0 1 fk dk [Nd,Ut,MC] (vQ C)) (bK:[TB,K,dk,[Nd,Ut,MC]]) (C_word:[R3,1,"is_word",[OL],mT]) (C_read:[R3,8,"read_choir",["rows"],uW]) :
  FnOk P w K mg base CX0 9 f fd [Nd,"parts"] (nZ C):=by
 refine [T5,BY]
 .refine bN h fun D d l kvs pq0=>fB pq0 fun p w' zs cc eq1 _=>?_;clear pq0 h;subst eq1;rfl
 refine bN h fun D d l kvs pq0=>cZ pq0 fun p w' zs cc eq2 dk0 kl hl pq1=>cb pq1 fun hw rd q=>?_;clear pq0 pq1 h;subst eq2;have hr1:Room 1 _:=Wx;refine [XD,[Z5,PW.pt (kY (aZ t8 ([Vy,bz,rfl,[Ou,P0]]) au U7) (iz (dm (cO [S4,C_word,[Ou,[RZ,aU,RB]]])))),cq],(av (aI (eV NB GK hr1 bK .nil dJ [RL,([RZ,aU,RB]),[QP,C_read,[Ou,dr O5 Sq So i3 ([RZ,aU,RB]) [Ot,a8]]]])))]
 have T0:SqL K H l [.str p,.str w',.str ([PU,"; ",zs])]:=[Tn,hl];refine [Mu,[Od,l,_,[T6,T0],([Ux,[Mu,T8]])]];have w8:=eU hw;refine [QF,l,_,_,_,T0,([Od,[XE,w'],[XE,w'],[P7,Mr],(fun H1 s1=>?_)])];have ew:tU [XE,w']=true:=hw;rw [ew];refine [Mu,T8];obtain ⟨⟨dx,hD⟩,hd⟩:=id dk0;have T1:SqL K H1 l [.str p,.str w',.str ([PU,"; ",zs])]:=[Tn,s1 _ _ hl];refine [Mu,[NA,C,D,dx,_,s1 _ _ hD,O.cl,O.kp,([QW,?_])]];refine [QF,l,_,_,_,T1,?_];have jl:=rd.len;refine [QF,l,_,_,_,T1,([QW,([Yv,([PU,"; ",zs]),"; ",rfl,Rb,L6,(fun p2 hp2=>?_)])])];rw [rd.split];have s2:=[XG,hp2,TU];refine ([Yv,p2,zs,aq,rd.n1,rd.n6,(bM (fun z hz=>[NV,rd.short z hz]) rd.good (fun H3 v s3 th=>?_))]);rw [rd.told] at th;have s13:=s1.trans (Qh);have hd3:=s13 _ _ hd;have hch:=wL th;refine (cf D d kvs w' (cC v rfl (dk0.same s13) kl ?_));refine q _ v (fun a o ne e=>by rw [aK ne]; exact s13 _ _ e) aq (hch.mono fun b xs e=>?_);rw [aK (eR e hd3 (OF))];exact e
def LV (C:Addr) (H:Hp) (d:Addr) (kvs:Vm) (z:Str) (Q:VK):Prop :=
 (∃ (w:Str) (zs:MB) (cc:M6),NI=[PK,MC]++32::(w.cps.toList++32::[NU,[PU,"; ",zs]])/\cB w=true/\Readable zs cc/\∀ H' v,But d H H'->H' d=[Mo,.dK (putK kvs ([U4,w]) v)]->ChoirAt H' v cc->Q [XE,"ok"] H')\/ ∃ (ws:MB) (w:Str) (v:V) (c:M6),NI=jn 32 (ws.map [Z2,Ob])/\ws[1]?=some w/\dF kvs ([U4,w])=Nw/\[Rc,H,v]/\Qu/\Askable c ws/\∀ (H':Hp) x,Pk->Ans c ws x->Q [XE,x] H'
def rR (C:Addr):Sp:=[MV,∃ (D d:Addr) (kvs:Vm) (z:Str),vs=[.ref D,R9]/\DeskAt C H D d kvs/\Q7<=900/\[Se,3000]/\LV C H d kvs z Q]
theorem DO:[QI,[Nd,"row",Xy],[Nd,"row"],zg]:=R1
theorem eQ {z:Str} (h:cB z=true):32∉NI:=fun q=>by
 have:=fN h 32 q;omega
theorem xT {n:Nat} (h:n<1001):32∉[NU,XQ]:=fun q=>by
 have:=mh h 32 q;omega
theorem Ip {m:Nat} (h:m<1001):gy ([Tw,m]) 4=true:=by
 have h9:=xq h;have hl:=gj h;unfold gy at h9 ⊢;rw [Oo,Oo,Oo] at h9 ⊢;exact [Mw,[Mw,[Mw,h9.1.1.1,[MA,L6]],h9.1.2],h9.2]
structure RowOk (ws:List Str) (h0 fm:Str):Prop where
 a0:ws[0]?=some h0
 fv:dF nF (Sum.inr h0)=some (.str fm)
 nc:h0≠"choir"
 na:h0≠"alike"
 ok:Aq fm ws
 ln:ws.length<=100
 ne:ws≠[]
 fr:∀ z∈ws,32∉z.cps.toList
theorem zD {w b:Str} {n:Nat} (hw:cB w=true) (hb:cB b=true) (hn:n<=1000):RowOk [[Rk,Zy],w,b,XQ] Zy "cbn":=by
 have nl_n:=gj [Yu,n<1001];refine ⟨rfl,by rfl,L5,L5,(bM rfl Rb (fun i c z hc hz=>?_)),[Mx,4<=100],[QH,_],?_⟩
 .match i,hc,hz with
  | 0,hc,hz=>cases hc; cases hz; exact (bM (by have:=eU hw; omega) (fun e=>absurd e (by decide)) (fun _=>hw))
  | 1,hc,hz=>cases hc; cases hz; exact (bM (by have:=eU hb; omega) (fun e=>absurd e (by decide)) (fun _=>hb))
  | 2,hc,hz=>cases hc; cases hz; exact (bM (by omega) (fun _=>Ip (by omega)) (fun e=>absurd rfl e))
  | i+3,hc,hz=>cases hz
 .intro z hz;rcases List.mem_cons.mp hz with rfl | hz
  .decide +kernel
  rcases List.mem_cons.mp hz with rfl | hz
  .exact eQ hw
  rcases List.mem_cons.mp hz with rfl | hz
  .exact eQ hb
  rw [[MQ,hz]];exact xT L6
theorem Co {w:Str} (hw:cB w=true):RowOk [[Rk,"waits"],w] "waits" "c":=by
 refine ⟨rfl,by rfl,L5,L5,(bM rfl Rb (fun i c z hc hz=>?_)),[Mx,2<=100],[QH,_],?_⟩
 .match i,hc,hz with
  | 0,hc,hz=>cases hc; cases hz; exact (bM (by have:=eU hw; omega) (fun e=>absurd e (by decide)) (fun _=>hw))
  | i+1,hc,hz=>cases hz
 .intro z hz;rcases List.mem_cons.mp hz with rfl | hz
  .decide +kernel
  rw [[MQ,hz]];exact eQ hw
theorem Cu {w:Str} {n:Nat} (hw:cB w=true) (hn:n<=1000):RowOk [[Rk,ZO],w,XQ] ZO "cn":=by
 have nl_n:=gj [Yu,n<1001];refine ⟨rfl,by rfl,L5,L5,(bM rfl Rb (fun i c z hc hz=>?_)),[Mx,3<=100],[QH,_],?_⟩
 .match i,hc,hz with
  | 0,hc,hz=>cases hc; cases hz; exact (bM (by have:=eU hw; omega) (fun e=>absurd e (by decide)) (fun _=>hw))
  | 1,hc,hz=>cases hc; cases hz; exact (bM (by omega) (fun _=>Ip (by omega)) (fun e=>absurd rfl e))
  | i+2,hc,hz=>cases hz
 .intro z hz;rcases List.mem_cons.mp hz with rfl | hz
  .decide +kernel
  rcases List.mem_cons.mp hz with rfl | hz
  .exact eQ hw
  rw [[MQ,hz]];exact xT L6
theorem Ey {w b:Str} (hw:cB w=true) (hb:cB b=true):RowOk [[Rk,"pace"],w,b] "pace" "cb":=by
 refine ⟨rfl,by rfl,L5,L5,(bM rfl Rb (fun i c z hc hz=>?_)),[Mx,3<=100],[QH,_],?_⟩
 .match i,hc,hz with
  | 0,hc,hz=>cases hc; cases hz; exact (bM (by have:=eU hw; omega) (fun e=>absurd e (by decide)) (fun _=>hw))
  | 1,hc,hz=>cases hc; cases hz; exact (bM (by have:=eU hb; omega) (fun e=>absurd e (by decide)) (fun _=>hb))
  | i+2,hc,hz=>cases hz
 .intro z hz;rcases List.mem_cons.mp hz with rfl | hz
  .decide +kernel
  rcases List.mem_cons.mp hz with rfl | hz
  .exact eQ hw
  rw [[MQ,hz]];exact eQ hb
theorem DL {w b:Str} (hw:cB w=true) (hb:cB b=true):RowOk [[Rk,A03],w,b] A03 "cb":=by
 refine ⟨rfl,by rfl,L5,L5,(bM rfl Rb (fun i c z hc hz=>?_)),[Mx,3<=100],[QH,_],?_⟩
 .match i,hc,hz with
  | 0,hc,hz=>cases hc; cases hz; exact (bM (by have:=eU hw; omega) (fun e=>absurd e (by decide)) (fun _=>hw))
  | 1,hc,hz=>cases hc; cases hz; exact (bM (by have:=eU hb; omega) (fun e=>absurd e (by decide)) (fun _=>hb))
  | i+2,hc,hz=>cases hz
 .intro z hz;rcases List.mem_cons.mp hz with rfl | hz
  .decide +kernel
  rcases List.mem_cons.mp hz with rfl | hz
  .exact eQ hw
  rw [[MQ,hz]];exact eQ hb
theorem Askable.words {c:M6} (g:Qu) {ws:MB} (h:Askable c ws):∃ h0 fm,RowOk ws h0 fm/\h0≠"drop"/\h0≠"slow"/\h0≠"join":=by
 have bw:∀ {i:Nat} {b:Bell},c[i]?=QZ->cB b.name=true:=fun hb=>g.wd _ [Xg,hb]
 rcases h with ⟨w',rfl,hw⟩ | ⟨w',most,rfl,hw,m1,m5,_⟩ | ⟨w',i,n,b,rfl,hw,hb,hn⟩ | ⟨w',i,b,now,rfl,hw,hb,po⟩ | ⟨w',i,b,now,rfl,hw,hb,po⟩
 .exact (bJ _ _ (Co hw) Rb Rb Rb)
 .exact (bJ _ _ (Cu hw L6) Rb Rb Rb)
 .exact (bJ _ _ (zD hw (bw hb) hn) Rb Rb Rb)
 .exact (bJ _ _ (Ey hw (bw hb)) Rb Rb Rb)
 .exact (bJ _ _ (DL hw (bw hb)) Rb Rb Rb)
theorem sM:32∉[PK,MC]:=L5
theorem xb {z:Str} {r:N7} (h:NI=[PK,MC]++32::r):∃ ws,[Rt,z]=[Rk,MC]::ws:=by
 refine [W4,Txt.split ⟨r.toArray⟩ [P5,32]];rw [jm];have j:=StrLaws.join_split [Rk,⟨r.toArray⟩] [P5,32];have p:=PyProof.Rows.split_pos [Rk,⟨r.toArray⟩] [P5,32];have e:=[R5,(fun s:Str=>s.cps.toList),j];rw [kz] at e;refine hZ ?_ ([QH,_]) ZQ
 .rw [h];cases hs:Txt.split (⟨r.toArray⟩:Str) ⟨#[32]⟩ with
  | nil=>rw [hs] at p; exact [O9,p,M0]
  | cons y ys =>
   rw [hs] at e;show _=[PK,MC]++32::jn 32 ([Tr,y::ys,[Z2,Ob]]);rw [e]
 .rcases List.mem_cons.mp hx with rfl | hx
  .exact sM
  .exact StrLaws.split_free _ 32 x hx
theorem Kn {C fi fs ft fk fc:Addr} {dt dc:FuncData} (F:[UG,"say","Desk.say",zg]) (B:Q5) (O:DeskC K C fi fs ft fk fc) (GT:FnOk P w K mg base CX0 1 ft dt [Nd,Ut] (rE C)) (bT:[TB,K,dt,[Nd,Ut]]) (GC:FnOk P w K mg base CX0 9 fc dc [Nd,"parts"] (nZ C)) (bC:[TB,K,dc,[Nd,"parts"]])
  (C_rww:[R3,2,YA,[Xy],zI]) (C_tell:[R3,12,"tell_of",[MC,Xy],uK]):FnOk P w K mg base CX0 13 f fd [Nd,"row"] (rR C):=by
 refine [T5,DO]
 .refine fB h fun D d kvs z eq3 _=>?_;clear h;subst eq3;rfl
 refine cZ h fun D d kvs z eq4 dk0 kl zl sy=>?_;clear h;subst eq4;have hr1:Room 1 _:=Wx;have hr9:Room 9 _:=Wx;refine [XD,[Z5,dm (cO (aL (dI Z3) rfl RS NY [RL,RB,eK (v:=.ty Z3) rfl B.str_ Q3 rfl])),cq],([YG,2,DO.nd,(dr O5 Sq So i3 RB [Ot,a8]),ak [Z5,aZ c8 ([RZ,aU,TR]) a8 U7,(av (aI (eV NB GC hr9 bC .nil dJ [Ou,dr O5 Sq So Cb RB (ae a8 TV)])))] (ak (cH [S4,C_rww,[Ou,Qn]]) (ak [Z5,aZ c8 ([RZ,aU,TR]) a8 U7,cq] (ak [Z5,aZ c8 ([RZ,aU,TR]) a8 U7,cq] (ak [Z5,aZ c8 ([RZ,aU,TR]) a8 U7,cq] (ak [Z5,aZ c8 ([RZ,aU,TR]) a8 U7,cq] (av (aI [VD,C_tell,(eV NB GT hr1 bT .nil dJ [Ou,[RZ,aU,TR]]),Qn])))))))])]
 obtain ⟨⟨dx,hD⟩,hd⟩:=id dk0;refine [Mu,dh _ _ _ rfl (R9) (jN K) [Mu,T8]];refine ([U8,([Yv,z,Xu,rfl,Rb,L6,Vz])]);have s1:=[XG,hl,([OI,[Rt,z]])];have hL:([Py,H,l,([OI,[Rt,z]])]) l=[VM,[OI,[Rt,z]]]:=aq;generalize upd H l (.lst ((Txt.split z " ").map V.str))=H1 at s1 hL ⊢;rcases sy with ⟨w',zs,cc,ez,hw,rd,q⟩ | ⟨ws,w',v,c,ez,e1,hv,hch,g,ask,q⟩
 .obtain ⟨ws,ew⟩:=xb ez;rw [ew] at hL;refine [NW,l,_,_,_,[NO,hL],gH rfl,([Su,ifS rfl ?_])];refine [Mu,[NA,C,D,dx,_,s1 _ _ hD,O.cl,O.chr,([QW,?_])]];refine ([U8,([NN,z,MC,w',([PU,"; ",zs]),ez,sM,(bM (eQ hw) L6 ([VV,?_]))])]);have s2:=[XG,hp,[.str MC,.str w',.str ([PU,"; ",zs])]];have s12:=Rf;refine (cf D d p kvs ([NA,MC,w',zs,cc,dk0.same s12,kl,aq,(bM hw rd (fun H' v b hd' hc'=>?_))]));exact q H' v (fun a o ne e=>b a o ne (s12 _ _ e)) hd' hc'
 .refine e9 (ask.words g :) fun h0 fm pp5 n2 n3 n4=>?_;obtain ⟨a0,fv,n1,n5,wok,w100,wne,fr⟩:=pp5;have esp:[Rt,z]=ws:=by rw [jm]; exact hZ ez wne fr
  rw [esp] at hL;have T1:SqL K H1 l (Sv):=[Tn,hL];refine [NW,l,_,_,_,T1,gH a0,([Su,ifN n1 ?_])];refine [Mu,[NA,l,ws,h0,fm,hL,a0,fv,(fI n5 wok w100 (fun H2 s2=>?_))]];have s12:=Rf;have T2:SqL K H2 l (Sv):=[Tn,s2 _ _ hL];refine [NW,l,_,_,_,T2,gH a0,([Su,ifN n2 ?_])];refine [NW,l,_,_,_,T2,gH a0,([Su,ifN n3 ?_])];refine [NW,l,_,_,_,T2,gH a0,([Su,ifN n4 ?_])];refine [NW,l,_,_,_,T2,gH a0,([Su,ifN n5 ?_])];refine [Mu,[NA,C,D,dx,_,s12 _ _ hD,O.cl,O.std,([QW,?_])]];refine [NW,l,_,_,_,T2,(bh (j:=1) (by rw [List.getElem?_map,e1]; rfl)),?_];refine (cf D d kvs w' (cC v rfl (dk0.same s12) hv ?_));exact [Mu,[NA,v,c,l,ws,([SD,s12]),g,s2 _ _ hL,(aH ask (fun H3 x s3 an=>q H3 x (s12.trans s3) an))]]
end
end K82.S
namespace L2
open PySem PySem.Spec PyProof.Rows
def E8 (xs:Nz) (z:Str):Prop:=(∃ y,xs=[.str y]/\z=y)\/∃ i:Int,xs=[RF]/\i.natAbs.log2<1920/\z=toString i
theorem Cj {X:Cx}:dM X [Sx,Z3] ([Tb,∃ z,E8 xs z/\Q (R9) H]):=by
 intro pins s σ H xs us Q I r h;refine ar h fun z pp1 q=>?_;clear h;obtain h | h:=pp1
 .refine ar h fun y e eq2=>?_;clear h;subst eq2;exact fV pins s σ H xs us Q I r ([PY,.inl (af _ e q)])
 .refine bp h fun i e l eq3=>?_;clear h;subst eq3;exact fV pins s σ H xs us Q I r ([ZT,aC _ e l q])
end L2
namespace K82.S
open PySem L2
theorem GX (names:MB) (l:Lis):[YZ,O4]++"+"++Xl++iY l=gE names l:=eJ (by
 unfold gE;simp only [cy];rfl)
def d7 (c:M6):MB:=c.map fun b=>lX (Ng) b (Xn)
theorem Ds {c:M6} (g:Qu):∀ z∈d7 c,[Se,140]:=fun z hz=>by
 refine [UJ,hz,fun b hb eq4=>?_];subst eq4;have gb:=g.gb b hb;exact AS (yG gb.r ([NV,gb.n6])) gb ([PQ,Mm]) ([RD,by refine [UJ,hx,fun b' hb' eq5=>?_];subst eq5; exact g.len b' hb']) (g.len b hb)
theorem JA {n:Nat} {r:RW} (h:GoodR n r) (hn:n<=1000):E8 [rwV r] (rwS r):=by
 cases r with
 | all=>exact .inl [Mn,rfl]
 | any=>exact .inl [Mn,rfl]
 | num i =>
  have h':1<=i/\i<=Pp:=h;exact [PY,[Oz,i,oN L6 L6,rfl]]
section
variable {P:Program} {w:World} {K:M3} {mg:Str->Ms} {base:Heap} {f:Addr} {fd:FuncData}
def qr:Sp:=[MV,∃ (ch:V) (c:M6),vs=[ch]/\[Rc,H,ch]/\Qu/\∀ H',Pk->Q [XE,([PU,"; ",d7 c])] H']
theorem eW:[QI,[Oq,"_law_rows_here","_law_name","_law_start","_law_rule_here","_law_listenings","_law_words","_law_whom","_law_beats","_law_back"],[Oq],uT]:=R1
theorem Dc (F:[UG,"_law_rows","_law_rows",uT]) (B:Q5):FnOk P w K mg base CX0 1 f fd [Oq] qr:=by
 refine [T5,eW]
 .refine bU h fun ch c eq6 _=>?_;clear h;subst eq6;rfl
 refine e9 h fun ch c eq7 pp8 g q=>?_;clear h;subst eq7;obtain ⟨a,bs,rfl,ha,prb⟩:=pp8;refine [Xr,[YG,1,eW.nd,cM ah,ak (cT Ny rfl (dj NB) (fL rfl ([YY,2,eW.nd,([YY,3,eW.nd,([YY,4,eW.nd,([YY,5,eW.nd,dG])])])])) ([YG,6,eW.nd,(cM (ae TR [RL,(bX fV rfl B.str_ Q3 [Ou,T3]),bX Cj rfl B.str_ Q3 [Ou,UL]])),ak (cT Ny rfl (dj (Yc)) (fL rfl ([YY,7,eW.nd,([YY,8,eW.nd,([YY,9,eW.nd,dG])])])) (av (cH (dr Ow P4 P2 dq (pv 6) [Ou,bD bV (bD bV (bD bV ([Tq,([RV,bo,NB,pv 7])]) a8) (bX fV rfl B.str_ Q3 [Ou,pv 8])) ([RV,aU,(cM (ae a8 [Ot,a8])),pv 9])])))) (av (cH (dr Ow P4 P2 dq RB [Ou,dr O5 Uj Ui kI a8 [Ou,pv 6]])))])) (av (aI (dr O5 Uj Ui kI a8 [Ou,P0])))]]
 have hbl:=aJ prb;have c6:=g.c6;refine [Mw,([Qq,0]),fun r hrr=>?_];have s0:=[XG,hrr,[]];have hr0:([Py,H,r,[]]) r=[MI,[]]:=aq;generalize upd H r (.lst [])=H0 at s0 hr0 ⊢;refine ⟨_,rfl,a,rfl,[T7,[S2,s0 _ _ ha]],ni (K:=K) (a:=a) (xs:=bs) (fun i σ H1=>∃ (o2 o3 o4 o5 o6 o7 o8 o9:RT),σ=[Vc,[Mv,r],o2,o3,o4,o5,o6,o7,o8,o9]/\[Pc,H1]/\H1 r=[VM,[OI,(d7 c).take i]]) (cf none none none none (mr none none none none rfl s0 hr0)) (fun i σ H1 _ pr=>bN pr fun _ _ _ _ pq0=>wN pq0 fun _ _ _ _ _ z _=>[S2,z _ _ ha]) ?_ ?_⟩
 .intro i x σ H1 hx pr;refine bN pr fun o2 o3 o4 o5 pq0=>wN pq0 fun o6 o7 o8 o9 eq9 s1 hr1=>?_;clear pq0 pr;subst eq9;refine [NC,bg prb hx,fun b hb pq0=>jF pq0 fun ba tt ls eq0 hba htt prl=>?_];clear pq0;subst eq0;have hi:=Wy;have gb:=g.gb b [Xg,hb];have n6:=gb.n6;refine ([Rg,ba,_,[ZG,s1 _ _ hba],rfl,([Xp,_,_,([Xp,_,_,([Xp,_,_,ZU])])])]);refine [MR,[ZT,[U3,oN gb.s0 gb.s1,[Mu,[Yn,Xn,JA gb.r L6]]]]];refine [Mw,([Qq,3]),fun wl hwl=>?_];have s2:=[XG,hwl,[Sj,.str (Ur),.str (Xn)]];have hw2:([Py,H1,wl,[Sj,.str (Ur),.str (Xn)]]) wl=[VM,[OI,[b.name,Ur,Xn]++[Tr,b.lis.take 0,gE (Ng)]]]:=aq;have s12:=Rf;have w0:H wl=none:=s1.free hwl;have nrw:r≠wl:=aV hr1 hwl;have hr2:=s2 _ _ hr1;refine ⟨_,rfl,tt,rfl,[T7,[S2,s12 _ _ htt]],ni (K:=K) (a:=tt) (xs:=ls) (fun j σ H3=>∃ (o7 o8 o9:RT),σ=[Vc,[Mv,r],[Mo,Sj],[Mo,.int b.start],[Mo,ZC],[Mv,tt],[Mv,wl],o7,o8,o9]/\[Pc,H3]/\H3 r=[VM,[OI,(d7 c).take i]]/\H3 wl=[VM,[OI,[b.name,Ur,Xn]++[Tr,b.lis.take j,gE (Ng)]]]) (dh _ _ _ rfl s12 hr2 hw2) (fun j σ H3 _ pr=>fP pr fun _ _ _ _ z _=>[S2,z _ _ htt]) ?_ ?_⟩
  .intro j y σ H3 hy pr;refine jF pr fun o7 o8 o9 eq1 s3 hr3 hw3=>?_;clear pr;subst eq1;refine [NC,bg prl hy,fun l hl pq0=>[W5,fun la eq2 hla=>?_]];clear pq0;subst eq2;refine fX (gb.l l [Xg,hl] :) fun g1 g2 g3 _=>?_
   have hj:=[L8,hl];have hwc:=[M4,g1];refine [NC,cF prb hwc,fun bv ebv pq0=>fP pq0 fun ba2 tt2 ls2 eq3 hba2 _=>?_];clear pq0;subst eq3;have n8:=g.len _ ([QN,g1]);have hnm:(Ng).getD l.whom O4=(c[l.whom]'g1).name:=by
    rw [Nj,Mz,hwc];rfl
   have lp:[RJ,"+"]=1:=L5
   have l4:=(kG (n:=l.beats) L6 g3).2;have l5:=AG l;refine ([Rg,la,_,[ZG,s3 _ _ hla],rfl,([Xp,_,_,([Xp,_,_,ZU])])]);rw [<- hnm] at hba2 n8;generalize (c.map (·.name)).getD l.whom Str.empty=nm at hba2 n8 hnm;have b1:=a9 nm "+";have b2:=a9 (nm++"+") (Xl);have b3:=a9 (nm++"+"++Xl) (iY l);refine ([U3,[T6,([QW,(e8 _ [NO,hw3])])],[VO,a,_,_,_,[ZG,s3 _ _ ha],bh ebv,([NN,ba2,_,_,_,[ZG,s3 _ _ hba2],rfl,([VX,_,_,Nh,[Mu,[ZT,[U3,oN L6 g3,([Yv,_,_,rfl,([Pn,[MP,nm++"+"]+[MP,Xl]]),Zn,(fun el hel=>?_)])]]]])])]]);have v1:=[XG,hel,[.str "=",.str ""]];have hat:atI [V.str "=",V.str ""] ([Mj,l.back,1,0])=[Mo,.str (iY l)]:=by
    unfold iY;cases l.back
    .exact Gh _ _
    .exact bh (j:=1) rfl
   have hwe:=v1 _ _ hw3;have hre:=v1 _ _ hr3;refine [NW,el,_,_,_,[NO,aq],hat,([VX,_,_,([Pn,[MP,nm++"+"++Xl]+[MP,iY l]]),?_])];refine ([SO,wl,_,_,rfl,hwe,?_,?_])
   .rw [Mc,Na,Mc,Nc];exact aM ([NF,3+min j OC<=1000])
   .refine (dh _ _ _ rfl ((s3.trans v1).upd w0 _) (by rw [aK nrw]; exact hre) ?_);have en:nm++"+"++Xl++iY l=gE (Ng) l:=by
     rw [<- GX,Nj,Mz,hwc,hnm];rfl
    have e3:[OI,[b.name,Ur,Xn]++[Tr,b.lis.take (j+1),gE (Ng)]]=[OI,[b.name,Ur,Xn]++[Tr,b.lis.take j,gE (Ng)]]++[V.str (nm++"+"++Xl++iY l)]:=by
     rw [[Tj,hl],List.map_append (f:=gE (Ng)),<- QK,Mt,en];rfl
    rw [e3];exact aq
  .intro σ H3 pr;refine jF pr fun o7 o8 o9 eq4 s3 hr3 hw3=>?_;clear pr;subst eq4;rw [aJ prl,NL] at hw3;have hrow:(d7 c)[i]?=[Mo,lX (Ng) b (Xn)]:=by
    unfold d7;rw [Mz,hb];rfl
   have pl:∀ z∈[b.name,Ur,Xn]++[Sd,gE (Ng)],[Se,1000]:=fun z hz=>by
    rcases List.mem_append.mp hz with h | h
    .rcases List.mem_cons.mp h with rfl | h
     .have:=g.len b [Xg,hb]; omega
     rcases List.mem_cons.mp h with rfl | h
     .have:=(kG gb.s0 gb.s1).2; omega
     rw [[MQ,h]];have:=yG gb.r L6;omega
    .refine [UJ,h,fun l hl eq5=>?_];subst eq5;refine fX (gb.l l hl :) fun g1 g2 g3 _=>?_
     have:=AE (names:=Ng) ([RD,by refine [UJ,hx,fun b' hb' eq6=>?_];subst eq6; exact g.len b' hb']) g2 g3 ([PQ,g1]);omega
   refine (cC _ rfl [T6,([QW,(e8 _ [NO,hr3])])] rfl [Mu,[SO,_,wl,_,rfl,hw3,(gQ (by rw [ju]; decide) (by rw [List.length_append,List.length_map]; show 3+_<=100; omega) pl),?_]]);refine ([SO,r,_,_,rfl,hr3,?_,?_])
   .rw [Mc,Nc];exact Sf
   .refine (cf _ _ _ _ (mr _ _ _ _ rfl (s3.upd hrr _) ?_));rw [[Tj,hrow],Mt];exact aq
 .intro σ H1 pr;refine bN pr fun o2 o3 o4 o5 pq0=>wN pq0 fun o6 o7 o8 o9 eq7 s1 hr1=>?_;clear pq0 pr;subst eq7;have el:Wu=[MP,d7 c]:=by
   unfold d7;rw [Mc];exact hbl
  rw [el,NL] at hr1;exact ([Su,[SO,_,r,_,rfl,hr1,(Cy (Ds g) (by rw [<- el,hbl]; exact c6)),q H1 s1]])
end
end K82.S
namespace K82.S
open PySem L2
theorem Fw {c x:Nat}:∀ {ps:[MG,N7]},x∈jn c ps->x=c\/∃ p∈ps,x∈p
 | [],h=>([PL,h])
 | [p],h=>[PY,af p ME h]
 | p::q::r,h=>by
  rcases List.mem_append.mp h with h | h
  .exact [PY,af p ME h]
  rcases List.mem_cons.mp h with h | h
  .exact .inl h
  rcases Fw (ps:=q::r) h with h | ⟨y,hy,hx⟩
  .exact .inl h
  .exact [PY,af y ([MX,hy]) hx]
theorem Fg {c:M6} (g:Qu) {b:Bell} (hb:b∈c) {r:RW} (gr:GoodR OC r):59∉[NU,lX (Ng) b (rwS r)]:=fun h=>by
 have gb:=g.gb b hb;have n6:=gb.n6;unfold lX at h;rw [jm,fT] at h;rcases Fw h with h | ⟨p,hp,hx⟩
 .cases h
 refine [UJ,hp,fun z hz eq8=>?_];subst eq8;rcases List.mem_append.mp hz with hz | hz
 .rcases List.mem_cons.mp hz with rfl | hz
  .have:=fN (g.wd b hb) 59 hx;omega
  rcases List.mem_cons.mp hz with rfl | hz
  .have:=fo gb.s0 gb.s1 59 hx;omega
  rw [[MQ,hz]] at hx;cases r with
  | all=>have:=nX _ hx; omega
  | any=>have:=oO _ hx; omega
  | num i =>
   have g':1<=i/\i<=[My,OC]:=gr;have:=fo (n:=i) L6 L6 59 hx;omega
 .refine [UJ,hz,fun l hl eq9=>?_];subst eq9;refine fX (gb.l l hl :) fun g1 g2 g3 _=>?_
  refine [NC,g.heard hb l hl,fun nm hnm hn=>?_]
  have hg:(Ng).getD l.whom O4=nm:=by rw [List.getD_eq_getElem?_getD,hnm]; rfl
  rw [tq,hg,cy] at hx;rcases List.mem_append.mp hx with h | h
  .have:=fN (tP hn) _ h;omega
  rcases List.mem_cons.mp h with h | h
  .cases h
  rcases List.mem_append.mp h with h | h
  .have:=fo L6 g3 _ h;omega
  .unfold iY at h;rw [eq_str] at h;split at h
   .cases h
   .rcases List.mem_cons.mp h with h | h <;> cases h
theorem wz {c:M6} (g:Qu) (rs:Bell->RW) (hr:[Ru,c,GoodR OC (rs b)]):Readable (c.map fun b=>lX (Ng) b (rwS (rs b))) (c.map fun b=>rS b (rs b)):=by
 refine cb (BH g rs hr rfl :) fun _ h2 h3=>?_
 refine ⟨[PQ,g.c1],[PQ,g.c6],fun z hz=>?_,fun z hz=>?_,h3,h2⟩
 .refine [UJ,hz,fun b hb eq0=>?_];subst eq0;have gb:=g.gb b hb;exact AS (yG (hr b hb) ([NV,gb.n6])) gb ([PQ,Mm]) ([RD,by refine [UJ,hx,fun b' hb' eq1=>?_];subst eq1; exact g.len b' hb']) (g.len b hb)
 .refine [UJ,hz,fun b hb eq2=>?_];subst eq2;exact Fg g hb (hr b hb)
theorem kT {c:M6} (g:Qu):Readable (d7 c) c:=by
 have h:=wz g (fun b=>b.rule) [Pg,(g.gb b hb).r]
 have e:(c.map fun b=>rS b b.rule)=c:=by
  have:(fun b:Bell=>rS b b.rule)=id:=funext fun b=>rfl
  rw [this,List.map_id]
 rw [e] at h;exact h
theorem xO {n m:Nat} (hn:n<1001) (hm:m<1001) (h:XQ=[Tw,m]):n=m:=by
 have a:=gZ hn;rw [h,gZ hm] at a;have:=[Mq,a];omega
theorem qP {c:M6} (g:Qu) {i j:Nat} {b b':Bell} (h:c[i]?=QZ) (h':c[j]?=some b') (e:b.name=b'.name):i=j:=by
 have a:(Ng)[i]?=some b.name:=by rw [List.getElem?_map,h]; rfl
 have a':(Ng)[j]?=some b.name:=by rw [List.getElem?_map,h',e]; rfl
 exact ([Y1,[L8,a],g.nd]).mp (a.trans a'.symm)
theorem cQ {a b:Str} {r s:MB} (h:a::r=b::s) (ne:a≠b):False:=ne ([Pt,h]).1
theorem Bx {c:M6} {w z:Str} (h:Ans c [[Rk,"waits"],w] z):∃ now,Fix c (S8) now/\z=pJ (cm c now):=by
 rcases h with ⟨_,now,_,e⟩ | ⟨_,_,_,_,e,_⟩ | ⟨_,_,_,_,_,e,_⟩ | ⟨_,_,_,_,_,_,_,_,_,_,e,_⟩ | ⟨_,_,_,_,_,_,_,_,_,_,e,_⟩
 .exact [Mw,now,e]
 .exact [Zv,e,Rb]
 .exact [Zv,e,Rb]
 .exact [Zv,e,Rb]
 .exact [Zv,e,Rb]
theorem CP {c:M6} {w z:Str} {most:Nat} (hm:most<=500) (h:Ans c [[Rk,ZO],w,[Tw,most]] z):∃ R o,SeqR c R/\qc R most o/\z=Gm o:=by
 rcases h with ⟨_,_,e,_⟩ | ⟨w',m',R,o,e,hm',e2⟩ | ⟨_,_,_,_,_,e,_⟩ | ⟨_,_,_,_,_,_,_,_,_,_,e,_⟩ | ⟨_,_,_,_,_,_,_,_,_,_,e,_⟩
 .exact [Zv,e,Rb]
 .have e3:=([Pt,([Pt,([Pt,e]).2]).2]).1;have:=xO L6 L6 e3;subst this;exact (pQ R o e2)
 .exact [Zv,e,Rb]
 .exact [Zv,e,Rb]
 .exact [Zv,e,Rb]
theorem qT {c:M6} (g:Qu) {w z:Str} {i n:Nat} {b:Bell} (hn:n<=1000) (hb:c[i]?=QZ) (h:Ans c [[Rk,Zy],w,b.name,XQ] z):∃ o,qx c n i o/\z=Ej o:=by
 rcases h with ⟨_,_,e,_⟩ | ⟨_,_,_,_,e,_⟩ | ⟨w',i',n',b',o,e,hn',hb',e2⟩ | ⟨_,_,_,_,_,_,_,_,_,_,e,_⟩ | ⟨_,_,_,_,_,_,_,_,_,_,e,_⟩
 .exact [Zv,e,Rb]
 .exact [Zv,e,Rb]
 .have e3:=([Pt,([Pt,e]).2]).2;have e4:=([Pt,e3]).1;have e5:=([Pt,([Pt,e3]).2]).1;have a:=xO L6 L6 e5;have d:=qP g hb hb' e4;subst a d;exact [Mw,o,e2]
 .exact [Zv,e,Rb]
 .exact [Zv,e,Rb]
theorem DW {c:M6} (g:Qu) {w z:Str} {i:Nat} {b:Bell} (hb:c[i]?=QZ) (h:Ans c [[Rk,"pace"],w,b.name] z):∃ (B:N7) (sd mt mb:Int) (way ring:QE) (h:Nat->Int),[Zo,c,i,B,sd,mt,mb,way,h]/\z=pP mt mb:=by
 rcases h with ⟨_,_,e,_⟩ | ⟨_,_,_,_,e,_⟩ | ⟨_,_,_,_,_,e,_⟩ | ⟨w',i',b',B,sd,mt,mb,way,ring,h,e,hb',e2⟩ | ⟨_,_,_,_,_,_,_,_,_,_,e,_⟩
 .exact [Zv,e,Rb]
 .exact [Zv,e,Rb]
 .exact [Zv,e,Rb]
 .have e4:=([Pt,([Pt,([Pt,e]).2]).2]).1;have d:=qP g hb hb' e4;subst d;exact (cf B sd mt mb (Dt way ring h e2))
 .exact [Zv,e,Rb]
theorem Eh {c:M6} (g:Qu) {w z:Str} {i:Nat} {b:Bell} (hb:c[i]?=QZ) (h:Ans c [[Rk,A03],w,b.name] z):∃ (B:N7) (sd mt mb:Int) (way ring:QE) (h:Nat->Int),[Zo,c,i,B,sd,mt,mb,way,h]/\z=[PU,Xu,([WZ,[W7,s.1]])]:=by
 rcases h with ⟨_,_,e,_⟩ | ⟨_,_,_,_,e,_⟩ | ⟨_,_,_,_,_,e,_⟩ | ⟨_,_,_,_,_,_,_,_,_,_,e,_⟩ | ⟨w',i',b',B,sd,mt,mb,way,ring,h,e,hb',e2⟩
 .exact [Zv,e,Rb]
 .exact [Zv,e,Rb]
 .exact [Zv,e,Rb]
 .exact [Zv,e,Rb]
 .have e4:=([Pt,([Pt,([Pt,e]).2]).2]).1;have d:=qP g hb hb' e4;subst d;exact (cf B sd mt mb (Dt way ring h e2))
theorem yn {d:Addr} {H H':Hp} {kvs:Vm} (b:But d H H') (hd:H d=[Mo,Yj]):iQ H H':=fun a xs e=>b a _ (eR e hd (OF)) e
theorem DeskAt.but {C:Addr} {H H':Hp} {D d:Addr} {kvs kvs':Vm} (h:DeskAt C H D d kvs) (b:But d H H') (hd:H' d=[Mo,.dK kvs']):DeskAt C H' D d kvs':=by
 obtain ⟨⟨dx,h1⟩,h2⟩:=h;exact [Mw,[Mw,dx,b _ _ (eR h1 h2 (OF)) h1],hd]
theorem vd:cB [Rk,"a"]=true:=L5
end K82.S
namespace K82.S
open PySem L2
def Other (c c':M6):Prop:=[Vg,(fun b b'=>b'.name=b.name/\b'.rule=b.rule/\b'.lis=b.lis/\0<=b'.start/\b'.start<=1000),c,c']
section
variable {P:Program} {w:World} {K:M3} {mg:Str->Ms} {base:Heap} {f:Addr} {fd:FuncData}
def nJ:Sp:=[MV,∃ (p:Addr) (k:Nat) (ch:V) (c:M6),vs=[TN,ch]/\PkAt H p k/\k<=1000/\[Rc,H,ch]/\c.length<=6/\∀ (H':Hp) (v:V) (c':M6),But p H H'->PkAt H' p k->ChoirAt H' v c'->Other c c'->Q v H']
theorem gK:[QI,[Nq,Oq,"_law_bells","_law_name","_law_start","_law_rule_here","_law_listenings"],[Nq,Oq],vf]:=R1
theorem CH (F:[UG,"_law_other","_law_other",vf]) (B:Q5) (C_take:[R3,1,Xo,[Nq,Pm],iq]):FnOk P w K mg base CX0 2 f fd [Nq,Oq] nJ:=by
 refine [T5,gK]
 .refine fB h fun p k ch c eq1 _=>?_;clear h;subst eq1;rfl
 refine cZ h fun p k ch c eq2 pk hk pp3 pq0=>bZ pq0 fun c6 q=>?_;clear pq0 h;subst eq2;obtain ⟨a,bs,rfl,ha,prb⟩:=pp3;refine [Xr,[YG,2,gK.nd,cM ah,ak (cT Ny rfl (dj RB) (fL rfl ([YY,3,gK.nd,([YY,4,gK.nd,([YY,5,gK.nd,([YY,6,gK.nd,dG])])])])) (av (cH (dr Ow P4 P2 dq TR [Ou,dB (ae VY (ae [S4,C_take,ae NB TV] [RL,Yc,pv 6]))])))) (av (aI (bX eS rfl B.tuple_ Rq [Ou,Qn])))]]
 have hbl:=aJ prb;refine [Mw,([Qq,0]),Vz];have lp:=pk.ne hl;have s0:=[XG,hl,[]];have hl0:([Py,H,l,[]]) l=[MI,[]]:=aq;have pk0:=pk.same s0;generalize upd H l (.lst [])=H0 at s0 hl0 pk0 ⊢;refine ⟨_,rfl,a,rfl,[T7,[S2,s0 _ _ ha]],ni (K:=K) (a:=a) (xs:=bs) (fun i σ H1=>∃ (o3 o4 o5 o6:RT) (vs:Nz) (cs:M6),σ=[[Mv,p],Vc,[Mv,l],o3,o4,o5,o6]/\But p H H1/\PkAt H1 p k/\H1 l=[MI,vs]/\[Vg,BellAt H1,vs,cs]/\Other (c.take i) cs) (cf none none none none ([Yv,[],[],([Wi,s0]),pk0,hl0,aH .nil .nil])) (fun i σ H1 _ pr=>bN pr fun _ _ _ _ pq0=>aX pq0 fun _ _ _ z _=>[S2,pk.tup z _ _ ha]) ?_ ?_⟩
 .intro i x σ H1 hx pr;refine bN pr fun o3 o4 o5 o6 pq0=>fz pq0 fun vs cs eq4 b1 pk1 hl1 pq1=>bZ pq1 fun pr1 oc=>?_;clear pq0 pq1 pr;subst eq4;refine [NC,bg prb hx,fun b hb pq0=>jF pq0 fun ba tt ls eq5 hba htt prl=>?_];clear pq0;subst eq5;have hi:=Wy;refine ([Rg,ba,_,[ZG,pk.tup b1 _ _ hba],rfl,([Xp,_,_,([Xp,_,_,([Xp,_,_,ZU])])])]);refine ([U3,[T6,([QW,(e8 _ [NO,hl1])])],[MR,[SO,p,k,_,pk1,hk,M0,(aH M0 (fun d H2 hd b2 pk2=>?_))]]]);refine [Mu,[U3,([Qq,4]),ZQ]];have s3:=aw hx [Rj,[Sj,[MH,d],ZC,.ref tt]];have hx3:([Rz,H2,x,[Sj,[MH,d],ZC,.ref tt]]) x=[OD,[Sj,[MH,d],ZC,.ref tt]]:=aq;have b02:=b1.trans b2;have b03:But p H ([Rz,H2,x,[Sj,[MH,d],ZC,.ref tt]]):=b02.trans ([Wi,s3]);have hl3:=s3 _ _ (b2 _ _ lp hl1);have pk3:=pk2.same s3;have t13:iQ H1 ([Rz,H2,x,[Sj,[MH,d],ZC,.ref tt]]):=fun y ys e=>s3 _ _ (pk1.tup b2 y ys e)
  generalize upd H2 x (.tup [.str b.name,.int (d:Int),rwV b.rule,.ref tt])=H3 at s3 hx3 b03 hl3 pk3 t13 ⊢;have vl:=aJ pr1;have ol:=aJ oc;rw [Nc] at ol;refine ([SO,l,vs,_,rfl,hl3,Sf,?_]);have tS:iQ H3 ([Py,H3,l,vs++[Ya]]):=fun y ys e=>by
   rw [aK (eR e hl3 (OF))];exact e
  have t03:=pk.tup b03;refine (cf _ _ _ _ ([Yv,vs++[Ya],(cs++[⟨b.name,[My,d],b.rule,b.lis⟩]),(fun y o ne e=>by rw [aK (aV e hl)]; exact b03 _ _ ne e),?_,aq,aH ?_ ?_]))
  .obtain ⟨z,hz⟩:=pk3;exact [Mw,z,by rw [aK (Ne.symm lp)]; exact hz]
  .exact cP (BellAt.mono tS [Yh,BellAt H3 [MT,x] ⟨b.name,[My,d],b.rule,b.lis⟩,(dh x tt ls rfl hx3 (t03 _ _ htt) (bL ([Tz,z.mono t03]) prl))]) (bL ([Tz,(z.mono t13).mono tS]) pr1)
  .rw [[Tj,hb]];exact cP ⟨rfl,rfl,rfl,[NF,Zl<=[My,d]],[NF,[My,d]<=1000]⟩ oc
 .intro σ H1 pr;refine bN pr fun o3 o4 o5 o6 pq0=>fz pq0 fun vs cs eq6 b1 pk1 hl1 pq1=>bZ pq1 fun pr1 oc=>?_;clear pq0 pq1 pr;subst eq6;rw [hbl,NL] at oc;refine [Mu,[Xp,l,_,[T6,[Mw,[Tn,hl1],fun t ht=>?_]]]];have s2:=aw ht [Rj,vs];exact q _ _ cs (b1.trans ([Wi,s2])) (pk1.same s2) ([Od,t,vs,aq,(bL ([Tz,z.mono [OT,s2]]) pr1)]) oc
end
end K82.S
namespace K82.S
open PySem L2
def jI (R:Nat->Nk) (N:Nat):[MG,MU]:=[Tr,[RQ,N+1],fun n=>[Tr,R n,some]]
theorem lP {R:Nat->Nk} {N n:Nat} {row:MU} (h:(jI R N)[n]?=some row):n<=N/\row=[Tr,R n,some]:=by
 unfold jI at h;rw [Mz] at h;by_cases hn:n<N+1
 .rw [[A0e,hn]] at h;exact [Mw,Mr,[YH,h]]
 .rw [[Q8,(by rw [List.length_range]; omega)]] at h;cases h
theorem xi {R:Nat->Nk} {N n:Nat} (h:n<=N):(jI R N)[n]?=[Mo,[Tr,R n,some]]:=by
 unfold jI;rw [Mz,[A0e,L6]];rfl
theorem tw {c:M6} {R:Nat->Nk} (s:SeqR c R):[Tr,R 0,some]=S8:=by
 rw [s.first,Qb];rfl
theorem vM {c:M6} {R:Nat->Nk} (s:SeqR c R) (N:Nat):Rows c (jI R N) where
 first:=fun row h=>by
  rw [(lP h).2];exact tw s
 next:=fun n x y hx hy=>by
  rw [(lP hx).2,(lP hy).2];exact s.next n
def fq (R:Nat->Nk) (n x:Nat):Int:=((R n)[x]?).getD 0
theorem jP {c:M6} {R:Nat->Nk} (s:SeqR c R) {N n x:Nat} (hn:n<=N) (hx:[OA,x]):at2 (jI R N) n x=fq R n x:=by
 have hl:x<[MP,R n]:=by rw [s.len]; exact hx
 have e:(R n)[x]?=some (R n)[x]:=[M4,hl];refine [Q9,(rb (xi hn) (v:=(R n)[x]) (by rw [List.getElem?_map,e]; rfl)),?_];unfold fq;rw [e];rfl
theorem rm {c:M6} {r:Nk}:cm c (r.map some)=[]:=by
 refine List.map_eq_nil_iff.mpr (List.filter_eq_nil_iff.mpr fun z hz=>?_);refine [UJ,(List.of_mem_zip ([XO,hz])).2,fun v _ e=>?_]
 rw [<- e];exact MZ
theorem F7 {c:M6} {sd:Int} {R:Nat->Nk} (fi:ZE) (s:SeqR c R) (hs:k8 c sd):StrkE c sd (fq R):=⟨fun N=>by
 have fx:Fix c (S8) ([Tr,R 1,some]):=by
  have:=s.next 0;rw [tw s] at this;exact this
 have S:=Gx (N:=N) fi (vM s N) hs fx rm (by unfold jI; rw [List.length_map,List.length_range]);have wl:∀ {x p:Nat} {l:Lis},bO c x p=Qv->[OA,x]/\[OA,l.whom]:=fun {x p l} h=>by
  refine [NC,eC h,fun b hb hl=>?_]
  exact [Mw,Wy,((fi.2 x b hb).2.2.2 l [Xg,hl]).1]
 refine ⟨fun x b hb=>?_,fun n x p l hn hl=>?_,fun n x hn hx=>?_⟩
 .rw [<- jP s (Nat.zero_le N) Wy];exact S.z x b hb
 .obtain ⟨h1,h2⟩:=wl hl;rw [<- jP s [Yu,n+1 - bkN l<=N] h2,<- jP s [Yu,n+1<=N] h1];exact S.le n x p l hn hl
 .refine bU (S.ex n x hn hx :) fun p l hl e=>?_
  obtain ⟨h1,h2⟩:=wl hl;refine (bP p l hl ?_);rw [<- jP s [Yu,n+1 - bkN l<=N] h2,<- jP s [Yu,n+1<=N] h1];exact e⟩
theorem Ia {c:M6} {R:Nat->Nk} (hc:jL c) (s:SeqR c R) {f p:Nat} {d:Int} (h:Sh R f (f+p) d):∀ x,[OA,x]->∀ n,f<=n->∀ j:Nat,fq R (n+j * p) x=fq R n x+j * d:=fun x hx n hn j=>by
 have far:=Sh.far hc s h (n - f);rw [[MM,f+p+(n - f)=(f+(n - f))+p],[MM,f+(n - f)=n]] at far;have t:=Sh.times hc s far j;unfold Sh at t;unfold fq;rw [t,Mz,[M4,(show x<[MP,R n] by rw [s.len]; exact hx)]];rfl
theorem xy {c:M6} {x y:Int} (h:k8 c x) (h':k8 c y):x=y:=by
 rcases h with ⟨a,e⟩ | ⟨a,_,e⟩ <;> rcases h' with ⟨a',e'⟩ | ⟨a',_,e'⟩
 .rw [e,e']
 .exact [O9,a,a']
 .exact [O9,a',a]
 .rw [e,e']
theorem vp {c:M6} {x:Int} (h:k8 c x):x=1\/x=-1:=by
 rcases h with ⟨_,e⟩ | ⟨_,_,e⟩
 .exact .inl e
 .exact .inr e
theorem Fq {c:M6} (fp:T4) {b:Nat} (hb:[OA,b]) {B:N7} {sd mt mb:Int} {way ring:QE} {h:Nat->Int} (pi:[Zo,c,b,B,sd,mt,mb,way,h]):iE c B/\∀ x∈B,[OA,x]:=by
 refine [Mw,fun x hx k hk=>?_,ZQ]
 .refine (pi.mem k).mpr (.inr ?_);rcases (pi.mem x).mp hx with rfl | hx
  .exact .one hk
  .exact .more hx hk
 .rcases (pi.mem x).mp hx with rfl | hx
  .exact hb
  .exact hx.lt fp.w
theorem zK {c:M6} {R:Nat->Nk} (fi:ZE) (fp:T4) (s:SeqR c R) {f p:Nat} {d:Int} (sh:Sh R f (f+p) d) {b:Nat} (hb:[OA,b]) {B:N7} {sd mt mb:Int} {way ring:QE} {h:Nat->Int} (pi:[Zo,c,b,B,sd,mt,mb,way,h]):mt * p=d * mb:=by
 obtain ⟨cl,lt⟩:=Fq fp hb pi;exact yK (F7 fi s pi.side) fp (vp pi.side) pi cl lt (Ia fi.slow s sh)
theorem Hr.trans {c:M6} {a b k:Nat} (h:Hr c a b) (h':Hr c b k):Hr c a k:=by
 induction h' with
 | one m=>exact .more h m
 | more _ m ih=>exact .more ih m
theorem lI {c:M6}:∀ {r:QE} {goal:Nat},iW c r goal->∀ u∈r,Hr c u.1 goal
 | [s],goal,h,u,hu=>by
  rw [[MQ,hu]];refine ar h fun l hl e=>?_;clear h;rw [<- e];exact .one (dz hl)
 | s::t::r,goal,h,u,hu=>by
  obtain ⟨⟨l,hl,e⟩,h⟩:=h;rcases List.mem_cons.mp hu with rfl | hu
  .have a:Hr c u.1 t.1:=by rw [<- e]; exact .one (dz hl)
   exact a.trans (lI h t ME)
  .exact lI h u hu
theorem sI {c:M6}:∀ {r:QE} {s:Nat×Nat} {goal:Nat},iW c (s::r) goal->∀ u∈s::r,u.1=s.1\/Hr c s.1 u.1
 | [],s,goal,_,u,hu=>.inl (by rw [List.mem_singleton.mp hu])
 | t::r,s,goal,h,u,hu=>by
  obtain ⟨⟨l,hl,e⟩,h⟩:=h;rcases List.mem_cons.mp hu with rfl | hu
  .exact Qf
  have a:Hr c s.1 t.1:=by rw [<- e]; exact .one (dz hl)
  rcases sI h u hu with e' | h'
  .rw [e'];exact .inr a
  .exact [PY,a.trans h']
theorem Bl {c:M6} {B:N7} {r:QE} (h:RingIs c B r) {s u:Nat×Nat} (hs:s∈r) (hu:u∈r):Hr c s.1 u.1:=by
 match r,h with
 | [],h=>exact absurd rfl h.ne
 | t::r,h =>
 have l:=h.lead t rfl;have a:=lI l s hs;rcases sI l u hu with e | e
 .rw [e]; exact a
 .exact a.trans e
theorem Br {c:M6} {i j:Nat} {B1 B2:N7} {s1 s2 mt1 mb1 mt2 mb2:Int} {w1 r1 w2 r2:QE} {h1 h2:Nat->Int} (p1:PaceIs c i B1 s1 mt1 mb1 w1 r1 h1) (p2:PaceIs c j B2 s2 mt2 mb2 w2 r2 h2) {s:Nat×Nat} (hs:s∈r1) (e:s.1=j):mt1=mt2/\mb1=mb2:=by
 have es:=xy p1.side p2.side;subst es e;refine tX (vp p1.side) p1 p2 (fun u hu=>(p1.mem _).mpr ?_) (fun u hu=>(p2.mem _).mpr ([PY,Bl p1.rg hs hu]));have a:∀ {x:Nat},Hr c s.1 x->Hr c i x:=fun {x} hx=>by
  rcases (p1.mem _).mp (p1.rg.mem s hs) with e | e
  .rw [<- e]; exact hx
  .exact e.trans hx
 rcases (p2.mem _).mp (p2.rg.mem u hu) with e | e
 .rw [e]; exact (p1.mem _).mp (p1.rg.mem s hs)
 .exact [PY,a e]
theorem xx {c:M6} {i:Nat} {B1 B2:N7} {s1 s2 mt1 mb1 mt2 mb2:Int} {w1 r1 w2 r2:QE} {h1 h2:Nat->Int} (p1:PaceIs c i B1 s1 mt1 mb1 w1 r1 h1) (p2:PaceIs c i B2 s2 mt2 mb2 w2 r2 h2):mt1=mt2/\mb1=mb2:=by
 have es:=xy p1.side p2.side;subst es;exact tX (vp p1.side) p1 p2 (fun u hu=>(p1.mem _).mpr ((p2.mem _).mp (p2.rg.mem u hu))) (fun u hu=>(p2.mem _).mpr ((p1.mem _).mp (p1.rg.mem u hu)))
theorem ye {c:M6} (g:Qu):T4:=[Mw,g.c6,[Pg,by
 have h:=g.gb b hb;exact (bM h.n1 h.n6 (fun l hl=>(bM (h.l l hl).1 (h.l l hl).2.1 (h.l l hl).2.2.1)))]]
end K82.S
namespace K82.S
open PySem L2
section
variable {c c':M6}
theorem nj (h:Other c c') {k:Nat} {b':Bell} (hb:c'[k]?=some b'):∃ b,c[k]?=QZ/\b'.name=b.name/\b'.rule=b.rule/\b'.lis=b.lis/\0<=b'.start/\b'.start<=1000:=cF h hb
theorem lS (h:Other c c') {k:Nat} (e:c[k]?=none):c'[k]?=none:=by
 rw [List.getElem?_eq_none_iff] at e ⊢;rw [<- aJ h];exact e
theorem Bw (h:Other c c'):bO c'=bO c:=by
 funext b p;unfold bO;cases e:c[b]? with
 | none=>rw [lS h e]
 | some x =>
  refine gq (bg h e :) fun b' hb' _ _ hl _=>?_
  rw [hb'];show b'.lis[p]?=x.lis[p]?;rw [hl]
theorem wI (h:Other c c'):d8 c'=d8 c:=by
 funext b;unfold d8;cases e:c[b]? with
 | none=>rw [lS h e]
 | some x =>
  refine gq (bg h e :) fun b' hb' _ _ hl _=>?_
  rw [hb'];show b'.lis.map (·.whom)=x.lis.map (·.whom);rw [hl]
theorem fg {b b':Bell} (hr:b'.rule=b.rule) (hl:b'.lis=b.lis):wants b'=SF:=by
 unfold wants;rw [hr,hl]
theorem tW (h:Other c c') (x y:MU):Fix c' x y↔Fix c x y:=by
 constructor
 .intro f;refine [Mw,(by rw [f.1,aJ h]),fun k b hb=>?_];refine gq (bg h hb :) fun b' hb' _ hr hl _=>?_
  refine [NC,f.2 k b' hb',fun o ho d=>?_]
  rw [fg hr hl] at d;unfold bH at d;rw [hl] at d;exact (af o ho d)
 .intro f;refine [Mw,(by rw [f.1,aJ h]),fun k b' hb'=>?_];refine gq (nj h hb' :) fun b hb _ hr hl _=>?_
  refine [NC,f.2 k b hb,fun o ho d=>?_]
  rw [<- fg hr hl] at d;unfold bH at d;rw [<- hl] at d;exact (af o ho d)
theorem uA (h:Other c c'):(js c'↔js c)/\(lE c'↔lE c):=by
 refine [Mw,[Mw,fun a b hb=>?_,fun a b' hb'=>?_],[Mw,fun a b hb=>?_,fun a b' hb'=>?_]]
 .obtain ⟨k,hk⟩:=[OQ,hb];refine gq (bg h hk :) fun b' hb' _ hr hl _=>?_
  rw [<- fg hr hl,<- hl];exact a b' [Xg,hb']
 .obtain ⟨k,hk⟩:=[OQ,hb'];refine gq (nj h hk :) fun b hb _ hr hl _=>?_
  rw [fg hr hl,hl];exact a b [Xg,hb]
 .obtain ⟨k,hk⟩:=[OQ,hb];refine gq (bg h hk :) fun b' hb' _ hr hl _=>?_
  rw [<- fg hr hl];exact a b' [Xg,hb']
 .obtain ⟨k,hk⟩:=[OQ,hb'];refine gq (nj h hk :) fun b hb _ hr hl _=>?_
  rw [fg hr hl];exact a b [Xg,hb]
theorem yp (e:d8 c'=d8 c) {b k:Nat} (h:Hr c' b k):Hr c b k:=by
 induction h with
 | one m=>exact .one (e▸m)
 | more _ m ih=>exact .more ih (e▸m)
theorem ko (e:bO c'=bO c):∀ {r:QE} {goal:Nat},iW c' r goal->iW c r goal
 | [],_,_=>trivial
 | [s],goal,h=>by
  refine ar h fun l hl z=>?_;clear h;exact (af l (e▸hl) z)
 | s::u::r,goal,h=>by
  obtain ⟨⟨l,hl,z⟩,h⟩:=h;exact [Mw,af l (e▸hl) z,ko e h]
theorem zp (h:Other c c') {b:Nat} {B:N7} {sd mt mb:Int} {way ring:QE} {g:Nat->Int} (pi:[Zo,c',b,B,sd,mt,mb,way,g]):[Zo,c,b,B,sd,mt,mb,way,g]:=by
 have e:=Bw h;have w:=wI h;obtain ⟨a1,a2⟩:=uA h;have et:btF c'=Wr:=by funext x p; unfold btF; rw [e]
 have ek:bkF c'=UO:=by funext x p; unfold bkF; rw [e]
 obtain ⟨sd',mem,up,mb1,mb6,low,mt0,mt6,rg,backs,mean,wy,way6,still,hb⟩:=pi;refine ⟨?_,[Z2,?_],up,mb1,mb6,low,mt0,mt6,⟨rg.ne,rg.nd,rg.mem,fun s hs=>?_,fun s hs=>ko e (rg.lead s hs)⟩,ek▸backs,?_,fun s hs=>?_,way6,?_,hb⟩
 .rcases sd' with ⟨z,q⟩ | ⟨z1,z2,q⟩
  .exact .inl [Mw,a1.mp z,q]
  .exact [PY,bM [UK,z1 (a1.mpr z)] (a2.mp z2) q]
 .rw [mem x];constructor
  .exact [OE,z.imp id (yp w)]
  .exact [OE,z.imp id (yp w.symm)]
 .rw [<- e]; exact rg.lis s hs
 .rw [<- et,<- ek]; exact mean
 .have z:=wy s hs;unfold wG at z ⊢;rcases z with z | ⟨z1,z2,z3,z4⟩
  .exact .inl z
  .exact [PY,fI z1 z2 (ko e z3) (e▸z4)]
 .intro x hx p l hl;have z:=still x hx p l (e▸hl);unfold gnF at z ⊢;rw [<- et,<- ek];exact z
theorem lq (h:Other c c') (g:Qu):GoodC c':=by
 have nm:c'.map (·.name)=Ng:=by
  refine List.ext_getElem? fun k=>?_
  rw [Mz,Mz];cases e:c[k]? with
  | none=>rw [lS h e]
  | some b =>
   refine bp (bg h e :) fun b' hb' en _=>?_
   rw [hb'];exact [R5,some,en]
 have el:=aJ h;refine ⟨by rw [<- el]; exact g.c1,by rw [<- el]; exact g.c6,fun b' hb'=>?_,fun b' hb'=>?_,fun b' hb'=>?_,by rw [nm]; exact g.nd⟩;all_goals
  obtain ⟨k,hk⟩:=[OQ,hb'];refine gq (nj h hk :) fun b hb en er ell pq0=>bZ pq0 fun s0 s1=>?_;clear pq0;have hm:=[Mf,hb]
 .have gb:=g.gb b hm;exact ⟨by rw [ell]; exact gb.n1,by rw [ell]; exact gb.n6,s0,s1,by rw [ell,er]; exact gb.r,by rw [ell,<- el]; exact gb.l⟩
 .rw [en]; exact g.wd b hm
 .rw [en]; exact g.f4 b hm
theorem DF (h:Other c c') (g:Qu) {now:MU} (po:PaceOk c now):∃ now',PaceOk c' now':=by
 have g':=lq h g;have f':=c7 g';have hw:yE c':=fun k b hb=>oM (f'.2 k b hb).1 (f'.2 k b hb).2.2.1
 obtain ⟨now',fx'⟩:=rh f'.slow hw (starts c');have al:=xG po.fx po.nw;have el:=aJ h;obtain ⟨r,rfl⟩:=all_some (l:=now') [ZI,by
  rw [fx'.1,<- el] at hk;obtain ⟨u,hu⟩:=al k hk;refine rH (c7 g).slow (fun j u hj=>?_) ((tW h _ _).mp fx') po.fx k u hu;have jl:j<[MP,S8]:=[L8,hj];rw [Mc,el] at jl;exact [Mw,c'[j].start,by rw [List.getElem?_map,List.getElem?_eq_getElem jl]; rfl]]
 refine ⟨_,ye g',fx',rm,?_⟩;obtain ⟨a1,a2⟩:=uA h;exact po.ao.imp a1.mpr a2.mpr
def ja (R R':Nat->Nk) (n i:Nat):Int:=[Mj,fq R n i - fq R' n i<0,-(fq R n i - fq R' n i),fq R n i - fq R' n i]
theorem Ff (h:Other c c') (hc:jL c) {R R':Nat->Nk} (s:SeqR c R) (s':SeqR c' R') {F:Int} (h0:∀ i,[OA,i]->ja R R' 0 i<=F) (n:Nat) {i:Nat} (hi:[OA,i]):ja R R' n i<=F:=by
 have el:=aJ h;have sq:∀ (m i:Nat),[OA,i]->(R m)[i]?=[Mo,fq R m i]/\(R' m)[i]?=[Mo,fq R' m i]:=fun m i hi=>by
  have l1:i<[MP,R m]:=by rw [s.len]; exact hi
  have l2:i<[MP,R' m]:=by rw [s'.len,<- el]; exact hi
  unfold fq;rw [[M4,l1],[M4,l2]];exact [Nl,rfl]
 have bt:=AQ hc (fun x y=>(tW h x y).mp) s s' (lo:=-F) (hi:=F) ⟨by rw [List.length_map,List.length_map,s.len,s'.len,el],fun k v hv=>?_,fun k u hu=>?_⟩ n
 .obtain ⟨e1,e2⟩:=sq n i hi;refine [NC,(bt.ge i (fq R n i) (by rw [List.getElem?_map,e1]; rfl)),fun v hv lv=>?_]
  refine [NC,(bt.le i (fq R' n i) (by rw [List.getElem?_map,e2]; rfl)),fun u hu lu=>?_]
  rw [Mz,e2] at hv;rw [Mz,e1] at hu;have ev:fq R' n i=v:=[Mq,([Mq,hv])];have eu:fq R n i=u:=[Mq,([Mq,hu])];unfold ja;split <;> omega
 .have hk:[OA,k]:=by
   have:=[L8,hv];rw [Mc,s'.len,<- el] at this;exact this
  obtain ⟨e1,e2⟩:=sq 0 k hk;rw [Mz,e2] at hv;have ev:fq R' 0 k=v:=[Mq,([Mq,hv])];have z:=h0 k hk;unfold ja at z;refine [Yt,fq R 0 k,(by rw [List.getElem?_map,e1]; rfl)];split at z <;> omega
 .have hk:[OA,k]:=by
   have:=[L8,hu];rw [Mc,s.len] at this;exact this
  obtain ⟨e1,e2⟩:=sq 0 k hk;rw [Mz,e1] at hu;have eu:fq R 0 k=u:=[Mq,([Mq,hu])];have z:=h0 k hk;unfold ja at z;refine [Yt,fq R' 0 k,(by rw [List.getElem?_map,e2]; rfl)];split at z <;> omega
end
end K82.S
namespace L2
open PySem PySem.Spec PyProof.Rows
section
variable {X:Cx} {CX:CXT} {k:Nat} {f:Addr} {fd:FuncData} {ps:MB} {sp:Sp} {dvs:Nz} {ds:MS} {E:XK} {m:Str} {pos apos:Pos} {e o:Expr} {es:OR} {ta:TE} {t:TA} {K:M3}
theorem uy {pl:Sem Bool} (hK:X.K=K) (he:PE X o ta) (F:FnOk X.prog X.w X.K X.mg X.base CX k f fd ps sp) (hr:Room k X.A) (hb:Binds X.K fd ps ds) (hd:Vals dvs ds) (hx:Passes CX X E) (ha:PA X (e::es) t)
  (hst:[N3,e::es]=(false,[Oa,e])::Um:=by rfl) (hpl:[Vb,([Xf,Um]).any OB]:=by rfl)
  (ht:[Oa,([UM,([Tp,o,m]),e::es,[]])]=(do let ov <- eval o X.env; standAt apos.atName; let (f,first) <- holding [ov] (getMethod ov m pl); callWith pos f first (backTo pos (starEach (e::es) X.env)) (backToKw pos (keywordEach [] X.env))):=by rfl) :
  PE X ([UM,([Tp,o,m]),e::es,[]]) (uH K f m sp dvs E ta t):=hK▸eV he F hr hb hd hx ha hst hpl ht
end
end L2
namespace K82.S
open PySem L2
theorem iX {n:Int} (h0:0<=n) (h1:n<=1000000):PySem.intText? (aT n)=some n:=W.KIN.num_reads h0 L6
theorem ku {n:Int} (h0:0<=n):∀ c∈[NU,aT n],48<=c/\c<=57:=fun c hc=>by
 have e:n=[RK,n.toNat]:=Mr
 rw [e,gR] at hc;refine [UJ,hc,fun ch hch e=>?_]
 have r:=PyProof.Rows.digit_range (Nat.isDigit_of_mem_toDigits M0 M0 hch);rw [<- e];exact r
theorem x8:[Rk,"/"]=[P5,47]:=L5
theorem Ct {t b:Int} (h0:0<=t):[Pf,pP t b,"/"]=(aT t,[Rk,"/"],aT b):=by
 rw [x8];refine kX ?_ fun h=>?_
 .unfold pP;rw [cy,cy,cy,x8];show []++[NU,aT t]++[47]++[NU,aT b]=_;rw [List.nil_append,QK];rfl
 .have:=ku h0 _ h;omega
section
variable {P:Program} {w:World} {K:M3} {mg:Str->Ms} {base:Heap} {f:Addr} {fd:FuncData}
def rB:Sp:=[MV,∃ (t b:Int),vs=[.str (pP t b)]/\0<=t/\t<=40000/\1<=b/\b<=6/\∀ (H':Hp) (p:Addr),Pk->H p=none->H' p=[OD,[.int t,.int b]]->[Xi,p,H']]
theorem mX:[QI,["_law_text","_law_top","_law_stroke","_law_bottom"],["_law_text"],jZ]:=R1
theorem Fp (F:[UG,"_law_fraction","_law_fraction",jZ]) (B:Q5):FnOk P w K mg base CX0 1 f fd ["_law_text"] rB:=by
 refine [T5,mX]
 .refine bU h fun t b eq1 _=>?_;clear h;subst eq1;rfl
 refine fz h fun t b eq2 t0 t4 b1 pq0=>bZ pq0 fun b6 q=>?_;clear pq0 h;subst eq2;refine [XD,(jg (dr O5 PySem.F.slot_str_partition PySem.F.type_str_partition mK NB [Ot,a8]) (fL rfl ([YY,1,mX.nd,([YY,2,mX.nd,([YY,3,mX.nd,dG])])]))),(av (aI (dB [RL,(bX cW rfl B.int_ OZ [Ou,P0]),bX cW rfl B.int_ OZ [Ou,T3]])))]
 have l1:=fZ (n:=t) t0 L6;have l2:=fZ (n:=b) L6 L6;have e0:Wt=0:=rfl;have es:[RJ,"/"]=1:=L5
 have e1:=a9 O4 (aT t);have e2:=a9 (O4++aT t) "/";have e3:=a9 (O4++aT t++"/") (aT b);refine ([U8,([Yv,pP t b,"/",rfl,Rb,(by unfold pP; omega),([VV,?_])])]);rw [Ct t0];refine ([Rg,p,_,([O1,aq]),rfl,([Xp,_,_,([Xp,_,_,ZU])])]);have s1:=aw hp [Rj,[.str (aT t),.str "/",.str (aT b)]];refine [Mu,[Rg,aT t,t,L6,iX t0 L6,[Mu,[Yv,aT b,b,L6,iX L6 L6,Zn,ZQ]]]];exact q _ x (s1.upd (s1.free hx) _) (s1.free hx) aq
end
end K82.S
namespace L2
open PySem PySem.Spec PyProof.Rows
section
variable {X:Cx}
theorem IQ (hu:V7+64<cLine):OpR X [Ti,.NotEq] ([X8,∃ (p q:Addr) (xs ys:Nz) (e:Nat->Bool),x=TN/\y=.ref q/\SqT X.K H p xs/\SqT X.K H q ys/\(∀ (i:Nat) u v,xs[i]?=NZ->ys[i]?=Nw->EqH X.K H 0 u v (e i))/\ Q (.bl (!(([RQ,min Mh NQ]).all e && Mh == NQ))) H]):=by
 intro pins s σ H x y v u Q I rx ry h;refine bN h fun p q xs ys pq0=>gq pq0 fun e eq1 eq2 ha hb pq1=>bZ pq1 fun he hq=>?_;clear pq0 pq1 h;subst eq1;subst eq2;cases rx
 cases ry
 refine bp [SY,ha] Ul
 refine bp [SY,hb] Uc
 have l1:=V8;have l2:=UA;refine SeqAt.RcNeAt.tuples (e:=e) ([Ye,p1]) ([Ye,p2]) L6 (jh r1 r2 fun i x y u v e1 e2 ru rv=>(he i x y e1 e2).at I ([NF,V7+1+_<cLine]) ru rv) _ _ _ _ (aB (.bl _) H I ?_ hq);show QV=QV;rw [OJ,OJ,<- l1,<- l2]
end
end L2
namespace K82.S
open PySem L2
def FrAt (H:Hp) (v:V) (x:Int×Int):Prop:=∃ a,v=QM/\H a=[OD,[.int x.1,.int x.2]]
theorem FrAt.same {H H':Hp} (s:Pk) {v:V} {x:Int×Int} (h:FrAt H v x):FrAt H' v x:=by
 refine ar h fun a e ha=>?_;clear h;exact (af a e (s _ _ ha))
def FrsAt (H:Hp) (p:Addr) (fs:[Pe,Int,Int]):Prop:=∃ vs,H p=[MI,vs]/\[Vg,FrAt H,vs,fs]
theorem FrsAt.same {H H':Hp} (s:Pk) {p:Addr} {fs:[Pe,Int,Int]} (h:FrsAt H p fs):FrsAt H' p fs:=by
 refine ar h fun vs h1 h2=>?_;clear h;exact (af vs (s _ _ h1) (bL (fun _ _ x=>x.same s) h2))
def FD (c:M6) (i:Nat) (x:Int×Int):Prop:=∃ (B:N7) (sd:Int) (way ring:QE) (h:Nat->Int),[Zo,c,i,B,sd,x.1,x.2,way,h]
def m7 (c:M6) (fs:[Pe,Int,Int]):Prop:=∀ (i:Nat) x,fs[i]?=OV->FD c i x
theorem Bi {c:M6} {i:Nat} {x y:Int×Int} (h:FD c i x) (h':FD c i y):x=y:=by
 refine bN h fun _ _ _ _ pq0=>iC pq0 fun _ p=>?_;clear pq0 h;refine bN h' fun _ _ _ _ pq0=>iC pq0 fun _ p'=>?_;clear pq0 h';obtain ⟨e1,e2⟩:=xx p p';exact Prod.ext e1 e2
theorem BL {c:M6} {fs fs':[Pe,Int,Int]} (l:V5=fs'.length) (h:m7 c fs) (h':m7 c fs'):fs=fs':=by
 refine List.ext_getElem? fun i=>?_
 by_cases hi:i<V5
 .have e1:=[M4,hi];have e2:=[M4,[Yu,i<fs'.length]];rw [e1,e2,Bi (h i _ e1) (h' i _ e2)]
 .rw [[Q8,L6],[Q8,L6]]
theorem eq_int {K:M3} {H:Hp} (i:Int):EqH K H 0 (RF) (RF) true:=by
 have:=EqH.flat (K:=K) (H:=H) (n:=0) (x:=RF) (y:=RF) rfl rfl;rw [show eqV (RF) (RF)=true by simp [eqV]] at this;exact this
theorem IC {K:M3} {H:Hp} {x:Int×Int} {i:Nat} {u v:V} (hu:[[W2,x.1],[W2,x.2]][i]?=NZ) (hv:[[W2,x.1],[W2,x.2]][i]?=Nw):EqH K H 0 u v true:=by
 rw [hu] at hv;cases hv
 match i,hu with
 | 0,hu=>cases hu; exact eq_int x.1
 | 1,hu=>cases hu; exact eq_int x.2
 | i+2,hu=>cases hu
theorem EL {w b:Str}:[NU,[Rk,"pace "]++w++Xu++b]=jn 32 ([[Rk,"pace"],w,b].map [Z2,Ob]):=by
 rw [cy,cy,cy,[Vh,[PK,Xu]=[32]],[Vh,[PK,"pace "]=[PK,"pace"]++[32]]];simp only [List.append_assoc,List.cons_append,List.nil_append];rfl
theorem Di {w b:Str}:[NU,[Rk,"ring "]++w++Xu++b]=jn 32 ([[Rk,A03],w,b].map [Z2,Ob]):=by
 rw [cy,cy,cy,[Vh,[PK,Xu]=[32]],[Vh,[PK,"ring "]=[PK,A03]++[32]]];simp only [List.append_assoc,List.cons_append,List.nil_append];rfl
theorem BC {w:Str}:[NU,[Rk,"round "]++w++" 40"]=jn 32 ([[Rk,ZO],w,aT [RK,40]].map [Z2,Ob]):=by
 rw [cy,cy,[Vh,[PK," 40"]=[32]++[NU,aT [RK,40]]],[Vh,[PK,"round "]=[PK,ZO]++[32]]];simp only [List.append_assoc,List.cons_append,List.nil_append];rfl
theorem nP {c:M6} (g:Qu) {i:Nat} (hi:[OA,i]):32∉[NU,[W7,i]]/\[MP,[W7,i]]<=8/\(Ng)[i]?=[Mo,[W7,i]]:=by
 have e:[W7,i]=(c[i]'hi).name:=by
  unfold nameAt;rw [Nj,Mz,[M4,hi]];rfl
 rw [e];refine (bM (eQ (g.wd _ ([QN,hi]))) (g.len _ ([QN,hi])) ?_);rw [Mz,[M4,hi]];rfl
theorem Ad {c:M6} {R:Nat->Nk} (g:Qu) (s:SeqR c R) {f p:Nat} {d:Int} (h:Sh R f (f+p) d) (hm:f+p<=40):d<=241000:=by
 have l:=s.len f;have c1:=g.c1;have e:=[M4,[Yu,0<[MP,R f]]];have a:=fQ g s f _ ([QN,[Yu,0<[MP,R f]]]);have b:=fQ g s (f+p) _ [Xg,h.first e];omega
theorem EZ {f p:Nat} {d:Int}:[PU,Xu,[[Tw,f],[Tw,p],aT d]]≠Wa:=[UT,by
 have h:32∈[NU,[PU,Xu,[[Tw,f],[Tw,p],aT d]]]:=by
  rw [jm,fT];show 32∈[NU,[Tw,f]]++32::_;exact List.mem_append.mpr (.inr ME)
 rw [e] at h;exact [O9,h,Rb]]
theorem LW {f p:Nat} {d:Int} (d0:0<=d) {z:Str} (hz:z∈[[Tw,f],[Tw,p],aT d]):∀ c∈NI,48<=c/\c<=57:=by
 rcases List.mem_cons.mp hz with rfl | hz
 .exact ku L6
 rcases List.mem_cons.mp hz with rfl | hz
 .exact ku L6
 rw [[MQ,hz]];exact ku d0
theorem wU {f p:Nat} {d:Int} (d0:0<=d):[Rt,([PU,Xu,[[Tw,f],[Tw,p],aT d]])]=[[Tw,f],[Tw,p],aT d]:=by
 rw [jm];refine hZ (fT 32 _) ([QH,_]) fun z hz h=>?_
 have:=LW d0 hz 32 h;omega
theorem xE {zs:MB} (h6:Qy<=6) (h:∀ z∈zs,[Se,20]):[MP,[PU,Xu,zs]]<=1000:=by
 have h2:=StrLaws.sumLen_le _ h;have h4:=StrLaws.join_length_le Xu zs;have e2:[PU,Xu,zs]=Str.join Xu zs:=StrLaws.glued_eq_join _ _;rw [e2];rw [ju] at h4;omega
section
variable {P:Program} {w:World} {K:M3} {mg:Str->Ms} {base:Heap} {f:Addr} {fd:FuncData}
def nQ (C:Addr):Sp:=[MV,∃ (D d:Addr) (kvs:Vm) (w:Str) (ch v:V) (c:M6) (now:MU),vs=[.ref D,.str w,ch]/\DeskAt C H D d kvs/\Q7<=900/\cB w=true/\dF kvs ([U4,w])=Nw/\[Rc,H,v]/\[Rc,H,ch]/\Qu/\PaceOk c now/\ ∀ (H':Hp) (p:Addr) (fs:[Pe,Int,Int]),Pk->H p=none->FrsAt H' p fs->[Vn,V5]->m7 c fs->[Xi,p,H']]
theorem eN:[QI,[Td,"_law_word",Oq,"_law_found","_law_names_here",Tc,"_law_text","_law_name","_law_start",Pm,"_law_beats"],[Td,"_law_word",Oq],uM]:=R1
theorem Bo {C fi fs ft fk fc:Addr} {ds:FuncData} (F:[UG,"_law_paces","_law_paces",uM]) (B:Q5) (O:DeskC K C fi fs ft fk fc) (GS:FnOk P w K mg base CX0 13 fs ds [Nd,"row"] (rR C)) (bS:[TB,K,ds,[Nd,"row"]]) (C_frac:[R3,1,"_law_fraction",["_law_text"],rB]):FnOk P w K mg base CX0 14 f fd [Td,"_law_word",Oq] (nQ C):=by
 refine [T5,eN]
 .refine bN h fun D d kvs w' pq0=>fB pq0 fun ch v c now eq3 _=>?_;clear pq0 h;subst eq3;rfl
 refine bN h fun D d kvs w' pq0=>cZ pq0 fun ch v c now eq4 dk0 kl hw pq1=>dE pq1 fun hv hcv pp5 g pq2=>bZ pq2 fun po q=>?_;clear pq0 pq1 pq2 h;subst eq4;obtain ⟨a,bs,rfl,ha,prb⟩:=pp5;have hr13:Room 13 _:=Wx;refine [XD,(cU (i:=3) ["_law_bell_here"] [Td,"_law_word"] [0,1] rfl eN.nd rfl OG (dj TR) [Wf,0,([Mg,[[Rk,"_law_bell_here"],[Rk,Td],[Rk,"_law_word"]]])] RN [Qt,[S4,C_frac,[Ou,uy (K:=K) rfl RB GS hr13 bS .nil dJ [Ou,bD bV (bD bV (bD bV a8 TR) a8) ([RZ,Vd,NB])]]]]),(ak (cU (i:=4) ["_law_bell_here"] [] [] rfl eN.nd rfl OG (dj TR) [Wf,0,([Mg,[[Rk,"_law_bell_here"]]])] RN [Qt,([RZ,Vd,NB])]) (ak (cT Ny rfl (dH rfl B.range_ [Ou,[Vy,bz,rfl,[Ou,Qn]]]) [Uy,5,eN.nd] (av (cT Ny rfl (de (dr O5 Sq So i3 (eV NB GS hr13 bS .nil dJ [Ou,bD bV (bD bV (bD bV a8 RB) a8) ([RV,aU,WN,Yc])]) [Ot,a8])) [Uy,7,eN.nd] (av [Z5,aZ (IQ hr.units) ([RV,aU,VY,(dr Ow PySem.F.slot_list_index PySem.F.type_list_index xY WN [Ou,pv 7])]) ([RV,aU,VY,Yc]) U7,av (aI cK)])))) ([YG,6,eN.nd,(eV NB GS hr13 bS .nil dJ [Ou,bD bV (bD bV a8 RB) a8]),ak [Z5,aZ c8 (pv 6) a8 U7,av (aI VY)] (ak (jg (cz ["_law_number"] [] [] rfl (de (dr O5 Sq So i3 (pv 6) [Ot,a8])) [Wf,0,([Mg,[[Rk,"_law_number"]]])] RN [Qt,bX cW rfl B.int_ OZ RH]) (Ih rfl ([YY,8,eN.nd,(bu ([MY,9,eN.nd,Yq]) (bu ([MY,10,eN.nd,Yq]) dG))]))) (ak [Z5,dm (cO (aL (hV rfl) rfl B.all_ SG [Ou,cz ["_law_top","_law_bottom"] ["_law_beats",Pm] [10,9] rfl (de VY) [Qt,(uS (K:=K) (n:=2) rfl rfl ([YY,0,([Mg,[[Rk,"_law_top"],[Rk,"_law_bottom"],[Rk,"_law_beats"],[Rk,Pm]]]),([YY,1,([Mg,[[Rk,"_law_top"],[Rk,"_law_bottom"],[Rk,"_law_beats"],[Rk,Pm]]]),dG])]))] RN [Qt,fE c8 (bD gW TR RB) (bD gW VY NB) U7]])),av (aI cK)] (av (aI VY))))])))]
 have hbl:=aJ prb;have c6:=g.c6;have w8:=eU hw;have gl:=ju;have fi:=c7 g;have p5:[RJ,"pace "]=5:=L5
 have i5:[RJ,"ring "]=5:=L5
 have o6:[RJ,"round "]=6:=L5
 obtain ⟨⟨dx,hD⟩,hd⟩:=id dk0;refine [Mu,[UN,a,WX,(fun D1 hD1=>?_)]];refine cJ (K:=K) (a:=a) (xs:=bs) (fun j ys H1=>∃ fs,[Pc,H1]/\[Vg,FrAt H1,ys,fs]/\V5=j/\m7 c fs) (cC [] (aw hD1 _) .nil rfl (fun i x h=>([PL,h]))) (fun j ys H1 _ pr=>ar pr fun _ z _=>[S2,z _ _ ha]) ?_ ?_
 .rintro j x ys H1 hx ⟨fs,s1,prf,hfl,pf⟩ hDx;refine [NC,bg prb hx,fun b hb pq0=>fP pq0 fun ba tt ls eq6 hba _=>?_];clear pq0;subst eq6;have hj:=Wy;have n8:=g.len b [Xg,hb];have r1:=a9 "pace " w';have r2:=a9 ("pace "++w') Xu;have r3:=a9 ("pace "++w'++Xu) b.name;refine V9;refine [Mu,[NA,C,D,dx,_,s1 _ _ hD,O.cl,O.say,([Su,[VX,_,_,Nh,([VX,_,_,([Pn,[MP,[Rk,"pace "]++w']+[RJ,Xu]]),[QF,ba,_,_,_,[ZG,s1 _ _ hba],([VX,_,_,([Pn,[MP,[Rk,"pace "]++w'++Xu]+A01]),([NA,D,d,kvs,_,dk0.same s1,kl,([NF,[MP,[Rk,"pace "]++w'++Xu++b.name]<=3000]),([PY,az [[Rk,"pace"],w',b.name] w' v c EL rfl hv (hcv.mono [OT,s1]) (bM g ([ZT,[PY,.inl (rL w' j b now rfl hw hb po)]]) (fun H2 z2 s2 an=>?_))])])])]])]])]];refine bN (DW g hb an :) fun B2 sd mt mb pq0=>dZ pq0 fun way ring h pi eq7=>?_;clear pq0;subst eq7;refine ([Yv,mt,mb,pi.mt0,pi.mt6,pi.mb1,(aH pi.mb6 (fun H3 p s3 p0 hp=>?_))]);have s13:=Qh;refine (aC _ (s13 _ _ hDx) (by rw [aJ prf]; exact Sf) (af _ (cC (fs++[(mt,mb)]) ((s1.trans s13).upd hD1 _) ?_ (by rw [List.length_append,hfl]; rfl) (fun i x hi=>?_)) aq))
  .have nD:∀ {y:Addr} {o:Nz},H3 y=[OD,o]->y≠D1:=fun {y o} e=>eR e (s13 _ _ hDx) (OF)
   refine cP ⟨p,rfl,by rw [aK (nD hp)]; exact hp⟩ (bL ([Tz,?_]) prf);refine ar z fun y e hy=>?_;clear z;exact (af y e (by rw [aK (nD (s13 _ _ hy))]; exact s13 _ _ hy))
  .by_cases hij:i<V5
   .rw [[OP,hij]] at hi;exact pf i x hi
   .have hil:=[L8,hi];rw [Na] at hil;have ei:i=V5:=by
     have:i<V5+1:=hil;omega
    rw [ei,YQ] at hi;cases hi
    rw [ei,hfl];exact (cf B2 sd way ring (e8 h pi))
 rintro ys H1 ⟨fs,s1,prf,hfl,pf⟩ hF;have hfl':[Vn,V5]:=by rw [hfl,hbl]
 have yl:=aJ prf;refine [Mu,[UN,a,[S2,s1 _ _ ha],(fun D2 hD2=>?_)]];refine cJ (K:=K) (a:=a) (xs:=bs) (fun j ys H2=>Same H1 H2/\ys=[OI,(Ng).take j]) [Nl,aw hD2 _] ([ZN,[S2,z _ _ (s1 _ _ ha)]]) ?_ ?_
 .rintro j x ys H2 hx ⟨s2,rfl⟩ hDx;refine [NC,bg prb hx,fun b hb pq0=>fP pq0 fun ba tt ls eq8 hba _=>?_];clear pq0;subst eq8;have hj:=Wy;refine V9;refine [QF,ba,_,_,_,[ZG,s2 _ _ (s1 _ _ hba)],(aC _ hDx ?_ (af _ [W4,s2.upd hD2 _] aq))]
  .rw [Mc,Nc];exact Sf
  .have:(Ng)[j]?=some b.name:=by rw [List.getElem?_map,hb]; rfl
   rw [[Tj,this],Mt];rfl
 rintro ys2 H2 ⟨s2,rfl⟩ hN;rw [hbl,[Nn,(Ng).take c.length=Ng,[Oy,([PQ,Mm])]]] at hN;have s02:=Rf;have hF2:=s2 _ _ hF;have prf2:[Vg,FrAt H2,ys,fs]:=bL ([Tz,z.same s2]) prf;have n0:H D1=none:=hD1;refine [Mu,[Od,a,_,([PY,[S2,s02 _ _ ha]]),(cC _ rfl (by rw [hbl]; omega) (by rw [hbl]; omega) ?_)]];rw [hbl,ZF];refine fh (lo:=0) (n:=c.length) (fun j σ H3=>∃ o5 o7:RT,σ=[[Mv,D],[Mo,.str w'],Vc,[Mv,D1],[Mv,D2],o5,none,o7,none,none,none]/\Same H2 H3) ([Xp,none,none,.refl H2]) ?_ ?_
 .intro j σ H3 hj pr;refine bU pr fun o5 o7 eq9 s3=>?_;clear pr;subst eq9;rw [Xv];have hb:=[M4,hj];refine cb (nP g hj :) fun _ n8 hnm=>?_
  have en:[W7,j]=c[j].name:=by
   rw [Mz,hb] at hnm;exact [YH,hnm]
  have s03:=XH;have r1:=a9 "ring " w';have r2:=a9 ("ring "++w') Xu;have r3:=a9 ("ring "++w'++Xu) ([W7,j]);refine [Mu,[NA,C,D,dx,_,s03 _ _ hD,O.cl,O.say,([Su,[VX,_,_,Nh,([VX,_,_,([Pn,[MP,[Rk,"ring "]++w']+[RJ,Xu]]),[VO,D2,_,_,_,[NO,s3 _ _ hN],(bh (by rw [List.getElem?_map,hnm]; rfl)),([VX,_,_,([Pn,[MP,[Rk,"ring "]++w'++Xu]+[MP,[W7,j]]]),([NA,D,d,kvs,_,dk0.same s03,kl,([NF,[MP,[Rk,"ring "]++w'++Xu++[W7,j]]<=3000]),([PY,az [[Rk,A03],w',c[j].name] w' v c (by rw [en]; exact Di) rfl hv (hcv.mono [OT,s03]) (bM g ([ZT,[ZT,rL w' j (c[j]) now rfl hw hb po]]) (fun H4 z4 s4 an=>?_))])])])]])]])]];refine bN (Eh g hb an :) fun B2 sd mt mb pq0=>dZ pq0 fun way ring h pi eq0=>?_;clear pq0;subst eq0;obtain ⟨_,lt⟩:=Fq po.fp hj pi;have r6:=(pi.rg.len lt po.fp).2;have nz:∀ z∈ring.map (fun s=>[W7,s.1]),32∉NI/\[Se,20]:=fun z hz=>by
   refine [UJ,hz,fun st hst eq1=>?_];subst eq1;refine cb (nP g (lt _ (pi.rg.mem st hst)) :) fun x1 x2 _=>?_
   exact [Mw,x1,Mr]
  have jl:=xE (zs:=[WZ,[W7,s.1]]) ([PQ,r6]) fun z hz=>(nz z hz).2
  have esp:[Rt,([PU,Xu,([WZ,[W7,s.1]])])]=[WZ,[W7,s.1]]:=by
   rw [jm];exact hZ (fT 32 _) ([UT,pi.rg.ne ([Z7,e])]) fun z hz=>(nz z hz).1
  refine ([QW,([Yv,_,Xu,rfl,Rb,L6,(fun p5 hp5=>?_)])]);rw [esp];have s5:=[XG,hp5,([OI,[WZ,[W7,s.1]]])];have hp5':([Py,H4,p5,([OI,[WZ,[W7,s.1]]])]) p5=[VM,[OI,[WZ,[W7,s.1]]]]:=aq;generalize upd H4 p5 (.lst ((ring.map fun s=>nameAt c s.1).map V.str))=H5 at s5 hp5' ⊢;have s25:=s3.trans (Xk);refine ([UN,p5,[Tn,hp5'],(j9 (K:=K) (a:=p5) (xs:=[OI,[WZ,[W7,s.1]]]) (fun i σ H6=>∃ o7:RT,σ=[[Mv,D],[Mo,.str w'],Vc,[Mv,D1],[Mv,D2],[S3,j],none,o7,none,none,none]/\Same H5 H6) [Ma,o7,.refl H5] (fun i σ H6 _ pr=>ar pr [Tz,[Tn,z _ _ hp5']]) ?_ ?_)])
  .intro i x σ H6 hx pr;refine ar pr fun o7 eq2 s6=>?_;clear pr;subst eq2;rw [Mz,Mz] at hx;refine [NC,[VC,hx],fun z hz eq3=>?_];subst eq3;refine [NC,[VC,hz],fun st hst eq4=>?_];subst eq4;have hm:=[Mf,hst];have hl:=lt _ (pi.rg.mem st hm);refine cb (nP g hl :) fun _ _ hn1=>?_
   have s26:=s25.trans s6;obtain ⟨xj,exj⟩:∃ x,fs[j]?=OV:=[T7,[M4,L6]];obtain ⟨xl,exl⟩:∃ x,fs[st.1]?=OV:=[T7,[M4,L6]];refine [NC,cF prf2 exj,fun vj evj fj=>?_]
   refine [NC,cF prf2 exl,fun vl evl fl=>?_]
   refine ar fj fun aj eq5 haj=>?_;clear fj;subst eq5;refine ar fl fun al eq6 hal=>?_;clear fl;subst eq6;have same:xl=xj:=by
    refine bN (pf j _ exj :) fun B3 sd3 w3 r3 pq0=>iC pq0 fun h3 pj=>?_;clear pq0;refine bN (pf st.1 _ exl :) fun B4 sd4 w4 r4 pq0=>iC pq0 fun h4 pl=>?_;clear pq0;obtain ⟨e1,e2⟩:=xx pi pj;obtain ⟨e3,e4⟩:=Br pi pl hm rfl;exact Prod.ext (e3.symm.trans e1) (e4.symm.trans e2)
   refine [Mu,[U3,[T6,([QW,(e8 _ [NO,s26 _ _ hN])])],[NW,D2,([W7,st.1]),Ng,st.1,s26 _ _ hN,Vp,(bM hn1 (fun k hk e=>?_) ?_)]]]
   .have:=([Y1,[L8,e],g.nd]).mp (e.trans hn1.symm);omega
   refine ([NN,D1,_,_,_,[NO,s26 _ _ hF2],bh evl,[VO,D1,_,_,_,[NO,s26 _ _ hF2],bh evj,?_]]);subst same;refine (cf al aj _ _ (eY [Qe,true] rfl rfl [ZG,s26 _ _ hal] [ZG,s26 _ _ haj] (aH (fun i u v hu hv=>IC hu hv) ?_)));exact [Mu,cw [Mn,s6]]
  .intro σ H6 pr;refine ar pr fun o7 eq7 s6=>?_;clear pr;subst eq7;exact ([Xp,_,_,s25.trans s6])
 intro σ H3 pr;refine bU pr fun o5 o7 eq8 s3=>?_;clear pr;subst eq8;have s03:=XH;have ag:=DN fi po.fx po.nw;obtain ⟨R,sq⟩:=qz fi po.fx po.nw;have r1:=a9 "round " w';have r2:=a9 ("round "++w') " 40";have l3:[RJ," 40"]=3:=L5
 refine [Mu,[NA,C,D,dx,_,s03 _ _ hD,O.cl,O.say,([Su,[VX,_,_,Nh,([VX,_,_,([Pn,[MP,[Rk,"round "]++w']+[RJ," 40"]]),([NA,D,d,kvs,_,dk0.same s03,kl,([NF,[MP,[Rk,"round "]++w'++" 40"]<=3000]),([PY,az [[Rk,ZO],w',aT [RK,40]] w' v c BC rfl hv (hcv.mono [OT,s03]) (bM g ([PY,.inl ([Yv,w',40,hw,M0,M0,aH ag (e8 R sq)])]) (fun H4 z4 s4 an=>?_))])])])]])]];refine aX (CP M0 an :) fun R' o sq' ro eq9=>?_;subst eq9;have s14:=s2.trans (s3.trans s4);have s04:=s1.trans s14;have fin:∀ H5,Same H4 H5->[Xi,D1,H5]:=fun H5 s5=>q H5 D1 fs (s04.trans s5) n0 (([Nn,FrsAt H1 D1 fs,af ys hF prf]).same (s14.trans s5)) hfl' pf
 refine ([U8,ND]);cases o with
 | none=>exact ifS rfl [Mu,fin H4 (.refl H4)]
 | some z =>
 obtain ⟨f1,p1,d1⟩:=z;refine fX (id ro :) fun k1 k2 k3 _=>?_
 obtain ⟨d0,_⟩:=oX g sq' k3 L6;have d241:=Ad g sq' k3 k2;refine ifN EZ ?_;have nl:∀ z∈[[Tw,f1],[Tw,p1],aT d1],[Se,20]:=fun z hz=>by
  rcases List.mem_cons.mp hz with rfl | hz
  .exact fZ L6 L6
  rcases List.mem_cons.mp hz with rfl | hz
  .exact fZ L6 L6
  rw [[MQ,hz]];exact fZ d0 L6
 have jl:=xE (zs:=[[Tw,f1],[Tw,p1],aT d1]) ([Mx,3<=6]) nl;refine ([U8,([Yv,_,Xu,rfl,Rb,([NF,[MP,[PU,Xu,[[Tw,f1],[Tw,p1],aT d1]]]<=4000]),(fun p5 hp5=>?_)])]);have esp:[Rt,(Gm (some (f1,p1,d1)))]=[[Tw,f1],[Tw,p1],aT d1]:=wU d0;rw [esp];have s5:=[XG,hp5,([[Tw,f1],[Tw,p1],aT d1].map V.str)];have hp5':([Py,H4,p5,([[Tw,f1],[Tw,p1],aT d1].map V.str)]) p5=[VM,[[Tw,f1],[Tw,p1],aT d1].map V.str]:=aq;generalize upd H4 p5 (.lst ([aT (f1:Int),aT (p1:Int),aT d1].map V.str))=H5 at s5 hp5' ⊢;refine ([UN,p5,[Tn,hp5'],(fun D6 hD6=>?_)]);refine cX (K:=K) (a:=p5) (xs:=[[Tw,f1],[Tw,p1],aT d1].map V.str) (fun j ys H6=>Same H5 H6/\ys=[Wj,[[My,f1],[My,p1],d1].take j]) [Nl,aw hD6 _] (fun j ys H6 _ ⟨z,_⟩=>[Tn,z _ _ hp5']) ?_ ?_
 .rintro j x ys H6 hx ⟨s6,rfl⟩ hDx;obtain ⟨u,rfl,hu,u0,u1⟩:∃ u:Int,x=.str (aT u)/\[[My,f1],[My,p1],d1][j]?=NZ/\0<=u/\u<=241000:=by
   match j,hx with
   | 0,hx=>exact (cC f1 (Option.some.inj hx).symm rfl (by omega) (by omega))
   | 1,hx=>exact (cC p1 (Option.some.inj hx).symm rfl (by omega) (by omega))
   | 2,hx=>exact (cC d1 (Option.some.inj hx).symm rfl d0 d241)
   | j+3,hx=>cases hx
  have ul:=fZ u0 L6;refine V9;refine [Mu,[Rg,aT u,u,L6,iX u0 L6,(aC _ hDx ?_ (af _ [W4,s6.upd hD6 _] aq))]]
  .rw [Mc,Nc];show min j 3<_;exact Sf
  .rw [[Tj,hu],Mt];rfl
 rintro ys6 H6 ⟨s6,rfl⟩ hD6';refine ([Rg,D6,_,[NO,hD6'],rfl,([Xp,_,_,([Xp,_,_,ZU])])]);have s46:=s5.trans s6;have hF6:=s14.trans s46 _ _ hF;refine [Mu,[UN,D1,[Tn,hF6],(fun D7 hD7=>?_)]];refine cX (K:=K) (a:=D1) (xs:=ys) (fun j ys H7=>Same H6 H7/\ys=[OW,j,V.bl true]) [Nl,aw hD7 _] (fun j ys H7 _ ⟨z,_⟩=>[Tn,z _ _ hF6]) ?_ ?_
 .rintro j x ys7 H7 hx ⟨s7,rfl⟩ hDx;refine [NC,bg prf hx,fun pp0 hxf pq0=>[W5,fun ax eq1 hax=>?_]];clear pq0;obtain ⟨mt,mb⟩:=pp0;subst eq1;have hj:=[L8,hxf];refine bN (pf j _ hxf :) fun B3 sd3 w3 r3 pq0=>iC pq0 fun h3 pj=>?_;clear pq0;have em:mt * p1=d1 * mb:=zK fi po.fp sq' k3 L6 pj;have m0:0<=mt:=pj.mt0;have m4:mt<=40000:=pj.mt6;have b1:1<=mb:=pj.mb1;have b6:mb<=6:=pj.mb6;refine ([Rg,ax,_,[ZG,s7 _ _ (s14.trans s46 _ _ hax)],rfl,([Xp,_,_,([VX,_,_,rfl,V4])])]);refine [MR,[VX,_,_,(.inr [Mw,Mr,Mr]),[MR,[VX,_,_,(.inr [Mw,Mr,Mr]),?_]]]];refine ([QW,(aC _ hDx (by rw [List.length_replicate]; exact Sf) (af _ [W4,s7.upd hD7 _] aq))]);show _++[V.bl ([N8,[W2,d1 * mb]=[W2,([My,p1] * mt)]])]=_;rw [Int.mul_comm [My,p1],em,[MA,rfl]];exact List.replicate_succ'.symm
 .rintro ys7 H7 ⟨s7,rfl⟩ hD7';have er:[OW,NQ,V.bl true]=[Tr,[OW,NQ,true],V.bl]:=by rw [List.map_replicate]
  rw [er] at hD7';refine ([Od,D7,_,[NO,hD7'],ND]);rw [show ([OW,NQ,true]).all id=true by simp];exact cw [Mu,fin H7 (s46.trans s7)]
end
end K82.S
namespace K82.S
open PySem L2
theorem wR {c:M6} (hc:jL c) {R:Nat->Nk} (s:SeqR c R) {n i:Nat} {o:M7} (h:qx c n i o):o=[Mo,fq R n i]/\fq R n i∈R n:=by
 refine e9 h fun rows row h1 h2 h3 h4=>?_;clear h;rw [xM hc s h1 n row h3,Mz] at h4;unfold fq;cases e:(R n)[i]? with
 | none=>rw [e] at h4; cases h4
 | some v =>
  rw [e] at h4;exact [Mw,[YH,h4],[Mf,e]]
theorem xH {x w b n:Str} (h:Ob=[PK,Zy]++32::w.cps.toList):[NU,x++(Xu++b++Xu++n)]=jn 32 ([[Rk,Zy],w,b,n].map [Z2,Ob]):=by
 rw [cy,cy,cy,cy,[Vh,[PK,Xu]=[32]],h];simp only [List.append_assoc,List.cons_append,List.nil_append];rfl
theorem yN:cB [Rk,"b"]=true:=L5
section
variable {P:Program} {w:World} {K:M3} {mg:Str->Ms} {base:Heap} {f:Addr} {fd:FuncData}
def nK (C:Addr):Sp:=[MV,∃ (D d:Addr) (kvs:Vm) (ch va vb:V) (c c':M6) (R R':Nat->Nk) (n:Nat),vs=[.ref D,ch,[MH,n]]/\DeskAt C H D d kvs/\Q7<=900/\dF kvs ([U4,[Rk,"a"]])=some va/\dF kvs ([U4,[Rk,"b"]])=some vb/\[Rc,H,va]/\ChoirAt H vb c'/\[Rc,H,ch]/\Qu/\Other c c'/\SeqR c R/\SeqR c' R'/\n<=9/\ ∀ (H':Hp) (M:Int),Pk->(∀ i,[OA,i]->ja R R' n i<=M)->(∃ i,[OA,i]/\ja R R' n i=M)->Q (.int M) H']
theorem kC:[QI,[Td,Oq,"_law_n","_law_found","_law_bell_here","_law_row"],[Td,Oq,"_law_n"],uR]:=R1
theorem BB {C fi fs ft fk fc:Addr} {ds:FuncData} (F:[UG,"_law_apart","_law_apart",uR]) (B:Q5) (O:DeskC K C fi fs ft fk fc) (GS:FnOk P w K mg base CX0 13 fs ds [Nd,"row"] (rR C)) (bS:[TB,K,ds,[Nd,"row"]]):FnOk P w K mg base CX0 14 f fd [Td,Oq,"_law_n"] (nK C):=by
 refine [T5,kC]
 .refine bN h fun D d kvs ch pq0=>bN pq0 fun va vb c c' pq1=>dZ pq1 fun R R' n eq1 _=>?_;clear pq0 pq1 h;subst eq1;rfl
 refine bN h fun D d kvs ch pq0=>bN pq0 fun va vb c c' pq1=>fe pq1 fun R R' n eq2 dk0 kl hva pq2=>dE pq2 fun hvb hca hcb pp3 pq3=>dE pq3 fun g oc sq sq' pq4=>bZ pq4 fun hn q=>?_;clear pq0 pq1 pq2 pq3 pq4 h;subst eq2;obtain ⟨a,bs,rfl,ha,prb⟩:=pp3;have hr13:Room 13 _:=Wx;refine [Xr,[YG,3,kC.nd,cM ah,ak (cT Ny rfl (dj RB) [Uy,4,kC.nd] ([YG,5,kC.nd,(bD bV (bD bV (bD bV a8 ([Tq,WN])) a8) (bX fV rfl B.str_ Q3 [Ou,Qn])),av (cH (dr Ow P4 P2 dq VY [Ou,aL w9 rfl B.abs_ PyProof.Rows.boot_abs [Ou,bD jy (bX cW rfl B.int_ OZ [Ou,eV NB GS hr13 bS .nil dJ [Ou,bD bV a8 (Yc)]]) (bX cW rfl B.int_ OZ [Ou,eV NB GS hr13 bS .nil dJ [Ou,bD bV a8 (Yc)]])]]))])) (av (aI (aL (CZ rfl) rfl B.max_ PyProof.Rows.boot_max [Ou,T3])))]]
 have hbl:=aJ prb;have ol:=aJ oc;have c1:=g.c1;have c6:=g.c6;have g':=lq oc g;have gl:=ju;have l8:[RJ,"stroke a"]=8:=L5
 have m8:[RJ,"stroke b"]=8:=L5
 obtain ⟨⟨dx,hD⟩,hd⟩:=id dk0;refine [Mw,([Qq,0]),fun r hrr=>?_];have s0:=[XG,hrr,[]];have hr0:([Py,H,r,[]]) r=[MI,[]]:=aq;generalize upd H r (.lst [])=H0 at s0 hr0 ⊢;refine ⟨_,rfl,a,rfl,[T7,[S2,s0 _ _ ha]],ni (K:=K) (a:=a) (xs:=bs) (fun i σ H1=>∃ (o4 o5:RT),σ=[[Mv,D],Vc,[S3,n],[Mv,r],o4,o5]/\[Pc,H1]/\H1 r=[VM,[Wj,[Tr,[RQ,i],ja R R' n]]]) ([Od,none,none,s0,hr0]) (fun i σ H1 _ pr=>aX pr fun _ _ _ z _=>[S2,z _ _ ha]) ?_ ?_⟩
 .intro i x σ H1 hx pr;refine aX pr fun o4 o5 eq4 s1 hr1=>?_;clear pr;subst eq4;refine [NC,bg prb hx,fun b hb pq0=>fP pq0 fun ba tt ls eq5 hba _=>?_];clear pq0;subst eq5;have hi:=Wy;have n8:=g.len b [Xg,hb];refine bp (bg oc hb :) fun b' hb' en _=>?_
  have nl4:=gj [Yu,n<1001];have r1:=a9 Xu b.name;have r2:=a9 (Xu++b.name) Xu;have r3:=a9 (Xu++b.name++Xu) (XQ);have r4:=a9 "stroke a" (Xu++b.name++Xu++XQ);have r5:=a9 "stroke b" (Xu++b.name++Xu++XQ);refine [QF,ba,_,_,_,[ZG,s1 _ _ hba],([VX,_,_,Nh,([VX,_,_,([Pn,[MP,[Rk,Xu]++b.name]+[RJ,Xu]]),[Mu,[ZT,[U3,i7 L6,([VX,_,_,([Pn,[MP,[Rk,Xu]++b.name++Xu]+[MP,XQ]]),?_])]]]])])];refine ([U3,[T6,([QW,(e8 _ [NO,hr1])])],[Mu,[NA,C,D,dx,_,s1 _ _ hD,O.cl,O.say,([Su,[VX,_,_,([Pn,[RJ,"stroke a"]+[MP,Xu++b.name++Xu++XQ]]),([NA,D,d,kvs,_,dk0.same s1,kl,([NF,[MP,[Rk,"stroke a"]++(Xu++b.name++Xu++XQ)]<=3000]),([PY,az [[Rk,Zy],"a",b.name,XQ] "a" va c (xH Rb) rfl hva (hca.mono [OT,s1]) (bM g ([ZT,.inl (rL "a" i n b rfl vd hb L6)]) (fun H2 z2 s2 an=>?_))])])]])]]]);refine [NC,qT g L6 hb an,fun o so eq6=>?_];subst eq6;obtain ⟨rfl,um⟩:=wR (c7 g).slow sq so;have ub:=fQ g sq n _ um;have ul:=fZ ub.1 L6;have s12:=Rf;refine ([Rg,aT (fq R n i),fq R n i,L6,iX ub.1 L6,[Mu,[NA,C,D,dx,_,s12 _ _ hD,O.cl,O.say,([Su,[VX,_,_,([Pn,[RJ,"stroke b"]+[MP,Xu++b.name++Xu++XQ]]),([NA,D,d,kvs,_,dk0.same s12,kl,([NF,[MP,[Rk,"stroke b"]++(Xu++b.name++Xu++XQ)]<=3000]),([PY,az [[Rk,Zy],"b",b'.name,XQ] "b" vb c' (by rw [en]; exact xH Rb) rfl hvb (hcb.mono [OT,s12]) (bM g' ([ZT,.inl (rL "b" i n b' rfl yN hb' L6)]) (fun H3 z3 s3 an3=>?_))])])]])]]]);refine [NC,qT g' L6 hb' an3,fun o3 so3 eq7=>?_];subst eq7;obtain ⟨rfl,um3⟩:=wR (c7 g').slow sq' so3;have ub3:=fQ g' sq' n _ um3;have ul3:=fZ ub3.1 L6;have s23:=Qh;refine ([Rg,aT (fq R' n i),fq R' n i,L6,iX ub3.1 L6,([Ux,[Mu,[SO,r,_,_,rfl,s23 _ _ hr1,(by rw [List.length_map,List.length_map,List.length_range]; exact Sf),?_]]])]);refine ([Od,_,_,(s1.trans s23).upd hrr _,?_]);rw [List.range_succ,Mt,Mt];exact aq
 .intro σ H1 pr;refine aX pr fun o4 o5 eq8 s1 hr1=>?_;clear pr;subst eq8;rw [hbl] at hr1;refine [Mu,[Rg,r,([Tr,[RQ,c.length],ja R R' n]),[NO,hr1],(by rw [List.length_map,List.length_range]; omega),(fun M hM hle=>q H1 M s1 (fun i hi=>hle _ ([Qg,[Yb,i,List.mem_range.mpr hi]])) ?_)]];refine [UJ,hM,fun i hi e=>?_]
  exact (af i ([Xs,hi]) e)
end
end K82.S
namespace K82.S
open PySem L2
theorem ES:∀ h:Nat,h<64->2<=h->Builtin.Range.small 1 [My,h] 31=true:=L5
theorem HQ:∀ h:Nat,h<64->2<=h->[WO,1,[My,h],31]=[RK,(h - 2) / 31+1]:=L5
theorem AH {x w j:Str} (h:Ob=[PK,MC]++32::(w.cps.toList++[32])):[NU,x++j]=[PK,MC]++32::(w.cps.toList++32::j.cps.toList):=by
 rw [cy,h,QK,List.cons_append,QK];rfl
theorem join_one (x:Str):[PU,Xu,[x]]=x:=eJ (by rw [jm,fT]; rfl)
theorem yY {c:M6} (g:Qu) {now:MU} (h:pJ (cm c now)=Wa):cm c now=[]:=by
 have nm:∀ z∈cm c now,z∉ik:=fun z hz=>by
  refine [UJ,hz,fun p hp eq1=>?_];subst eq1;exact g.f4 _ (List.of_mem_zip ([XO,(List.mem_filter.mp hp).1])).1
 generalize cm c now=ws at h nm;match ws,h,nm with
 | [],_,_=>rfl
 | [x],h,nm =>
  have e:pJ [x]=x:=(if_neg (List.cons_ne_nil _ _)).trans (join_one x);rw [e] at h;exact absurd (by rw [h]; decide +kernel) (nm x List.mem_cons_self)
 | x::y::r,h,_ =>
  have e:pJ (x::y::r)=Txt.join " " (x::y::r):=if_neg (List.cons_ne_nil _ _);have m:32∈(Txt.join " " (x::y::r)).cps.toList:=by
   rw [jm,fT];show 32∈x.cps.toList++32::_;exact List.mem_append.mpr (.inr List.mem_cons_self)
  rw [<- e,h] at m;exact absurd m (by decide +kernel)
theorem Ki {K:M3} {H:Hp} {p q:Addr} {fs:[Pe,Int,Int]} (hp:FrsAt H p fs) (hq:FrsAt H q fs) (ne:p≠q):EqH K H 2 [MT,p] [MT,q] true:=by
 refine ar hp fun vs h1 p1=>?_;clear hp;refine ar hq fun us h2 p2=>?_;clear hq;have h:=EqH.lst (K:=K) (H:=H) (n:=1) [Qe,true] ne [NO,h1] [NO,h2] (by rw [aJ p1,aJ p2]) fun i x y hx hy=>by
  refine [NC,bg p1 hx,fun r hr pq0=>[W5,fun a eq2 ha=>?_]];clear pq0;subst eq2;refine [NC,bg p2 hy,fun r' hr' pq0=>[W5,fun b eq3 hb=>?_]];clear pq0;subst eq3;rw [hr] at hr';cases hr'
  by_cases e:a=b
  .rw [e];exact .same
  .exact EqH.tup (K:=K) (H:=H) (n:=0) [Qe,true] e (WX) ([O1,hb]) fun i u v hu hv=>IC hu hv
 rw [show ([RQ,Ro]).all [Qe,true]=true by simp] at h;exact h
theorem K1:eqL [XX,XX] [XX,XX]=true:=L5
theorem PkAt.but {d p:Addr} {H H':Hp} {kvs:Vm} {k:Nat} (b:But d H H') (hd:H d=[Mo,Yj]) (h:PkAt H p k):PkAt H' p k:=by
 obtain ⟨x,hx⟩:=h;exact [Mw,x,b _ _ (eR hx hd (OF)) hx]
section
variable {P:Program} {w:World} {K:M3} {mg:Str->Ms} {base:Heap} {f:Addr} {fd:FuncData}
def yV (K:M3):Sp:=[MV,∃ (a:Addr) (ns:Nk),vs=[QM]/\SqL K H a (NS)/\OY<=63/\∀ H',Q (.bl true) H']
theorem iH:[QI,[QC,Td,Tc,Nq,Oq,"_law_other_here","_law_rows_here","_law_found","_law_far","_law_n"],[QC],FQ]:=R1
theorem IU {C fi fs ft fk fc:Addr} {di ds:FuncData} (F:[UG,"law","law",FQ]) (B:Q5) (O:DeskC K C fi fs ft fk fc) (mD:mg "Desk"=[Mv,C]) (GI:FnOk P w K mg base CX0 1 fi di [Nd] (rC K)) (bI:[TB,K,di,[Nd]]) (GS:FnOk P w K mg base CX0 13 fs ds [Nd,"row"] (rR C)) (bS:[TB,K,ds,[Nd,"row"]])
  (C_choir:[R3,4,"_law_choir",[QC,Tc,Sg,"_law_most"],ot K]) (C_pack:[R3,1,"_law_pack",[QC,Tc],qb K]) (C_take:[R3,1,Xo,[Nq,Pm],iq]) (C_other:[R3,2,"_law_other",[Nq,Oq],nJ]) (C_rows:[R3,1,"_law_rows",[Oq],qr])
  (C_paces:[R3,14,"_law_paces",[Td,"_law_word",Oq],nQ C]) (C_apart:[R3,14,"_law_apart",[Td,Oq,"_law_n"],nK C]):FnOk P w K mg base CX0 15 f fd [QC] (yV K):=by
 refine [T5,iH]
 .refine bU h fun a ns eq4 _=>?_;clear h;subst eq4;rfl
 refine e9 h fun a ns eq5 hS h63 q=>?_;clear h;subst eq5;have hr2:Room 2 _:=Wx;have hr13:Room 13 _:=Wx;refine [XD,([N9,1,iH.nd,Yq,qV O.mks GI hr2 rfl mD bI .nil dJ]),(ak (cT Ny rfl (Bz rfl B.range_ (ae au (ae (aL (Bv rfl) rfl B.max_ PyProof.Rows.boot_max [RL,au,aL (CQ rfl) rfl B.min_ PyProof.Rows.boot_min (ae ([Vy,bz,rfl,RH]) TV)]) TV))) [Uy,2,iH.nd] ([YG,3,iH.nd,[VD,C_pack,NB,bD c9 TR au],[YG,4,iH.nd,[S4,C_choir,(ae NB (ae TR (ae [S4,C_take,ae VY TV] TV)))],[YG,5,iH.nd,[VD,C_other,[VD,C_pack,NB,bD c9 TR au],UL],[YG,6,iH.nd,(cM [RL,(bD bV a8 [S4,C_rows,[Ou,UL]]),bD bV a8 [S4,C_rows,[Ou,Yc]]]),ak [Z5,aZ (JP hr.units0) (cz ["_law_row"] [Td] [1] rfl (de (pv 6)) [Wf,0,([Mg,[[Rk,"_law_row"],[Rk,Td]]])] RN [Qt,uy (K:=K) rfl RB GS hr13 bS .nil dJ RH]) (cM (ae a8 [Ot,a8])) U7,av (aI gg)] (av [Z5,aZ c8 (eV RB GS hr13 bS .nil dJ [Ot,a8]) a8 U7,([YG,7,iH.nd,[S4,C_paces,(ae RB [RL,a8,UL])],ak [Z5,PW.pt (kY (aZ j3 (pv 7) cK U7) (iz (aZ (Jn hr.units) [S4,C_paces,(ae RB [RL,a8,Yc])] (pv 7) U7))),av (aI gg)] ([YG,8,iH.nd,[S4,C_apart,ae RB (ae WN TV)],av (cT Ny rfl (de (cM [RL,(bD c9 au [S4,C_take,ae VY TV]),bD c9 au [S4,C_take,ae VY TV]])) [Uy,9,iH.nd] (av [Z5,aZ qK [S4,C_apart,(ae RB [RL,WN,pv 9])] (pv 8) U7,av (aI gg)]))])])])]]]])) (av (aI gg)))]
 refine fun D dx nD ndx ne=>([SO,D,C,dx,aq,O.cl,O.nS,(fun d hd=>[P7,?_])])
 have dD:d≠D:=[UT,by rw [e,aq] at hd; cases hd]
 have hd0:H d=none:=by
  rw [aK dD] at hd;by_cases e:d=dx
  .rw [e,aq] at hd; cases hd
  .rw [aK e] at hd; exact hd
 have dk0:DeskAt C (upd (upd (upd (upd H dx (.own D)) D ([Ve,C,[]])) d (.dK [])) D ([Ve,C,[("stands",.ref d)]])) D d []:=[Mw,[Mw,dx,aq],by rw [aK dD]; exact aq];have sH:[Pc,(upd (upd (upd (upd H dx (.own D)) D ([Ve,C,[]])) d (.dK [])) D ([Ve,C,[("stands",.ref d)]]))]:=[RU,by
  rw [aK (aV e nD),aK (aV e hd0),aK (aV e nD),aK (aV e ndx)];exact e]
 generalize upd (upd (upd (upd H dx (.own D)) D (.ins C dx [])) d (.dK [])) D (.ins C dx [("stands",.ref d)])=HD at dk0 sH ⊢;refine [Mu,[Od,a,_,[T6,sH.seq hS],([Xp,_,_,([Xp,_,_,?_])])]];obtain ⟨hi,ehi,hi2,hi63⟩:∃ hi:Nat,([Mj,([Mj,[My,63]<[RK,[MP,NS]],[My,63],[RK,[MP,NS]]]) > 2,([Mj,[My,63]<[RK,[MP,NS]],[My,63],[RK,[MP,NS]]]),2])=[My,hi]/\2<=hi/\hi<64:=by
  refine (aC [TF,([Mj,([Mj,[My,63]<[RK,[MP,NS]],[My,63],[RK,[MP,NS]]]) > 2,([Mj,[My,63]<[RK,[MP,NS]],[My,63],[RK,[MP,NS]]]),2])] ?_ ?_ ?_) <;> (split <;> (try split) <;> omega)
 rw [ehi];refine ([NA,1,[My,hi],31,(hi - 2) / 31+1,M0,M0,ES hi hi63 hi2,aH (HQ hi hi63 hi2) ?_]);clear ehi;refine zH (lo:=1) (c:=31) (n:=(hi - 2) / 31+1) (fun i σ H1=>∃ (o2 o3 o4 o5 o6 o7 o8 o9:RT) (kvs:Vm),σ=[Vc,[Mv,D],o2,o3,o4,o5,o6,o7,o8,o9]/\[Pc,H1]/\DeskAt C H1 D d kvs/\Q7<=2 * i) (cf none none none none (cf none none none none (cC [] rfl sH dk0 (OX)))) ?_ ?_
 .intro i σ H0 hi' pr;refine bN pr fun o2 o3 o4 o5 pq0=>bN pq0 fun o6 o7 o8 o9 pq1=>iD pq1 fun kvs eq6 s0 dk kl=>?_;clear pq0 pq1 pr;subst eq6;have hi5:i<=5:=Mr
  have ek:[My,1]+X4 * 31=[RK,1+i * 31]:=Mr
  rw [ek];have hk:1+i * 31<=200:=Mr
  generalize 1+i * 31=k at hk;refine [MR,[Ux,(dh a ns (k+7) (by show [V.ref a,[W2,PZ+7]]=[V.ref a,[W2,[RK,k+7]]]; rw [Int.natCast_add]; rfl) (s0.seq hS) L6 (fun H1 p s1 p0 pk1=>?_))]];refine [Mn,[MR,[SO,p,k+7,_,pk1,L6,M0,(aH M0 (fun so H2 hso b2 pk2=>?_))]]];have s02:Same H0 H2:=b2.same s1 p0;refine (cf a ns k 5 (eY so rfl L6 ((s0.trans s02).seq hS) L6 (bM M0 M0 (fun H3 v1 c s3 h3 c1 c5 gs pr=>ar pr fun names gn hcn=>?_))));have g:Qu:=GoodC.of gn c1 L6 hcn [Pg,(gs b hb).1]
  have ao:js c\/lE c:=by
   rcases (show so=0\/so=1 by omega) with rfl | rfl
   .exact .inl [Pg,by rcases (gs b hb).2.2.1 rfl with e | e <;> (unfold wants; rw [e])]
   .exact .inr [Pg,by rcases (gs b hb).2.2.2 rfl with e | e <;> (unfold wants; rw [e])]
  have s03:=XH;refine [MR,[Ux,(dh a ns (k+8) (by show [V.ref a,[W2,PZ+8]]=[V.ref a,[W2,[RK,k+8]]]; rw [Int.natCast_add]; rfl) ((s0.trans s03).seq hS) L6 (fun H4 p' s4 p'0 pk4=>?_))]];refine [Mu,[NA,p',k+8,v1,c,pk4,L6,(h3.mono [OT,s4]),(aH g.c6 (fun H5 v5 c' b5 pk5 h5 oc=>?_))]];have s35:Same H3 H5:=b5.same s4 p'0;have g':=lq oc g;have rd:=kT g;have rd':=kT g';have rl:=rd.len;have rl':=rd'.len;have ca8:[RJ,"choir a "]=8:=L5
  have cb8:[RJ,"choir b "]=8:=L5
  have r1:=a9 "choir a " ([PU,"; ",d7 c]);have r2:=a9 "choir b " ([PU,"; ",d7 c']);refine [Mu,[Rg,v1,c,(h3.mono [OT,s35]),g,(fun H6 s6=>([VX,_,_,Nh,[Mu,[Rg,v5,c',(h5.mono [OT,s6]),g',(fun H7 s7=>([Yv,_,_,rfl,Nh,Zn,Vz]))]]]))]];have s57:=s6.trans s7;have s8:=[XG,hl,[.str ("choir a "++[PU,"; ",d7 c]),.str ("choir b "++[PU,"; ",d7 c'])]];have hl8:([Py,H7,l,[.str ("choir a "++[PU,"; ",d7 c]),.str ("choir b "++[PU,"; ",d7 c'])]]) l=[MI,[.str ("choir a "++[PU,"; ",d7 c]),.str ("choir b "++[PU,"; ",d7 c'])]]:=aq;generalize upd H7 l (.lst [.str ("choir a "++Txt.join "; " (d7 c)),.str ("choir b "++Txt.join "; " (d7 c'))])=H8 at s8 hl8 ⊢;have s58:=s57.trans s8;have s38:=s35.trans s58;have s08:=s03.trans s38;have pk8:PkAt H8 p (k+7):=pk2.same (s3.trans s38);have hch:=h3.mono [OT,s38];have hch':=h5.mono [OT,s58];have dk8:=dk.same s08;obtain ⟨⟨dx8,hD8⟩,hd8⟩:=id dk8;refine [Mu,[UN,l,[Tn,hl8],(fun D1 hD1=>?_)]];have hl_d:∀ {Hx:Hp},But d H8 Hx->Hx l=[MI,[.str ("choir a "++[PU,"; ",d7 c]),.str ("choir b "++[PU,"; ",d7 c'])]]:=fun b=>b _ _ (eR hl8 hd8 (OF)) hl8
  refine cX (K:=K) (a:=l) (xs:=[.str ("choir a "++[PU,"; ",d7 c]),.str ("choir b "++[PU,"; ",d7 c'])]) (fun j ys H9=>∃ kv,But d H8 H9/\H9 d=[Mo,.dK kv]/\kv.length<=Q7+j/\ys=[OW,j,XX]/\(1<=j->∃ va,dF kv ([U4,[Rk,"a"]])=some va/\[Rc,H9,va])/\(2<=j->∃ vb,dF kv ([U4,[Rk,"b"]])=some vb/\ChoirAt H9 vb c')) (eY kvs ([Wi,aw hD1 _]) (aw hD1 _ _ _ hd8) Tx rfl (aH (fun h=>[O9,h,M0]) (fun h=>[O9,h,M0]))) (fun j ys H9 _ pr=>ar pr fun _ z _=>[Tn,hl_d z]) ?_ ?_
  .rintro j x ys H9 hx ⟨kv,b9,hd9,kl9,rfl,ya,_⟩ hDx;have dk9:=dk8.but b9 hd9;obtain ⟨⟨dx9,hD9⟩,_⟩:=id dk9;have nd:D1≠d:=eR hDx hd9 (OF);have keep:∀ {HA:Hp} {ws:Nz},But d H9 HA->But d H8 ([Py,HA,D1,ws]):=fun {HA ws} bA y o ny e=>by rw [aK (aV e hD1)]; exact bA _ _ ny (b9 _ _ ny e)
   refine V9;match j,hx with
   | 0,hx =>
    cases hx
    refine (af _ rfl (az C D dx9 _ rfl hD9 O.cl O.say (aH rfl (af _ rfl (az D d kv _ rfl dk9 (by omega) (by omega) (.inl (dh "a" (d7 c) c (AH (by decide +kernel)) vd rd (fun HA va bA hdA hcA=>?_))))))));have kA:=ig kv (Sum.inr ("a":Str)) va;have hDA:=bA _ _ nd hDx;have tS:iQ HA (upd HA D1 (.lst ([]++[V.str "ok"]))):=fun y ys e=>by rw [aK (eR e hDA (by intro z; cases z))]; exact e
    exact (aC _ hDA (aM (by show 0<=1000; decide)) (af _ (eY (putK kv (Sum.inr ("a":Str)) va) (keep bA) (by rw [aK (Ne.symm nd)]; exact hdA) (by omega) rfl (aH (fun _=>(af va (by rw [qI,if_pos rfl]) (hcA.mono tS))) (fun h=>absurd h (by decide)))) aq))
   | 1,hx =>
    cases hx
    refine ar (ya (Nat.le_refl _) :) fun va hva hca=>?_
    refine (af _ rfl (az C D dx9 _ rfl hD9 O.cl O.say (aH rfl (af _ rfl (az D d kv _ rfl dk9 (by omega) (by omega) (.inl (dh "b" (d7 c') c' (AH (by decide +kernel)) yN rd' (fun HA vb bA hdA hcA=>?_))))))));have kA:=ig kv (Sum.inr ("b":Str)) vb;have hDA:=bA _ _ nd hDx;have tS:iQ HA (upd HA D1 (.lst ([V.str "ok"]++[V.str "ok"]))):=fun y ys e=>by rw [aK (eR e hDA (by intro z; cases z))]; exact e
    exact (aC _ hDA (aM (by show 1<=1000; decide)) (af _ (eY (putK kv (Sum.inr ("b":Str)) vb) (keep bA) (by rw [aK (Ne.symm nd)]; exact hdA) (by omega) rfl (aH (fun _=>(af va (by rw [qI,if_neg (by decide +kernel)]; exact hva) ((hca.mono (yn bA hd9)).mono tS))) (fun _=>(af vb (by rw [qI,if_pos rfl]) (hcA.mono tS))))) aq))
   | j+2,hx=>cases hx
  rintro ys H9 ⟨kv,b9,hd9,kl9,rfl,ya,yb⟩ hD9l;have kl9':kv.length<=Q7+2:=kl9;refine [NC,ya ([Mx,1<=2]),fun va hva hca=>?_]
  refine [NC,yb ([Mx,2<=2]),fun vb hvb hcb=>?_]
  have dk9:=dk8.but b9 hd9;have t89:=yn b9 hd8;have pk9:=PkAt.but b9 hd8 pk8;have hch9:=hch.mono t89;have hch9':=hch'.mono t89;refine [Mw,Zn,fun l2 hl2=>?_];have sA:=[XG,hl2,[.str "ok",.str "ok"]];refine ([NN,D1,l2,_,_,[NO,sA _ _ hD9l],[NO,aq],bM rfl rfl ND]);show [Mj,(!eqL [XX,XX] [XX,XX])=true,_,_];rw [K1];refine T8;generalize upd H9 l2 (.lst [.str "ok",.str "ok"])=HA at sA ⊢;have dkA:=dk9.same sA;obtain ⟨⟨dxA,hDA⟩,hdA⟩:=id dkA;have bA:But d H8 HA:=b9.trans ([Wi,sA]);have b0A:But d H0 HA:=fun y o ny e=>bA _ _ ny (s08 _ _ e)
  refine [Mu,[NA,C,D,dxA,_,hDA,O.cl,O.say,([QW,([NA,D,d,kv,_,dkA,L6,Rb,([PY,az [[Rk,"waits"],"a"] "a" va c Rb rfl hva (hca.mono [OT,sA]) (bM g [T6,[Ma,"a",vd]] (fun HB zB sB an=>?_))])])])]];refine [NC,Bx an,fun now fx eq7=>?_];subst eq7;have sAB:=sA.trans sB;refine ([QW,ND]);by_cases hw:pJ (cm c now)=Wa;case neg =>
   refine ifN hw (cf _ _ _ _ (cf _ _ _ _ (cC kv rfl ?_ (dkA.same sB) (by omega))));exact (b0A.trans (Same.but sB)).same s0 hd0
  refine ifS hw ?_;have nw:=yY g hw;have po:PaceOk c now:=⟨ye g,fx,nw,ao⟩;obtain ⟨now',po'⟩:=DF oc g po;obtain ⟨R,sq⟩:=qz (c7 g) fx nw;obtain ⟨R',sq'⟩:=qz (c7 g') po'.fx po'.nw;refine [MR,cf D d kv "a" ([NA,v1,va,c,now,dk9.same sAB,L6,vd,(dv hva (hca.mono [OT,sAB]) (hch9.mono [OT,sAB]) g (aH po (fun HC pa fs sC pa0 fa fl pc=>?_)))])];have s9C:=sAB.trans sC;refine ([U8,ND]);rw [[NJ,[Yh,¬ V.ref pa=V.non,OF]]];refine T8;refine [MR,cf D d kv "b" ([NA,v5,vb,c',now',dk9.same s9C,L6,yN,(dv hvb (hcb.mono [OT,s9C]) (hch9'.mono [OT,s9C]) g' (aH po' (fun HE pb fs' sE pb0 fb fl' pc'=>?_)))])];have s9E:=s9C.trans sE;have ef:fs'=fs:=BL (by rw [fl',fl,aJ oc]) (fun i x hx=>by
   refine bN (pc' i x hx :) fun B1 sd way ring pq0=>iC pq0 fun h z=>?_;clear pq0;exact (cf B1 sd way ring (e8 h (zp oc z)))) pc
  subst ef;refine [NC,id fa,fun vs0 hpa _=>?_]
  have nab:pb≠pa:=[UT,by rw [e,hpa] at pb0; cases pb0]
  refine [NW,2,true,pb,pa,nab,M0,(aH (Ki fb (fa.same sE) nab) [Mu,T8])];refine [MR,cf D d kv v1 (cf va vb c c' ([SO,R,R',0,dk9.same s9E,L6,hva,(dv hvb (hca.mono [OT,s9E]) (hcb.mono [OT,s9E]) (hch9.mono [OT,s9E]) (dv g oc sq sq' (aH M0 (fun HF M sF mle mex=>?_))))]))];have s9F:=s9E.trans sF;refine [Mu,[SO,p,k+7,_,pk9.same s9F,L6,M0,(aH M0 (fun n1 HG hn1 bG pkG=>([Ux,[Mu,[SO,p,k+7,_,pkG,L6,M0,(aH M0 (fun n2 HI hn2 bI' pkI=>([VX,_,_,Zn,(fun l3 hl3=>?_)])))]]])))]];have e1:[My,1]+[My,n1]=[RK,n1+1]:=Mr
  have e2:[My,1]+[My,n2]=[RK,n2+1]:=Mr
  have sJ:=[XG,hl3,[[Va,1+[My,n1]],[Va,1+[My,n2]]]];have hl3':([Py,HI,l3,[[Va,1+[My,n1]],[Va,1+[My,n2]]]]) l3=[MI,[[Va,1+[My,n1]],[Va,1+[My,n2]]]]:=aq;generalize upd HI l3 (.lst [.int (1+(n1:Int)),.int (1+(n2:Int))])=HJ at sJ hl3' ⊢;have bFJ:But p HF HJ:=[Q9,bG.trans bI',([Wi,sJ])];have tFJ:iQ HF HJ:=by
   obtain ⟨xp,hxp⟩:=pk9.same s9F;exact But.tup bFJ hxp
  have dkJ:DeskAt C HJ D d kv:=by
   obtain ⟨xp,hxp⟩:=pk9.same s9F;obtain ⟨⟨dy,h1⟩,h2⟩:=dk9.same s9F;exact [Mw,[Mw,dy,bFJ _ _ (eR h1 hxp (OF)) h1],bFJ _ _ (eR h2 hxp (OF)) h2]
  have hcaJ:=(hca.mono [OT,s9F]).mono tFJ;have hcbJ:=(hcb.mono [OT,s9F]).mono tFJ;have hchJ:=(hch9.mono [OT,s9F]).mono tFJ;have sHF:[Pc,HF]:=([Q9,b0A.trans ([Wi,sB]),([Wi,sC.trans (sE.trans sF)])]).same s0 hd0;have sHJ:[Pc,HJ]:=fun y o e=>bFJ _ _ [UK,by rw [z] at e; have:=(s0 _ _ e); rw [p0] at this; cases this] (sHF _ _ e)
  refine ([UN,l3,[Tn,hl3'],(j9 (K:=K) (a:=l3) (xs:=[[Va,1+[My,n1]],[Va,1+[My,n2]]]) (fun j σ HK=>∃ o9:RT,σ=[Vc,[Mv,D],[S3,k],[Mv,p],some v1,some v5,[Mv,l],[Mv,pa],[Mo,.int M],o9]/\Same HJ HK) [Ma,o9,.refl HJ] (fun j σ HK _ pr=>ar pr [Tz,[Tn,z _ _ hl3']]) ?_ ?_)])
  .intro j x σ HK hx pr;refine ar pr fun o9 eq8 sK=>?_;clear pr;subst eq8;obtain ⟨n,rfl,hn⟩:∃ n:Nat,x=[MH,n]/\n<=9:=by
    match j,hx with
    | 0,hx=>exact (af (n1+1) (by rw [<- e1]; exact (Option.some.inj hx).symm) (by omega))
    | 1,hx=>exact (af (n2+1) (by rw [<- e2]; exact (Option.some.inj hx).symm) (by omega))
    | j+2,hx=>cases hx
   refine [Mn,[MR,cf D d kv v1 (cf va vb c c' ([SO,R,R',n,dkJ.same sK,L6,hva,(dv hvb (hcaJ.mono [OT,sK]) (hcbJ.mono [OT,sK]) (hchJ.mono [OT,sK]) (dv g oc sq sq' (aH hn (fun HL M' sL mle' pr=>ar pr fun i' hi' ei'=>?_))))]))]];have le:=Ff oc (c7 g).slow sq sq' mle n hi';refine [Mu,XF];rw [[NJ,[Yu,¬ M<M']]];exact cw [Mu,sK.trans sL]
  .intro σ HK pr;refine ar pr fun o9 eq9 sK=>?_;clear pr;subst eq9;exact (cf _ _ _ _ (cf _ _ _ _ (cC kv rfl (sHJ.trans sK) (dkJ.same sK) L6)))
 .intro σ H1 pr;refine bN pr fun o2 o3 o4 o5 pq0=>bN pq0 fun o6 o7 o8 o9 pq1=>ar pq1 fun kvs eq0 _=>?_;clear pq0 pq1 pr;subst eq0;exact q H1
end
end K82.S
namespace K82.S
open PySem L2
theorem zT {K:M3} {C fi ff fw:Addr} (i:[Pq,K,C,Ql]=[Mo,[Mv,fi]]) (fl:[Pq,K,C,"falls"]=[Mo,[Mv,ff]]) (wl:[Pq,K,C,"wants"]=[Mo,[Mv,fw]]) (pg:PySem.W.plainGet K C O4=true) (hd:PySem.W.hasDictIn K C=true) (po:PySem.W.plainOver K C=true)
  (sa:[Pq,K,C,"__setattr__"]=[Mo,[Mo,[Sl,"object.__setattr__"]]]) (n:[Pq,K,C,Po]=OO) (mk:PySem.W.makesIn K C=true) (fn:[WW,[MT,fi]]=true) (kc:[Rr,K,C]=true)
  (ffn:[WW,[MT,ff]]=true) (fk:[Rr,K,ff]=true) (wfn:[WW,[MT,fw]]=true) (wk:[Rr,K,fw]=true):Own K C fi ff fw:=⟨⟨pg,hd,po,sa⟩,n,⟨mk,i,fn,kc⟩,⟨fl,ffn,fk⟩,⟨wl,wfn,wk⟩⟩
theorem E3 {K:M3} {C g:Addr} {m:Str} (a:PySem.W.findCls K [MT,C] [Sx,"type"] m=[Mo,.val [MT,g]]) (rd:PySem.W.readsIn K C [Sx,"type"]=true)
  (sp:PySem.W.specialIn K [MT,C] "__getattribute__"=[Mo,[Mo,[Sl,"type.__getattribute__"]]]) (kp:[Rr,K,g]=true):ClsFn K C m g:=⟨rd,a,sp,kp⟩
theorem HU {K:M3} {C:Addr} (h:PySem.W.excIn K C [.type "ValueError",.type "Exception",.type "BaseException",.type "object"] "ValueError.__new__"=true):yC K C:=h
def Iv (K:M3) (a:Addr) (zs:MB):Bool:=match K.lookup a with
 | some ⟨.type "tuple",_,.seq its _,_⟩=>decide (its.size<=sizeLine) && decide (its.toList.map EV=zs.map fun z=>some (V.str z))
 | _=>false
theorem GH {z:Str} {u:Value} (h:EV u=[Mo,V.str z]):[WE,R9]:=by
 cases u with
 | str x t =>
  have e:x=z:=V.str.inj ([Mq,h]);subst e;exact [Nl,t]
 | _=>first | cases h | (unfold EV at h; cases h)
theorem wW:∀ {zs:MB} {us:MS},us.map EV=zs.map [UK,[Mo,V.str z]]->[Vi,TU]
 | [],[],_=>.nil
 | [],_::_,h=>WB
 | _::_,[],h=>WB
 | z::zs,u::us,h=>.cons (GH ([Pt,h]).1) (wW ([Pt,h]).2)
theorem JW {K:M3} {a:Addr} {zs:MB} (h:Iv K a zs=true):∀ H,SqT K H a (TU):=fun H=>by
 unfold Iv at h;split at h
 .rename_i dd its n sl ho;rw [Oo] at h;exact [PY,cj _ its n ho rfl rfl ([MF,h.1]) (wW ([MF,h.2]))]
 .cases h
theorem Lw {us:MS} (h:us.length=5):∃ a b c d e,us=[a,b,c,d,e]:=by
 match us,h with
 | [a,b,c,d,e],_=>exact (cf a b c d (e8 e rfl))
theorem Fj {K:M3} {x y:Str} {st:Stmt} {f:Addr} {oc:Value} {od an:SH} {osl:Array (Ms)} {kV doc pm cdv ct:Value} (a:[MW,K,y]=[Mo,[Mv,f]]) (l:K.lookup f=some ⟨oc,od,.func (PySem.W.fnOf x x (f6 st) (eX st) (ay st) .none kV doc pm an cdv ct),osl⟩)
  (c:PySem.W.codeIn K cdv x=true) (k:[Rr,K,f]=true):∃ f fd,[UG,x,x,st]/\[MW,K,y]=[Mo,[Mv,f]]:=(bP f _ (Ai (st:=st) l c k) a)
theorem DB {P:Program} {w:World} {K:M3} {a:Addr} {o:Obj} {es:Array DictEntry} {ep:Nat} (l:K.lookup a=MN) (c:o=⟨.type "dict",none,.dict es ep,#[]⟩) (m:es.toList.map ([UT,(e.hash,strOf? e.key,strOf? e.val)])=yx.map [OE,(PyData.keyHash w.params z.1,some z.1,some z.2)]) (hs:[Vb,([Y9,a])]):yw P w K a nF:=Hz yx l c m Rb hs
theorem Hk {K:M3} {C fi fs ft fk fc:Addr} (i:[Pq,K,C,Ql]=[Mo,[Mv,fi]]) (afs:[Pq,K,C,"say"]=[Mo,[Mv,fs]]) (aft:[Pq,K,C,"standing"]=[Mo,[Mv,ft]]) (afk:[Pq,K,C,"keep"]=[Mo,[Mv,fk]]) (afc:[Pq,K,C,"say_choir"]=[Mo,[Mv,fc]]) (pg:PySem.W.plainGet K C O4=true) (hd:PySem.W.hasDictIn K C=true) (po:PySem.W.plainOver K C=true) (sa:[Pq,K,C,"__setattr__"]=[Mo,[Mo,[Sl,"object.__setattr__"]]]) (n:[Pq,K,C,"stands"]=OO) (mk:PySem.W.makesIn K C=true) (fn:[WW,[MT,fi]]=true) (kc:[Rr,K,C]=true) (bfs:[WW,[MT,fs]]=true) (cfs:[Rr,K,fs]=true) (bft:[WW,[MT,ft]]=true) (cft:[Rr,K,ft]=true) (bfk:[WW,[MT,fk]]=true) (cfk:[Rr,K,fk]=true) (bfc:[WW,[MT,fc]]=true) (cfc:[Rr,K,fc]=true):DeskC K C fi fs ft fk fc:=⟨⟨pg,hd,po,sa⟩,n,⟨mk,i,fn,kc⟩,⟨afs,bfs,cfs⟩,⟨aft,bft,cft⟩,⟨afk,bfk,cfk⟩,⟨afc,bfc,cfc⟩⟩
theorem all {P:Program} {w:World} {K:M3} {h:Heap} {mg:Str->Ms} {fa c0 R A Y S fR fA fY fS fw ff aN C fi fs ft fk fc aF:Addr} {tJ tF:Tok} {t_mI:Tok} {t_mM:Tok} {t_mL:Tok} {t_mS:Tok} {t_mO:Tok} {t_mG:Tok} {t_mFg:Tok} {t_mSt:Tok} {t_mRo:Tok} (X:K.In h) (G:[Y2,mg]) (hfa:mg "law"=[Mv,fa]) (B:Q5) (m0:mg "NoRule"=[Mv,c0]) (mI:mg "MOST_LETTERS"=[Mo,.int 8 t_mI]) (mM:mg "MOST_BEATS"=[Mo,.int 1000 t_mM]) (mL:mg "MOST_LISTENINGS"=[Mo,.int 6 t_mL]) (mS:mg "MOST_START"=[Mo,.int 1000 t_mS]) (mO:mg "MOST_BELLS"=[Mo,.int 6 t_mO]) (mG:mg "MOST_FIGURES_choirtexts"=[Mo,.int 9 t_mG]) (mFg:mg "MOST_FIGURES_desk"=[Mo,.int 4 t_mFg]) (mSt:mg "MOST_STROKES"=[Mo,.int 2000 t_mSt]) (mRo:mg "MOST_OF_ROUND"=[Mo,.int 500 t_mRo])
  (aR:[MW,K,"Rule"]=[Mo,[Mv,R]]) (aA:[MW,K,"All"]=[Mo,[Mv,A]]) (aY:[MW,K,"Any"]=[Mo,[Mv,Y]]) (aS:[MW,K,"Some"]=[Mo,[Mv,S]])
  (cR:ClsFn K R Ql fR) (oA:Own K A fA ff fw) (oY:Own K Y fY ff fw) (oS:Own K S fS ff fw) (xR:yC K c0) (xm0:PySem.W.exmOne K [MT,c0] [MT,c0]=Ys)
  (FR:∃ fd,[TQ,Ql,"Rule.__init__",ma,fR]) (FA:∃ fd,[TQ,Ql,"All.__init__",ml,fA]) (FY:∃ fd,[TQ,Ql,"Any.__init__",mP,fY]) (FS:∃ fd,[TQ,Ql,"Some.__init__",lV,fS]) (FW:∃ fd,[TQ,"wants","Rule.wants",sQ,fw]) (FF:∃ fd,[TQ,"falls","Rule.falls",vJ,ff])
  (mJ:mg "LETTERS"=[Mo,.str fH tJ]) (mF:mg "FIGURES"=[Mo,.str f7 tF]) (mN:mg "NO_NAMES"=[Mv,aN]) (hN:∀ H,SqT K H aN (ik.map V.str))
  (aD:[MW,K,"Desk"]=[Mo,[Mv,C]]) (O:DeskC K C fi fs ft fk fc) (aFo:[MW,K,"FORMS"]=[Mo,[Mv,aF]]) (kF:yw P w K aF nF) (F_beyond:∃ f fd,[UG,"refuse_beyond","refuse_beyond",gw]/\[MW,K,"refuse_beyond_desk"]=[Mo,[Mv,f]]) (FDI:∃ fd,[TQ,Ql,"Desk.__init__",uV,fi]) (FDT:∃ fd,[TQ,"standing","Desk.standing",jM,ft]) (FDK:∃ fd,[TQ,"keep","Desk.keep",vD,fk]) (FDC:∃ fd,[TQ,"say_choir","Desk.say_choir",jj,fc]) (FDS:∃ fd,[TQ,"say","Desk.say",zg,fs])
  (F__law_pack:[QA,"_law_pack",zq]) (F__law_take:[QA,Xo,yT]) (F__law_names:[QA,"_law_names",rM]) (F__law_rule:[QA,"_law_rule",vN]) (F__law_bell:[QA,"_law_bell",zW]) (F__law_choir:[QA,"_law_choir",v7]) (F_is_whole:[QA,Yx,g7]) (F_is_whole_within:[QA,Ws,fF]) (F_rule_of_text:[QA,VP,rW]) (F_rule_of:[QA,"rule_of",iV]) (F_is_word:[QA,"is_word",oh]) (F_is_name:[QA,"is_name",oK]) (F_is_rule:[QA,"is_rule",nU]) (F_is_listening:[QA,"is_listening",hX]) (F_are_listenings:[QA,"are_listenings",fW]) (F_is_bell:[QA,"is_bell",nY]) (F_is_written_whole:[QA,Xx,eZ]) (F_read_number:[QA,Zx,iI]) (F_read_rule:[QA,"read_rule",jS]) (F_read_listening:[QA,"read_listening",fU]) (F_read_bell:[QA,"read_bell",jW]) (F_are_rows:[QA,"are_rows",lF]) (F_read_choir:[QA,"read_choir",jd]) (F_names_of:[QA,"names_of",lG]) (F_rule_of_bell:[QA,"rule_of_bell",gP]) (F_listening_comes:[QA,"listening_comes",vV]) (F_next_found:[QA,"next_found",uZ]) (F_strokes_behind:[QA,"strokes_behind",rT]) (F_strokes:[QA,"strokes",oB]) (F_waiting:[QA,"waiting",ow]) (F_refuse_waiting:[QA,YS,fO]) (F_round_of:[QA,"round_of",lR]) (F_side_of:[QA,"side_of",nB]) (F_hears:[QA,"hears",vO]) (F_greatest_common:[QA,"greatest_common",fD]) (F_fraction:[QA,"fraction",lH]) (F_mean_that_all_beat:[QA,Yz,eB]) (F_gain:[QA,"gain",yH]) (F_lift_once:[QA,"lift_once",j2]) (F_ring_from:[QA,"ring_from",j0]) (F_settled:[QA,"settled",ou]) (F_mean_of:[QA,"mean_of",oz]) (F_way_to:[QA,"way_to",rP]) (F_pace:[QA,"pace",zX]) (F_place_of:[QA,"place_of",lT]) (F_form_of:[QA,"form_of",nG]) (F_refuse_wrong_words:[QA,YA,eE]) (F_tell_stroke:[QA,"tell_stroke",iG]) (F_tell_waits:[QA,"tell_waits",jz]) (F_tell_round:[QA,"tell_round",jA]) (F_tell_pace:[QA,"tell_pace",kg]) (F_tell_ring:[QA,"tell_ring",jY]) (F_tell_of:[QA,"tell_of",oo]) (F__law_rows:[QA,"_law_rows",uT]) (F__law_other:[QA,"_law_other",vf]) (F__law_fraction:[QA,"_law_fraction",jZ]) (F__law_paces:[QA,"_law_paces",uM]) (F__law_apart:[QA,"_law_apart",uR]) (F_law:[QA,"law",FQ]) :
  ∃ fd:FuncData,(∀ (s:Shared) (u:Value),BindsTo s fd [Mw,[u],[]] [(QC,u)])/\∀ base:Heap,K.In base->[XA,mg]->FnOk P w K mg base CX0 15 fa fd [QC] (yV K):=by
 refine F_law.law X G hfa (fun _ _ _ _ _ _ _=>rfl) fun base _ _ f fd F=>?_
 have pA:K82.Own K A fA:=⟨oA.cl,oA.nN,oA.mks⟩;have pY:K82.Own K Y fY:=⟨oY.cl,oY.nN,oY.mks⟩;have pS:K82.Own K S fS:=⟨oS.cl,oS.nN,oS.mks⟩;have mD:=[SJ,G,aD];obtain ⟨df,FF⟩:=FF;obtain ⟨dR,FR⟩:=FR; obtain ⟨dA,FA⟩:=FA; obtain ⟨dY,FY⟩:=FY; obtain ⟨dS,FS⟩:=FS; obtain ⟨dw,FW⟩:=FW;have mR:=[SJ,G,aR];have bR:[TB,K,dR,[Nd,Po]]:=FR.binds (ps:=[Nd,Po]) [Md,by refine dW UX fun a b eq1=>?_;subst eq1; rfl]
 have bA:[TB,K,dA,[Nd,QU]]:=FA.binds (ps:=[Nd,QU]) [Md,by refine dW UX fun a b eq2=>?_;subst eq2; rfl]
 have bY:[TB,K,dY,[Nd]]:=FY.binds (ps:=[Nd]) Z6
 have bS_:[TB,K,dS,[Nd,Po]]:=FS.binds (ps:=[Nd,Po]) [Md,by refine dW UX fun a b eq3=>?_;subst eq3; rfl]
 have bW:[TB,K,dw,[Nd]]:=FW.binds (ps:=[Nd]) Z6
 have bF:[TB,K,df,[Nd,ZM]]:=FF.binds (ps:=[Nd,ZM]) [Md,by refine dW UX fun a b eq4=>?_;subst eq4; rfl]
 have GR:FnOk P w K mg base CX0 1 fR dR [Nd,Po] (K82.cE K):=K82.qp FR;have GA:FnOk P w K mg base CX0 2 fA dA [Nd,QU] (K82.cE K):=K82.qA FA mR cR GR bR;have GY:FnOk P w K mg base CX0 2 fY dY [Nd] (K82.hE K):=K82.qX FY mR cR GR bR;have GS_:FnOk P w K mg base CX0 2 fS dS [Nd,Po] (K82.cE K):=K82.tf FS mR cR GR bR;have HR:FnOk P w K mg base CX0 1 fR dR [Nd,Po] (K82.S.cE K):=K82.S.qp FR;have HA:FnOk P w K mg base CX0 2 fA dA [Nd,QU] (K82.S.cE K):=K82.S.qA FA mR cR HR bR;have HY:FnOk P w K mg base CX0 2 fY dY [Nd] (K82.S.hE K):=K82.S.qX FY mR cR HR bR;have HS:FnOk P w K mg base CX0 2 fS dS [Nd,Po] (K82.S.cE K):=K82.S.tf FS mR cR HR bR;have HW:FnOk P w K mg base CX0 1 fw dw [Nd] (K82.S.kD K):=K82.S.Cm FW;have HF:FnOk P w K mg base CX0 1 ff df [Nd,ZM] (K82.S.sT K):=K82.S.DU FF B;have C__law_pack:[R3,1,"_law_pack",[QC,Tc],K82.qb K]:=F__law_pack.cal X G ([Md,by refine dW UX fun a b eq5=>?_;subst eq5; rfl]) [NG,K82.Hn F B]
 have C__law_take:[R3,1,Xo,[Nq,Pm],K82.iq]:=F__law_take.cal X G ([Md,by refine dW UX fun a b eq6=>?_;subst eq6; rfl]) [NG,K82.G1 F B]
 have C__law_names:[R3,2,"_law_names",[Nq,Pm],K82.nI]:=F__law_names.cal X G ([Md,by refine dW UX fun a b eq7=>?_;subst eq7; rfl]) [NG,K82.C4 F B C__law_take]
 have C__law_rule:[R3,2,"_law_rule",[Nq,Sg,Pm],K82.qL]:=F__law_rule.cal X G ([Md,by refine lD (nO hl :) fun a b c eq8=>?_;subst eq8; rfl]) [NG,K82.DX F B C__law_take]
 have C__law_bell:[R3,3,"_law_bell",[Nq,Sg,"_law_place",YO],K82.r9]:=F__law_bell.cal X G ([Md,by refine bN (GP hl :) fun a b c d eq9=>?_;subst eq9; rfl]) [NG,K82.DS F B C__law_take C__law_rule]
 have C__law_choir:[R3,4,"_law_choir",[QC,Tc,Sg,"_law_most"],K82.ot K]:=F__law_choir.cal X G ([Md,by refine bN (GP hl :) fun a b c d eq0=>?_;subst eq0; rfl]) [NG,K82.By F B C__law_pack C__law_take C__law_names C__law_bell]
 have C_is_whole:[R3,1,Yx,[OL],K82.gi K]:=F_is_whole.cal X G (Z6) [NG,K82.jQ F B]
 have C_is_whole_within:[R3,2,Ws,[OL,ZJ,Wb],K82.iS]:=F_is_whole_within.cal X G ([Md,by refine lD (nO hl :) fun a b c eq1=>?_;subst eq1; rfl]) [NG,K82.BO F C_is_whole]
 have C_rule_of_text:CalX P w K mg base 4 VP [Ta,QU] (K82.jw A Y c0):=F_rule_of_text.calX X G ([Md,by refine dW UX fun a b eq2=>?_;subst eq2; rfl]) [NG,K82.vY F ([SJ,G,aA]) ([SJ,G,aY]) m0 xR pA pY GA bA GY bY]
 have C_rule_of:CalX P w K mg base 5 "rule_of" [Ut,QU] (K82.i9 K A Y S c0):=F_rule_of.calX X G ([Md,by refine dW UX fun a b eq3=>?_;subst eq3; rfl]) [NG,K82.lM F B ([SJ,G,aS]) m0 xR pS GS_ bS_ C_rule_of_text C_is_whole]
 have C_is_word:[R3,1,"is_word",[OL],K82.mT]:=F_is_word.cal X G (Z6) [NG,K82.GJ F B mI mJ]
 have C_is_name:[R3,2,"is_name",[OL],K82.qa]:=F_is_name.cal X G (Z6) [NG,K82.GG F mN hN C_is_word]
 have C_is_rule:[R3,6,"is_rule",[OL,QU],K82.nC]:=F_is_rule.cal X G ([Md,by refine dW UX fun a b eq4=>?_;subst eq4; rfl]) [NG,K82.CW F m0 xm0 C_rule_of]
 have C_is_listening:[R3,3,"is_listening",[OL,Sn],K82.sW]:=F_is_listening.cal X G ([Md,by refine dW UX fun a b eq5=>?_;subst eq5; rfl]) [NG,K82.EI F B mM C_is_whole_within]
 have C_are_listenings:[R3,4,"are_listenings",[OL,Sn],K82.oW]:=F_are_listenings.cal X G ([Md,by refine dW UX fun a b eq6=>?_;subst eq6; rfl]) [NG,K82.C2 F B mL C_is_listening]
 have C_is_bell:[R3,7,"is_bell",[OL,"ahead",Sn],K82.n9]:=F_is_bell.cal X G ([Md,by refine lD (nO hl :) fun a b c eq7=>?_;subst eq7; rfl]) [NG,K82.B5 F B mS C_is_whole_within C_is_name C_are_listenings C_is_rule]
 have C_is_written_whole:[R3,1,Xx,[Ta,"most_figures"],K82.qd]:=F_is_written_whole.cal X G ([Md,by refine dW UX fun a b eq8=>?_;subst eq8; rfl]) [NG,K82.Hs F B mF]
 have C_read_number:[R3,2,Zx,[Ta],K82.lW]:=F_read_number.cal X G (Z6) [NG,K82.GD F B mG C_is_written_whole]
 have C_read_rule:[R3,3,"read_rule",[Ta],K82.se]:=F_read_rule.cal X G (Z6) [NG,K82.F2 F C_read_number]
 have C_read_listening:[R3,3,"read_listening",[Ta,WU],K82.vB]:=F_read_listening.cal X G ([Md,by refine dW UX fun a b eq9=>?_;subst eq9; rfl]) [NG,K82.Hm F C_is_name C_read_number]
 have C_read_bell:[R3,4,"read_bell",["row",WU],K82.tD]:=F_read_bell.cal X G ([Md,by refine dW UX fun a b eq0=>?_;subst eq0; rfl]) [NG,K82.EB F B C_read_number C_read_rule C_read_listening]
 have C_are_rows:[R3,1,"are_rows",[OL],K82.rq]:=F_are_rows.cal X G (Z6) [NG,K82.Dj F B mO]
 have C_read_choir:[R3,8,"read_choir",["rows"],K82.uW]:=F_read_choir.cal X G (Z6) [NG,K82.Ii F B C_are_rows C_read_bell C_is_bell]
 have C_names_of:[R3,1,"names_of",[MC],K82.jU]:=F_names_of.cal X G (Z6) [NG,K82.xZ F]
 have C_is_whole_S:[R3,1,Yx,[OL],K82.S.gi]:=F_is_whole.cal X G (Z6) [NG,K82.S.jQ F B]
 have C_text_S:[R3,4,VP,[Ta,QU],K82.S.jw K ff fw]:=F_rule_of_text.cal X G ([Md,by refine dW UX fun a b eq1=>?_;subst eq1; rfl]) [NG,K82.S.vY F ([SJ,G,aA]) ([SJ,G,aY]) oA oY HA bA HY bY]
 have C_rule_S:[R3,5,"rule_of",[Ut,QU],K82.S.i9 K ff fw]:=F_rule_of.cal X G ([Md,by refine dW UX fun a b eq2=>?_;subst eq2; rfl]) [NG,K82.S.lM F B ([SJ,G,aS]) oS HS bS_ C_text_S C_is_whole_S]
 have C_rob_S:[R3,6,"rule_of_bell",[Oj],K82.S.ic K ff fw]:=F_rule_of_bell.cal X G (Z6) [NG,K82.S.pR F B C_rule_S]
 have C_listening_comes:[R3,1,"listening_comes",[PM,VR,"now"],K82.S.sV]:=F_listening_comes.cal X G ([Md,by refine lD (nO hl :) fun a b c eq3=>?_;subst eq3; rfl]) [NG,K82.S.ED F]
 have C_next_found:[R3,2,"next_found",[MC,"rules",VR,"now"],K82.S.sr K ff fw]:=F_next_found.cal X G ([Md,by refine bN (GP hl :) fun a b c d eq4=>?_;subst eq4; rfl]) [NG,K82.S.Fo F B C_listening_comes HF bF]
 have C_strokes_behind:[R3,3,"strokes_behind",[MC,"rules",VR],K82.S.oq K ff fw]:=F_strokes_behind.cal X G ([Md,by refine lD (nO hl :) fun a b c eq5=>?_;subst eq5; rfl]) [NG,K82.S.Cw F C_next_found]
 have C_strokes:[R3,7,"strokes",[MC,QU],K82.S.g6]:=F_strokes.cal X G ([Md,by refine dW UX fun a b eq6=>?_;subst eq6; rfl]) [NG,K82.S.zZ F B C_rob_S C_strokes_behind]
 have C_waiting:[R3,8,"waiting",[MC],K82.S.jf]:=F_waiting.cal X G (Z6) [NG,K82.S.Af F B C_strokes]
 have C_refuse_waiting:[R3,9,YS,[MC],K82.S.kO]:=F_refuse_waiting.cal X G (Z6) [NG,K82.S.Bk F B C_waiting]
 have C_round_of:[R3,10,"round_of",[MC,Wb],K82.S.qB]:=F_round_of.cal X G ([Md,by refine dW UX fun a b eq7=>?_;subst eq7; rfl]) [NG,K82.S.Em F B C_refuse_waiting C_strokes]
 have C_side_of:[R3,7,"side_of",[MC],K82.S.ve]:=F_side_of.cal X G (Z6) [NG,K82.S.GV F B HW bW C_rob_S]
 have C_hears:[R3,1,"hears",[MC,Oj],K82.S.qH]:=F_hears.cal X G ([Md,by refine dW UX fun a b eq8=>?_;subst eq8; rfl]) [NG,K82.S.Ek F B]
 have C_greatest_common:[R3,1,"greatest_common",["one","other"],K82.S.zt]:=F_greatest_common.cal X G ([Md,by refine dW UX fun a b eq9=>?_;subst eq9; rfl]) [NG,K82.S.Jm F]
 have C_fraction:[R3,2,"fraction",["top","bottom"],K82.S.ib]:=F_fraction.cal X G ([Md,by refine dW UX fun a b eq0=>?_;subst eq0; rfl]) [NG,K82.S.yd F B C_greatest_common]
 have C_mean_that_all_beat:[R3,1,Yz,[MC,Y8],K82.S.lA]:=F_mean_that_all_beat.cal X G ([Md,by refine dW UX fun a b eq1=>?_;subst eq1; rfl]) [NG,K82.S.zk F B]
 have C_gain:[R3,1,"gain",[PM,"mean",Y8],K82.S.vZ]:=F_gain.cal X G ([Md,by refine lD (nO hl :) fun a b c eq2=>?_;subst eq2; rfl]) [NG,K82.S.Hg F]
 have C_lift_once:[R3,1,"lift_once",[MC,Sn,"gains","heights","places"],K82.S.vK]:=F_lift_once.cal X G ([Md,by refine bN (Lw hl :) fun a b c d pq0=>iC pq0 fun e eq3=>?_;clear pq0;subst eq3; rfl]) [NG,K82.S.Gk F B]
 have C_ring_from:[R3,1,"ring_from",[MC,"places",Oj],K82.S.kj]:=F_ring_from.cal X G ([Md,by refine lD (nO hl :) fun a b c eq4=>?_;subst eq4; rfl]) [NG,K82.S.wZ F]
 have C_settled:[R3,2,"settled",[MC,Sn,"mean",Y8],K82.S.lU]:=F_settled.cal X G ([Md,by refine bN (GP hl :) fun a b c d eq5=>?_;subst eq5; rfl]) [NG,K82.S.zh F B C_gain C_lift_once C_ring_from]
 have C_mean_of:[R3,3,"mean_of",[MC,A03],K82.S.oI]:=F_mean_of.cal X G ([Md,by refine dW UX fun a b eq6=>?_;subst eq6; rfl]) [NG,K82.S.BA F B C_fraction]
 have C_way_to:[R3,1,"way_to",[MC,Oj,"goal"],K82.S.rY]:=F_way_to.cal X G ([Md,by refine lD (nO hl :) fun a b c eq7=>?_;subst eq7; rfl]) [NG,K82.S.Es F B]
 have C_pace:[R3,10,"pace",[MC,Oj],K82.S.p7]:=F_pace.cal X G ([Md,by refine dW UX fun a b eq8=>?_;subst eq8; rfl]) [NG,K82.S.Gd F B C_refuse_waiting C_side_of C_hears C_mean_that_all_beat C_settled C_mean_of C_fraction C_way_to]
 have C_place_of:[R3,1,"place_of",[MC,"name"],K82.S.rZ]:=F_place_of.cal X G ([Md,by refine dW UX fun a b eq9=>?_;subst eq9; rfl]) [NG,K82.S.EU F B]
 have C_form_of:[R3,1,"form_of",[Xy],K82.S.uX]:=F_form_of.cal X G (Z6) [NG,K82.S.Hq F ([SJ,G,aFo]) kF]
 have C_refuse_wrong_words:[R3,2,YA,[Xy],K82.S.zI]:=F_refuse_wrong_words.cal X G (Z6) [NG,K82.S.Jv F B mFg C_form_of C_is_written_whole C_is_word]
 have C_beyond:[R3,3,"refuse_beyond_desk",["number",ZJ,Wb],kJ]:=by
  refine bU F_beyond fun f1 fd1 F1 a1=>?_;clear F_beyond;exact ⟨f1,fd1,Bg F1 C_is_whole_within,F1.binds (ps:=["number",ZJ,Wb]) ([Md,by obtain ⟨a,b,c,rfl⟩:=nO hl; rfl]),F1.kp,[SJ,G,a1]⟩
 have C_tell_stroke:[R3,8,"tell_stroke",[MC,Oj,"n"],K82.S.lg]:=F_tell_stroke.cal X G ([Md,by refine lD (nO hl :) fun a b c eq0=>?_;subst eq0; rfl]) [NG,K82.S.Ah F B mSt C_beyond C_strokes]
 have C_tell_waits:[R3,9,"tell_waits",[MC],K82.S.oJ]:=F_tell_waits.cal X G (Z6) [NG,K82.S.Cp F B C_waiting]
 have C_tell_round:[R3,11,"tell_round",[MC,Wb],K82.S.og]:=F_tell_round.cal X G ([Md,by refine dW UX fun a b eq1=>?_;subst eq1; rfl]) [NG,K82.S.CA F B mRo C_beyond C_round_of]
 have C_tell_pace:[R3,11,"tell_pace",[MC,Oj],K82.S.rf]:=F_tell_pace.cal X G ([Md,by refine dW UX fun a b eq2=>?_;subst eq2; rfl]) [NG,K82.S.DZ F C_pace]
 have C_tell_ring:[R3,11,"tell_ring",[MC,Oj],K82.S.rF]:=F_tell_ring.cal X G ([Md,by refine dW UX fun a b eq3=>?_;subst eq3; rfl]) [NG,K82.S.Ft F C_names_of C_pace]
 have C_tell_of:[R3,12,"tell_of",[MC,Xy],K82.S.uK]:=F_tell_of.cal X G ([Md,by refine dW UX fun a b eq4=>?_;subst eq4; rfl]) [NG,K82.S.Gg F B C_tell_waits C_tell_round C_place_of C_tell_stroke C_tell_pace C_tell_ring]
 obtain ⟨ddI,FI⟩:=FDI;have GI:FnOk P w K mg base CX0 1 fi ddI [Nd] (rC K):=E4 FI;have bI:[TB,K,ddI,[Nd]]:=FI.binds (ps:=[Nd]) Z6
 obtain ⟨ddT,FT⟩:=FDT;have GT:FnOk P w K mg base CX0 1 ft ddT [Nd,Ut] (rE C):=FJ FT O;have bT:[TB,K,ddT,[Nd,Ut]]:=FT.binds (ps:=[Nd,Ut]) [Md,by refine dW UX fun a b eq5=>?_;subst eq5; rfl]
 obtain ⟨ddK,FK⟩:=FDK;have GK:FnOk P w K mg base CX0 1 fk ddK [Nd,Ut,MC] (vQ C):=Ha FK O;have bK:[TB,K,ddK,[Nd,Ut,MC]]:=FK.binds (ps:=[Nd,Ut,MC]) [Md,by refine lD (nO hl :) fun a b c eq6=>?_;subst eq6; rfl]
 obtain ⟨ddC,FC⟩:=FDC;have GC:FnOk P w K mg base CX0 9 fc ddC [Nd,"parts"] (nZ C):=Ci FC B O GK bK C_is_word C_read_choir;have bC:[TB,K,ddC,[Nd,"parts"]]:=FC.binds (ps:=[Nd,"parts"]) [Md,by refine dW UX fun a b eq7=>?_;subst eq7; rfl]
 obtain ⟨ddS,FS_⟩:=FDS;have GS:FnOk P w K mg base CX0 13 fs ddS [Nd,"row"] (rR C):=Kn FS_ B O GT bT GC bC C_refuse_wrong_words C_tell_of;have bS:[TB,K,ddS,[Nd,"row"]]:=FS_.binds (ps:=[Nd,"row"]) [Md,by refine dW UX fun a b eq8=>?_;subst eq8; rfl]
 have C__law_rows:[R3,1,"_law_rows",[Oq],K82.S.qr]:=F__law_rows.cal X G (Z6) [NG,K82.S.Dc F B]
 have C__law_other:[R3,2,"_law_other",[Nq,Oq],K82.S.nJ]:=F__law_other.cal X G ([Md,by refine dW UX fun a b eq9=>?_;subst eq9; rfl]) [NG,K82.S.CH F B C__law_take]
 have C__law_fraction:[R3,1,"_law_fraction",["_law_text"],K82.S.rB]:=F__law_fraction.cal X G (Z6) [NG,K82.S.Fp F B]
 have C__law_paces:[R3,14,"_law_paces",[Td,"_law_word",Oq],K82.S.nQ C]:=F__law_paces.cal X G ([Md,by refine lD (nO hl :) fun a b c eq0=>?_;subst eq0; rfl]) [NG,K82.S.Bo F B O GS bS C__law_fraction]
 have C__law_apart:[R3,14,"_law_apart",[Td,Oq,"_law_n"],K82.S.nK C]:=F__law_apart.cal X G ([Md,by refine lD (nO hl :) fun a b c eq1=>?_;subst eq1; rfl]) [NG,K82.S.BB F B O GS bS]
 exact IU F B O mD GI bI GS bS C__law_choir C__law_pack C__law_take C__law_other C__law_rows C__law_paces C__law_apart
end K82.S
def PySem.W.Fast.tw15723395926574279101:Nat:=0
def PySem.W.Fast.tw13733516796761920535:Nat:=0
def PySem.W.Fast.tw16390886868201044031:Nat:=0
def PySem.W.Fast.tw17170597705486555288:Nat:=0
def PySem.W.Fast.tw15414660989834596422:Nat:=0
def PySem.W.Fast.tw10029386146432490317:Nat:=0
def PySem.W.Fast.tw636356672193906063:Nat:=0
def PySem.W.Fast.tw5636058824292080180:Nat:=0
def PySem.W.Fast.tw4874448353532117712:Nat:=0
def PySem.W.Fast.tw5044812322874341068:Nat:=0
def PySem.W.Fast.tw17506669939700068686:Nat:=0
def PySem.W.Fast.tw16810866551431606284:Nat:=0
def PySem.W.Fast.tw8572630809649619204:Nat:=0
def PySem.W.Fast.tw5973692935504465711:Nat:=0
def PySem.W.Fast.tw2053678504632037636:Nat:=0
def PySem.W.Fast.tw10676534705541057225:Nat:=0
def PySem.W.Fast.tw13677966940910580655:Nat:=0
def PySem.W.Fast.tw13362104279216803484:Nat:=0
def PySem.W.Fast.tw13936064577601614976:Nat:=0
def PySem.W.Fast.tw17955148575133963130:Nat:=0
def PySem.W.Fast.tw5441028606255014800:Nat:=0
def PySem.W.Fast.tw12425806174685976457:Nat:=0
def PySem.W.Fast.tw15703555558899906686:Nat:=0
def PySem.W.Fast.tw7556391107642852132:Nat:=0
def PySem.W.Fast.tw16905796333696349388:Nat:=0
def PySem.W.Fast.tw16990712499432821114:Nat:=0
def PySem.W.Fast.tw752273160087535200:Nat:=0
open PySem PySem.W PyProof.Rows
set_option maxRecDepth 100000 in
set_option maxHeartbeats 0 in
theorem PySem.Challenge.cw_earbells_k82_whole_pace_and_round_holds : PySem.Challenge.rw_earbells_k82_whole_pace_and_round.Holds := by
  w_on; o_law; k_head; (case hw=>w_witness2)
  k_fill
  refine L2.Dx (l:=PySem.Challenge.rw_earbells_k82_whole_pace_and_round) (n:=63) (k:=15) (x:="_law_script") (CX:=L2.CX0) (sp:=K82.S.yV) rfl (by decide) rfl ⟨rfl,by decide,by decide⟩ (fun w h Y=>PySem.W.kIn_of Y) ?F (fun K H a ns hl hO hS=>⟨a,ns,rfl,hS,hl,fun _=>rfl⟩) (fun _ _ _ _ z=>z)
  case F =>
    intro w mg fa h KX G hmg
    refine' K82.S.all KX G hmg ?B ?m0 ?mI ?mM ?mL ?mS ?mO ?mG ?mFg ?mSt ?mRo ?aR ?aA ?aY ?aS ?cR ?oA ?oY ?oS ?xR ?xm0 ?FR ?FA ?FY ?FS ?FW ?FF ?mJ ?mF ?mN ?hN ?aD ?O ?aFo ?kF ?F_beyond ?FDI ?FDT ?FDK ?FDC ?FDS ?F__law_pack ?F__law_take ?F__law_names ?F__law_rule ?F__law_bell ?F__law_choir ?F_is_whole ?F_is_whole_within ?F_rule_of_text ?F_rule_of ?F_is_word ?F_is_name ?F_is_rule ?F_is_listening ?F_are_listenings ?F_is_bell ?F_is_written_whole ?F_read_number ?F_read_rule ?F_read_listening ?F_read_bell ?F_are_rows ?F_read_choir ?F_names_of ?F_rule_of_bell ?F_listening_comes ?F_next_found ?F_strokes_behind ?F_strokes ?F_waiting ?F_refuse_waiting ?F_round_of ?F_side_of ?F_hears ?F_greatest_common ?F_fraction ?F_mean_that_all_beat ?F_gain ?F_lift_once ?F_ring_from ?F_settled ?F_mean_of ?F_way_to ?F_pace ?F_place_of ?F_form_of ?F_refuse_wrong_words ?F_tell_stroke ?F_tell_waits ?F_tell_round ?F_tell_pace ?F_tell_ring ?F_tell_of ?F__law_rows ?F__law_other ?F__law_fraction ?F__law_paces ?F__law_apart ?F_law
    case B =>
      refine' K82.J8 KX G ?z1 ?z2 ?z3 ?z4 ?z5 ?z6 ?z7 ?z8 ?z9 ?z10 ?z11 ?z12 ?z13 ?z14 ?z15 ?z16 ?z17 ?z18 ?z19 ?z20
      all_goals k_is
    (case m0=>refine' PySem.W.mg_of KX G ?im0; (case im0=>k_is))
    (case aR=>k_is); (case aA=>k_is); (case aY=>k_is); (case aS=>k_is); (case aD=>k_is); (case aFo=>k_is)
    (case cR=>refine' K82.S.E3 ?cRa ?cRb ?cRc ?cRd; (case cRa=>k_is); (case cRb=>k_is); (case cRc=>k_is); (case cRd=>k_is))
    (case oA=>refine' K82.S.zT ?oAa ?oAb ?oAc ?oAd ?oAe ?oAf ?oAg ?oAh ?oAi ?oAj ?oAk ?oAl ?oAm ?oAn ?oAo; (case oAa=>k_is); (case oAb=>k_is); (case oAc=>k_is); all_goals k_is)
    (case oY=>refine' K82.S.zT ?oYa ?oYb ?oYc ?oYd ?oYe ?oYf ?oYg ?oYh ?oYi ?oYj ?oYk ?oYl ?oYm ?oYn ?oYo; (case oYa=>k_is); (case oYb=>k_is); (case oYc=>k_is); all_goals k_is)
    (case oS=>refine' K82.S.zT ?oSa ?oSb ?oSc ?oSd ?oSe ?oSf ?oSg ?oSh ?oSi ?oSj ?oSk ?oSl ?oSm ?oSn ?oSo; (case oSa=>k_is); (case oSb=>k_is); (case oSc=>k_is); all_goals k_is)
    (case xR=>refine' K82.S.HU ?xRa; (case xRa=>k_exc))
    (case xm0=>kts_exm)
    (case O=>refine' K82.S.Hk ?dk0 ?dk1 ?dk2 ?dk3 ?dk4 ?dk5 ?dk6 ?dk7 ?dk8 ?dk9 ?dk10 ?dk11 ?dk12 ?dk13 ?dk14 ?dk15 ?dk16 ?dk17 ?dk18 ?dk19 ?dk20; (case dk0=>k_is); (case dk1=>k_is); (case dk2=>k_is); (case dk3=>k_is); (case dk4=>k_is); all_goals k_is)
    (case kF=>refine' K82.S.DB ?kfl ?kfc ?kfm ?kfs; (case kfl=>k_is); (case kfc=>exact rfl); (case kfm=>exact rfl); (case kfs=>exact rfl))
    (case F_beyond=>refine' K82.S.Fj ?ya ?yl ?yc ?yk; (case ya=>k_is); (case yl=>k_is); (case yc=>k_is); (case yk=>k_is))
    (case FR=>refine' L2.hU ?FRl ?FRc ?FRk; (case FRl=>k_is); (case FRc=>k_is); (case FRk=>k_is))
    (case FA=>refine' L2.hU ?FAl ?FAc ?FAk; (case FAl=>k_is); (case FAc=>k_is); (case FAk=>k_is))
    (case FY=>refine' L2.hU ?FYl ?FYc ?FYk; (case FYl=>k_is); (case FYc=>k_is); (case FYk=>k_is))
    (case FS=>refine' L2.hU ?FSl ?FSc ?FSk; (case FSl=>k_is); (case FSc=>k_is); (case FSk=>k_is))
    (case FW=>refine' L2.hU ?FWl ?FWc ?FWk; (case FWl=>k_is); (case FWc=>k_is); (case FWk=>k_is))
    (case FF=>refine' L2.hU ?FFl ?FFc ?FFk; (case FFl=>k_is); (case FFc=>k_is); (case FFk=>k_is))
    (case FDI=>refine' L2.hU ?FDIl ?FDIc ?FDIk; (case FDIl=>k_is); (case FDIc=>k_is); (case FDIk=>k_is))
    (case FDT=>refine' L2.hU ?FDTl ?FDTc ?FDTk; (case FDTl=>k_is); (case FDTc=>k_is); (case FDTk=>k_is))
    (case FDK=>refine' L2.hU ?FDKl ?FDKc ?FDKk; (case FDKl=>k_is); (case FDKc=>k_is); (case FDKk=>k_is))
    (case FDC=>refine' L2.hU ?FDCl ?FDCc ?FDCk; (case FDCl=>k_is); (case FDCc=>k_is); (case FDCk=>k_is))
    (case FDS=>refine' L2.hU ?FDSl ?FDSc ?FDSk; (case FDSl=>k_is); (case FDSc=>k_is); (case FDSk=>k_is))
    (case mJ=>refine' PySem.W.mg_of KX G ?imJ; (case imJ=>k_is))
    (case mF=>refine' PySem.W.mg_of KX G ?imF; (case imF=>k_is))
    (case mN=>refine' PySem.W.mg_of KX G ?imN; (case imN=>k_is))
    (case hN=>refine' K82.S.JW ?hNa; (case hNa=>kernel_rfl))
    (case mI=>refine' PySem.W.mg_of KX G ?imI; (case imI=>k_is))
    (case mM=>refine' PySem.W.mg_of KX G ?imM; (case imM=>k_is))
    (case mL=>refine' PySem.W.mg_of KX G ?imL; (case imL=>k_is))
    (case mS=>refine' PySem.W.mg_of KX G ?imS; (case imS=>k_is))
    (case mO=>refine' PySem.W.mg_of KX G ?imO; (case imO=>k_is))
    (case mG=>refine' PySem.W.mg_of KX G ?imG; (case imG=>k_is))
    (case mFg=>refine' PySem.W.mg_of KX G ?imFg; (case imFg=>k_is))
    (case mSt=>refine' PySem.W.mg_of KX G ?imSt; (case imSt=>k_is))
    (case mRo=>refine' PySem.W.mg_of KX G ?imRo; (case imRo=>k_is))
    all_goals (refine' L2.Ex ?a ?l ?c ?k; (case a=>k_is); (case l=>k_is); (case c=>k_is); (case k=>k_is))
#print axioms PySem.Challenge.cw_earbells_k82_whole_pace_and_round_holds
end
