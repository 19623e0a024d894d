import PyProof.Rows.All
import Wide.All
import OpenK.AllK
import Wide.FinOn
import Lean
import PyProof.EqAt
import PyProof.EqKinds
import PyProof.TupleCall
import PyProof.NeData
import PyProof.Rows.StrJoin2
import PyProof.Rows.SortStr
import PyProof.Rows.SortWalk
import KE.KRevIter
import PyProof.Rows.RuleN_isinstance
import PyProof.StrReplace2
import PyProof.StrWalks
import PyProof.Draws
import PyProof.EnumMake
import PyProof.Rows.StrNews2
import PyProof.StrLawsTight
import PyProof.StrLawsReplace
import PyProof.ConsumeWalk
import PyProof.StrLawsFrom
import PyProof.DictValues
import PyProof.Rows.SumAny
import PyProof.SeqI3
import PyProof.NoPylong
import PyProof.Rows.FStrParts
import PyProof.ListRange
import PyProof.ListStr
import PyProof.DictWalks
import PyProof.DictItemsLoops
import PyProof.FactsAll.dict_itemiterator_1
import PyProof.Rows.RegStrFacts
import KE.KDictList
import KE.KDictOf
import PyProof.AttrMissSeq
import PyProof.TupleIter
import PyProof.StrLawsFirst
import PyProof.ReprHeadsTuple
import PyProof.ReprLen
import PyProof.Rows.StrMul
import PySem.Challenge.RW_tagmend_k45_walls
set_option Elab.async false
set_option hygiene false
set_option linter.all false
set_option compiler.extract_closed false
set_option genSizeOf false
set_option bootstrap.genMatcherCode false
open List PySem
local macro_rules|`(#[0])=>`((by omega))|`(#[1,$x])=>`((D6 D5 rfl T.z_len boot_len (A0 $x A3)))|`(#[2,$x])=>`((tC (.int $x)))|`(#[3,$x])=>`((A1 (A2 $x) A9))|`(#[4])=>`((by walk_at "n"))
local macro_rules|`(#[5,$x])=>`((some (.ref $x)))|`(#[6])=>`((Nat.le_refl _))|`(#[7])=>`((by walk_at"b"))|`(#[8])=>`((hr.mono (by walk_at "le")))|`(#[9])=>`((model X.prog X.w))
local macro_rules|`(#[10])=>`((by decide))|`(#[11,$x])=>`((E4 (C2 (D4 hr)) (pv $x) B0 (fun _ _=>rfl)))|`(#[12])=>`((tUn (rU fun i=>.int (-i)) #[2,1]))|`(#[13,$x])=>`((E4 (C2 (D4 hr)) $x (T5 N4 B0) (fun _ _=>rfl)))|`(#[14,$x])=>`((A0 (pv $x) A3))
local macro_rules|`(#[15])=>`((rI (fun _ j=>0<j) fun i j=>.int (i % j)))|`(#[16,$x])=>`((.lst (B4 $x)))|`(#[17])=>`((room_here hu))|`(#[18])=>`((T8 (pv 0) T.cz.cl_Reader T.m_c_Reader_open_names (M1 T) #[8] T.b_c_Reader_open_names .nil B9))|`(#[19])=>`((starEach (e::es) X.env=(false,eval e X.env)::starEach es X.env))
local macro_rules|`(#[20])=>`((k == NameKind.free && env.scope.kind == .function && env.kindOf n == some .cell))|`(#[21])=>`((by decide +kernel))|`(#[22])=>`((.ins k_Branch x.x [(("name":Str),.str b.n),(("place":Str),.ref x.p),(("parts":Str),.ref x.q),(("waiting":Str),.ref w)]))|`(#[23])=>`((Or.inl rfl))|`(#[24,$x])=>`((N2 PySem.F.plainAttrs_list PySem.F.slot_list_append PySem.F.type_list_append E6 (G8 (pv 0) rfl) (A0 $x A3)))
local macro_rules|`(#[25])=>`((upd (upd (upd (upd H' t #[16,x0::xr]) t2 (.lst [.str (wrd ns),.str x0])) t3 (.lst [.str "bars",.str "shuts"])) t4 (.lst (B4 (names++[("bars":Str),("shuts":Str)])))))|`(#[26])=>`((N0 rs rk (B5 st) 13 n))|`(#[27])=>`((TX.toks z.cps.toList 0 0))|`(#[28])=>`((J.go i H/\∃ N:St->Hp->Prop,(∀ σ' H',N σ' H'->∃ m',m'<m/\W (i+1) m' σ' H')/\∀ x H',J.yld i H x H'->g x σ H' fun σ2 H2=>tb {D with nx:=N,ct:=N,bk:=D.nx} σ2 H2))|`(#[29,$x])=>`((C4 (N2 PySem.F.plainAttrs_list PySem.F.slot_list_append PySem.F.type_list_append E6 (pv 6) (A0 (G1 (A0 (pv 8) $x)) A3))))
local macro_rules|`(#[30,$x])=>`((Nat.ne_of_lt (Nat.lt_of_lt_of_le (Heap.lt_size e) $x)))|`(#[31])=>`((upd (upd H2 dx (.own o)) o (.ins k_Branch dx [])))|`(#[32,$x])=>`((PyProof.Rows.callWith_type1 (thn (ha pos pins s σ H _ I h) fun us s1 zq=>?_) hs $x))|`(#[33,$x])=>`((tOp (L5 K) (A2 $x) #[12]))|`(#[34])=>`((((∃ xs,SqL K H b xs)/\wn1 g tb D σ (Itl K b) H)\/((∃ xs,SqT K H b xs)/\wn1 g tb D σ (Itt K b) H)))
local macro_rules|`(#[35])=>`((model prog w))|`(#[36])=>`((fun _ _=>rfl))|`(#[37])=>`((lvN late.length st.bs))|`(#[39])=>`((s.heap.push {cls:=.type "tuple_iterator",data:=.fields #[.ref l,.int 0 0]}))|`(#[40,$x])=>`((wx0 PySem.F.plainAttrs_list PySem.F.slot_list_pop PySem.F.type_list_pop wx1 $x))
local macro_rules|`(#[41])=>`((L7 I q (by simp)))|`(#[42])=>`((by rw[sizeLine_eq];omega))|`(#[43])=>`(((x == ("__debug__":Str))=false))|`(#[44])=>`((s.heap.objs.size+1))|`(#[45])=>`((.ref k_Reader))
local macro_rules|`(#[46])=>`((by with_unfolding_all rfl))|`(#[47])=>`((("branches":Str),.ref L))|`(#[48,$x])=>`((z.cps.toList.drop $x))|`(#[49])=>`((blk X N scope cl C s₂ H₂ fp pn))|`(#[50,$x])=>`(((backTo $x (starEach es X.env)).any (·.1)=false))
local macro_rules|`(#[51])=>`((.ins k_Branch x.x [(("name":Str),.str bb.n),(("place":Str),.ref x.p),(("parts":Str),.ref x.q),(("waiting":Str),.ref w)]))|`(#[52,$x])=>`((SqL.of $x))|`(#[53])=>`(("frame":Str))|`(#[54,$x])=>`((upd H p (.lst $x)))|`(#[55])=>`((O1 k_Reader "open_names" (E7 K) [] E0 (A2 0) A9))
local macro_rules|`(#[56])=>`((fun j h1 h2=>by have q:=qf4 xs ys A.in1 s _ _ _ _ h4 k4 ha hb (room_in (by rw[PyData.depth,PyData.depth] at hu;exact hu)) j (by simpa using h1) (by simpa using h2);rw[Array.getElem_toList,Array.getElem_toList] at q;exact q))|`(#[57,$x])=>`((mem_append_right _ $x))|`(#[58])=>`((((∃ xs,SqL K H b xs)/\wh6 g tt te σ' Q (Itl K b) H)\/((∃ xs,SqT K H b xs)/\wh6 g tt te σ' Q (Itt K b) H)))|`(#[59])=>`((notedBy #[35] A env fun e s'=>R (.error e) s'))|`(#[61])=>`((.ListComp elt [⟨tg,iter,ifs,0⟩] scope pos))
local macro_rules|`(#[63])=>`((Q9 (n:=xs'.length) (by simp) (by simp)))|`(#[64])=>`((W3 rs st wt.1 i "shut"))|`(#[65])=>`((st.bs.drop (kept+1)))|`(#[66])=>`((A.under (.builtin "type.__call__" ⟨.ref C::us,kw⟩)))|`(#[67])=>`((("book":Str),bv))
local macro_rules|`(#[68])=>`((pw0 rs ps))|`(#[69])=>`((C2 (D4 hr)))|`(#[70,$x])=>`((tOp (L5 K) (A2 $x) #[2,0]))|`(#[71])=>`((qg1 g.cps.toList g.cps.toList.length))|`(#[72,$x])=>`((C4 (N2 PySem.F.plainAttrs_list PySem.F.slot_list_append PySem.F.type_list_append E6 (pv $x) (A0 (L8 A3) A3))))
local macro_rules|`(#[73])=>`((wpAny_pure ⟨_,rfl,wpAny_pure h⟩))|`(#[74])=>`((C4 (N2 PySem.F.plainAttrs_list PySem.F.slot_list_append PySem.F.type_list_append E6 (pv 2) #[14,3])))|`(#[75])=>`((.tup [.str (if f=k+1 then "open" else "close"),.int k,.int e,.str (TX.ofL (#[48,f].take (e-1-f)))]))|`(#[76])=>`((G2.mpr rfl))|`(#[77])=>`(((items.toList.drop (sIx items.size 0 lo)).take (sIx items.size items.size hi-sIx items.size 0 lo)))
local macro_rules|`(#[78,$x])=>`((A7.new $x _))|`(#[79,$x])=>`((C4 (N2 PySem.F.plainAttrs_list PySem.F.slot_list_extend PySem.F.type_list_extend qy2 (pv 8) (A0 $x A3))))|`(#[80,$x])=>`((O5 rs rk st i g $x))|`(#[81,$x])=>`((compareOp $x))|`(#[82])=>`((R6 (qi8 hr)))
local macro_rules|`(#[83,$x])=>`((yu1 CX P w K mg base N qual scope f $x A outer s H E))|`(#[84,$x])=>`((G8 (pv $x) rfl))|`(#[85])=>`((T8 (pv 0) T.cz.cl_Reader T.m_c_Reader_last_wall (X8 T) #[8] T.b_c_Reader_last_wall .nil B9))|`(#[86])=>`((by simp;omega))|`(#[87])=>`((xs'.map V.ref++[V.ref x]))
local macro_rules|`(#[88])=>`((·++P8 rs (cl.map Brn.n)))|`(#[89])=>`((some (.builtin "object.__setattr__")))|`(#[90,$x])=>`((.bl (decide $x)))|`(#[91,$x])=>`((tOp (L5 K) (A2 $x) #[2,1]))|`(#[92,$x])=>`((tOp (J6 K) (A2 $x) #[2,1]))
local macro_rules|`(#[93])=>`((S7 (W3 rs st #[26].1 i "shut") #[26].2.dropLast i "frame"))|`(#[94])=>`((O5 rs rk st z.length (cls n) n))|`(#[95])=>`((if s<Pz.length then qg5 rs st s g g else st))|`(#[96,$x])=>`((.inr (.inr $x)))|`(#[97,$x])=>`((envOfC qual scope s.heap.objs.size f $x))
local macro_rules|`(#[98])=>`((upd (upd H6 M (.lst [])) r (.ins k_Reader x [#[67],#[47],(("mends":Str),.ref M)])))|`(#[99])=>`((.int ((z.length:Int)+((cls n).length:Int))))|`(#[100])=>`((T6 K (A2 0) "branches"))|`(#[101,$x])=>`((A0 $x (A0 C9 A3)))|`(#[102])=>`((s.heap.push {cls:=.type "range",data:=.fields #[.int lo t,.int hi u,.int 1 v]}))
local macro_rules|`(#[103])=>`((((lwS rs st.bs).take j).foldl (J8 rs i) {st with bs:=wUp rs (fun _=>[]) st.bs}))|`(#[104,$x])=>`((A0 (pv $x) #[14,3]))|`(#[105])=>`((E8 (i:=3) S.nd rfl #[23]))|`(#[106,$x])=>`((N2 PySem.F.plainAttrs_str PySem.F.slot_str_find PySem.F.type_str_find xh4 (pv 0) $x))|`(#[107])=>`((X.fn x=true\/X.env.scope.names.lookup x=some .local))
local macro_rules|`(#[108])=>`(([.ref a3,.ref b3]++ys))|`(#[109,$x])=>`((sliceBounds lo hi none $x))|`(#[110])=>`((tCB (N6 K) #[3,1]))|`(#[111])=>`((Q9 (n:=as2.length) (by simp) (by simp)))|`(#[112])=>`((.tup [.int i,.int (i+g.length),.str "",.str rule]))
local macro_rules|`(#[113])=>`((PySem.W.fnOf x qual (ws8 st) (wl5 st) (B3 st) .none kV doc pm an cdv ct))|`(#[114])=>`((.inl ⟨by decide,by decide⟩))|`(#[115])=>`((ha pins s σ H _ I h))|`(#[116,$x])=>`((PySem.mem_of_lookup $x))|`(#[117])=>`((fun w hw=>wh2 rx fx r fs w (by simpa using hw)))
local macro_rules|`(#[118])=>`((by rw[e];simp))|`(#[119])=>`((s.heap.push PySem.W.emptyDict))|`(#[120])=>`((((HT.sIx items.size 0 lo:Nat):Int) == 0 && (1:Int) == 1 && (HT.sIx items.size items.size hi-HT.sIx items.size 0 lo) == items.size))|`(#[121,$x])=>`((E3 (W1 A9) (B6 $x)))|`(#[122])=>`((thn (hi pins s σ H _ I h) fun v s1 h1=>thn h1 fun itv s2 h2=>?_))
local macro_rules | `(tactic| omega) => `(tactic| lia)
local macro_rules | `(tactic| walk_at "tk") => `(tactic| first | exact Nat.succ_pos _ | assumption | exact L2.Inv.tk ‹_› | omega)
local macro_rules | `(tactic| z_go) => `(tactic| first | exact Nat.le_of_ble_eq_true rfl | simp)
local macro_rules | `(tactic| walk_at "or") => `(tactic| first | exact .inl rfl | exact .inr rfl)
local macro_rules | `(tactic| walk_at "le") => `(tactic| first | decide | omega)
local macro_rules | `(tactic| walk_at "k") => `(tactic| exact ⟨rfl, rfl, rfl, by decide +kernel, rfl, by decide +kernel, by decide +kernel⟩)
local macro_rules | `(tactic| walk_at "n") => `(tactic| (intro _ _ _ _ zh; repeat (first | (obtain ⟨rfl, _⟩ := zh; rfl) | obtain ⟨_, zh⟩ := zh)))
local macro_rules|`(tactic|walk_at"b")=>`(tactic|(intro _ _ _ _ _ _ us hl;first|(obtain⟨_,rfl⟩:=ln1 hl;rfl)|(obtain⟨_,_,rfl⟩:=ln2 hl;rfl)|(obtain⟨_,_,_,rfl⟩:=ln3 hl;rfl)|(obtain⟨_,_,_,_,rfl⟩:=ln4 hl;rfl)|(obtain⟨_,_,_,_,_,rfl⟩:=ln5 hl;rfl)|(obtain⟨_,_,_,_,_,_,rfl⟩:=ln6 hl;rfl)))
local macro_rules|`(tactic|walk_at"0")=>`(tactic|(
 intro X hP hw hK hc i pins s σ H E I hf st hg
 subst hP hw hK))
local macro_rules|`(tactic|walk_at"1")=>`(tactic|(
 intro pins s σ H x y v u Q I rx ry h
 obtain⟨i,j,rfl,rfl,q⟩:=h
 obtain⟨t,rfl⟩:=rx
 obtain⟨t',rfl⟩:=ry))
local macro_rules|`(tactic|walk_at"2")=>`(tactic|refine A4 ?_ ?_)
local macro_rules|`(tactic|walk_at"3")=>`(tactic|(
 lk
 refine G9 ?_
 lk
 refine⟨r,_,a.x,_,_,rfl,h.o,cz.cl_Reader,cz.na_Reader_branches,rfl,?_⟩))
local macro_rules|`(tactic|walk_at"4")=>`(tactic|(
 lk
 refine G4 ?_
 lk
 refine⟨r,_,_,rfl,h.o,rfl,?_⟩
 lk))
local macro_rules|`(tactic|walk_at"5")=>`(tactic|(
 obtain rfl:=N7 cz.ns_Reader h.kr
 obtain rfl:=N7 cz.ns_Branch h.kb))
local macro_rules|`(tactic|walk_at"6")=>`(tactic|(
 lk
 refine⟨E5 (by z_go),fun p hp=>?_⟩))
local macro_rules|`(tactic|walk_at"7")=>`(tactic|obtain⟨f0,f1,f2,f3,f4,f5⟩:=hf it (by simp))
local macro_rules|`(tactic|walk_at"8")=>`(tactic|(
 have q:=qf4 xs ys A.in1 s _ _ _ _ h4 k4 ha hb (room_in hu) j (by simpa using h1) (by simpa using h2)
 rw[Array.getElem_toList,Array.getElem_toList] at q
 exact q))
local macro_rules|`(tactic|walk_at"9")=>`(tactic|(
 show wpAny _ _ (field (.ref it) 0 >>= _) _ _ s
 refine wpAny_bind (wpAny_field ho hd (x:=.ref l) rfl ?_)
 show wpAny _ _ (if(Value.ref l == Value.none)=true then _ else _) _ _ s
 rw[if_neg (show ¬((Value.ref l == Value.none)=true) from Bool.false_ne_true)]
 show wpAny _ _ (field (.ref it) 1 >>= _) _ _ s
 refine wpAny_bind (wpAny_field ho hd (x:=.int i 0) rfl ?_)
 show wpAny _ _ (seqItems? (.ref l) >>= _) _ _ s
 refine wpAny_bind (wpAny_seqItems hol hdl ?_)))
local macro_rules|`(tactic|walk_at"10")=>`(tactic|(
 have l1:vs.size=xs.length:=by simpa using L9 h4
 have l2:ws.size=ys.length:=by simpa using L9 k4
 rw[L2.nd] at ha hb
 rw[PyData.depth,PyData.depth] at hu))
local macro_rules|`(tactic|walk_at"11")=>`(tactic|(
 have e:b=s1.heap.objs.size:=by simpa using hb
 subst e
 exact I1.fpOk #[6] (I1.hok.fresh #[6])))
local macro_rules|`(tactic|walk_at"12")=>`(tactic|exact(C4 (O7 (pv 0) T.cz.cl_Reader T.m_c_Reader_drop (R4 T) (hr.mono (by walk_at "le")) T.b_c_Reader_drop .nil B9 (A0 (pv 1) (A0 (pv 2) (A0 C9 A3))))))
local macro_rules|`(tactic|walk_at"13")=>`(tactic|intro pins s σ H x y v u Q I rx ry h)
local macro_rules|`(tactic|walk_at"14")=>`(tactic|(
 lk
 refine G9 ?_
 lk
 refine⟨r,_,a.x,_,_,rfl,h.o,cz.cl_Reader,cz.na_Reader_book,rfl,?_⟩))
local macro_rules|`(tactic|walk_at"15")=>`(tactic|(
 refine⟨x.o,_,x.x,_,_,rfl,hx.o,cz.cl_Branch,cz.na_Branch_parts,rfl,?_⟩
 lk))
local macro_rules|`(tactic|walk_at"16")=>`(tactic|(
 obtain⟨b0,bs0,eb0⟩:=exists_cons_of_ne_nil bg.ne
 have hnm:B5 st=bs0.map Brn.n:=by unfold B5;rw[eb0];rfl
 have hbl:=bg.l
 have hl0:bs0.length<=20:=by rw[eb0] at hbl;simp at hbl;omega
 have hms:=bg.m))
local macro_rules|`(tactic|walk_at"17")=>`(tactic|(
 lk
 refine⟨1,rfl,?_⟩))
local macro_rules|`(tactic|walk_at"18")=>`(tactic|(
 have ne:p≠s.heap.objs.size:=Nat.ne_of_lt (by obtain⟨o,e,_⟩:=pl.isList;exact Heap.lt_size e)
 refine⟨_,_,_,_,_,_,fun i=>(bs[i]?).getD false,rfl,Walks.list (show X.A.in1.handled=none from I.ok.hd hc) s.heap.objs.size p ne _,⟨⟨_,Heap.get?_push_size _ rfl,rfl,rfl⟩,pl.isList.at fun o e=>Heap.get?_push_of_some _ e⟩,?_,fun h' tk hk ht=>?_⟩))
local macro_rules|`(tactic|walk_at"19")=>`(tactic|(
 refine⟨a,xs,rfl,hq,fun i m σ H=>m=xs.length-i/\i<=xs.length/\Pv i σ H,⟨xs.length,by simp,Nat.zero_le _,h0⟩,?_⟩
 rintro i m σ H ⟨rfl,hi,p⟩
 have sq:=hk i σ H p))
local macro_rules|`(tactic|walk_at"20")=>`(tactic|have hl:z.cps.toList.length=z.length:=Array.length_toList)
local macro_rules|`(tactic|walk_at"21")=>`(tactic|(
 refine wpAny_bind ?_
 simp only[newExc,newTuple]
 refine wpAny_bind (wpAny_newObj_type ?_ (by size_fits))
 refine wpAny_bind (m:=firstArgMember _ _) (wpAny_of_eq (a:=Value.none) (by first|rfl|(simp only[firstArgMember];rfl)) ?_)
 refine wpAny_newObj_type ?_ (by size_fits)
 simp only[raiseNew]
 refine wpAny_bind (wpAny_handled ?_)))
local macro_rules|`(tactic|walk_at"22")=>`(tactic|(
 have e:b=it:=by simpa using hb
 subst e
 obtain⟨o,e,c,d⟩:=st
 exact⟨o,e,fun v z=>by rw[d] at z;cases z⟩))
local macro_rules|`(tactic|walk_at"23")=>`(tactic|have hnl:(B5 st).length+1=st.bs.length:=by unfold B5;rw[length_map,length_tail];omega)
local macro_rules|`(tactic|walk_at"24")=>`(tactic|(
 rw[TX.nm_iff,dr]
 refine⟨h1,h8,fun i hi=>?_,by rw[List.getElem?_append_right #[0],en,Nat.sub_self];rfl⟩
 have hi2:i<n.cps.toList.length:=by omega
 refine⟨n.cps.toList[i],by rw[List.getElem?_append_left hi2,List.getElem?_eq_getElem hi2],?_⟩
 have:=h.lt _ (List.getElem_mem hi2)
 unfold TX.letter))
local macro_rules|`(tactic|walk_at"25")=>`(tactic|intro pins s σ H Q I h)
local macro_rules|`(tactic|walk_at"26")=>`(tactic|(
 intro pins s σ H x v vl vu lo hi sl Q I rx hs pl pu h
 obtain⟨a,xs,rfl,hx,hw,q⟩:=h
 cases rx
 obtain⟨its,r,ht,hz⟩:=I.tuple hx
 have hlen:its.toArray.size=xs.length:=by rw[size_toArray];exact r.length.symm
 refine⟨"tuple",_,PyProof.Rows.slot_tuple_getitem.lookup,ht.typeIs,?_⟩))
local macro_rules|`(tactic|walk_at"27")=>`(tactic|(
 lk
 refine G9 ?_
 lk))
local macro_rules|`(tactic|walk_at"28")=>`(tactic|(
 obtain⟨H0,eH0⟩:∃ H0,H0=rml H (T::Rw::L::as):=⟨_,rfl⟩
 obtain⟨H1,eH1⟩:∃ H1,H1=upd H m (.lst []):=⟨_,rfl⟩
 rw[<-eH0,<-eH1] at a1))
local macro_rules|`(tactic|walk_at"29")=>`(tactic|(
 obtain⟨v1,r1,rfl,w1,dv4⟩:=(show ∃ v r,vs4=v::r/\_ from by rw[Dvs] at dv4;exact dv4)
 obtain⟨v2,r2,rfl,w2,dv4⟩:=(show ∃ v r,r1=v::r/\_ from by rw[Dvs] at dv4;exact dv4)
 obtain⟨v3,r3,rfl,w3,dv4⟩:=(show ∃ v r,r2=v::r/\_ from by rw[Dvs] at dv4;exact dv4)))
local macro_rules|`(tactic|walk_at"30")=>`(tactic|(
 intro pins s σ H R I h
 refine Call_ (qw6 I hg hm boot_reversed #[32,rfl])
 obtain⟨vs,H1,I1,r1,q1⟩:=zq
 obtain⟨a,xs,e,hq,q⟩:=q1
 subst e
 obtain⟨v,rfl,rv⟩:=qt9 r1
 cases rv))
local macro_rules|`(tactic|walk_at"31")=>`(tactic|(
 have hb:=h.b
 rw[ea,eb] at hb
 have hx:=(hb.split hl).2.1
 have xnd:=h.xnd ea
 have no:x.o≠x.q:=by simp[BA.fp] at xnd;exact xnd.1.1))
local macro_rules|`(tactic|walk_at"32")=>`(tactic|(
 lk
 refine⟨.inl ⟨rfl,_,SqL.of m1⟩,?_⟩))
local macro_rules|`(tactic|walk_at"33")=>`(tactic|rw[e,show l++[b1,b2]=(l++[b1])++[b2] by simp,tail_append_of_ne_nil (by simp),map_append];rfl)
local macro_rules|`(tactic|walk_at"34")=>`(tactic|(
 have hlen:#[87].length=xs'.length+1:=by simp
 refine .inl (xh3 (j:=xs'.length) hr10 (by rw[hlen];exact xk9) ?_)))
local macro_rules|`(tactic|walk_at"35")=>`(tactic|(
 lk
 refine G4 ?_
 lk))
local macro_rules|`(tactic|walk_at"36")=>`(tactic|(
 refine wpAny_with_toks (n:=1) I.tk (W.item i s _ _ hg st fun v h' tk hv st' kk ht=>?_)
 have ht:0<tk:=ht
 obtain⟨t,rfl⟩:=hv
 have I1:Inv X pins σ H {s with heap:=h',toks:=tk}:=I.turned (fun b o hb e=>kk b o (by simpa using hb) e) f0 f1 f3 f4 f5))
local macro_rules|`(tactic|walk_at"37")=>`(tactic|(
 refine A8 ?_
 refine M3 ?_ ?_ ?_))
local macro_rules|`(tactic|walk_at"38")=>`(tactic|(
 obtain⟨us,m1,m2⟩:=a2.m
 have hul:=A5.mlen m2
 have hul2:=A5.mlen hd2
 lk
 refine wt6 m1 hm2 (by rw[hul,hul2,sizeLine_eq];omega) ?_
 have a3:=a2.ext (m:=m) m1 m2 hd2
 rw[<-hms] at a3
 generalize upd H2 M (.lst (us++us2))=H3' at *))
local macro_rules|`(tactic|walk_at"39")=>`(tactic|exact(C4 (T8 (pv 0) T.cz.cl_Reader T.m_c_Reader_leave (qi7 T) (hr.mono (by walk_at "le")) T.b_c_Reader_leave .nil B9)))
theorem zAu(a:True:=by rfl)(b:True:=by decide)(c:0<1:=by walk_at "tk")(d:True:=by intro _;rfl)(e:True:=by first|exact .inl rfl|exact .inr rfl|assumption):True:=a
def zAr:Lean.Syntax:=zAu._auto_1
def zAd:Lean.Syntax:=zAu._auto_2
def zAt:Lean.Syntax:=zAu._auto_3
def zAi:Lean.Syntax:=zAu._auto_4
def zAf:Lean.Syntax:=zAu._auto_5
theorem PySem.W.Fast.tw3024374460761918433 : True := ⟨⟩
theorem PySem.W.Fast.tw7305866813973443041 : True := ⟨⟩
theorem PySem.W.Fast.tw15425562829954987442 : True := ⟨⟩
theorem PySem.W.Fast.tw1196011570378512460 : True := ⟨⟩
theorem PySem.W.Fast.tw17714629874314283582 : True := ⟨⟩
theorem PySem.W.Fast.tw8962075673895602994 : True := ⟨⟩
theorem PySem.W.Fast.tw13822758197428393649 : True := ⟨⟩
theorem PySem.W.Fast.tw9702016882482890200 : True := ⟨⟩
theorem PySem.W.Fast.tw5952073962321005287 : True := ⟨⟩
theorem PySem.W.Fast.tw7005549780184220564 : True := ⟨⟩
theorem PySem.W.Fast.tw1578662061718646377 : True := ⟨⟩
theorem PySem.W.Fast.tw9989714738388000503 : True := ⟨⟩
theorem PySem.W.Fast.tw2522933560856982392 : True := ⟨⟩
theorem PySem.W.Fast.tw8103131647992166000 : True := ⟨⟩
theorem PySem.W.Fast.tw11724762126473450475 : True := ⟨⟩
theorem PySem.W.Fast.tw1039057111547411705 : True := ⟨⟩
theorem PySem.W.Fast.tw897655927915057704 : True := ⟨⟩
theorem PySem.W.Fast.tw12163359149603845866 : True := ⟨⟩
theorem PySem.W.Fast.tw7959712680882141643 : True := ⟨⟩
theorem PySem.W.Fast.tw1807163852165390832 : True := ⟨⟩
theorem PySem.W.Fast.tw6611618152251572769 : True := ⟨⟩
theorem PySem.W.Fast.tw4830473769774459084 : True := ⟨⟩
theorem PySem.W.Fast.tw11997742037106175992 : True := ⟨⟩
theorem PySem.W.Fast.tw10424662481206667213 : True := ⟨⟩
theorem PySem.W.Fast.tw13306886539961696695 : True := ⟨⟩
theorem PySem.W.Fast.tw4788024734526203454 : True := ⟨⟩
theorem PySem.W.Fast.tw7078864201620639090 : True := ⟨⟩
theorem PySem.W.Fast.tw3863893260554880095 : True := ⟨⟩
theorem PySem.W.Fast.tw10558772357943449532 : True := ⟨⟩
theorem PySem.W.Fast.tw12212009006296904583 : True := ⟨⟩
theorem PySem.W.Fast.tw16633416780126336587 : True := ⟨⟩
theorem PySem.W.Fast.tw11561150367524803066 : True := ⟨⟩
theorem PySem.W.Fast.tw15230805482125660718 : True := ⟨⟩
theorem PySem.W.Fast.tw18335234924754314175 : True := ⟨⟩
theorem PySem.W.Fast.tw15845603776938305141 : True := ⟨⟩
theorem PySem.W.Fast.tw8072082693973044444 : True := ⟨⟩
theorem PySem.W.Fast.tw14455969888480403115 : True := ⟨⟩
theorem PySem.W.Fast.tw17106449876440867290 : True := ⟨⟩
theorem PySem.W.Fast.tw5389549102852741752 : True := ⟨⟩
theorem PySem.W.Fast.tw2415054819951639404 : True := ⟨⟩
theorem PySem.W.Fast.tw1223171010382328293 : True := ⟨⟩
theorem PySem.W.Fast.tw12090415041240281159 : True := ⟨⟩
theorem PySem.W.Fast.tw1984471445169702006 : True := ⟨⟩
theorem PySem.W.Fast.tw1689526155343976161 : True := ⟨⟩
theorem PySem.W.Fast.tw17898264118072300824 : True := ⟨⟩
theorem PySem.W.Fast.tw9920865760919356180 : True := ⟨⟩
theorem PySem.W.Fast.tw5539719204510175191 : True := ⟨⟩
theorem PySem.W.Fast.tw16646945519239806910 : True := ⟨⟩
theorem PySem.W.Fast.tw15285254523669575589 : True := ⟨⟩
theorem PySem.W.Fast.tw14296768260001500780 : True := ⟨⟩
theorem PySem.W.Fast.tw14588050462345808885 : True := ⟨⟩
theorem PySem.W.Fast.tw8286617162948882872 : True := ⟨⟩
theorem PySem.W.Fast.tw15431817134220900298 : True := ⟨⟩
theorem PySem.W.Fast.tw8396642541481550188 : True := ⟨⟩
theorem PySem.W.Fast.tw10173384991206425307 : True := ⟨⟩
theorem PySem.W.Fast.tw1138553128988256930 : True := ⟨⟩
theorem PySem.W.Fast.tw18361716919866122545 : True := ⟨⟩
theorem PySem.W.Fast.tw12468130414512180563 : True := ⟨⟩
theorem PySem.W.Fast.tw8814135861425396839 : True := ⟨⟩
theorem PySem.W.Fast.tw6292870833917043132 : True := ⟨⟩
theorem PySem.W.Fast.tw10263792917732117853 : True := ⟨⟩
theorem PySem.W.Fast.tw14126585845878476855 : True := ⟨⟩
theorem PySem.W.Fast.tw10019853292374186996 : True := ⟨⟩
theorem PySem.W.Fast.tw4022037037812499252 : True := ⟨⟩
theorem PySem.W.Fast.tw14545438042697164569 : True := ⟨⟩
theorem PySem.W.Fast.tw8264916390623918888 : True := ⟨⟩
theorem PySem.W.Fast.tw13837872229793814200 : True := ⟨⟩
theorem PySem.W.Fast.tw1429656611703127774 : True := ⟨⟩
theorem PySem.W.Fast.tw6380973023127254257 : True := ⟨⟩
theorem PySem.W.Fast.tw18260223024316155516 : True := ⟨⟩
theorem PySem.W.Fast.tw4952755975062659360 : True := ⟨⟩
theorem PySem.W.Fast.tw12210945463274966133 : True := ⟨⟩
theorem PySem.W.Fast.tw955899896821316238 : True := ⟨⟩
theorem PySem.W.Fast.tw10147718938847690857 : True := ⟨⟩
theorem PySem.W.Fast.tw4595182356637578336 : True := ⟨⟩
theorem PySem.W.Fast.tw15801017091567360487 : True := ⟨⟩
theorem PySem.W.Fast.tw16472940455091800380 : True := ⟨⟩
theorem PySem.W.Fast.tw16536956710882336076 : True := ⟨⟩
theorem PySem.W.Fast.tw3898571051073501148 : True := ⟨⟩
theorem PySem.W.Fast.tw16151870626961679346 : True := ⟨⟩
noncomputable section
abbrev Fg:=PySem.W.Frag
set_option maxRecDepth 100000
namespace L2
open PySem PySem.Spec PyProof.Rows
abbrev Key:=Sum Int Str
def xq2:Key->Value->Bool
 | .inl k,v=>Value.isInt k v
 | .inr x,v=>Value.isStrOf x v
def Ae9(w:World):Key->Int
 | .inl k=>hashInt k
 | .inr x=>hashStr w x
theorem T4:∀ {k:Key} {v:Value},xq2 k v=true->(∃ i t,k=Sum.inl i/\v=Value.int i t)\/(∃ x t,k=Sum.inr x/\v=Value.str x t)
 | .inl i,v,h=>by
   obtain⟨t,e⟩:=Value.isInt_shape (k:=i) (v:=v) h
   exact .inl ⟨i,t,rfl,e⟩
 | .inr x,v,h=>by
   obtain⟨t,e⟩:=Value.isStrOf_shape (x:=x) (v:=v) h
   exact .inr ⟨x,t,rfl,e⟩
theorem ys7(i:Int)(t:Tok):xq2 (.inl i) (.int i t)=true:=by simp[xq2,Value.isInt]
theorem ys8(x:Str)(t:Tok):xq2 (.inr x) (.str x t)=true:=by simp[xq2,Value.isStrOf]
theorem zs4(a b:Int):decide ((Sum.inl a:Key)=Sum.inl b)=(a == b):=by
 by_cases e:a=b
 ·subst e;simp
 ·have h:¬(Sum.inl a:Key)=Sum.inl b:=fun q=>e (Sum.inl.inj q)
  rw[decide_eq_false h]
  exact(beq_eq_false_iff_ne.mpr e).symm
theorem zs5(a b:Str):decide ((Sum.inr a:Key)=Sum.inr b)=decide (a=b):=by
 by_cases e:a=b
 ·subst e;simp
 ·have h:¬(Sum.inr a:Key)=Sum.inr b:=fun q=>e (Sum.inr.inj q)
  rw[decide_eq_false h,decide_eq_false e]
theorem zs6(a:Int)(b:Str):decide ((Sum.inl a:Key)=Sum.inr b)=false:=decide_eq_false (fun q=>nomatch q)
theorem zs7(a:Str)(b:Int):decide ((Sum.inr a:Key)=Sum.inl b)=false:=decide_eq_false (fun q=>nomatch q)
def Z8(prog:Program)(w:World):PySem.KeyKind prog w Key where
 is:=xq2
 hash:=Ae9 w
 inj:=fun v a b ha hb=>by
  rcases T4 ha with⟨i,t,rfl,rfl⟩|⟨x,t,rfl,rfl⟩
  ·rcases T4 hb with⟨j,u,rfl,e⟩|⟨y,u,rfl,e⟩
   ·injection e with e1 _;rw[e1]
   ·exact nomatch e
  ·rcases T4 hb with⟨j,u,rfl,e⟩|⟨y,u,rfl,e⟩
   ·exact nomatch e
   ·injection e with e1 _;rw[e1]
 byValue:=fun k v h=>by
  rcases T4 h with⟨i,t,rfl,rfl⟩|⟨x,t,rfl,rfl⟩ <;> rfl
 pyHash:=fun hv h=>by
  rcases T4 hv with⟨i,t,rfl,rfl⟩|⟨x,t,rfl,rfl⟩
  ·exact wpAny_pyHash_int h
  ·exact wpAny_pyHash_str h
 eqBool:=fun hu hv h=>by
  rcases T4 hu with⟨i,t,rfl,rfl⟩|⟨x,t,rfl,rfl⟩
  ·rcases T4 hv with⟨j,u,rfl,rfl⟩|⟨y,u,rfl,rfl⟩
   ·rw[zs4] at h;exact wpAny_eqBool_int h
   ·rw[zs6] at h;exact SeqAt.EqAt.int_str i t y u _ _ _ _ h
  ·rcases T4 hv with⟨j,u,rfl,rfl⟩|⟨y,u,rfl,rfl⟩
   ·rw[zs7] at h;exact SeqAt.EqAt.str_int x t j u _ _ _ _ h
   ·rw[zs5] at h;exact wpAny_eqBool_str h
 «strs»:=fun k x t v h=>by
  rcases T4 h with⟨i,u,rfl,e⟩|⟨y,u,rfl,e⟩
  ·exact nomatch e
  ·injection e with e1 _
   subst e1
   cases v <;> rfl
theorem ya1(prog:Program)(w:World)(i:Int)(t:Tok):(Z8 prog w).is (.inl i) (.int i t)=true:=ys7 i t
theorem ya2(prog:Program)(w:World)(x:Str)(t:Tok):(Z8 prog w).is (.inr x) (.str x t)=true:=ys8 x t
inductive V where
 | non|bl (b:Bool)|int (i:Int)|str (x:Str)|byt (b:Array UInt8)|flt (b:UInt64)|ref (a:Addr)|ty (n:String)
 deriving DecidableEq
def L1:V->Value->Prop
 | .non,u=>u=Value.none
 | .bl b,u=>u=Value.bool b
 | .int i,u=>∃ t,u=Value.int i t
 | .str x,u=>∃ t,u=Value.str x t
 | .byt b,u=>∃ t,u=Value.bytes b t
 | .flt b,u=>∃ t,u=Value.float b t
 | .ref a,u=>u=Value.ref a
 | .ty n,u=>u=Value.type n
abbrev G5:List V->List Value->Prop:=Paired L1
variable{us:List Value}{xs:List V}
theorem G5.length(r:G5 xs us):xs.length=us.length:=Paired.length r
theorem G5.get:∀ {xs:List V} {us:List Value} {i:Nat} {x:V},G5 xs us->xs[i]?=some x->∃ u,us[i]?=some u/\L1 x u
 | _,_,_,_,.nil,e=>by simp at e
 | _,_,0,_,.cons r _,e=>by simp at e;subst e;exact⟨_,rfl,r⟩
 | _,_,i+1,x,.cons _ t,e=>by
   obtain⟨u,h1,h2⟩:=G5.get (i:=i) (x:=x) t (by simpa using e)
   exact⟨u,by simpa using h1,h2⟩
theorem G5.set{x:V}{u:Value}(r:L1 x u):∀ {xs:List V} {us:List Value} (i:Nat),G5 xs us->G5 (xs.set i x) (us.set i u)
 | _,_,_,.nil=>.nil
 | _,_,0,.cons _ t=>.cons r t
 | _,_,i+1,.cons q t=>.cons q (G5.set r i t)
theorem G5.append:∀ {xs ys:List V} {us ws:List Value},G5 xs us->G5 ys ws->G5 (xs++ys) (us++ws)
 | _,_,_,_,.nil,s=>s
 | _,_,_,_,.cons r t,s=>.cons r (G5.append t s)
theorem G5.take:∀ {xs:List V} {us:List Value} (n:Nat),G5 xs us->G5 (xs.take n) (us.take n)
 | _,_,0,_=>.nil
 | _,_,_+1,.nil=>.nil
 | _,_,n+1,.cons r t=>.cons r (G5.take n t)
theorem G5.drop:∀ {xs:List V} {us:List Value} (n:Nat),G5 xs us->G5 (xs.drop n) (us.drop n)
 | _,_,0,r=>r
 | _,_,_+1,.nil=>.nil
 | _,_,n+1,.cons _ t=>G5.drop n t
def ws3:Option V->Option Value->Prop
 | some v,some u=>L1 v u
 | none,none=>True
 | _,_=>False
def KV{κ:Type}:List (κ×V)->List (κ×Value)->Prop:=Paired fun(p:κ×V) (q:κ×Value)=>p.1=q.1/\L1 p.2 q.2
def kV:Key->V
 | .inl i=>.int i
 | .inr x=>.str x
set_option genInjectivity false in
inductive HO where
 /-- a list -/
 | lst (xs:List V)
 /-- a tuple (never changes) -/
 | tup (xs:List V)
 /-- a dict whose keys are ints and texts;one whose keys are tuples of ints and texts (the empty one is both) -/
 | dK (kvs:List (Key×V))|dT (kvs:List (List Key×V))
 /-- a set of ints: its members,its size -/
 | set (S:Int->Bool) (n:Nat)
 /-- an instance of the class at C,its dict at dx,its attributes -/
 | ins (C dx:Addr) (fs:List (Str×V))
 /-- the dict of the instance at x -/
 | own (x:Addr)
 /-- the dict of an exception -/
 | xd (fs:List (Str×V))
 /-- a bound method,f of x -/
 | met (f x:Addr)
 /-- a range object lo,lo+1,.. below hi -/
 | rng (lo hi:Int)
 /-- a thing that is known to the object (the script;a dict while a loop walks it): read,never written while it is so -/
 | frz (o:Obj) (u:HO)
 /-- a code object's table -/
 | tbl (ps:Array Value)
 /-- any other thing,by what is true of its one object (a def of one's own: SetO a S n:=HO.ext fun h=>..) -/
 | ext (φ:Heap->Prop)
abbrev Hp:=Addr->Option HO
def upd(H:Hp)(a:Addr)(o:HO):Hp:=fun b=>if b=a then some o else H b
variable{H:Hp}{a:Addr}{o:HO}
theorem A6:upd H a o a=some o:=by unfold upd;rw[if_pos rfl]
variable{b:Addr}
theorem B8(h:b≠a):upd H a o b=H b:=by unfold upd;rw[if_neg h]
theorem zz7{u:HO}(h:H a=some o)(h':H b=some u)(d:o≠u):a≠b:=by
 intro e;subst e;rw[h] at h';exact d (Option.some.inj h')
theorem W7(h:H a=some o)(h':H b=none):a≠b:=by
 intro e;subst e;rw[h] at h';cases h'
section
variable(P:Program)(w:World)
def W4(H:Hp)(h:Heap)(a:Addr):HO->Prop
 | .lst xs=>xs.length<=sizeLine/\∃ (its:List Value) (n:Nat),G5 xs its/\h.get? a=some {cls:=.type "list",data:=.seq its.toArray n}
 | .tup xs=>xs.length<=sizeLine/\∃ its:List Value,G5 xs its/\IsTup h a its.toArray
 | .dK kvs=>kvs.length<=sizeLine/\(a == sysModules)=false/\∃ vs,KV kvs vs/\h.DictOf (Z8 P w) a vs
 | .dT kvs=>kvs.length<=sizeLine/\(a == sysModules)=false/\∃ xs:List (List Key×Addr×Value),
  Paired (fun(p:List Key×V) (q:List Key×Addr×Value)=>p.1=q.1/\H q.2.1=some (.tup (p.1.map kV))/\L1 p.2 q.2.2) kvs xs /\
  ∃ o es ep,h.get? a=some o/\o.ExactDict/\o.data=.dict es ep/\es.toList=xs.map (entryOfKey (tupleKind (Z8 P w)))/\(xs.map (·.1)).Nodup
 | .set S n=>h.SetOf (intKind P w) a S n
 | .ins C dx fs=>H dx=some (.own a)/\fs.length<=1000/\dx≠a/\h.get? a=some (PySem.W.instObj C dx) /\
  ∃ mA,h.Ns1 dx mA/\(∀ f,ws3 (fs.lookup f) (mA f))/\PySem.Within mA (fs.map (·.1))
 | .own _=>∃ o,h.get? a=some o
 | .xd fs=>∃ mA,h.Ns1 a mA/\∀ f,ws3 (fs.lookup f) (mA f)
 | .rng lo hi=>∃ t u v,h.get? a=some {cls:=.type "range",data:=.fields #[.int lo t,.int hi u,.int 1 v]}
 | .frz o u=>h.get? a=some o/\W4 H h a u
 | .tbl ps=>h.get? a=some {cls:=.none,data:=.fields ps}
 | .met f x=>h.get? a=some (PySem.W.methodObj (.ref f) (.ref x))
 | .ext φ=>φ h/\(∃ o,h.get? a=some o)/\∀ h1 h2:Heap,φ h1->(∀ o,h1.get? a=some o->h2.get? a=some o)->φ h2
def HOk(H:Hp)(h:Heap):Prop:=∀ a o,H a=some o->W4 P w H h a o
end
variable{H':Hp}{P:Program}{h h':Heap}{w:World}
theorem W4.lt(x:W4 P w H h a o):a<h.objs.size:=by
 cases o with
 | lst xs=>obtain⟨_,_,_,_,e⟩:=x;exact Heap.lt_size e
 | tup xs=>obtain⟨_,_,_,p⟩:=x;exact p.lt
 | dK kvs=>obtain⟨_,_,_,_,o,_,_,e,_⟩:=x;exact Heap.lt_size e
 | dT kvs=>obtain⟨_,_,_,_,o,_,_,e,_⟩:=x;exact Heap.lt_size e
 | set S n=>obtain⟨o,_,_,_,e,_⟩:=x;exact Heap.lt_size e
 | ins C dx fs=>obtain⟨_,_,_,e,_⟩:=x;exact Heap.lt_size e
 | own y=>obtain⟨_,e⟩:=x;exact Heap.lt_size e
 | xd fs=>obtain⟨_,⟨_,_,_,e,_⟩,_⟩:=x;exact Heap.lt_size e
 | rng lo hi=>obtain⟨_,_,_,e⟩:=x;exact Heap.lt_size e
 | frz ob u=>obtain⟨e,_⟩:=x;exact Heap.lt_size e
 | tbl ps=>exact Heap.lt_size (show h.get? a=some _ from x)
 | met f y=>exact Heap.lt_size (show h.get? a=some _ from x)
 | ext φ=>obtain⟨_,⟨_,e⟩,_⟩:=x;exact Heap.lt_size e
theorem Paired.mapP{α β:Type}{F G:α->β->Prop}:∀ {l₁:List α} {l₂:List β},Paired F l₁ l₂->(∀ a b,F a b->G a b)->Paired G l₁ l₂
 | _,_,.nil,_=>.nil
 | _,_,.cons r t,f=>.cons (f _ _ r) (Paired.mapP t f)
theorem W4.stay(x:W4 P w H h a o)(k:∀ b u,(b=a\/H b=some (.own a))->h.get? b=some u->h'.get? b=some u)(ho:∀ b,H b=some (.own a)->H' b=some (.own a))(ht:∀ b xs,H b=some (.tup xs)->H' b=some (.tup xs)):W4 P w H' h' a o:=by
 induction o with
 | lst xs=>obtain⟨z,its,n,r,e⟩:=x;exact⟨z,its,n,r,k _ _ (.inl rfl) e⟩
 | tup xs=>obtain⟨z,its,r,ob,e,c⟩:=x;exact⟨z,its,r,ob,k _ _ (.inl rfl) e,c⟩
 | dK kvs=>obtain⟨z,y,vs,r,ob,es,ep,e,c⟩:=x;exact⟨z,y,vs,r,ob,es,ep,k _ _ (.inl rfl) e,c⟩
 | dT kvs =>
   obtain⟨z,y,xs,r,ob,es,ep,e,c⟩:=x
   exact⟨z,y,xs,Paired.mapP r fun p q z=>⟨z.1,ht _ _ z.2.1,z.2.2⟩,ob,es,ep,k _ _ (.inl rfl) e,c⟩
 | set S n=>obtain⟨ob,es,ep,t,e,c⟩:=x;exact⟨ob,es,ep,t,k _ _ (.inl rfl) e,c⟩
 | ins C dx fs =>
   obtain⟨d,z,ne,e,mA,⟨od,es,ep,e2,c⟩,r⟩:=x
   exact⟨ho _ d,z,ne,k _ _ (.inl rfl) e,mA,⟨od,es,ep,k _ _ (.inr d) e2,c⟩,r⟩
 | own y=>obtain⟨ob,e⟩:=x;exact⟨ob,k _ _ (.inl rfl) e⟩
 | xd fs=>obtain⟨mA,⟨od,es,ep,e,c⟩,r⟩:=x;exact⟨mA,⟨od,es,ep,k _ _ (.inl rfl) e,c⟩,r⟩
 | rng lo hi=>obtain⟨t,u,v,e⟩:=x;exact⟨t,u,v,k _ _ (.inl rfl) e⟩
 | frz ob u ih=>obtain⟨e,q⟩:=x;exact⟨k _ _ (.inl rfl) e,ih q⟩
 | tbl ps =>
   have e:h.get? a=some {cls:=.none,data:=.fields ps}:=x
   show h'.get? a=some {cls:=.none,data:=.fields ps}
   exact k a _ (.inl rfl) e
 | met f y =>
   have e:h.get? a=some (PySem.W.methodObj (.ref f) (.ref y)):=x
   show h'.get? a=some (PySem.W.methodObj (.ref f) (.ref y))
   exact k a _ (.inl rfl) e
 | ext φ=>obtain⟨p,⟨o,e⟩,st⟩:=x;exact⟨st _ _ p fun o q=>k _ _ (.inl rfl) q,⟨o,k _ _ (.inl rfl) e⟩,st⟩
theorem HOk.lt(x:HOk P w H h)(e:H a=some o):a<h.objs.size:=(x a o e).lt
theorem HOk.fresh(x:HOk P w H h)(e:h.objs.size<=a):H a=none:=by
 cases q:H a with
 | none=>rfl
 | some u=>exact absurd (Nat.lt_of_lt_of_le (x.lt q) e) (Nat.lt_irrefl _)
theorem HOk.kept(x:HOk P w H h)(k:∀ b u,h.get? b=some u->h'.get? b=some u):HOk P w H h':=fun a o e =>
 (x a o e).stay (fun b u _ q=>k b u q) (fun _ q=>q) fun _ _ q=>q
theorem HOk.laid(x:HOk P w H h)(k:∀ b u,h.get? b=some u->h'.get? b=some u)(hp:h.objs.size<=a)(new:W4 P w (upd H a o) h' a o):HOk P w (upd H a o) h':=fun b u e=>by
 have hn:=x.fresh hp
 by_cases hb:b=a
 ·subst hb;rw[A6] at e;cases e;exact new
 ·rw[B8 hb] at e
  exact(x b u e).stay (fun c v _ q=>k c v q) (fun c q=>by rw[B8 (W7 q hn)];exact q) fun c xs q=>by rw[B8 (W7 q hn)];exact q
def Rd(H:Hp)(a:Addr)(u:HO):Prop:=H a=some u\/∃ o,H a=some (.frz o u)
theorem Rd.ok{u:HO}(r:Rd H a u)(x:HOk P w H h):W4 P w H h a u:=by
 rcases r with r|⟨o,r⟩
 ·exact x a u r
 ·obtain⟨_,q⟩:=x a _ r
  exact q
def Mut:Option HO->Prop
 | some (.lst _)=>True
 | some (.dK _)=>True
 | some (.dT _)=>True
 | some (.set _ _)=>True
 | some (.ins _ _ _)=>True
 | some (.ext _)=>True
 | some (.xd _)=>True
 | _=>False
section
variable{x e:Addr}{o':HO}
theorem HOk.write(ok:HOk P w H h)(mu:Mut (H x))(he:e=x\/H e=some (.own x))(k:∀ b u,b≠e->h.get? b=some u->h'.get? b=some u)(heo:∃ u,h'.get? e=some u)(new:W4 P w (upd H x o') h' x o'):HOk P w (upd H x o') h':=fun b u q=>by
 have nown:∀ c y,H c=some (.own y)->c≠x:=fun c y r z=>by subst z;rw[r] at mu;exact mu
 have ntup:∀ c xs,H c=some (.tup xs)->c≠x:=fun c xs r z=>by subst z;rw[r] at mu;exact mu
 by_cases hb:b=x
 ·subst hb;rw[A6] at q;cases q;exact new
 ·rw[B8 hb] at q
  by_cases hbe:b=e
  ·have q':H b=some (.own x):=by
    rcases he with z|z
    ·exact absurd (hbe.trans z) hb
    ·rw[hbe];exact z
   rw[q] at q';cases q'
   obtain⟨v,hv⟩:=heo
   exact⟨v,by rw[hbe];exact hv⟩
  ·refine(ok b u q).stay (fun c v hc r=>k c v ?_ r) (fun c r=>by rw[B8 (nown c b r)];exact r) fun c xs r=>by rw[B8 (ntup c xs r)];exact r
   rcases hc with rfl|hc
   ·exact hbe
   ·rintro rfl
    rcases he with z|z
    ·exact nown c b hc z
    ·rw[hc] at z;cases z;exact hb rfl
end
structure Un(fs ex:List Addr)(H H':Hp)(h h':Heap):Prop where
 keep:∀ b o,h.get? b=some o->H b=none->b∉fs->b∉ex->h'.get? b=some o
 slot:∀ b o,h.get? b=some o->H b=none->b∈fs->b∉ex->∃ sl,h'.get? b=some {o with slots:=sl}
 free:∀ b o,h.get? b=some o->H b=none->b∉ex->H' b=none
 there:∀ b o,h.get? b=some o->b∉ex->∃ o',h'.get? b=some o'
 tups:∀ b xs,H b=some (.tup xs)->H' b=some (.tup xs)
 frzs:∀ b o u,H b=some (.frz o u)->H' b=some (.frz o u)
 tbls:∀ b ps,H b=some (.tbl ps)->∃ more,H' b=some (.tbl (ps++more))
variable{H1 H2:Hp}
section
variable{fs fs' ex ex':List Addr}{h1 h2:Heap}{x e:Addr}
theorem Un.any(u:Un fs ex H H1 h h1){ob:Obj}(q:h.get? b=some ob)(n:H b=none)(hx:b∉ex):∃ sl,h1.get? b=some {ob with slots:=sl}:=by
 by_cases hb:b∈fs
 ·exact u.slot b ob q n hb hx
 ·exact⟨ob.slots,u.keep b ob q n hb hx⟩
theorem Un.kept(k:∀ b u,h.get? b=some u->h'.get? b=some u):Un fs ex H H h h' :=
 ⟨fun b ob q _ _ _=>k b ob q,fun b ob q _ _ _=>⟨ob.slots,k b ob q⟩,fun _ _ _ n _=>n,fun b ob q _=>⟨ob,k b ob q⟩,fun _ _ q=>q,fun _ _ _ q=>q,fun _ ps q=>⟨#[],by rw[q];simp⟩⟩
theorem Un.refl:Un fs ex H H h h:=Un.kept fun _ _ q=>q
theorem Un.laid(k:∀ b u,h.get? b=some u->h'.get? b=some u)(hp:h.objs.size<=a)(hn:H a=none):Un fs ex H (upd H a o) h h' where
 keep:=fun b u q _ _ _=>k b u q
 slot:=fun b u q _ _ _=>⟨u.slots,k b u q⟩
 free:=fun b u q n _=>by rw[B8 (Nat.ne_of_lt (Nat.lt_of_lt_of_le (Heap.lt_size q) hp))];exact n
 there:=fun b u q _=>⟨u,k b u q⟩
 tups:=fun b xs q=>by rw[B8 (W7 q hn)];exact q
 frzs:=fun b u xs q=>by rw[B8 (W7 q hn)];exact q
 tbls:=fun b ps q=>⟨#[],by rw[B8 (W7 q hn),q];simp⟩
theorem Un.write(mu:Mut (H x))(he:e=x\/H e=some (.own x))(k:∀ b u,b≠e->h.get? b=some u->h'.get? b=some u)(heo:∃ u,h'.get? e=some u):Un fs ex H (upd H x o) h h':=by
 have hx:∀ b,H b=none->b≠x:=fun b n z=>by subst z;rw[n] at mu;exact mu
 have hb:∀ b,H b=none->b≠e:=fun b n z=>by
  subst z
  rcases he with r|r
  ·exact hx b n r
  ·rw[n] at r;cases r
 have hm:∀ b u,H b=some u->¬Mut (some u)->b≠x:=fun b u q nm z=>by subst z;rw[q] at mu;exact nm mu
 refine⟨fun b u q n _ _=>k b u (hb b n) q,fun b u q n _ _=>⟨u.slots,k b u (hb b n) q⟩,fun b u q n _=>by rw[B8 (hx b n)];exact n,fun b u q _=>?_,
  fun b xs q=>by rw[B8 (hm b _ q fun z=>z)];exact q,fun b u xs q=>by rw[B8 (hm b _ q fun z=>z)];exact q,fun b ps q=>⟨#[],by rw[B8 (hm b _ q fun z=>z),q];simp⟩⟩
 by_cases hbe:b=e
 ·subst hbe;exact heo
 ·exact⟨u,k b u hbe q⟩
end
def trk(h:Heap)(H:Hp):List Addr:=(List.range h.objs.size).filter fun a=>(H a).isSome
def xu5(h:Heap)(H:Hp):Heap:=PySem.W.hideAll h (trk h H)
theorem ys9(h:Heap)(H:Hp):(xu5 h H).objs.size=h.objs.size:=PySem.W.hideAll_size _ _
theorem yy1{o:Obj}(e:h.get? b=some o)(n:H b=none):(xu5 h H).get? b=some o :=
 PySem.W.hideAll_get _ e fun hm=>by
  have q:(H b).isSome=true:=(mem_filter.mp hm).2
  rw[n] at q;simp at q
theorem zi6{o:Obj}(e:(xu5 h H).get? b=some o):h.get? b=some o/\H b=none:=by
 have e':h.get? b=some o:=PySem.W.of_hideAll (trk h H) e
 refine⟨e',?_⟩
 cases q:H b with
 | none=>rfl
 | some x =>
   have hm:b∈trk h H:=mem_filter.mpr ⟨mem_range.mpr (Heap.lt_size e'),by simp[q]⟩
   have z:(xu5 h H).get? b=none:=PySem.W.hideAll_none (trk h H) hm
   rw[z] at e;cases e
structure Mod(K:Fg)(mg:Str->Option Value)(base:Heap):Prop where
 kin:K.In base
 glob:base.Ns mainGlobals mg
 blt:∃ mb,base.Ns builtinsNs mb/\∀ x:Str,x ≠ "__name__"->mb x=bootBuiltins x
 nolimit:base.NoLimit
set_option genInjectivity false in
structure Cx where
 prog:Program
 w:World
 K:Fg
 mg:Str->Option Value
 base:Heap
 A:Around
 N:List Str
 s₀:Shared
 H₀:Hp
 env:Env
 outer:List Env
 stack:List Env
 ex:List Addr
 fn:Str->Bool
 calm:Bool
 pn:List (Addr×Obj)
 xe:Value->Shared->Prop
def frs(l:List Env):List Addr:=l.filterMap (·.frame)
abbrev Cx.fs(X:Cx):List Addr:=frs X.outer
def Vis(sc:Scope)(x:Str):Prop:=sc.names.lookup x=some .local\/sc.names.lookup x=some .cell\/sc.names.lookup x=some .free
def Loc(sc:Scope)(x:Str):Prop:=sc.names.lookup x=some .local\/sc.names.lookup x=some .cell
def Af0(env:Env)(h:Heap)(m:Str->Option Value)(x:Str)(u:Value):Prop :=
 (env.kindOf x=some .local/\m x=some u)\/((env.kindOf x=some .cell\/env.kindOf x=some .free)/\∃ c,env.cells.lookup x=some c/\h.IsCell c (some u))
structure Cx.Ok(X:Cx):Prop where
 mod:Mod X.K X.mg X.base
 kind:X.env.scope.kind=.function
 glob:X.env.globals=mainGlobals
 blt:X.env.builtins=builtinsNs
 above:X.s₀.heap.objs.size<=X.env.locals
 inj:∀ x y c,X.env.cells.lookup x=some c->X.env.cells.lookup y=some c->x=y
 has:∀ x,(X.env.kindOf x=some .cell\/X.env.kindOf x=some .free)->∃ c,X.env.cells.lookup x=some c
 cab:∀ x c,X.fn x=true->X.env.cells.lookup x=some c->X.s₀.heap.objs.size<=c
 hd:X.calm=true->X.A.handled=none
 frames:X.A.frames=some X.stack
 stk:X.stack=X.outer\/(X.stack=X.env::X.outer/\X.env.frame=some X.env.locals)
 exf:∀ b∈X.ex,b≠X.env.locals/\∀ x c,X.env.cells.lookup x=some c->c≠b
 bs:∀ b o,X.base.get? b=some o->X.s₀.heap.get? b=some o/\X.H₀ b=none
 bsz:X.base.objs.size<=X.s₀.heap.objs.size
 noex:∀ b o,X.base.get? b=some o->b∉X.ex
 exfs:∀ b∈X.ex,b∉X.fs
 funs:X.s₀.heap.FunFrames X.base X.outer
 frf:∀ b∈X.fs,X.H₀ b=none
structure Inv(X:Cx)(pins:List (Addr×Obj))(σ:List (Option V))(H:Hp)(s:Shared):Prop where
 ok:X.Ok
 os:s.os=X.s₀.os
 bare:AllBare s.gens
 base:Un X.fs X.ex X.H₀ H X.s₀.heap s.heap
 loc:∃ m,s.heap.Ns X.env.locals m/\∀ (i:Nat) (x:Str) (v:V),X.N[i]?=some x->σ[i]?=some (some v)->Vis X.env.scope x->∃ u,L1 v u/\Af0 X.env s.heap m x u
 cell:∀ x c,X.env.cells.lookup x=some c->∃ v,s.heap.IsCell c v
 free:H X.env.locals=none
 freeC:∀ x c,X.env.cells.lookup x=some c->H c=none
 pin:∀ p∈X.pn++pins,s.heap.get? p.1=some p.2/\H p.1=none/\p.1≠X.env.locals/\p.1∉X.fs/\∀ v,p.2.data≠.cell v
 hok:HOk X.prog X.w H s.heap
 len:σ.length=X.N.length
 tk:0<s.toks
variable{X:Cx}{pins:List (Addr×Obj)}{s:Shared}{d':Drawn}{g':Array GenState}{t':Nat}{it:Addr}{N:List Str}{x:Str}{A:Around}{E:Value->Shared->Prop}{M:Model}{u:Value}{v:V}
section
variable{σ:List (Option V)}
theorem Cx.Ok.nofr(ok:X.Ok){o:Obj}(e:X.base.get? b=some o):b∉X.fs:=fun hb=>by
 have:=(ok.funs.mem hb).1
 rw[e] at this;cases this
theorem Inv.bs(I:Inv X pins σ H s):∀ b o,X.base.get? b=some o->s.heap.get? b=some o/\H b=none:=fun b o e =>
 ⟨I.base.keep b o (I.ok.bs b o e).1 (I.ok.bs b o e).2 (I.ok.nofr e) (I.ok.noex b o e),I.base.free b o (I.ok.bs b o e).1 (I.ok.bs b o e).2 (I.ok.noex b o e)⟩
theorem Inv.bk(I:Inv X pins σ H s):∀ b o,X.base.get? b=some o->s.heap.get? b=some o:=fun b o e=>(I.bs b o e).1
theorem Inv.mod(I:Inv X pins σ H s):Mod X.K X.mg X.base:=I.ok.mod
theorem Inv.kIn(I:Inv X pins σ H s):X.K.In s.heap:=I.ok.mod.kin.keeps I.bk
theorem Inv.lt(I:Inv X pins σ H s):X.env.locals<s.heap.objs.size:=let ⟨_,hn,_⟩:=I.loc;hn.lt
theorem Inv.sz(I:Inv X pins σ H s):X.s₀.heap.objs.size<=s.heap.objs.size:=Nat.le_trans I.ok.above (Nat.le_of_lt I.lt)
theorem Inv.nofs(I:Inv X pins σ H s)(h:s.heap.objs.size<=a):a∉X.fs:=fun hb=>by
 obtain⟨_,o,ho,_⟩:=I.ok.funs.mem hb
 exact absurd (Nat.lt_of_lt_of_le (Heap.lt_size ho) (Nat.le_trans I.sz h)) (Nat.lt_irrefl _)
theorem Inv.cne(I:Inv X pins σ H s):∀ x c,X.env.cells.lookup x=some c->c≠X.env.locals:=fun x c e z=>by
 obtain⟨v,o,ho,hd⟩:=I.cell x c e
 obtain⟨m,⟨o',es,ep,ho',hd',_⟩,_⟩:=I.loc
 rw[z,ho'] at ho;cases ho;rw[hd'] at hd;cases hd
theorem Inv.funs(I:Inv X pins σ H s):s.heap.FunFrames X.base X.outer:=by
 have all:∀ (l:List Env),(∀ b∈frs l,b∈X.fs)->X.s₀.heap.FunFrames X.base l->s.heap.FunFrames X.base l:=by
  intro l
  induction l with
  | nil=>intro _ _;trivial
  | cons env r ih =>
    intro hs hl
    obtain⟨hk,⟨L,o,hf,hn,ho,hd⟩,hr⟩:=hl
    have hL:L∈X.fs:=hs L (by unfold frs;rw[filterMap_cons,hf];exact mem_cons_self)
    obtain⟨sl,e⟩:=I.base.slot L o ho (I.ok.frf L hL) hL fun z=>I.ok.exfs L z hL
    exact⟨hk,⟨L,_,hf,hn,e,hd⟩,ih (fun b hb=>hs b (by unfold frs;rw[filterMap_cons,hf];exact mem_cons_of_mem _ hb)) hr⟩
 exact all X.outer (fun _ hb=>hb) I.ok.funs
theorem Inv.stack(I:Inv X pins σ H s):s.heap.FunFrames X.base X.stack:=by
 rcases I.ok.stk with e|⟨e,hf⟩
 ·rw[e];exact I.funs
 ·rw[e]
  obtain⟨m,hn,_⟩:=I.loc
  refine .cons (by rw[I.ok.kind];decide) hf hn ?_ I.funs
  exact Heap.get?_none_of_le (Nat.le_trans I.ok.bsz I.ok.above)
theorem Inv.stkSub(I:Inv X pins σ H s):∀ b∈frs X.stack,b∈X.env.locals::X.fs:=fun b hb=>by
 rcases I.ok.stk with e|⟨e,hf⟩
 ·rw[e] at hb;exact mem_cons_of_mem _ hb
 ·rw[e] at hb
  unfold frs at hb
  rw[filterMap_cons,hf] at hb
  exact hb
theorem Inv.stkFree(I:Inv X pins σ H s):∀ b∈frs X.stack,H b=none:=fun b hb=>by
 rcases mem_cons.mp (I.stkSub b hb) with e|hb
 ·rw[e];exact I.free
 ·obtain⟨_,o,ho,_⟩:=I.ok.funs.mem hb
  exact I.base.free b o ho (I.ok.frf b hb) fun z=>I.ok.exfs b z hb
theorem Inv.step{ch:List Addr}(I:Inv X pins σ H s)(hch:∀ b∈ch,(b∈X.ex\/X.s₀.heap.objs.size<=b)/\b≠X.env.locals/\(∀ x c,X.env.cells.lookup x=some c->c≠b)/\∀ p∈X.pn++pins,p.1≠b)(keep:∀ b o,b≠X.env.locals->b∉X.fs->b∉ch->s.heap.get? b=some o->H b=none->h'.get? b=some o)(slot:∀ b o,b≠X.env.locals->b∈X.fs->b∉ch->s.heap.get? b=some o->H b=none->∃ sl,h'.get? b=some {o with slots:=sl})(free:∀ b o,b∉ch->s.heap.get? b=some o->H b=none->H' b=none)(there:∀ b o,b∉ch->s.heap.get? b=some o->∃ o',h'.get? b=some o')(tups:∀ b xs,H b=some (.tup xs)->H' b=some (.tup xs))(frzs:∀ b o u,H b=some (.frz o u)->H' b=some (.frz o u))(tbls:∀ b ps,H b=some (.tbl ps)->∃ more,H' b=some (.tbl (ps++more)))(ns:∀ m,s.heap.Ns X.env.locals m->h'.Ns X.env.locals m)(hok:HOk X.prog X.w H' h')(hg:AllBare g')(ht:autoParam (0<t') zAt) :
 Inv X pins σ H' {s with heap:=h',gens:=g',drawn:=d',toks:=t'}:=by
 have neL:∀ b o,X.s₀.heap.get? b=some o->b≠X.env.locals:=fun b o e=>Nat.ne_of_lt (Nat.lt_of_lt_of_le (Heap.lt_size e) I.ok.above)
 have neC:∀ b o,X.s₀.heap.get? b=some o->b∉X.ex->b∉ch:=fun b o e hx hb=>by
  rcases(hch b hb).1 with z|z
  ·exact hx z
  ·exact absurd (Nat.lt_of_lt_of_le (Heap.lt_size e) z) (Nat.lt_irrefl _)
 have cellK:∀ x c,X.env.cells.lookup x=some c->∀ v,s.heap.IsCell c v->h'.IsCell c v:=fun x c e v ⟨o,ho,hd⟩=>by
  have nch:c∉ch:=fun z=>(hch c z).2.2.1 x c e rfl
  by_cases hc:c∈X.fs
  ·obtain⟨sl,q⟩:=slot c o (I.cne x c e) hc nch ho (I.freeC x c e)
   exact⟨_,q,hd⟩
  ·exact⟨o,keep c o (I.cne x c e) hc nch ho (I.freeC x c e),hd⟩
 refine⟨I.ok,I.os,hg,⟨fun b o e n hb hx=>?_,fun b o e n hb hx=>?_,fun b o e n hx=>?_,fun b o e hx=>?_,fun b xs e=>tups b xs (I.base.tups b xs e),fun b o xs e=>frzs b o xs (I.base.frzs b o xs e),fun b ps e=>?_⟩,?_,fun x c e=>?_,?_,fun x c e=>?_,fun p hp=>?_,hok,I.len,ht⟩
 ·exact keep b o (neL b o e) hb (neC b o e hx) (I.base.keep b o e n hb hx) (I.base.free b o e n hx)
 ·obtain⟨sl,e1⟩:=I.base.slot b o e n hb hx
  obtain⟨sl',e2⟩:=slot b _ (neL b o e) hb (neC b o e hx) e1 (I.base.free b o e n hx)
  exact⟨sl',e2⟩
 ·obtain⟨o',e1⟩:=I.base.there b o e hx
  exact free b o' (neC b o e hx) e1 (I.base.free b o e n hx)
 ·obtain⟨o',e1⟩:=I.base.there b o e hx
  exact there b o' (neC b o e hx) e1
 ·obtain⟨m1,e1⟩:=I.base.tbls b ps e
  obtain⟨m2,e2⟩:=tbls b _ e1
  exact⟨m1++m2,by rw[e2,Array.append_assoc]⟩
 ·obtain⟨m,hn,hl⟩:=I.loc
  refine⟨m,ns m hn,fun i x v e1 e2 e3=>?_⟩
  obtain⟨u,r,l⟩:=hl i x v e1 e2 e3
  refine⟨u,r,?_⟩
  rcases l with l|⟨k,c,e,z⟩
  ·exact .inl l
  ·exact .inr ⟨k,c,e,cellK x c e _ z⟩
 ·obtain⟨v,z⟩:=I.cell x c e
  exact⟨v,cellK x c e v z⟩
 ·obtain⟨m,⟨o,_,_,ho,_⟩,_⟩:=I.loc
  exact free _ o (fun z=>(hch _ z).2.1 rfl) ho I.free
 ·obtain⟨v,o,ho,hd⟩:=I.cell x c e
  exact free c o (fun z=>(hch c z).2.2.1 x c e rfl) ho (I.freeC x c e)
 ·obtain⟨e,n,ne,nf,d⟩:=I.pin p hp
  have nch:p.1∉ch:=fun z=>(hch p.1 z).2.2.2 p hp rfl
  exact⟨keep p.1 p.2 ne nf nch e n,free p.1 p.2 nch e n,ne,nf,d⟩
theorem Inv.un(I:Inv X pins σ H s)(u:Un X.fs [] H H' s.heap h')(hok:HOk X.prog X.w H' h')(ht:autoParam (0<t') zAt):Inv X pins σ H' {s with heap:=h',toks:=t'}:=by
 obtain⟨m,⟨o,es,ep,ho,r⟩,_⟩:=id I.loc
 obtain⟨sl,hL⟩:=u.any ho I.free (by simp)
 exact I.step (g':=s.gens) (d':=s.drawn) (ch:=[]) (fun _ z=>nomatch z) (fun b o _ hb _ e n=>u.keep b o e n hb (by simp)) (fun b o _ hb _ e n=>u.slot b o e n hb (by simp)) (fun b o _ e n=>u.free b o e n (by simp)) (fun b o _ e=>u.there b o e (by simp)) u.tups u.frzs u.tbls (fun m' hm=>by
  obtain⟨o',es',ep',ho',r'⟩:=hm
  rw[ho] at ho';cases ho'
  exact⟨_,es',ep',hL,r'⟩) hok I.bare
theorem Inv.call{ch:List Addr}(I:Inv X pins σ H s)(u:Un (frs X.stack) ch H H' s.heap h')(hok:HOk X.prog X.w H' h')(hg:AllBare g')(hch:∀ b∈ch,(b∈X.ex\/X.s₀.heap.objs.size<=b)/\b≠X.env.locals/\(∀ x c,X.env.cells.lookup x=some c->c≠b)/\∀ p∈X.pn++pins,p.1≠b)(ht:autoParam (0<t') zAt) :
 Inv X pins σ H' {s with heap:=h',gens:=g',drawn:=d',toks:=t'}:=by
 obtain⟨m,⟨o,es,ep,ho,r⟩,_⟩:=id I.loc
 obtain⟨sl,hL⟩:=u.any ho I.free fun z=>(hch _ z).2.1 rfl
 exact I.step (ch:=ch) hch (fun b o hL hb hc e n=>u.keep b o e n (fun z=>(mem_cons.mp (I.stkSub b z)).elim hL hb) hc) (fun b o _ _ hc e n=>u.any e n hc) (fun b o hc e n=>u.free b o e n hc) (fun b o hc e=>u.there b o e hc) u.tups u.frzs u.tbls (fun m' hm=>by
  obtain⟨o',es',ep',ho',r'⟩:=hm
  rw[ho] at ho';cases ho'
  exact⟨_,es',ep',hL,r'⟩) hok hg
theorem Inv.turned(I:Inv X pins σ H s)(k:∀ b o,b≠it->s.heap.get? b=some o->h'.get? b=some o)(hn:H it=none)(hL:it≠X.env.locals)(h1:it∈X.ex\/X.s₀.heap.objs.size<=it)(h2:∀ x c,X.env.cells.lookup x=some c->c≠it)(h3:∀ p∈X.pn++pins,p.1≠it)(ht:autoParam (0<t') zAt):Inv X pins σ H {s with heap:=h',toks:=t'}:=by
 have nit:∀ b u,H b=some u->b≠it:=fun b u e z=>by rw[z,hn] at e;cases e
 refine I.step (g':=s.gens) (d':=s.drawn) (ch:=[it]) (fun b hb=>?_) (fun b o _ _ hc e _=>k b o (fun z=>hc (by simp[z])) e) (fun b o _ _ hc e _=>⟨o.slots,k b o (fun z=>hc (by simp[z])) e⟩) (fun _ _ _ _ n=>n)
  (fun b o hc e=>⟨o,k b o (fun z=>hc (by simp[z])) e⟩) (fun _ _ e=>e) (fun _ _ _ e=>e) (fun b ps e=>⟨#[],by rw[e];simp⟩) (fun m hm=>?_) (fun b u e=>?_) I.bare
 ·have e:b=it:=by simpa using hb
  subst e
  exact⟨h1,hL,h2,h3⟩
 ·obtain⟨o,es,ep,ho,r⟩:=hm
  exact⟨o,es,ep,k _ o (Ne.symm hL) ho,r⟩
 ·refine(I.hok b u e).stay (fun c v hc q=>k c v ?_ q) (fun _ q=>q) fun _ _ q=>q
  rcases hc with z|z
  ·rw[z];exact nit b u e
  ·exact nit c _ z
theorem Inv.tok(I:Inv X pins σ H s)(t':Nat)(ht:autoParam (0<t') zAt):Inv X pins σ H {s with toks:=t'}:=I.un (h':=s.heap) (t':=t') Un.refl I.hok
theorem Inv.kept(I:Inv X pins σ H s)(k:∀ b u,s.heap.get? b=some u->h'.get? b=some u)(ht:autoParam (0<t') zAt):Inv X pins σ H {s with heap:=h',toks:=t'}:=I.un (Un.kept k) (I.hok.kept k)
theorem Inv.laid(I:Inv X pins σ H s)(k:∀ b u,s.heap.get? b=some u->h'.get? b=some u)(hp:s.heap.objs.size<=a)(new:W4 X.prog X.w (upd H a o) h' a o)(ht:autoParam (0<t') zAt) :
 Inv X pins σ (upd H a o) {s with heap:=h',toks:=t'}:=I.un (Un.laid k hp (I.hok.fresh hp)) (I.hok.laid k hp new)
theorem Inv.write{x e:Addr}(I:Inv X pins σ H s)(mu:Mut (H x))(he:e=x\/H e=some (.own x))(k:∀ b u,b≠e->s.heap.get? b=some u->h'.get? b=some u)(heo:∃ u,h'.get? e=some u)(new:W4 X.prog X.w (upd H x o) h' x o)(ht:autoParam (0<t') zAt):Inv X pins σ (upd H x o) {s with heap:=h',toks:=t'}:=I.un (Un.write mu he k heo) (I.hok.write mu he k heo new)
theorem Inv.weak{σ':List (Option V)}(I:Inv X pins σ H s)(hl:σ'.length=σ.length)(w:∀ (i:Nat) v,σ'[i]?=some (some v)->σ[i]?=some (some v)):Inv X pins σ' H s :=
 ⟨I.ok,I.os,I.bare,I.base,let ⟨m,hn,hl'⟩:=I.loc;⟨m,hn,fun i x v e1 e2 e3=>hl' i x v e1 (w i v e2) e3⟩,I.cell,I.free,I.freeC,I.pin,I.hok,hl.trans I.len,I.tk⟩
theorem Inv.pins_of{pins':List (Addr×Obj)}(I:Inv X pins σ H s)(h:∀ p∈pins',s.heap.get? p.1=some p.2/\H p.1=none/\p.1≠X.env.locals/\p.1∉X.fs/\∀ v,p.2.data≠.cell v):Inv X pins' σ H s :=
 ⟨I.ok,I.os,I.bare,I.base,I.loc,I.cell,I.free,I.freeC,fun p hp=>(mem_append.mp hp).elim (fun z=>I.pin p (mem_append_left _ z)) (h p),I.hok,I.len,I.tk⟩
theorem ya3(hN:N.Nodup){i j:Nat}(a:N[i]?=some x)(b:N[j]?=some x):i=j:=by
 obtain⟨h1,e1⟩:=List.getElem?_eq_some_iff.mp a
 obtain⟨h2,e2⟩:=List.getElem?_eq_some_iff.mp b
 exact(List.getElem_inj hN).mp (e1.trans e2.symm)
theorem xq3{i:Nat}{Q:Unit->Shared->Prop}(I:Inv X pins σ H s)(hN:X.N.Nodup)(hi:X.N[i]?=some x)(hx:Loc X.env.scope x)(r:L1 v u)(h:∀ s',Inv X pins (σ.set i (some v)) H s'->(∃ a,Heap.SameBut a s.heap s'.heap/\(a=X.env.locals\/X.env.cells.lookup x=some a))->Q () s')(hf:autoParam #[107] zAf):wpAny M A (storeName X.env x u) Q E s:=by
 obtain⟨m,hn,hl⟩:=id I.loc
 have hcls:(X.env.scope.kind == .class || (X.env.scope.kind == .module && X.env.locals != X.env.globals))=false:=by rw[I.ok.kind];rfl
 have hiσ:i<σ.length:=by rw[I.len];exact(List.getElem?_eq_some_iff.mp hi).1
 have cne:=I.cne
 have tracked:∀ {a:Addr} {h':Heap},(∃ o,s.heap.get? a=some o/\H a=none)->Heap.SameBut a s.heap h'->HOk X.prog X.w H h':=fun{a h'} ha hs b ob e=>by
  obtain⟨_,_,hfree⟩:=ha
  refine(I.hok b ob e).stay (fun c w' hc q=>(hs.2 c ?_).trans q) (fun _ q=>q) fun _ _ q=>q
  rintro rfl
  rcases hc with rfl|hc
  ·rw[hfree] at e;cases e
  ·rw[hfree] at hc;cases hc
 rcases hx with hk|hk
 ·refine wpAny_storeName_local hk hn (fun h' hn' hs=>?_) hcls
  obtain⟨oL,_,_,hoL,_⟩:=id hn
  refine h _ ⟨I.ok,I.os,I.bare,⟨fun b o e n hb hx=>?_,fun b o e n hb hx=>?_,I.base.free,fun b o e hx=>?_,I.base.tups,I.base.frzs,I.base.tbls⟩,⟨_,hn',fun j y v' e1 e2 e3=>?_⟩,fun y c e=>?_,I.free,I.freeC,fun p hp=>?_,tracked ⟨oL,hoL,I.free⟩ hs,by simpa using I.len,by first|exact I.tk|exact Nat.succ_pos _⟩ ⟨_,hs,.inl rfl⟩
  ·exact(hs.2 b #[30,I.ok.above]).trans (I.base.keep b o e n hb hx)
  ·obtain⟨sl,e1⟩:=I.base.slot b o e n hb hx
   exact⟨sl,(hs.2 b #[30,I.ok.above]).trans e1⟩
  ·obtain⟨o',e1⟩:=I.base.there b o e hx
   exact⟨o',(hs.2 b #[30,I.ok.above]).trans e1⟩
  ·by_cases hj:j=i
   ·subst hj
    rw[hi] at e1;cases e1
    rw[List.getElem?_set_self hiσ] at e2
    cases e2
    exact⟨u,r,.inl ⟨hk,by simp⟩⟩
   ·rw[List.getElem?_set_ne (Ne.symm hj)] at e2
    obtain⟨u',r',q⟩:=hl j y v' e1 e2 e3
    refine⟨u',r',?_⟩
    rcases q with⟨k,e⟩|⟨k,c,e,z⟩
    ·refine .inl ⟨k,?_⟩
     have:y≠x:=fun e=>hj (ya3 hN e1 (e▸hi))
     simp[this,e]
    ·exact .inr ⟨k,c,e,z.sameBut hs (cne y c e)⟩
  ·obtain⟨w',z⟩:=I.cell y c e
   exact⟨w',z.sameBut hs (cne y c e)⟩
  ·obtain⟨e,n,ne,nf,d⟩:=I.pin p hp
   exact⟨(hs.2 p.1 ne).trans e,n,ne,nf,d⟩
 ·have hfn:X.fn x=true:=by
   rcases hf with z|z
   ·exact z
   ·rw[z] at hk;cases hk
  obtain⟨c,hc⟩:=I.ok.has x (.inl hk)
  obtain⟨w',z⟩:=I.cell x c hc
  refine wpAny_storeName_cell I.ok.kind hk hc z (fun h' hc' hs=>?_)
  obtain⟨oc,hoc,hocd⟩:=id z
  refine h {s with heap:=h'} ⟨I.ok,I.os,I.bare,⟨fun b o e n hb hx=>?_,fun b o e n hb hx=>?_,I.base.free,fun b o e hx=>?_,I.base.tups,I.base.frzs,I.base.tbls⟩,⟨m,hn.sameBut hs (Ne.symm (cne x c hc)),fun j y v' e1 e2 e3=>?_⟩,fun y c' e=>?_,I.free,I.freeC,fun p hp=>?_,tracked ⟨oc,hoc,I.freeC x c hc⟩ hs,by simpa using I.len,by first|exact I.tk|exact Nat.succ_pos _⟩ ⟨c,hs,.inr hc⟩
  ·exact(hs.2 b #[30,I.ok.cab x c hfn hc]).trans (I.base.keep b o e n hb hx)
  ·obtain⟨sl,e1⟩:=I.base.slot b o e n hb hx
   exact⟨sl,(hs.2 b #[30,I.ok.cab x c hfn hc]).trans e1⟩
  ·obtain⟨o',e1⟩:=I.base.there b o e hx
   exact⟨o',(hs.2 b #[30,I.ok.cab x c hfn hc]).trans e1⟩
  ·by_cases hj:j=i
   ·subst hj
    rw[hi] at e1;cases e1
    rw[List.getElem?_set_self hiσ] at e2
    cases e2
    exact⟨u,r,.inr ⟨.inl hk,c,hc,hc'⟩⟩
   ·rw[List.getElem?_set_ne (Ne.symm hj)] at e2
    obtain⟨u',r',q⟩:=hl j y v' e1 e2 e3
    refine⟨u',r',?_⟩
    rcases q with q|⟨k,c',e,z'⟩
    ·exact .inl q
    ·refine .inr ⟨k,c',e,z'.sameBut hs ?_⟩
     rintro rfl
     exact hj (ya3 hN e1 (I.ok.inj _ _ _ e hc▸hi))
  ·by_cases hcc:c'=c
   ·subst hcc;exact⟨_,hc'⟩
   ·obtain⟨w2,z2⟩:=I.cell y c' e
    exact⟨w2,z2.sameBut hs hcc⟩
  ·obtain⟨e,n,ne,nf,d⟩:=I.pin p hp
   refine⟨(hs.2 p.1 ?_).trans e,n,ne,nf,d⟩
   intro q
   rw[q,hoc] at e
   have q':oc=p.2:=Option.some.inj e
   exact d w' (by rw[<-q'];exact hocd)
theorem ya4{i:Nat}{Q:Unit->Shared->Prop}(I:Inv X pins σ H s)(hN:X.N.Nodup)(hi:X.N[i]?=some x)(hx:Loc X.env.scope x)(r:L1 v u)(h:∀ s',Inv X pins (σ.set i (some v)) H s'->Q () s')(hf:autoParam #[107] zAf):wpAny M A (storeName X.env x u) Q E s :=
 xq3 I hN hi hx r (fun s' I' _=>h s' I') hf
end
abbrev XK:=Value->Option Addr->Hp->Prop
abbrev St:=List (Option V)
abbrev VK:=V->Hp->Prop
abbrev TE:=St->Hp->VK->Prop
abbrev TT:=St->Hp->(Bool->Hp->Prop)->Prop
abbrev TA:=St->Hp->(List V->Hp->Prop)->Prop
set_option genInjectivity false in
structure qd3 where
 nx:St->Hp->Prop
 rt:VK
 bk:St->Hp->Prop:=fun _ _=>False
 ct:St->Hp->Prop:=fun _ _=>False
abbrev TS:=qd3->St->Hp->Prop
def EP(X:Cx)(pins:List (Addr×Obj))(σ:St)(Q:VK)(u:Value)(s':Shared):Prop:=∃ v H',Inv X pins σ H' s'/\L1 v u/\Q v H'
def TP(X:Cx)(pins:List (Addr×Obj))(σ:St)(Q:Bool->Hp->Prop)(b:Bool)(s':Shared):Prop:=∃ H',Inv X pins σ H' s'/\Q b H'
def AP(X:Cx)(pins:List (Addr×Obj))(σ:St)(Q:List V->Hp->Prop)(us:List Value)(s':Shared):Prop:=∃ vs H',Inv X pins σ H' s'/\G5 vs us/\Q vs H'
def SP(X:Cx)(pins:List (Addr×Obj))(D:qd3)(f:Flow)(s':Shared):Prop :=
 match f with
 | .next=>∃ σ' H',Inv X pins σ' H' s'/\D.nx σ' H'
 | .brk=>∃ σ' H',Inv X pins σ' H' s'/\D.bk σ' H'
 | .cont=>∃ σ' H',Inv X pins σ' H' s'/\D.ct σ' H'
 | .ret u=>∃ v σ' H',Inv X pins σ' H' s'/\L1 v u/\D.rt v H'
def PE(X:Cx)(e:Expr)(t:TE):Prop :=
 ∀ (pins:List (Addr×Obj)) (s:Shared) (σ:St) (H:Hp) (Q:VK),Inv X pins σ H s->t σ H Q->wpAny #[9] X.A (eval e X.env) (EP X pins σ Q) X.xe s
def PT(X:Cx)(e:Expr)(t:TT):Prop :=
 ∀ (pins:List (Addr×Obj)) (s:Shared) (σ:St) (H:Hp) (Q:Bool->Hp->Prop),Inv X pins σ H s->t σ H Q->wpAny #[9] X.A (isTrue e X.env (eval e X.env)) (TP X pins σ Q) X.xe s
def PW(X:Cx)(e:Expr)(t:TT):Prop :=
 ∀ (whole:Sem Value) (pins:List (Addr×Obj)) (s:Shared) (σ:St) (H:Hp) (Q:Bool->Hp->Prop),Inv X pins σ H s->t σ H Q->wpAny #[9] X.A (isTrue e X.env whole) (TP X pins σ Q) X.xe s
variable{e:Expr}
theorem PW.pt{t:TT}(h:PW X e t):PT X e t:=h _
def PA(X:Cx)(es:List Expr)(t:TA):Prop :=
 ∀ (pos:Pos) (pins:List (Addr×Obj)) (s:Shared) (σ:St) (H:Hp) (Q:List V->Hp->Prop),Inv X pins σ H s->t σ H Q->wpAny #[9] X.A (spliced (backTo pos (starEach es X.env))) (AP X pins σ Q) X.xe s
def PS(X:Cx)(st:Stmt)(t:TS):Prop :=
 ∀ (pins:List (Addr×Obj)) (s:Shared) (σ:St) (H:Hp) (D:qd3),Inv X pins σ H s->t D σ H->wpAny #[9] X.A (exec st X.env) (SP X pins D) X.xe s
def PSs(X:Cx)(st:List Stmt)(t:TS):Prop :=
 ∀ (pins:List (Addr×Obj)) (s:Shared) (σ:St) (H:Hp) (D:qd3),Inv X pins σ H s->t D σ H->wpAny #[9] X.A (execs st X.env) (SP X pins D) X.xe s
variable{α:Type}
theorem thn{t:Sem α}{Q Q':α->Shared->Prop}(h:wpAny M A t Q E s)(hQ:∀ a s,Q a s->Q' a s):wpAny M A t Q' E s:=wpAny_mono h hQ fun _ _ x=>x
variable{pos:Pos}{Q:Value->Shared->Prop}{σ:St}{ta:TE}{c:Expr}
section
def A2(i:Nat):TE:=fun σ H Q=>∃ v,σ[i]?=some (some v)/\Q v H
def tC(v:V):TE:=fun _ H Q=>Q v H
theorem zs8{i:Nat}(hN:X.N[i]?=some x)(hv:Vis X.env.scope x)(hd:autoParam #[43] zAd)(hcd:autoParam ((x == ("__classdict__":Str))=false) zAd):PE X (.Name x pos) (A2 i):=by
 walk_at"25"
 obtain⟨v,e,h⟩:=h
 obtain⟨m,hn,hl⟩:=I.loc
 obtain⟨u,r,l⟩:=hl i x v hN e hv
 have fin:EP X pins σ Q u s:=⟨v,H,I,r,h⟩
 rcases l with⟨hk,hm⟩|⟨hk,c,hc,hcell⟩
 ·exact wpAny_Name (wpAny_loadName_local I.ok.kind hk hn hm fin) hd
 ·rcases hk with hk|hk
  ·exact wpAny_Name (wpAny_loadName_cell I.ok.kind hk hc hcell fin) hd
  ·exact wpAny_Name (wpAny_loadName_free I.ok.kind hk hc hcell fin hcd) hd
theorem B0{i j pos}:PE X (.Constant (.int i) j pos) #[2,i]:=fun _ _ _ H _ I h=>wpAny_Constant_int ⟨.int i,H,I.tok _,⟨_,rfl⟩,h⟩
theorem ym5{b j pos}:PE X (.Constant (.bool b) j pos) (tC (.bl b)):=fun _ _ _ H _ I h=>Constant_bool ⟨.bl b,H,I,rfl,h⟩
theorem V1{j pos}:PE X (.Constant .none j pos) (tC .non):=fun _ _ _ H _ I h=>Constant_none ⟨.non,H,I,rfl,h⟩
theorem C9{x j pos}:PE X (.Constant (.str x) j pos) (tC (.str x)):=fun _ _ _ H _ I h=>Calls.Constant_str ⟨.str x,H,I.tok _,⟨_,rfl⟩,h⟩
def Gl(X:Cx)(x:Str):Prop:=X.env.kindOf x=some .globalImplicit
theorem xu6(I:Inv X pins σ H s)(hg:Gl X x)(hm:X.mg x=some u)(h:Q u s)(hd:autoParam #[43] zAd):wpAny #[9] X.A (eval (.Name x pos) X.env) Q E s :=
 Calls.Name_function_global I.ok.kind hg (Calls.loadGlobal_global (by rw[I.ok.glob];exact I.mod.glob.keeps I.bk) hm h) hd
theorem qw6(I:Inv X pins σ H s)(hg:Gl X x)(hm:X.mg x=none)(hv:bootBuiltins x=some u)(h:Q u s)(hn:autoParam (x ≠ "__name__") zAd)(hd:autoParam #[43] zAd):wpAny #[9] X.A (eval (.Name x pos) X.env) Q E s:=by
 obtain⟨mb,h1,h2⟩:=I.mod.blt
 exact Calls.Name_function_global I.ok.kind hg (Calls.loadGlobal_builtin (by rw[I.ok.glob];exact I.mod.glob.keeps I.bk) hm (by rw[I.ok.blt];exact h1.keeps I.bk) ((h2 x hn).trans hv) h) hd
theorem M4(hg:Gl X x)(hm:X.mg x=some u)(r:L1 v u)(hd:autoParam #[43] zAd):PE X (.Name x pos) (tC v) :=
 fun _ _ _ H _ I h=>xu6 I hg hm ⟨v,H,I,r,h⟩ hd
theorem ym6(hg:Gl X x)(hm:X.mg x=none)(hv:bootBuiltins x=some u)(r:L1 v u)(hn:autoParam (x ≠ "__name__") zAd)(hd:autoParam #[43] zAd):PE X (.Name x pos) (tC v) :=
 fun _ _ _ H _ I h=>qw6 I hg hm hv ⟨v,H,I,r,h⟩ hn hd
variable{a b:Expr}{tb:TE}
def tB(t:TE):TT:=fun σ H Q=>t σ H fun x H1=>∃ c,x=.bl c/\Q c H1
theorem qk3{t:TE}(h:PE X e t)(he:autoParam (∀ whole,isTrue e X.env whole=(do let v<-whole;standAt e.pos;holding [v] (truthy v))) zAi):PT X e (tB t):=by
 intro pins s σ H Q I hw
 refine isTrue_plain (thn (h pins s σ H _ I hw) fun v s1 zq=>?_) (he _)
 obtain⟨x,H1,I1,r1,q1⟩:=zq
 obtain⟨d,rfl,q⟩:=q1
 cases r1
 exact wpAny_truthy_bool ⟨H1,I1,q⟩
variable{tA tB':TT}{rest:List Expr}
def xf5(t u:TT):TT:=fun σ H Q=>t σ H fun c H1=>if c=true then u σ H1 Q else Q false H1
def tOr(t u:TT):TT:=fun σ H Q=>t σ H fun c H1=>if c=true then Q true H1 else u σ H1 Q
def zi7(t:TT):TT:=fun σ H Q=>t σ H fun c H1=>Q (!c) H1
theorem qo9(ha:PT X a tA):PW X (.BoolOp .And [a] pos) tA:=by
 intro wh pins s σ H Q I h
 refine isTrue_and (thn (ha pins s σ H Q I h) fun c s1 e=>?_)
 cases c with
 | true=>exact isTrue_and_nil e
 | false=>exact e
theorem yy2(ha:PT X a tA):PW X (.BoolOp .Or [a] pos) tA:=by
 intro wh pins s σ H Q I h
 refine isTrue_or (thn (ha pins s σ H Q I h) fun c s1 e=>?_)
 cases c with
 | false=>exact isTrue_or_nil e
 | true=>exact e
theorem wb4(ha:PT X a tA)(hb:PW X (.BoolOp .And (b::rest) pos) tB'):PW X (.BoolOp .And (a::b::rest) pos) (xf5 tA tB'):=by
 intro wh pins s σ H Q I h
 refine isTrue_and (thn #[115] fun c s1 zq=>?_)
 obtain⟨H1,I1,q1⟩:=zq
 cases c with
 | true=>exact hb wh pins s1 σ H1 Q I1 q1
 | false=>exact⟨H1,I1,q1⟩
theorem zq1(ha:PT X a tA)(hb:PW X (.BoolOp .Or (b::rest) pos) tB'):PW X (.BoolOp .Or (a::b::rest) pos) (tOr tA tB'):=by
 intro wh pins s σ H Q I h
 refine isTrue_or (thn #[115] fun c s1 zq=>?_)
 obtain⟨H1,I1,q1⟩:=zq
 cases c with
 | true=>exact⟨H1,I1,q1⟩
 | false=>exact hb wh pins s1 σ H1 Q I1 q1
theorem yy3(ha:PT X a tA):PT X (.UnaryOp .Not a pos) (zi7 tA):=by
 walk_at"25"
 exact isTrue_not (ha pins s σ H (fun c H1=>Q (!c) H1) I h)
def ym7(ta tb:TE):TE:=fun σ H Q=>ta σ H fun x H1=>∃ c,x=.bl c/\if c=true then tb σ H1 Q else Q (.bl false) H1
def yy4(ta:TE):TE:=fun σ H Q=>ta σ H fun x H1=>∃ c,x=.bl c/\Q (.bl (!c)) H1
theorem yy5{op}{t:TE}(h:PE X a t):PE X (.BoolOp op [a] pos) t:=fun pins s σ H Q I hw=>BoolOp_one (h pins s σ H Q I hw)
theorem yy6(ha:PE X a ta)(hb:PE X (.BoolOp .And (b::rest) pos) tb):PE X (.BoolOp .And (a::b::rest) pos) (ym7 ta tb):=by
 walk_at"25"
 refine BoolOp_and (thn #[115] fun v s1 zq=>?_)
 obtain⟨x,H1,I1,r1,q1⟩:=zq
 obtain⟨c,rfl,q1⟩:=q1
 cases r1
 refine wpAny_truthy_bool ?_
 cases c with
 | true=>exact hb pins s1 σ H1 Q I1 q1
 | false=>exact⟨.bl false,H1,I1,rfl,q1⟩
theorem zs9(ha:PE X a ta):PE X (.UnaryOp .Not a pos) (yy4 ta):=by
 walk_at"25"
 refine UnaryOp_ (thn #[115] fun v s1 zq=>?_)
 obtain⟨x,H1,I1,r1,q1⟩:=zq
 obtain⟨c,rfl,q1⟩:=q1
 cases r1
 exact not_of (wpAny_truthy_bool ⟨.bl (!c),H1,I1,rfl,q1⟩)
def tIf(t:TT)(ta tb:TE):TE:=fun σ H Q=>t σ H fun c H1=>if c=true then ta σ H1 Q else tb σ H1 Q
theorem qr0(hc:PT X c tA)(ha:PE X a ta)(hb:PE X b tb):PE X (.IfExp c a b pos) (tIf tA ta tb):=by
 walk_at"25"
 refine wpAny_IfExp (thn (hc pins s σ H _ I h) fun d s1 zq=>?_)
 obtain⟨H1,I1,q1⟩:=zq
 cases d with
 | true=>exact ha pins s1 σ H1 Q I1 q1
 | false=>exact hb pins s1 σ H1 Q I1 q1
end
def SqL(K:Fg)(H:Hp)(a:Addr)(xs:List V):Prop :=
 Rd H a (.lst xs) \/
  ∃ (o:Obj) (its:Array Value) (n:Nat),K.lookup a=some o/\o.cls=.type "list"/\o.dict=none/\o.data=.seq its n/\its.size<=sizeLine/\G5 xs its.toList
def SqT(K:Fg)(H:Hp)(a:Addr)(xs:List V):Prop :=
 Rd H a (.tup xs) \/
  ∃ (o:Obj) (its:Array Value) (n:Nat),K.lookup a=some o/\o.cls=.type "tuple"/\o.data=.seq its n/\its.size<=sizeLine/\G5 xs its.toList
def Af1:Value->Option V
 | .none=>some .non
 | .bool b=>some (.bl b)
 | .int i _=>some (.int i)
 | .str x _=>some (.str x)
 | .bytes b _=>some (.byt b)
 | .float b _=>some (.flt b)
 | .ref a=>some (.ref a)
 | .type n=>some (.ty n)
 | _=>none
theorem L1.abs{x:V}(r:L1 x u):Af1 u=some x:=by
 cases x with
 | non=>cases r;rfl
 | bl _=>cases r;rfl
 | int _=>obtain⟨t,rfl⟩:=r;rfl
 | str _=>obtain⟨t,rfl⟩:=r;rfl
 | byt _=>obtain⟨t,rfl⟩:=r;rfl
 | flt _=>obtain⟨t,rfl⟩:=r;rfl
 | ref _=>cases r;rfl
 | ty _=>cases r;rfl
variable{y:V}
theorem L1.inj{x:V}(r:L1 x u)(q:L1 y u):x=y:=Option.some.inj (r.abs.symm.trans q.abs)
theorem G5.inj{xs ys:List V}{us:List Value}(h:G5 xs us):G5 ys us->xs=ys:=by
 induction h generalizing ys with
 | nil=>intro k;cases k;rfl
 | cons r t ih=>intro k;cases k with|cons r' t'=>rw[r.inj r',ih t']
variable{ys:List V}
variable{K:Fg}
theorem SqL.of(h:H a=some (.lst xs)):SqL K H a xs:=.inl (.inl h)
theorem SqT.of(h:H a=some (.tup xs)):SqT K H a xs:=.inl (.inl h)
theorem Inv.list(I:Inv X pins σ H s)(h:SqL X.K H a xs):∃ its:List Value,G5 xs its/\PlainL s.heap a its.toArray/\xs.length<=sizeLine:=by
 rcases h with h|⟨o,its,n,hk,hc,hd,hs,hz,r⟩
 ·obtain⟨z,its,n,r,e⟩:=h.ok I.hok
  exact⟨its,r,⟨_,n,e,rfl,rfl,rfl⟩,z⟩
 ·refine⟨its.toList,r,⟨o,n,I.kIn a o hk,hc,hd,by simpa using hs⟩,?_⟩
  have e:=r.length
  simp only[Array.length_toList] at e
  omega
theorem Inv.tuple(I:Inv X pins σ H s)(h:SqT X.K H a xs):∃ its:List Value,G5 xs its/\IsTup s.heap a its.toArray/\xs.length<=sizeLine:=by
 rcases h with h|⟨o,its,n,hk,hc,hs,hz,r⟩
 ·obtain⟨z,its,r,p⟩:=h.ok I.hok
  exact⟨its,r,p,z⟩
 ·refine⟨its.toList,r,⟨o,I.kIn a o hk,hc,n,by simpa using hs⟩,?_⟩
  have e:=r.length
  simp only[Array.length_toList] at e
  omega
theorem Inv.list_inj(I:Inv X pins σ H s)(h:SqL X.K H a xs)(h':SqL X.K H a ys):xs=ys:=by
 obtain⟨its,r,⟨o,n,e,_,_,d⟩,_⟩:=I.list h
 obtain⟨its',r',⟨o',n',e',_,_,d'⟩,_⟩:=I.list h'
 rw[e] at e';cases e'
 rw[d] at d'
 injection d' with d1 _
 have:its=its':=by simpa using congrArg Array.toList d1
 subst this
 exact r.inj r'
theorem Inv.tuple_inj(I:Inv X pins σ H s)(h:SqT X.K H a xs)(h':SqT X.K H a ys):xs=ys:=by
 obtain⟨its,r,⟨o,e,_,n,d⟩,_⟩:=I.tuple h
 obtain⟨its',r',⟨o',e',_,n',d'⟩,_⟩:=I.tuple h'
 rw[e] at e';cases e'
 rw[d] at d'
 injection d' with d1 _
 have:its=its':=by simpa using congrArg Array.toList d1
 subst this
 exact r.inj r'
abbrev Cx.wish(X:Cx)(E:Value->Shared->Prop):Cx:={X with xe:=E}
abbrev Cx.nox(X:Cx):Cx:=X.wish fun _ _=>False
theorem Cx.Ok.wish(ok:X.Ok)(E:Value->Shared->Prop):(X.wish E).Ok :=
 ⟨ok.mod,ok.kind,ok.glob,ok.blt,ok.above,ok.inj,ok.has,ok.cab,ok.hd,ok.frames,ok.stk,ok.exf,ok.bs,ok.bsz,ok.noex,ok.exfs,ok.funs,ok.frf⟩
theorem Cx.Ok.unwish(ok:(X.wish E).Ok):X.Ok :=
 ⟨ok.mod,ok.kind,ok.glob,ok.blt,ok.above,ok.inj,ok.has,ok.cab,ok.hd,ok.frames,ok.stk,ok.exf,ok.bs,ok.bsz,ok.noex,ok.exfs,ok.funs,ok.frf⟩
theorem Inv.wish(I:Inv X pins σ H s)(E:Value->Shared->Prop):Inv (X.wish E) pins σ H s:=⟨I.ok.wish E,I.os,I.bare,I.base,I.loc,I.cell,I.free,I.freeC,I.pin,I.hok,I.len,I.tk⟩
theorem Inv.unwish(I:Inv (X.wish E) pins σ H s):Inv X pins σ H s:=⟨I.ok.unwish,I.os,I.bare,I.base,I.loc,I.cell,I.free,I.freeC,I.pin,I.hok,I.len,I.tk⟩
theorem SP.unwish{D:qd3}{f:Flow}{s':Shared}(h:SP (X.wish E) pins D f s'):SP X pins D f s':=by
 cases f with
 | next=>obtain⟨σ',H',I,q⟩:=h;exact⟨σ',H',I.unwish,q⟩
 | brk=>obtain⟨σ',H',I,q⟩:=h;exact⟨σ',H',I.unwish,q⟩
 | cont=>obtain⟨σ',H',I,q⟩:=h;exact⟨σ',H',I.unwish,q⟩
 | ret u=>obtain⟨v,σ',H',I,r,q⟩:=h;exact⟨v,σ',H',I.unwish,r,q⟩
theorem PSs.nox{st:List Stmt}{t:TS}(h:PSs X.nox st t):PSs X st t:=fun pins s σ H D I hw =>
 wpAny_mono (h pins s σ H D (I.wish _) hw) (fun _ _ q=>q.unwish) fun _ _ z=>False.elim z
variable{st:Stmt}{te:TE}
section
variable{rest:List Stmt}{t u:TS}
def Q5:TS:=fun D σ H=>D.nx σ H
def C1(t u:TS):TS:=fun D σ H=>t {D with nx:=u D} σ H
theorem I0:PSs X [] Q5:=fun _ _ σ H _ I h=>wpAny_execs_nil ⟨σ,H,I,h⟩
theorem A4(h1:PS X st t)(h2:PSs X rest u):PSs X (st::rest) (C1 t u):=by
 intro pins s σ H D I h
 refine wpAny_execs_cons (thn (h1 pins s σ H {D with nx:=u D} I h) fun f s1 q=>?_)
 cases f with
 | next =>
   obtain⟨σ',H',I',q⟩:=q
   exact h2 pins s1 σ' H' D I' q
 | ret v=>exact q
 | brk=>exact q
 | cont=>exact q
theorem A8(h1:PS X st t):PSs X [st] t:=by
 intro pins s σ H D I h
 refine wpAny_execs_cons (thn (h1 pins s σ H D I h) fun f s1 q=>?_)
 cases f with
 | next=>exact wpAny_execs_nil q
 | ret v=>exact q
 | brk=>exact q
 | cont=>exact q
def yh2:TS:=fun D σ H=>D.bk σ H
theorem yy7:PS X (.Break pos) yh2:=fun _ _ σ H _ I h=>wpAny_Break ⟨σ,H,I,h⟩
theorem Inv.quiet(I:Inv X pins σ H s):interactive X.env=false:=by simp[interactive,I.ok.kind]
def E9(te:TE):TS:=fun D σ H=>te σ H fun _ H1=>D.nx σ H1
theorem C4(he:PE X e te)(hs:autoParam (swapsWith e none pos.line X.env=pure false) zAr):PS X (.Expr e pos) (E9 te):=by
 intro pins s σ H D I h
 exact wpAny_Expr_any (thn (he pins s σ H _ I h) fun v s1 ⟨x,H1,I1,r1,q1⟩=>⟨σ,H1,I1,q1⟩) I.quiet hs
def L6(te:TE):TS:=fun D σ H=>te σ H D.rt
theorem D1(he:PE X e te):PS X (.Return (some e) pos) (L6 te):=by
 intro pins s σ H D I h
 exact wpAny_Return_some (thn (he pins s σ H _ I h) fun v s1 ⟨x,H1,I1,r1,q1⟩=>⟨x,σ,H1,I1,r1,q1⟩)
def ym8:TS:=fun D _ H=>D.rt .non H
theorem ym9:PS X (.Return none pos) ym8:=fun _ _ σ H _ I h=>wpAny_Return_none ⟨.non,σ,H,I,rfl,h⟩
def S3(c:TT)(t u:TS):TS:=fun D σ H=>c σ H fun b H1=>if b=true then t D σ H1 else u D σ H1
theorem M3{a b:List Stmt}{tc:TT}(hc:PT X c tc)(ha:PSs X a t)(hb:PSs X b u):PS X (.If c a b pos) (S3 tc t u):=by
 intro pins s σ H D I h
 refine wpAny_If (thn (hc pins s σ H _ I h) fun d s1 zq=>?_)
 obtain⟨H1,I1,q1⟩:=zq
 cases d with
 | true=>exact ha pins s1 σ H1 D I1 q1
 | false=>exact hb pins s1 σ H1 D I1 q1
end
abbrev TG:=V->St->Hp->(St->Hp->Prop)->Prop
abbrev TGs:=List V->St->Hp->(St->Hp->Prop)->Prop
def PG(X:Cx)(target:Expr)(t:TG):Prop :=
 ∀ (pins:List (Addr×Obj)) (s:Shared) (σ:St) (H:Hp) (v:V) (u:Value) (Q:St->Hp->Prop),Inv X pins σ H s->L1 v u->t v σ H Q ->
  wpAny #[9] X.A (assign target X.env u) (fun _ s'=>∃ σ' H',Inv X pins σ' H' s'/\Q σ' H') X.xe s
def PGs(X:Cx)(ts:List Expr)(t:TGs):Prop :=
 ∀ (pins:List (Addr×Obj)) (s:Shared) (σ:St) (H:Hp) (vs:List V) (us:List Value) (Q:St->Hp->Prop),Inv X pins σ H s->G5 vs us->t vs σ H Q ->
  wpAny #[9] X.A (assignInOrder ((assignEach ts X.env).map (·.2)) us) (fun _ s'=>∃ σ' H',Inv X pins σ' H' s'/\Q σ' H') X.xe s
abbrev yy8:=V->V->V->Hp->(Hp->Prop)->Prop
def zt0(X:Cx)(t:yy8):Prop :=
 ∀ (pins:List (Addr×Obj)) (s:Shared) (σ:St) (H:Hp) (o i v:V) (ov iv u:Value) (Q:Hp->Prop),Inv X pins σ H s->L1 o ov->L1 i iv->L1 v u->t o i v H Q ->
  wpAny #[9] X.A (setItem ov iv u) (fun _ s'=>∃ H',Inv X pins σ H' s'/\Q H') X.xe s
def B6(i:Nat):TG:=fun v σ H Q=>Q (σ.set i (some v)) H
theorem E8{i:Nat}(hN:X.N.Nodup)(hi:X.N[i]?=some x)(hx:Loc X.env.scope x)(hf:autoParam #[107] zAf):PG X (.Name x pos) (B6 i):=by
 intro pins s σ H v u Q I r h
 exact wpAny_assign_Name (ya4 I hN hi hx r (fun s' I'=>⟨_,H,I',h⟩) hf)
def yt0:TGs:=fun vs σ H Q=>vs=[]/\Q σ H
def we5(t:TG)(u:TGs):TGs:=fun vs σ H Q=>∃ v r,vs=v::r/\t v σ H fun σ' H'=>u r σ' H' Q
theorem xe7:PGs X [] yt0:=by
 intro pins s σ H vs us Q I r h
 obtain⟨e,h⟩:=h
 subst e
 cases r
 exact assignInOrder_nil ⟨σ,H,I,h⟩
variable{es:List Expr}
theorem qd4{t:TG}{u:TGs}(h1:PG X e t)(h2:PGs X es u)(hs:autoParam ((assignEach (e::es) X.env).map (·.2)=assign e X.env::(assignEach es X.env).map (·.2)) zAr):PGs X (e::es) (we5 t u):=by
 intro pins s σ H vs us Q I r h
 obtain⟨v,vr,e1,h⟩:=h
 subst e1
 cases r with
 | cons r rr =>
   rw[hs]
   refine assignInOrder_cons (thn (h1 pins s σ H _ _ _ I r h) fun _ s1 zq=>?_)
   obtain⟨σ1,H1,I1,q1⟩:=zq
   exact h2 pins s1 σ1 H1 _ _ Q I1 rr q1
def yt1(K:Fg)(n:Nat)(t:TGs):TG:=fun v σ H Q=>∃ a xs,v=.ref a/\SqT K H a xs/\xs.length=n/\t xs σ H Q
variable{k n:Nat}
theorem xu7{t:TGs}(hc:X.calm=true)(h:PGs X es t)(hn:autoParam ((assignEach es X.env).length=n) zAr)(hst:autoParam ((assignEach es X.env).findIdx? (·.1)=none) zAr):PG X (.Tuple es k pos) (yt1 X.K n t):=by
 intro pins s σ H v u Q I r hw
 obtain⟨a,xs,e1,hq,hl,hw⟩:=hw
 subst e1
 cases r
 obtain⟨its,rv,ht,hz⟩:=I.tuple hq
 refine assign_Tuple_tuple (I.ok.hd hc) ht (by simp[hn,<-hl,rv.length]) hst fun h' hx=>?_
 have I1:Inv X pins σ H {s with heap:=h'}:=I.kept (t':=s.toks) fun b o e=>hx b o (Nat.ne_of_lt (Heap.lt_size e)) e
 exact h pins _ σ H xs _ Q I1 (by simpa using rv) hw
def yh3(to ti:TE)(t:yy8):TG:=fun v σ H Q=>to σ H fun o H1=>ti σ H1 fun i H2=>t o i v H2 fun H3=>Q σ H3
variable{ti to:TE}
theorem xf6{o i:Expr}{t:yy8}(ho:PE X o to)(hi:PE X i ti)(hs:zt0 X t) (ha:∀ v,assign (.Subscript o i pos) X.env v=(do
  let ov<-holding [v] (eval o X.env)
  let iv<-holding [v,ov] (eval i X.env)
  standAt pos
  holding [v,ov,iv] (setItem ov iv v)
  release [v,ov,iv] []):=by intro _;rfl):PG X (.Subscript o i pos) (yh3 to ti t):=by
 intro pins s σ H v u Q I r h
 rw[ha]
 refine wpAny_bind (wpAny_holding (thn (ho pins s σ H _ I h) fun ov s1 zq=>?_))
 obtain⟨x,H1,I1,r1,q1⟩:=zq
 refine wpAny_bind (wpAny_holding (thn (hi pins s1 σ H1 _ I1 q1) fun iv s2 zq=>?_))
 obtain⟨y,H2,I2,r2,q2⟩:=zq
 refine wpAny_bind (wpAny_standAt (wpAny_bind (wpAny_holding (thn (hs pins s2 σ H2 x y v ov iv u _ I2 r1 r2 r q2) fun _ s3 zq=>?_))))
 obtain⟨H3,I3,q3⟩:=zq
 exact wpAny_release ⟨σ,H3,I3,q3⟩
def E3(te:TE)(g:TG):TS:=fun D σ H=>te σ H fun x H1=>g x σ H1 D.nx
variable{g:TG}
theorem xf7{tg:Expr}(he:PE X e te)(hg:PG X tg g)(hs:autoParam (swapsWithSole [tg] e pos.line X.env=pure false) zAr)(hw:autoParam (swappedStores [tg] e X.env=pure none) zAr)(h1:autoParam ((assignEach [tg] X.env).map (·.2)=[assign tg X.env]) zAr):PS X (.Assign [tg] e pos) (E3 te g):=by
 intro pins s σ H D I h
 refine wpAny_Assign_stores (thn (he pins s σ H _ I h) fun v s1 zq=>?_) hs hw
 obtain⟨x,H1,I1,r1,q1⟩:=zq
 rw[h1]
 exact thn (hg pins s1 σ H1 x v _ I1 r1 q1) fun _ s2 q=>q
variable{pos':Pos}
theorem qf3{i:Nat}(hN:X.N.Nodup)(hi:X.N[i]?=some x)(hx:Loc X.env.scope x)(he:PE X e te)(hs:autoParam (swapsWith e (some (.Name x pos')) pos.line X.env=pure false) zAr)(hf:autoParam #[107] zAf) :
 PS X (.Assign [.Name x pos'] e pos) (E3 te (B6 i)):=by
 intro pins s σ H D I h
 refine wpAny_Assign_Name (thn (he pins s σ H _ I h) fun v s1 zq=>?_) hs
 obtain⟨y,H1,I1,r1,q1⟩:=zq
 exact ya4 I1 hN hi hx r1 (fun s2 I2=>⟨_,H1,I2,q1⟩) hf
def wb5(c:TT)(tb:TS):TS:=fun D σ H=>∃ W:Nat->St->Hp->Prop,(∃ m,W m σ H)/\∀ m σ H,W m σ H ->
 c σ H fun b H1=>if b=true then ∃ N:St->Hp->Prop,(∀ σ' H',N σ' H'->∃ m',m'<m/\W m' σ' H')/\tb {D with nx:=N,ct:=N,bk:=D.nx} σ H1 else D.nx σ H1
variable{body:List Stmt}{tb:TS}
theorem wg8{tc:TT}(hp:PassesOwn #[9] X.A X.env X.xe)(hc:PT X c tc)(hb:PSs X body tb):PS X (.While c body [] pos) (wb5 tc tb):=by
 intro pins s σ H D I h
 obtain⟨W,⟨m0,w0⟩,turn⟩:=h
 refine wpAny_While (codeAny_whileLoop (fun n s'=>∃ σ' H',Inv X pins σ' H' s'/\W n σ' H') ?_ m0 ⟨σ,H,I,w0⟩)
 rintro n s1 ⟨σ1,H1,I1,w1⟩
 refine wpAny_passesOwn hp (thn (hc pins s1 σ1 H1 _ I1 (turn n σ1 H1 w1)) fun b s2 zq=>?_)
 obtain⟨H2,I2,q2⟩:=zq
 cases b with
 | true =>
   obtain⟨N,hN,q2⟩:=q2
   rw[if_pos rfl]
   refine wpAny_passesOwn hp (thn (hb pins s2 σ1 H2 _ I2 q2) fun f s3 q3=>?_)
   cases f with
   | next =>
     obtain⟨σ3,H3,I3,n3⟩:=q3
     obtain⟨m',hm,w3⟩:=hN σ3 H3 n3
     exact⟨m',hm,σ3,H3,I3,w3⟩
   | cont =>
     obtain⟨σ3,H3,I3,n3⟩:=q3
     obtain⟨m',hm,w3⟩:=hN σ3 H3 n3
     exact⟨m',hm,σ3,H3,I3,w3⟩
   | brk=>exact q3
   | ret v=>exact q3
 | false =>
   rw[if_neg Bool.false_ne_true]
   exact wpAny_execs_nil ⟨σ1,H2,I2,q2⟩
set_option genInjectivity false in
structure It where
 go:Nat->Hp->Prop
 yld:Nat->Hp->V->Hp->Prop
 stop:Nat->Hp->Prop
def xn2(X:Cx)(pins:List (Addr×Obj))(H:Hp)(b:Addr):Prop :=
 H b=none/\b≠X.env.locals/\b∉X.fs/\(b∈X.ex\/X.s₀.heap.objs.size<=b)/\(∀ x c,X.env.cells.lookup x=some c->c≠b)/\∀ p∈X.pn++pins,p.1≠b
theorem Inv.fpOk(I:Inv X pins σ H s)(hb:s.heap.objs.size<=b)(hn:H' b=none):xn2 X pins H' b:=by
 refine⟨hn,Nat.ne_of_gt (Nat.lt_of_lt_of_le I.lt hb),I.nofs hb,.inr (Nat.le_trans I.sz hb),fun x c e z=>?_,fun p hp z=>?_⟩
 ·obtain⟨v,q⟩:=I.cell x c e
  exact absurd (Nat.lt_of_lt_of_le q.lt (by rw[z];exact hb)) (Nat.lt_irrefl _)
 ·exact absurd (Nat.lt_of_lt_of_le (Heap.lt_size (I.pin p hp).1) (by rw[z];exact hb)) (Nat.lt_irrefl _)
structure xc8(P:Program)(w:World)(K:Fg)(tg:Expr)(J:It)(fp:List Addr)(it:Addr)(tn:Nat->Heap->Prop):Prop where
 mem:it∈fp
 obj:∀ i h,tn i h->∀ b∈fp,∃ o,h.get? b=some o/\∀ v,o.data≠.cell v
 keep:∀ i h h',tn i h->(∀ b∈fp,∀ o,h.get? b=some o->h'.get? b=some o)->tn i h'
 item:∀ (X:Cx),X.prog=P->X.w=w->X.K=K->X.calm=true->∀ (i:Nat) (pins:List (Addr×Obj)) (s:Shared) (σ:St) (H:Hp) (E:Value->Shared->Prop),Inv X pins σ H s->(∀ b∈fp,xn2 X pins H b)->tn i s.heap->J.go i H ->
  wpAny (model P w) X.A (pyNext (.ref it)) (fun r s1=>∃ u,r=some u /\
   wpAny (model P w) X.A (letOwnedTupleGo tg (.ref it) u) (fun _ s2=>∃ x H',Inv X pins σ H' s2/\L1 x u/\J.yld i H x H'/\tn (i+1) s2.heap/\∀ b∈fp,H' b=none) E s1) E s
 done:∀ (X:Cx),X.prog=P->X.w=w->X.K=K->X.calm=true->∀ (i:Nat) (pins:List (Addr×Obj)) (s:Shared) (σ:St) (H:Hp) (E:Value->Shared->Prop),Inv X pins σ H s->(∀ b∈fp,xn2 X pins H b)->tn i s.heap->J.stop i H ->
  wpAny (model P w) X.A (pyNext (.ref it)) (fun r s1=>r=none/\Inv X pins σ H s1) E s
 self:∀ (A:Around) (i:Nat) (s:Shared) (Q:Value->Shared->Prop) (E:Value->Shared->Prop),tn i s.heap->Q (.ref it) s->wpAny (model P w) A (pyIter (.ref it)) Q E s
abbrev TI:=St->Hp->(It->Hp->Prop)->Prop
def PIE(X:Cx)(pins:List (Addr×Obj))(σ:St)(tg:Expr)(R:It->Hp->Prop)(itv:Value)(s2:Shared):Prop :=
 ∃ (it:Addr) (fp:List Addr) (tn:Nat->Heap->Prop) (J:It) (H':Hp),itv=.ref it/\Inv X pins σ H' s2/\xc8 X.prog X.w X.K tg J fp it tn/\tn 0 s2.heap/\(∀ b∈fp,xn2 X pins H' b)/\R J H'
def PI(X:Cx)(tg iter:Expr)(wi:TI):Prop :=
 ∀ (pins:List (Addr×Obj)) (s:Shared) (σ:St) (H:Hp) (R:It->Hp->Prop),Inv X pins σ H s->wi σ H R ->
  wpAny #[9] X.A (eval iter X.env) (fun v s1=>wpAny #[9] X.A (pyIter v) (PIE X pins σ tg R) X.xe s1) X.xe s
theorem xf8{tg:Expr}{o:Obj}{n:String}{vs:Array Value}{Q:Unit->Shared->Prop}(ho:s.heap.get? it=some o)(hc:o.cls=.type n)(hd:o.data=.fields vs)(hn:["enumerate","zip","dict_itemiterator","dict_reverseitemiterator","odict_iterator","itertools.zip_longest","itertools.pairwise"].contains n=false)(hQ:Q () s):wpAny M A (letOwnedTupleGo tg (.ref it) u) Q E s:=by
 unfold letOwnedTupleGo
 cases tg <;> first
  | exact wpAny_pure hQ
  | (cases u <;> first
   | exact wpAny_pure hQ
   | (refine wpAny_bind (wpAny_load ho ?_)
      rw[hc,hd]
      show wpAny M A (if(["enumerate","zip","dict_itemiterator","dict_reverseitemiterator","odict_iterator","itertools.zip_longest","itertools.pairwise"].contains n && vs[0]? == some (rawInt _))=true then _ else _) Q E s
      rw[if_neg (by intro h;rw[hn,Bool.false_and] at h;cases h)]
      exact wpAny_pure hQ))
def Itl(K:Fg)(a:Addr):It :=
 ⟨fun i H=>∃ xs x,SqL K H a xs/\xs[i]?=some x,fun i H x H'=>H'=H/\∀ xs,SqL K H a xs->xs[i]?=some x,fun i H=>∃ xs,SqL K H a xs/\xs.length<=i⟩
def Itt(K:Fg)(a:Addr):It :=
 ⟨fun i H=>∃ xs x,SqT K H a xs/\xs[i]?=some x,fun i H x H'=>H'=H/\∀ xs,SqT K H a xs->xs[i]?=some x,fun i H=>∃ xs,SqT K H a xs/\xs.length<=i⟩
def Itr(lo:Int)(n:Nat):It:=⟨fun i _=>i<n,fun i H x H'=>H'=H/\x=.int (lo+i),fun i _=>n<=i⟩
theorem yt2{tg:Expr}(a it:Addr):xc8 P w K tg (Itl K a) [it] it (fun i h=>h.IsListIter it a i) where
 mem:=by simp
 obj:=fun i h st b hb=>by
  walk_at"22"
 keep:=fun i h h' st k=>st.at fun o e=>k it (by simp) o e
 item:=by
  walk_at"0"
  obtain⟨xs,x,hq,hx⟩:=hg
  obtain⟨its,rv,p,hz⟩:=I.list hq
  obtain⟨u,hu,ru⟩:=rv.get hx
  walk_at"7"
  refine wpAny_pyNext_list_item st p.isList (x:=u) (by simpa using hu) fun h' st' sb=>?_
  have I1:Inv X pins σ H {s with heap:=h'}:=I.turned (t':=s.toks) (fun b o hb e=>(sb.2 b hb).trans e) f0 f1 f3 f4 f5
  obtain⟨o,e,c,d⟩:=id st'
  exact⟨u,rfl,xf8 (s:={s with heap:=h'}) e c d #[10] ⟨x,H,I1,ru,⟨rfl,fun ys hy=>by rw[I.list_inj hy hq];exact hx⟩,st',fun b hb=>(hf b hb).1⟩⟩
 done:=by
  walk_at"0"
  obtain⟨xs,hq,hx⟩:=hg
  obtain⟨its,rv,p,hz⟩:=I.list hq
  walk_at"7"
  have hl:=rv.length
  exact wpAny_pyNext_list_end (I.ok.hd hc) st p.isList #[86] fun h' eb=>⟨rfl,I.turned (t':=s.toks) (fun b o hb e=>eb b o hb e) f0 f1 f3 f4 f5⟩
 self:=fun _ _ _ _ _ st h=>wpAny_pyIter_listiter st h
theorem yh4{tg:Expr}(a it:Addr):xc8 P w K tg (Itt K a) [it] it (fun i h=>h.IsTupleIter it a i) where
 mem:=by simp
 obj:=fun i h st b hb=>by
  walk_at"22"
 keep:=fun i h h' st k=>st.at fun o e=>k it (by simp) o e
 item:=by
  walk_at"0"
  obtain⟨xs,x,hq,hx⟩:=hg
  obtain⟨its,rv,p,hz⟩:=I.tuple hq
  obtain⟨u,hu,ru⟩:=rv.get hx
  walk_at"7"
  refine wpAny_pyNext_tuple_item st (show s.heap.IsTuple a its.toArray from p) (x:=u) (by simpa using hu) fun h' st' sb=>?_
  have I1:Inv X pins σ H {s with heap:=h'}:=I.turned (t':=s.toks) (fun b o hb e=>(sb.2 b hb).trans e) f0 f1 f3 f4 f5
  obtain⟨o,e,c,d⟩:=id st'
  exact⟨u,rfl,xf8 (s:={s with heap:=h'}) e c d #[10] ⟨x,H,I1,ru,⟨rfl,fun ys hy=>by rw[I.tuple_inj hy hq];exact hx⟩,st',fun b hb=>(hf b hb).1⟩⟩
 done:=by
  walk_at"0"
  obtain⟨xs,hq,hx⟩:=hg
  obtain⟨its,rv,p,hz⟩:=I.tuple hq
  walk_at"7"
  have hl:=rv.length
  exact wpAny_pyNext_tuple_end (I.ok.hd hc) st (show s.heap.IsTuple a its.toArray from p) #[86] fun h' eb=>⟨rfl,I.turned (t':=s.toks) (fun b o hb e=>eb b o hb e) f0 f1 f3 f4 f5⟩
 self:=fun _ _ _ _ _ st h=>wpAny_pyIter_tupleiter st h
theorem yh5{tg:Expr}(it:Addr)(lo:Int)(n:Nat):xc8 P w K tg (Itr lo n) [it] it (fun i h=>IsRangeIter h it (lo+(i:Nat)*1) ((n:Int)-(i:Nat)) 1) where
 mem:=by simp
 obj:=fun i h st b hb=>by
  have e:b=it:=by simpa using hb
  subst e
  exact⟨_,st,fun v z=>by
   have z':Data.fields _=Data.cell v:=z
   cases z'⟩
 keep:=fun i h h' st k=>k it (by simp) _ st
 item:=by
  walk_at"0"
  walk_at"7"
  have W:=Walks.range (prog:=X.prog) (w:=X.w) (I.ok.hd hc) it lo 1 n
  walk_at"36"
  refine⟨_,rfl,xf8 (s:={s with heap:=h',toks:=tk}) (n := "range_iterator") st' rfl rfl #[10] ⟨.int (lo+i),H,I1,⟨t,?_⟩,⟨rfl,rfl⟩,st',fun b hb=>(hf b hb).1⟩⟩
  rw[Int.mul_one]
 done:=by
  walk_at"0"
  walk_at"7"
  exact wpAny_pyNext_range_end (I.ok.hd hc) st (by have:n<=i:=hg;omega) fun h' eb=>⟨rfl,I.turned (t':=s.toks) (fun b o hb e=>eb b o hb e) f0 f1 f3 f4 f5⟩
 self:=fun _ _ _ _ _ st h=>wpAny_pyIter_rangeiter st h
variable{R:It->Hp->Prop}{iter:Expr}{wi:TI}
section
variable{tg:Expr}
theorem ya5{lo hi:Int}{t u v:Tok}{tk:Nat}(I:Inv X pins σ H s)(h1:-(2 ^ 62)<=lo)(h2:lo<2 ^ 62)(h3:-(2 ^ 62)<=hi)(h4:hi<2 ^ 62)(q:R (Itr lo (hi-lo).toNat) H)(ht:autoParam (0<tk) zAt):wpAny #[9] X.A (pyIter (.ref s.heap.objs.size)) (PIE X pins σ tg R) E {s with heap:=s.heap.push {cls:=.type "range",data:=.fields #[.int lo t,.int hi u,.int 1 v]},toks:=tk}:=by
 refine wpAny_pyIter_range (IsRange.new ..) (small_one h1 h2 h3 h4) ?_
 have I1:Inv X pins σ H {s with heap:=s.heap.push {cls:=.type "range",data:=.fields #[.int lo t,.int hi u,.int 1 v]},toks:=tk}:=I.kept fun b o e=>Heap.get?_push_of_some _ e
 refine⟨#[102].objs.size,[#[102].objs.size],_,_,H,rfl,
  I1.kept (t':=tk) fun b o e=>Heap.get?_push_of_some _ e,yh5 _ lo (hi-lo).toNat,?_,fun b hb=>?_,q⟩
 ·have e1:lo+((0:Nat):Int)*1=lo:=by simp
  have e2:(((hi-lo).toNat:Nat):Int)-((0:Nat):Int)=Builtin.Range.rangeSize lo hi 1:=by rw[rangeSize_one];split <;> omega
  show IsRangeIter _ _ (lo+((0:Nat):Int)*1) ((((hi-lo).toNat:Nat):Int)-((0:Nat):Int)) 1
  rw[e1,e2]
  exact Heap.get?_push_size _ rfl
 ·have e:b=#[102].objs.size:=by simpa using hb
  subst e
  exact I1.fpOk #[6] (I1.hok.fresh #[6])
def xq4(ta:TA):TI:=fun σ H R=>ta σ H fun vs H1=>∃ j:Int,vs=[.int j]/\-(2 ^ 62)<=j/\j<2 ^ 62/\R (Itr 0 j.toNat) H1
def yy9(ta:TA):TI:=fun σ H R=>ta σ H fun vs H1=>∃ i j:Int,vs=[.int i,.int j]/\(-(2 ^ 62)<=i/\i<2 ^ 62/\-(2 ^ 62)<=j/\j<2 ^ 62)/\R (Itr i (j-i).toNat) H1
theorem wl4{a:Expr}{ta:TA}{p:Pos}(hg:Gl X "range")(hm:X.mg "range"=none)(ha:PA X [a] ta)(hs:autoParam (starEach [a] X.env=[(false,eval a X.env)]) zAr):PI X tg (.Call (.Name "range" p) [a] [] pos) (xq4 ta):=by
 intro pins s σ H R I h
 refine Call_ (qw6 I hg hm boot_range #[32,rfl])
 obtain⟨vs,H1,I1,r1,q1⟩:=zq
 obtain⟨j,e,q1,q2,q⟩:=q1
 subst e
 cases r1 with
 | cons r rr =>
   cases rr
   obtain⟨t,rfl⟩:=r
   exact call_range_1 (ya5 I1 #[0] #[0] q1 q2 (by simpa using q))
theorem yt3{a b:Expr}{ta:TA}{p:Pos}(hg:Gl X "range")(hm:X.mg "range"=none)(ha:PA X [a,b] ta)(hs:autoParam (starEach [a,b] X.env=[(false,eval a X.env),(false,eval b X.env)]) zAr)(hs2:autoParam (starEach [b] X.env=[(false,eval b X.env)]) zAr) :
 PI X tg (.Call (.Name "range" p) [a,b] [] pos) (yy9 ta):=by
 intro pins s σ H R I h
 refine Call_ (qw6 I hg hm boot_range (PyProof.Rows.callWith_type1 (thn (ha pos pins s σ H _ I h) fun us s1 zq=>?_) (by rw[hs,hs2]) (by rw[hs2];rfl)))
 obtain⟨vs,H1,I1,r1,q1⟩:=zq
 obtain⟨i,j,e,⟨q1,q2,q3,q4⟩,q⟩:=q1
 subst e
 cases r1 with
 | cons r rr =>
   cases rr with
   | cons r' rr =>
     cases rr
     obtain⟨t,rfl⟩:=r
     obtain⟨t',rfl⟩:=r'
     exact call_range_2 (ya5 I1 q1 q2 q3 q4 q)
def qr1(wi:TI)(g:TG)(tb:TS):TS:=fun D σ H=>wi σ H fun J H1=>∃ W:Nat->Nat->St->Hp->Prop,(∃ m,W 0 m σ H1)/\∀ i m σ H,W i m σ H ->
 (J.stop i H/\D.nx σ H)\/#[28]
def xf9(fp:List Addr)(h:Heap):List (Addr×Obj):=fp.filterMap fun b=>(h.get? b).map fun o=>(b,o)
theorem wb6{fp:List Addr}{o:Obj}(hb:b∈fp)(e:h.get? b=some o):(b,o)∈xf9 fp h:=mem_filterMap.mpr ⟨b,hb,by rw[e];rfl⟩
theorem yt4{fp:List Addr}{p:Addr×Obj}(hp:p∈xf9 fp h):p.1∈fp/\h.get? p.1=some p.2:=by
 obtain⟨b,hb,e⟩:=mem_filterMap.mp hp
 cases q:h.get? b with
 | none=>rw[q] at e;cases e
 | some o =>
   rw[q] at e
   have e':(b,o)=p:=Option.some.inj e
   subst e'
   exact⟨hb,q⟩
theorem Inv.pinned{fp:List Addr}(I:Inv X pins σ H s)(hf:∀ b∈fp,xn2 X pins H b)(ho:∀ b∈fp,∃ o,s.heap.get? b=some o/\∀ v,o.data≠.cell v):Inv X (pins++xf9 fp s.heap) σ H s :=
 I.pins_of fun p hp=>(mem_append.mp hp).elim (fun z=>I.pin p #[57,z]) fun z=>by
  obtain⟨hb,e⟩:=yt4 z
  obtain⟨f0,f1,f2,_⟩:=hf p.1 hb
  obtain⟨o,e',d⟩:=ho p.1 hb
  rw[e] at e';cases e'
  exact⟨e,f0,f1,f2,d⟩
theorem Inv.unpinned{pl:List (Addr×Obj)}(I:Inv X (pins++pl) σ H s):Inv X pins σ H s:=I.pins_of fun p hp=>I.pin p #[57,mem_append_left _ hp]
theorem U5(hp:PassesOwn #[9] X.A X.env X.xe)(hc:X.calm=true)(hi:PI X tg iter wi)(hg:PG X tg g)(hb:PSs X body tb)(hs:autoParam (∀ x,foldedSetIterable iter X.env x=pure x) zAi):PS X (.For tg iter body [] pos) (qr1 wi g tb):=by
 intro pins s σ H D I h
 refine wpAny_For #[122] hs
 obtain⟨it,fp,tn,J,H2,e,I2,T,st2,f2,W,⟨m0,w0⟩,turn⟩:=h2
 subst e
 have stat:∀ {H':Hp},(∀ b∈fp,H' b=none)->∀ b∈fp,xn2 X pins H' b:=fun hn b hb=>⟨hn b hb,(f2 b hb).2⟩
 refine codeAny_forLoop_any (fun n s'=>∃ i σ' H',Inv X pins σ' H' s'/\tn i s'.heap/\(∀ b∈fp,H' b=none)/\W i n σ' H') ?_ m0 ⟨0,σ,H2,I2,st2,fun b hb=>(f2 b hb).1,w0⟩
 rintro n s3 ⟨i,σ3,H3,I3,st3,fr3,w3⟩
 rcases turn i n σ3 H3 w3 with⟨stop,qn⟩|⟨go,N,hN,step⟩
 ·refine wpAny_passesOwn hp (thn (T.done X rfl rfl rfl hc i pins s3 σ3 H3 X.xe I3 (stat fr3) st3 stop) fun r s4 zq=>?_)
  obtain⟨hr,I4⟩:=zq
  subst hr
  exact wpAny_execs_nil ⟨σ3,H3,I4,qn⟩
 ·refine wpAny_passesOwn hp (thn (T.item X rfl rfl rfl hc i pins s3 σ3 H3 X.xe I3 (stat fr3) st3 go) fun r s4 zq=>?_)
  obtain⟨u,hr,h4⟩:=zq
  subst hr
  refine wpAny_passesOwn hp (thn h4 fun _ s5 zq=>?_)
  obtain⟨x,H5,I5,r5,y5,st5,fr5⟩:=zq
  have I5':=I5.pinned (stat fr5) (T.obj _ _ st5)
  refine wpAny_passesOwn hp (thn (hg _ s5 σ3 H5 x u _ I5' r5 (step x H5 y5)) fun _ s6 zq=>?_)
  obtain⟨σ6,H6,I6,q6⟩:=zq
  refine wpAny_passesOwn hp (thn (hb _ s6 σ6 H6 _ I6 q6) fun f s7 q7=>?_)
  have again:∀ {σ7:St} {H7:Hp},Inv X (pins++xf9 fp s5.heap) σ7 H7 s7->N σ7 H7->∃ m,m<n/\∃ i σ' H',Inv X pins σ' H' s7/\tn i s7.heap/\(∀ b∈fp,H' b=none)/\W i m σ' H':=fun{σ7 H7} I7 n7=>by
   obtain⟨m',hm,w7⟩:=hN σ7 H7 n7
   refine⟨m',hm,i+1,σ7,H7,I7.unpinned,T.keep _ _ _ st5 fun b hb o e=>(I7.pin (b,o) #[57,mem_append_right _ (wb6 hb e)]).1,fun b hb=>?_,w7⟩
   obtain⟨o,e,d⟩:=T.obj _ _ st5 b hb
   exact(I7.pin (b,o) #[57,mem_append_right _ (wb6 hb e)]).2.1
  cases f with
  | next=>obtain⟨σ7,H7,I7,n7⟩:=q7;exact again I7 n7
  | cont=>obtain⟨σ7,H7,I7,n7⟩:=q7;exact again I7 n7
  | brk=>obtain⟨σ7,H7,I7,q7⟩:=q7;exact⟨σ7,H7,I7.unpinned,q7⟩
  | ret v=>obtain⟨x7,σ7,H7,I7,r7,q7⟩:=q7;exact⟨x7,σ7,H7,I7.unpinned,r7,q7⟩
end
abbrev PAt{α:Type}(P:Nat->α->Hp->Prop)(i:Nat):α->Hp->Prop:=P i
variable{D:qd3}
theorem xg0(Pv:Nat->St->Hp->Prop)(h0:Pv 0 σ H)(hl:∀ i σ H,i<=xs.length->Pv i σ H->SqL K H a xs)(hs:∀ i x σ H,xs[i]?=some x->Pv i σ H->g x σ H fun σ2 H2=>tb {D with nx:=PAt Pv (i+1),ct:=PAt Pv (i+1),bk:=D.nx} σ2 H2)(hd:∀ σ H,Pv xs.length σ H->D.nx σ H) :
 ∃ W:Nat->Nat->St->Hp->Prop,(∃ m,W 0 m σ H)/\∀ i m σ H,W i m σ H ->
  ((Itl K a).stop i H/\D.nx σ H)\/((Itl K a).go i H/\∃ N:St->Hp->Prop,(∀ σ' H',N σ' H'->∃ m',m'<m/\W (i+1) m' σ' H')/\∀ x H',(Itl K a).yld i H x H'->g x σ H' fun σ2 H2=>tb {D with nx:=N,ct:=N,bk:=D.nx} σ2 H2):=by
 refine⟨fun i m σ H=>m=xs.length-i/\i<=xs.length/\Pv i σ H,⟨xs.length,by simp,Nat.zero_le _,h0⟩,?_⟩
 rintro i m σ H ⟨rfl,hi,p⟩
 have q:=hl i σ H hi p
 by_cases hlt:i<xs.length
 ·refine .inr ⟨⟨xs,xs[i],q,by simp[hlt]⟩,Pv (i+1),fun σ' H' p'=>⟨xs.length-(i+1),by omega,rfl,hlt,p'⟩,fun x H' y=>?_⟩
  obtain⟨e,y⟩:=y
  subst e
  exact hs i x σ _ (y xs q) p
 ·have e:i=xs.length:=by omega
  subst e
  exact .inl ⟨⟨xs,q,Nat.le_refl _⟩,hd σ H p⟩
theorem xu8(Pv:Nat->St->Hp->Prop)(h0:Pv 0 σ H)(hl:∀ i σ H,i<=xs.length->Pv i σ H->SqT K H a xs)(hs:∀ i x σ H,xs[i]?=some x->Pv i σ H->g x σ H fun σ2 H2=>tb {D with nx:=PAt Pv (i+1),ct:=PAt Pv (i+1),bk:=D.nx} σ2 H2)(hd:∀ σ H,Pv xs.length σ H->D.nx σ H) :
 ∃ W:Nat->Nat->St->Hp->Prop,(∃ m,W 0 m σ H)/\∀ i m σ H,W i m σ H ->
  ((Itt K a).stop i H/\D.nx σ H)\/((Itt K a).go i H/\∃ N:St->Hp->Prop,(∀ σ' H',N σ' H'->∃ m',m'<m/\W (i+1) m' σ' H')/\∀ x H',(Itt K a).yld i H x H'->g x σ H' fun σ2 H2=>tb {D with nx:=N,ct:=N,bk:=D.nx} σ2 H2):=by
 refine⟨fun i m σ H=>m=xs.length-i/\i<=xs.length/\Pv i σ H,⟨xs.length,by simp,Nat.zero_le _,h0⟩,?_⟩
 rintro i m σ H ⟨rfl,hi,p⟩
 have q:=hl i σ H hi p
 by_cases hlt:i<xs.length
 ·refine .inr ⟨⟨xs,xs[i],q,by simp[hlt]⟩,Pv (i+1),fun σ' H' p'=>⟨xs.length-(i+1),by omega,rfl,hlt,p'⟩,fun x H' y=>?_⟩
  obtain⟨e,y⟩:=y
  subst e
  exact hs i x σ _ (y xs q) p
 ·have e:i=xs.length:=by omega
  subst e
  exact .inl ⟨⟨xs,q,Nat.le_refl _⟩,hd σ H p⟩
theorem xq5{lo:Int}(Pv:Nat->St->Hp->Prop)(h0:Pv 0 σ H)(hs:∀ i σ H,i<n->Pv i σ H->g (.int (lo+i)) σ H fun σ2 H2=>tb {D with nx:=PAt Pv (i+1),ct:=PAt Pv (i+1),bk:=D.nx} σ2 H2)(hd:∀ σ H,Pv n σ H->D.nx σ H) :
 ∃ W:Nat->Nat->St->Hp->Prop,(∃ m,W 0 m σ H)/\∀ i m σ H,W i m σ H ->
  ((Itr lo n).stop i H/\D.nx σ H)\/((Itr lo n).go i H/\∃ N:St->Hp->Prop,(∀ σ' H',N σ' H'->∃ m',m'<m/\W (i+1) m' σ' H')/\∀ x H',(Itr lo n).yld i H x H'->g x σ H' fun σ2 H2=>tb {D with nx:=N,ct:=N,bk:=D.nx} σ2 H2):=by
 refine⟨fun i m σ H=>m=n-i/\i<=n/\Pv i σ H,⟨n,by simp,Nat.zero_le _,h0⟩,?_⟩
 rintro i m σ H ⟨rfl,hi,p⟩
 by_cases hlt:i<n
 ·refine .inr ⟨hlt,Pv (i+1),fun σ' H' p'=>⟨n-(i+1),by omega,rfl,hlt,p'⟩,fun x H' y=>?_⟩
  obtain⟨e,y⟩:=y
  subst e y
  exact hs i σ _ hlt p
 ·have e:i=n:=by omega
  subst e
  exact .inl ⟨Nat.le_refl _,hd σ H p⟩
theorem ya6{c:TT}(Pv:St->Hp->Prop)(μ:St->Hp->Nat)(h0:Pv σ H)(hs:∀ σ H,Pv σ H->c σ H fun b H1=>if b=true then tb {D with nx:=fun σ' H'=>Pv σ' H'/\μ σ' H'<μ σ H,ct:=fun σ' H'=>Pv σ' H'/\μ σ' H'<μ σ H,bk:=D.nx} σ H1 else D.nx σ H1)(mono:∀ σ H Q Q',(∀ b H1,Q b H1->Q' b H1)->c σ H Q->c σ H Q'):wb5 c tb D σ H:=by
 refine⟨fun m σ H=>m=μ σ H/\Pv σ H,⟨_,rfl,h0⟩,?_⟩
 rintro m σ H ⟨rfl,p⟩
 refine mono σ H _ _ (fun b H1 q=>?_) (hs σ H p)
 cases b with
 | true=>exact⟨_,fun σ' H' ⟨p',l⟩=>⟨_,l,rfl,p'⟩,q⟩
 | false=>exact q
abbrev R2:=V->V->Hp->VK->Prop
def OpR(X:Cx)(f:Value->Value->Sem Value)(r:R2):Prop :=
 ∀ (pins:List (Addr×Obj)) (s:Shared) (σ:St) (H:Hp) (x y:V) (v u:Value) (Q:VK),Inv X pins σ H s->L1 x v->L1 y u->r x y H Q ->
  wpAny #[9] X.A (f v u) (EP X pins σ Q) X.xe s
def UnR(X:Cx)(f:Value->Sem Value)(r:V->Hp->VK->Prop):Prop :=
 ∀ (pins:List (Addr×Obj)) (s:Shared) (σ:St) (H:Hp) (x:V) (v:Value) (Q:VK),Inv X pins σ H s->L1 x v->r x H Q ->
  wpAny #[9] X.A (f v) (EP X pins σ Q) X.xe s
def qj0(X:Cx)(f:Value)(r:List V->Hp->VK->Prop):Prop :=
 ∀ (pins:List (Addr×Obj)) (s:Shared) (σ:St) (H:Hp) (xs:List V) (us:List Value) (Q:VK),Inv X pins σ H s->G5 xs us->r xs H Q ->
  wpAny #[9] X.A (call f us) (EP X pins σ Q) X.xe s
def tOp(r:R2)(ta tb:TE):TE:=fun σ H Q=>ta σ H fun x H1=>tb σ H1 fun y H2=>r x y H2 Q
def tUn(r:V->Hp->VK->Prop)(ta:TE):TE:=fun σ H Q=>ta σ H fun x H1=>r x H1 Q
def rI(C:Int->Int->Prop)(g:Int->Int->V):R2:=fun x y H Q=>∃ i j,x=.int i/\y=.int j/\C i j/\Q (g i j) H
def rI0(g:Int->Int->V):R2:=fun x y H Q=>∃ i j,x=.int i/\y=.int j/\Q (g i j) H
def rU(g:Int->V):V->Hp->VK->Prop:=fun x H Q=>∃ i,x=.int i/\Q (g i) H
variable{tc:TE}{f:Value->Value->Sem Value}{i j:Int}
section
variable{a b:Expr}{tb:TE}
theorem zt1(ha:PE X a ta)(hb:PE X b tb){R:V->V->Hp->Prop}(I:Inv X pins σ H s)(h:ta σ H fun x H1=>tb σ H1 fun y H2=>R x y H2)(hf:∀ v u s2 x y H2,Inv X pins σ H2 s2->L1 x v->L1 y u->R x y H2->wpAny #[9] X.A (f v u) Q X.xe s2) :
 wpAny #[9] X.A (eval a X.env) (fun v s₁=>wpAny #[9] X.A (eval b X.env) (fun u s₂=>wpAny #[9] X.A (f v u) Q X.xe s₂) X.xe s₁) X.xe s:=by
 refine thn #[115] fun v s1 zq=>?_
 obtain⟨x,H1,I1,r1,q1⟩:=zq
 refine thn (hb pins s1 σ H1 _ I1 q1) fun u s2 zq=>?_
 obtain⟨y,H2,I2,r2,q2⟩:=zq
 exact hf v u s2 x y H2 I2 r1 r2 q2
theorem C5{op:Operator}{r:R2}(ho:OpR X (binaryOp op) r)(ha:PE X a ta)(hb:PE X b tb):PE X (.BinOp a op b pos) (tOp r ta tb):=by
 walk_at"25"
 exact wpAny_BinOp (zt1 ha hb I h fun v u s2 x y H2 I2 rx ry q=>ho pins s2 σ H2 x y v u Q I2 rx ry q)
theorem T5{op:UnaryOp}{r:V->Hp->VK->Prop}(ho:UnR X (unaryOp op) r)(ha:PE X a ta):PE X (.UnaryOp op a pos) (tUn r ta):=by
 walk_at"25"
 exact UnaryOp_ (thn #[115] fun v s1 ⟨x,H1,I1,r1,q1⟩=>ho pins s1 σ H1 x v Q I1 r1 q1)
theorem opI{C:Int->Int->Prop}{g:Int->Int->Int}(rule:∀ (i j:Int) (t u:Tok) (s:Shared) (Q:Value->Shared->Prop) (E:Value->Shared->Prop),C i j->Q (.int (g i j) s.toks) {s with toks:=s.toks+1}->wpAny #[9] X.A (f (.int i t) (.int j u)) Q E s) :
 OpR X f (rI C fun i j=>.int (g i j)):=by
 walk_at"13"
 obtain⟨i,j,rfl,rfl,hc,q⟩:=h
 obtain⟨t,rfl⟩:=rx
 obtain⟨t',rfl⟩:=ry
 exact rule i j t t' s _ _ hc ⟨.int (g i j),H,I.tok _,⟨_,rfl⟩,q⟩
theorem zz8{g:Int->Int->Int}(rule:∀ (i j:Int) (t u:Tok) (s:Shared) (Q:Value->Shared->Prop) (E:Value->Shared->Prop),Q (.int (g i j) s.toks) {s with toks:=s.toks+1}->wpAny #[9] X.A (f (.int i t) (.int j u)) Q E s) :
 OpR X f (rI0 fun i j=>.int (g i j)):=by
 walk_at"1"
 exact rule i j t t' s _ _ ⟨.int (g i j),H,I.tok _,⟨_,rfl⟩,q⟩
theorem zi8{g:Int->Int->Bool}(rule:∀ (i j:Int) (t u:Tok) (s:Shared) (Q:Value->Shared->Prop) (E:Value->Shared->Prop),Q (.bool (g i j)) s->wpAny #[9] X.A (f (.int i t) (.int j u)) Q E s) :
 OpR X f (rI0 fun i j=>.bl (g i j)):=by
 walk_at"1"
 exact rule i j t t' s _ _ ⟨.bl (g i j),H,I,rfl,q⟩
def ya7(i j:Int):Prop:=0<j/\j<1073741824
def yz0(i j:Int):Prop:=0<=j/\j<=1000000/\i.natAbs<2 ^ 64
def yz1(i j:Int):Prop:=(-(2 ^ 64)<i/\i<2 ^ 64)\/(-(2 ^ 64)<j/\j<2 ^ 64)
theorem yz1.ok(h:yz1 i j):IntMulOk i j:=by
 rcases h with⟨h1,h2⟩|⟨h1,h2⟩
 ·exact .of_left (intBits_le_64 h1 h2)
 ·exact .of_right (intBits_le_64 h1 h2)
theorem yh6(k:Nat):(0:Int)<=2 ^ k:=by
 rw[two_pow_cast]
 exact Int.natCast_nonneg _
theorem zt2:OpR X (binaryOp .Add) (rI0 fun i j=>.int (i+j)):=zz8 fun _ _ _ _ _ _ _ q=>add_int q
theorem xg1:OpR X (binaryOp .Sub) (rI0 fun i j=>.int (i-j)):=zz8 fun _ _ _ _ _ _ _ q=>sub_int q
theorem zt3:OpR X (binaryOp .Mult) (rI yz1 fun i j=>.int (i*j)):=opI fun _ _ _ _ _ _ _ hc q=>mul_int q hc.ok
theorem ws4:OpR X (binaryOp .FloorDiv) (rI ya7 fun i j=>.int (i / j)):=opI fun i j _ _ _ _ _ hc q=>by
 have h1:(0:Int)<j:=hc.1
 have h2:j<1073741824:=hc.2
 exact floordiv_int #[0] (by rw[Int.fdiv_eq_ediv_of_nonneg i #[0]];exact q) (.inl (PyProof.noPylong_small #[0]))
theorem Z2:OpR X (binaryOp .Mod) #[15]:=opI fun i j _ _ _ _ _ hc q=>by
 have h1:(0:Int)<j:=hc
 exact mod_int' #[0] (by rw[Int.fmod_eq_emod_of_nonneg i #[0]];exact q)
theorem yz2:OpR X (binaryOp .LShift) (rI yz0 fun i j=>.int (i*2 ^ j.toNat)):=opI fun _ _ _ _ _ _ _ hc q=>lshift_int_small hc.1 hc.2.1 hc.2.2 q
theorem yz3:OpR X (binaryOp .RShift) (rI (fun _ j=>0<=j) fun i j=>.int (i / 2 ^ j.toNat)):=opI fun i j _ _ _ _ _ hc q =>
 rshift_int hc (by rw[Int.fdiv_eq_ediv_of_nonneg i (yh6 _)];exact q)
theorem unI{f:Value->Sem Value}{g:Int->Int}(rule:∀ (i:Int) (t:Tok) (s:Shared) (Q:Value->Shared->Prop) (E:Value->Shared->Prop),Q (.int (g i) s.toks) {s with toks:=s.toks+1}->wpAny #[9] X.A (f (.int i t)) Q E s) :
 UnR X f (rU fun i=>.int (g i)):=by
 intro pins s σ H x v Q I rx h
 obtain⟨i,rfl,q⟩:=h
 obtain⟨t,rfl⟩:=rx
 exact rule i t s _ _ ⟨.int (g i),H,I.tok _,⟨_,rfl⟩,q⟩
theorem N4:UnR X (unaryOp .USub) (rU fun i=>.int (-i)):=unI fun _ _ _ _ _ q=>neg_int q
end
def zi9:V->V->Bool
 | .non,.non=>true | .non,.int _=>true | .int _,.non=>true | .non,.bl _=>true | .bl _,.non=>true | .non,.str _=>true | .str _,.non=>true
 | .int _,.int _=>true | .bl _,.bl _=>true | .str _,.str _=>true | .byt _,.byt _=>true
 | .int _,.str _=>true | .str _,.int _=>true | .bl _,.str _=>true | .str _,.bl _=>true
 | _,_=>false
def rEq:R2:=fun x y H Q=>zi9 x y=true/\Q #[90,x=y] H
def rNe:R2:=fun x y H Q=>zi9 x y=true/\Q (.bl (!decide (x=y))) H
theorem yn0:decide (V.int i=V.int j)=(i == j):=by
 rw[Bool.eq_iff_iff]
 simp
theorem yz4{i j:Bool}:decide (V.bl i=V.bl j)=(i == j):=by
 rw[Bool.eq_iff_iff]
 simp
theorem yn1{i j:Str}:decide (V.str i=V.str j)=(i == j):=by
 rw[Bool.eq_iff_iff]
 simp
theorem yn2{i j:Array UInt8}:decide (V.byt i=V.byt j)=(i.toList == j.toList):=by
 rw[Bool.eq_iff_iff]
 cases i
 cases j
 simp
section
variable{a b:Expr}{tb:TE}
theorem L7{Q:VK}{k k':Bool}(I:Inv X pins σ H s)(q:Q (.bl k) H)(e:k=k'):EP X pins σ Q (.bool k') s:=by
 subst e
 exact⟨.bl k,H,I,rfl,q⟩
theorem zz9:OpR X #[81,.Eq] rEq:=by
 walk_at"13"
 obtain⟨hs,q⟩:=h
 cases x with
 | non =>
   cases rx
   cases y with
   | non=>cases ry;exact PySem.EqNone.eq_none_none #[41]
   | bl j=>cases ry;exact PySem.EqNone.eq_none_bool #[41]
   | int j=>obtain⟨t',rfl⟩:=ry;exact PySem.EqNone.eq_none_int #[41]
   | str j=>obtain⟨t',rfl⟩:=ry;exact PySem.EqNone.eq_none_str #[41]
   | _=>exact absurd (show false=true from hs) Bool.false_ne_true
 | bl i =>
   cases rx
   cases y with
   | non=>cases ry;exact PySem.EqNone.eq_bool_none #[41]
   | bl j=>cases ry;exact eq_bool (L7 I q yz4)
   | str j=>obtain⟨t',rfl⟩:=ry;exact PySem.EqMixed.eq_bool_str #[41]
   | _=>exact absurd (show false=true from hs) Bool.false_ne_true
 | int i =>
   obtain⟨t,rfl⟩:=rx
   cases y with
   | non=>cases ry;exact PySem.EqNone.eq_int_none #[41]
   | int j=>obtain⟨t',rfl⟩:=ry;exact eq_int (L7 I q yn0)
   | str j=>obtain⟨t',rfl⟩:=ry;exact PySem.EqMixed.eq_int_str #[41]
   | _=>exact absurd (show false=true from hs) Bool.false_ne_true
 | str i =>
   obtain⟨t,rfl⟩:=rx
   cases y with
   | non=>cases ry;exact PySem.EqNone.eq_str_none #[41]
   | bl j=>cases ry;exact PySem.EqMixed.eq_str_bool #[41]
   | int j=>obtain⟨t',rfl⟩:=ry;exact PySem.EqMixed.eq_str_int #[41]
   | str j=>obtain⟨t',rfl⟩:=ry;exact eq_str (L7 I q yn1)
   | _=>exact absurd (show false=true from hs) Bool.false_ne_true
 | byt i =>
   obtain⟨t,rfl⟩:=rx
   cases y with
   | byt j=>obtain⟨t',rfl⟩:=ry;exact PySem.W.eq_bytes (L7 I q yn2)
   | _=>exact absurd (show false=true from hs) Bool.false_ne_true
 | _=>cases y <;> exact absurd (show false=true from hs) Bool.false_ne_true
theorem Aa0:OpR X #[81,.NotEq] rNe:=by
 walk_at"13"
 obtain⟨hs,q⟩:=h
 cases x with
 | non =>
   cases rx
   cases y with
   | non=>cases ry;exact PySem.EqNone.ne_none_none #[41]
   | bl j=>cases ry;exact PySem.EqNone.ne_none_bool #[41]
   | int j=>obtain⟨t',rfl⟩:=ry;exact PySem.EqNone.ne_none_int #[41]
   | str j=>obtain⟨t',rfl⟩:=ry;exact PySem.EqNone.ne_none_str #[41]
   | _=>exact absurd (show false=true from hs) Bool.false_ne_true
 | bl i =>
   cases rx
   cases y with
   | non=>cases ry;exact PySem.EqNone.ne_bool_none #[41]
   | bl j=>cases ry;exact ne_bool (L7 I q (congrArg not yz4))
   | str j=>obtain⟨t',rfl⟩:=ry;exact PySem.EqMixed.ne_bool_str #[41]
   | _=>exact absurd (show false=true from hs) Bool.false_ne_true
 | int i =>
   obtain⟨t,rfl⟩:=rx
   cases y with
   | non=>cases ry;exact PySem.EqNone.ne_int_none #[41]
   | int j=>obtain⟨t',rfl⟩:=ry;exact ne_int (L7 I q (congrArg not yn0))
   | str j=>obtain⟨t',rfl⟩:=ry;exact PySem.EqMixed.ne_int_str #[41]
   | _=>exact absurd (show false=true from hs) Bool.false_ne_true
 | str i =>
   obtain⟨t,rfl⟩:=rx
   cases y with
   | non=>cases ry;exact PySem.EqNone.ne_str_none #[41]
   | bl j=>cases ry;exact PySem.EqMixed.ne_str_bool #[41]
   | int j=>obtain⟨t',rfl⟩:=ry;exact PySem.EqMixed.ne_str_int #[41]
   | str j=>obtain⟨t',rfl⟩:=ry;exact ne_str (L7 I q (congrArg not yn1))
   | _=>exact absurd (show false=true from hs) Bool.false_ne_true
 | byt i =>
   obtain⟨t,rfl⟩:=rx
   cases y with
   | byt j=>obtain⟨t',rfl⟩:=ry;exact PySem.W.ne_bytes (L7 I q (congrArg not yn2))
   | _=>exact absurd (show false=true from hs) Bool.false_ne_true
 | _=>cases y <;> exact absurd (show false=true from hs) Bool.false_ne_true
theorem Aa1:OpR X #[81,.Lt] (rI0 fun i j=>.bl (decide (i<j))):=zi8 fun _ _ _ _ _ _ _ q=>lt_int q
theorem Aa2:OpR X #[81,.LtE] (rI0 fun i j=>.bl (decide (i<=j))):=zi8 fun _ _ _ _ _ _ _ q=>le_int q
theorem Aa3:OpR X #[81,.Gt] (rI0 fun i j=>.bl (decide (j<i))):=zi8 fun _ _ _ _ _ _ _ q=>gt_int q
theorem Aa4:OpR X #[81,.GtE] (rI0 fun i j=>.bl (decide (j<=i))):=zi8 fun _ _ _ _ _ _ _ q=>ge_int q
theorem yt5:OpR X #[81,.Lt] (fun x y H Q=>∃ i j,x=.str i/\y=.str j/\Q #[90,i.cps.toList<j.cps.toList] H):=by
 walk_at"1"
 exact lt_str (L7 I q rfl)
theorem yt6:OpR X #[81,.In] (fun x y H Q=>∃ i j,x=.str i/\y=.str j/\Q (.bl (!(Builtin.Str.occurrences j i 0 j.length 1).isEmpty)) H):=by
 walk_at"1"
 exact in_str (L7 I q rfl)
theorem zt4:OpR X #[81,.Is] (fun x y H Q=>y=.non/\Q #[90,x=.non] H):=by
 walk_at"13"
 obtain⟨rfl,q⟩:=h
 cases ry
 refine is_none_gen (L7 I q ?_)
 cases x <;> first
  | (cases rx;rfl)
  | (obtain⟨t,rfl⟩:=rx;rfl)
theorem zj0:OpR X #[81,.IsNot] (fun x y H Q=>y=.non/\Q (.bl (!decide (x=.non))) H):=by
 walk_at"13"
 obtain⟨rfl,q⟩:=h
 cases ry
 refine isnot_none_gen (L7 I q ?_)
 cases x <;> first
  | (cases rx;rfl)
  | (obtain⟨t,rfl⟩:=rx;rfl)
theorem OpR.or{r r':R2}(h:OpR X f r)(h':OpR X f r'):OpR X f (fun x y H Q=>r x y H Q\/r' x y H Q):=by
 intro pins s σ H x y v u Q I rx ry q
 rcases q with q|q
 ·exact h pins s σ H x y v u Q I rx ry q
 ·exact h' pins s σ H x y v u Q I rx ry q
theorem D9(b:Expr){op:CmpOp}(h:autoParam (op≠.In) zAd)(h2:autoParam (op≠.NotIn) zAd):behindInMarks op b=false:=by
 have e1:(op == CmpOp.In)=false:=by cases op <;> first|rfl|exact absurd rfl h
 have e2:(op == CmpOp.NotIn)=false:=by cases op <;> first|rfl|exact absurd rfl h2
 cases b <;> simp[behindInMarks,e1,e2]
theorem wb7{op:CmpOp}{r:R2}(ho:OpR X #[81,op] r)(ha:PE X a ta)(hb:PE X b tb)(hm:behindInMarks op b=false):PE X (.Compare a [op] [b] pos) (tOp r ta tb):=by
 walk_at"25"
 exact wpAny_Compare1 (zt1 ha hb I h fun v u s2 x y H2 I2 rx ry q=>ho pins s2 σ H2 x y v u Q I2 rx ry q) hm
def G0(t:TE):TT:=fun σ H Q=>t σ H fun x H'=>∃ k,x=.bl k/\Q k H'
theorem C7{op:CmpOp}{r:R2}(ho:OpR X #[81,op] r)(ha:PE X a ta)(hb:PE X b tb)(hm:behindInMarks op b=false):PT X (.Compare a [op] [b] pos) (G0 (tOp r ta tb)):=by
 walk_at"25"
 refine wpAny_isTrue_Compare1 (thn #[115] fun v s1 ⟨x,H1,I1,r1,q1⟩=>thn (hb pins s1 σ H1 _ I1 q1) fun u s2 ⟨y,H2,I2,r2,q2⟩ =>
  thn (ho pins s2 σ H2 x y v u _ I2 r1 r2 q2) fun c s3 ⟨z,H3,I3,r3,k,e,q3⟩=>?_) hm
 subst e
 cases r3
 exact wpAny_truthy_bool ⟨H3,I3,q3⟩
def xu9(r r':R2)(ta tb tc:TE):TE:=fun σ H Q=>ta σ H fun x H1=>tb σ H1 fun y H2=>r x y H2 fun z H3=>∃ k,z=.bl k /\
 (if k=true then tc σ H3 fun w' H4=>r' y w' H4 Q else Q (.bl false) H3)
theorem ya8{op op':CmpOp}{r r':R2}(ho:OpR X #[81,op] r)(ho':OpR X #[81,op'] r')(ha:PE X a ta)(hb:PE X b tb)(hc:PE X c tc)(hm:lastMarks [op,op'] [b,c]=false:=by with_unfolding_all rfl):PE X (.Compare a [op,op'] [b,c] pos) (xu9 r r' ta tb tc):=by
 walk_at"25"
 refine Compare_chain (thn #[115] fun v s1 ⟨x,H1,I1,r1,q1⟩=>chain_link (thn (hb pins s1 σ H1 _ I1 q1) fun u s2 ⟨y,H2,I2,r2,q2⟩ =>
  thn (ho pins s2 σ H2 x y v u _ I2 r1 r2 q2) fun d s3 ⟨z,H3,I3,r3,k,e,q3⟩=>?_)) hm
 subst e
 cases r3
 refine wpAny_truthy_bool ?_
 cases k with
 | false=>exact ite_ff ⟨.bl false,H3,I3,rfl,q3⟩
 | true=>exact ite_tt (chain_last (thn (hc pins s3 σ H3 _ I3 q3) fun w' s4 ⟨z',H4,I4,r4,q4⟩=>ho' pins s4 σ H4 y z' u w' Q I4 r2 r4 q4))
theorem ww8:(sizeLine:Nat)<2 ^ 63:=by rw[sizeLine_eq];decide
theorem yh7:OpR X (binaryOp .Add) (fun x y H Q=>∃ i j,x=.str i/\y=.str j/\i.length+j.length<=sizeLine/\Q (.str (i++j)) H):=by
 walk_at"13"
 obtain⟨i,j,rfl,rfl,hz,q⟩:=h
 obtain⟨t,rfl⟩:=rx
 obtain⟨t',rfl⟩:=ry
 exact wpAny_with_toks (n:=1) I.tk (add_str (fun t' tk ht=>⟨.str (i++j),H,I.tok _ ht,⟨_,rfl⟩,q⟩) hz)
theorem qt9{x:V}(r:G5 [x] us):∃ u,us=[u]/\L1 x u:=by
 cases r with
 | cons r1 r2=>cases r2;exact⟨_,rfl,r1⟩
theorem ya9{x:V}(r:G5 [x,y] us):∃ u w',us=[u,w']/\L1 x u/\L1 y w':=by
 cases r with
 | cons r1 r2 =>
   cases r2 with
   | cons r3 r4=>cases r4;exact⟨_,_,rfl,r1,r3⟩
theorem yt7:qj0 X (.type "int") (fun xs H Q=>(∃ i,xs=[.int i]/\Q (.int i) H)\/∃ k,xs=[.bl k]/\Q (.int (if k then 1 else 0)) H):=by
 intro pins s σ H xs us Q I r h
 rcases h with⟨i,rfl,q⟩|⟨k,rfl,q⟩
 ·obtain⟨u,rfl,t,rfl⟩:=qt9 r
  exact call_int_int ⟨.int i,H,I,⟨_,rfl⟩,q⟩
 ·obtain⟨u,rfl,r1⟩:=qt9 r
  cases r1
  exact call_int_bool ⟨.int (if k then 1 else 0),H,I.tok _,⟨_,rfl⟩,q⟩
end
structure yh8(h:Heap)(x dx C:Addr)(mA:Str->Option Value):Prop where
 obj:h.get? x=some (PySem.W.instObj C dx)
 ns:h.Ns1 dx mA
 ne:dx≠x
variable{dx:Addr}{mA:Str->Option Value}
theorem yt8(n:h.Ns1 dx mA):∃ od,h.get? dx=some od/\∀ name,PySem.W.lookIn name od=some (mA name):=by
 obtain⟨o,es,ep,ho,hd,hk,_,hm⟩:=n
 refine⟨o,ho,fun name=>?_⟩
 have e:=hm name
 unfold nsFind findBy at e
 rw[<-Array.find?_toList] at e
 unfold PySem.W.lookIn
 rw[hd]
 dsimp only
 split
 ·rename_i y q
  rw[q] at e
  exact congrArg some e
 ·rename_i q
  rw[q] at e
  have a:es.toList.any (·.refKey)=false:=by
   rw[any_eq_false]
   intro y hy
   obtain⟨z,t,hkey⟩:=hk y (Array.mem_toList_iff.mp hy)
   simp[DictEntry.refKey,hkey]
  have a':¬es.toList.any (·.refKey)=true:=by rw[a];exact Bool.false_ne_true
  rw[if_neg a']
  exact congrArg some e
variable{C:Addr}
theorem yh8.look{x:Addr}(I:yh8 h x dx C mA):∃ od,PySem.W.InstAt h x (PySem.W.instObj C dx) C (some od)/\∀ name,PySem.W.lookIn name od=some (mA name) :=
 let ⟨od,ho,hl⟩:=yt8 I.ns
 ⟨od,⟨I.obj,rfl,rfl,ho⟩,hl⟩
variable{name:Str}{prog:Program}{pl:Sem Bool}{kw:List (Str×Value)}
section
variable{x f:Addr}{v:Value}
theorem zj1{expr:Bool}(X:K.In s.heap)(I:yh8 s.heap x dx C mA)(hg:PySem.W.plainGet K C name=true)(hh:PySem.W.hasDictIn K C=true)(ha:PySem.W.findIn K (.ref C) name=some none)(hv:mA name=some v)(hv':PySem.W.handedIn v=true)(h:Q v {s with toks:=s.toks+1}) :
 wpAny #[35] A (getAttr (.ref x) name expr) Q E s:=by
 obtain⟨od,J,hl⟩:=I.look
 exact PySem.W.get_value X J (PySem.W.plainGet_of hg).1 (PySem.W.findObj_own hh ha rfl (by rw[hl,hv])) hv' h
theorem yz5{Q:Value×List Value->Shared->Prop}(X:K.In s.heap)(I:yh8 s.heap x dx C mA)(hg:PySem.W.plainGet K C name=true)(hf:PySem.W.findIn K (.ref C) name=some #[5,f])(ht:PySem.W.isFn K (.ref f)=true)(hv:mA name=none)(h:Q (.ref f,[.ref x]) s) :
 wpAny #[35] A (getMethod (.ref x) name pl) Q E s:=by
 obtain⟨od,J,hl⟩:=I.look
 exact PySem.W.method_fn X J (PySem.W.plainGet_of hg).1 (PySem.W.plainGet_of hg).2 hf (beq_iff_eq.mp ht) (by show(PySem.W.lookIn name od).map (·.isSome)=some false;rw[hl,hv];rfl) h
theorem zj2{ns:List Str}{Q:Unit->Shared->Prop}(X:K.In s.heap)(I:yh8 s.heap x dx C mA)(hs:PySem.W.findIn K (.ref C) "__setattr__"=some #[89])(hp:PySem.W.plainOver K C=true)(ht:PySem.W.takerIn K C name=some none)(hh:PySem.W.hasDictIn K C=true)(hw:PySem.Within mA ns)(hsz:ns.length<=sizeLine)(h:∀ h',yh8 h' x dx C (fun y=>if y=name then some v else mA y)->Heap.SameBut dx s.heap h'->Q () {s with heap:=h',toks:=s.toks+2}) :
 wpAny #[35] A (setAttr (.ref x) name v) Q E s:=by
 obtain⟨od,J,hl⟩:=I.look
 refine PySem.W.set_plain X J hs (PySem.W.osa_open (s:={s with toks:=s.toks+1}) (r:=none) X J hp ht fun b=>?_)
 obtain⟨cd,hc,hd'⟩:=PySem.W.any_some hh
 have hx:s.heap.get? x=some ⟨.ref C,some dx,.plain,#[]⟩:=I.obj
 refine wpAny_bind (wpAny_pure (wpAny_bind (wpAny_bind (wpAny_loadPart hx (wpAny_bind (PySem.W.Looks.here (s:={s with toks:=s.toks+1}) (PySem.W.looks_clsIn X hc) ?_))))))
 rw[hd']
 refine wpAny_pure (a:=some dx) (wpAny_bind (wpAny_pure (wpAny_bind ?_)))
 refine wpAny_nsSet1 (s:={s with toks:=s.toks+1}) I.ns fun h' hn2 hs2=>?_
 obtain⟨oD,esD,epD,hoD,hdD,hcD⟩:=hn2.count (PySem.Within.cons name v hw)
 refine wpAny_bind (wpAny_lookBehind hoD (by rw[hdD];exact pastItsLine_dict (Nat.le_trans hcD (by rw[length_cons];omega))) ?_)
 exact wpAny_pure (h _ ⟨(hs2.2 _ (Ne.symm I.ne)).trans I.obj,hn2,I.ne⟩ hs2)
theorem yz6{R:Result->Shared->Prop}{vs:List Value}(X:K.In s.heap)(hm:PySem.W.makesIn K C=true)(hi:PySem.W.findIn K (.ref C) "__init__"=some #[5,f])(hf:PySem.W.typeIn K (.ref f)=some (.type "function")) (h:codeAny #[35] (A.under (.builtin "type.__call__" ⟨.ref C::vs,kw⟩)) (.call (.ref f) ⟨.ref #[44]::vs,kw⟩) (PySem.W.InitBack #[44] R)
  {s with heap:=#[119].push (PySem.W.instObj C s.heap.objs.size)}) :
 codeAny #[35] A (.call (.ref C) ⟨vs,kw⟩) R s:=by
 obtain⟨hh,g,d,t,os⟩:=s
 exact PySem.W.make_core (PySem.W.makes_of X hm) (PySem.W.looks_findIn X hi) (fun self=>PySem.W.bind_fn X self hf) (.inl rfl) h
end
def qm8(f:Str)(v:V):List (Str×V)->List (Str×V)
 | []=>[(f,v)]
 | (g,x)::r=>if g=f then(g,v)::r else(g,x)::qm8 f v r
theorem xb7(f g:Str)(v:V):∀ fs:List (Str×V),(qm8 f v fs).lookup g=if g=f then some v else fs.lookup g
 | []=>by
   show List.lookup g [(f,v)]=_
   by_cases h:g=f
   ·have hb:(g == f)=true:=beq_iff_eq.mpr h
    simp only[List.lookup,hb,if_pos h]
   ·have hb:(g == f)=false:=beq_eq_false_iff_ne.mpr h
    simp only[List.lookup,hb,if_neg h]
 | (k,x)::r=>by
   have ih:=xb7 f g v r
   rw[show qm8 f v ((k,x)::r)=(if k=f then(k,v)::r else(k,x)::qm8 f v r) from rfl]
   by_cases hk:k=f
   ·rw[if_pos hk]
    by_cases h:g=k
    ·have hb:(g == k)=true:=beq_iff_eq.mpr h
     simp only[List.lookup,hb,if_pos (h.trans hk)]
    ·have hb:(g == k)=false:=beq_eq_false_iff_ne.mpr h
     simp only[List.lookup,hb,if_neg (fun e:g=f=>h (e.trans hk.symm))]
   ·rw[if_neg hk]
    by_cases h:g=k
    ·have hb:(g == k)=true:=beq_iff_eq.mpr h
     simp only[List.lookup,hb,if_neg (fun e:g=f=>hk (h.symm.trans e))]
    ·have hb:(g == k)=false:=beq_eq_false_iff_ne.mpr h
     simp only[List.lookup,hb]
     exact ih
theorem ww9(f:Str)(v:V):∀ fs:List (Str×V),f∈(qm8 f v fs).map (·.1)/\∀ g,g∈fs.map (·.1)->g∈(qm8 f v fs).map (·.1)
 | []=>⟨by simp[qm8],fun g h=>by simp at h⟩
 | (k,x)::r=>by
   obtain⟨i1,i2⟩:=ww9 f v r
   rw[show qm8 f v ((k,x)::r)=(if k=f then(k,v)::r else(k,x)::qm8 f v r) from rfl]
   by_cases hk:k=f
   ·rw[if_pos hk]
    subst hk
    exact⟨by simp,fun g h=>by simpa using h⟩
   ·rw[if_neg hk]
    refine⟨?_,fun g h=>?_⟩
    ·rw[map_cons]
     exact mem_cons_of_mem _ i1
    ·rw[map_cons] at h ⊢
     rcases mem_cons.mp h with e|e
     ·exact mem_cons.mpr (.inl e)
     ·exact mem_cons_of_mem _ (i2 g e)
theorem xb8(f:Str)(v:V):∀ fs:List (Str×V),(qm8 f v fs).length<=fs.length+1
 | []=>by simp[qm8]
 | (k,x)::r=>by
   have ih:=xb8 f v r
   rw[show qm8 f v ((k,x)::r)=(if k=f then(k,v)::r else(k,x)::qm8 f v r) from rfl]
   by_cases hk:k=f
   ·rw[if_pos hk,length_cons,length_cons];omega
   ·rw[if_neg hk,length_cons,length_cons];omega
theorem ws3.some_of{o:Option Value}(r:ws3 (some v) o):∃ u,o=some u/\L1 v u:=by
 cases o with
 | none=>exact(show False from r).elim
 | some u=>exact⟨u,rfl,r⟩
theorem ws3.none_of{o:Option Value}(r:ws3 none o):o=none:=by
 cases o with
 | none=>rfl
 | some u=>exact(show False from r).elim
theorem yt9(r:L1 v u):PySem.W.handedIn u=true:=by
 cases v with
 | non=>cases (show u=Value.none from r);rfl
 | bl b=>cases (show u=Value.bool b from r);rfl
 | int i=>obtain⟨t,e⟩:=(show ∃ t,u=Value.int i t from r);cases e;rfl
 | str x=>obtain⟨t,e⟩:=(show ∃ t,u=Value.str x t from r);cases e;rfl
 | byt b=>obtain⟨t,e⟩:=(show ∃ t,u=Value.bytes b t from r);cases e;rfl
 | flt b=>obtain⟨t,e⟩:=(show ∃ t,u=Value.float b t from r);cases e;rfl
 | ref a=>cases (show u=Value.ref a from r);rfl
 | ty n=>cases (show u=Value.type n from r);rfl
section
variable{fs fs':List (Str×V)}
theorem xe8(hok:HOk P w H h)(e:H a=some (.ins C dx fs)):∃ mA,yh8 h a dx C mA/\(∀ f,ws3 (fs.lookup f) (mA f))/\PySem.Within mA (fs.map (·.1))/\fs.length<=1000/\H dx=some (.own a):=by
 obtain⟨d,z,ne,ob,mA,n,r,q⟩:=(show W4 P w H h a (.ins C dx fs) from hok a _ e)
 exact⟨mA,⟨ob,n,ne⟩,r,q,z,d⟩
end
structure Cls(K:Fg)(C:Addr):Prop where
 pg:PySem.W.plainGet K C Str.empty=true
 hd:PySem.W.hasDictIn K C=true
 po:PySem.W.plainOver K C=true
 sa:PySem.W.findIn K (.ref C) "__setattr__"=some #[89]
theorem Cls.get(c:Cls K C)(f:Str):PySem.W.plainGet K C f=true:=c.pg
def wg9(K:Fg)(C:Addr)(f:Str):Prop:=PySem.W.findIn K (.ref C) f=some none
theorem wg9.taker{f:Str}(n:wg9 K C f):PySem.W.takerIn K C f=some none:=by
 unfold PySem.W.takerIn
 rw[show PySem.W.findIn K (.ref C) f=some none from n]
 rfl
structure wb8(K:Fg)(C:Addr)(m:Str)(f:Addr):Prop where
 at_:PySem.W.findIn K (.ref C) m=some #[5,f]
 fn:PySem.W.isFn K (.ref f)=true
 kp:PySem.W.keepIn K (.ref f)=true
variable{m:Str}{env:Env}
section
variable{fs:List (Str×V)}{f:Str}
theorem yh9{b:Bool}(I:Inv X pins σ H s)(e:H a=some (.ins C dx fs))(c:Cls X.K C)(n:wg9 X.K C f)(l:fs.lookup f=some v)(h:∀ u s',Inv X pins σ H s'->L1 v u->Q u s'):wpAny #[9] A (getAttr (.ref a) f b) Q E s:=by
 obtain⟨mA,O,r,_,_,_⟩:=xe8 I.hok e
 obtain⟨u,hu,ru⟩:=ws3.some_of (v:=v) (o:=mA f) (by rw[<-l];exact r f)
 exact zj1 I.kIn O (c.get f) c.hd n hu (yt9 ru) (h u _ (I.tok _) ru)
theorem xg2{g:Addr}{Q:Value×List Value->Shared->Prop}(I:Inv X pins σ H s)(e:H a=some (.ins C dx fs))(c:Cls X.K C)(k:wb8 X.K C m g)(l:fs.lookup m=none)(h:Q (.ref g,[.ref a]) s):wpAny #[9] A (getMethod (.ref a) m pl) Q E s:=by
 obtain⟨mA,O,r,_,_,_⟩:=xe8 I.hok e
 have hn:mA m=none:=ws3.none_of (by rw[<-l];exact r m)
 exact yz5 I.kIn O (c.get m) k.at_ k.fn hn h
theorem yi0{Q:Unit->Shared->Prop}(I:Inv X pins σ H s)(e:H a=some (.ins C dx fs))(c:Cls X.K C)(n:wg9 X.K C f)(hl:fs.length<1000)(ry:L1 y u)(h:∀ s',Inv X pins σ (upd H a (.ins C dx (qm8 f y fs))) s'->Q () s'):wpAny #[9] A (setAttr (.ref a) f u) Q E s:=by
 obtain⟨mA,O,r,wi,_,ho⟩:=xe8 I.hok e
 have hz:(fs.map (·.1)).length<=sizeLine:=by rw[length_map,sizeLine_eq];omega
 refine zj2 I.kIn O c.sa c.po n.taker c.hd wi hz fun h' O' sb=>h _ ?_
 have hd:∃ o,h'.get? dx=some o:=let ⟨o,_,_,e',_⟩:=O'.ns;⟨o,e'⟩
 refine I.write (x:=a) (e:=dx) (by rw[e];exact True.intro) (.inr ho) (fun b q hb z=>(sb.2 b hb).trans z) hd ?_
 refine⟨by rw[B8 O.ne];exact ho,?_,O.ne,O'.obj,_,O'.ns,fun g=>?_,fun g hg=>?_⟩
 ·have:=xb8 f y fs;omega
 ·show ws3 ((qm8 f y fs).lookup g) (if g=f then some u else mA g)
  rw[xb7]
  by_cases q:g=f
  ·rw[if_pos q,if_pos q];exact ry
  ·rw[if_neg q,if_neg q];exact r g
 ·by_cases q:g=f
  ·rw[q];exact(ww9 f y fs).1
  ·refine(ww9 f y fs).2 g (wi g fun z=>hg ?_)
   show(if g=f then some u else mA g)=none
   rw[if_neg q];exact z
theorem Inv.made(I:Inv X pins σ H s):Inv X pins σ (upd (upd H s.heap.objs.size (.own #[44])) #[44] (.ins C s.heap.objs.size []))
 {s with heap:=#[119].push (PySem.W.instObj C s.heap.objs.size)}:=by
 have e1:#[119].get? s.heap.objs.size=some PySem.W.emptyDict:=Heap.get?_push_size s.heap rfl
 have e2:(#[119].push (PySem.W.instObj C s.heap.objs.size)).get? #[44]=some (PySem.W.instObj C s.heap.objs.size):=by
  have:=Heap.get?_push_size #[119] (o:=PySem.W.instObj C s.heap.objs.size) rfl
  rwa [Heap.size_push] at this
 have e3:#[119].Ns s.heap.objs.size (fun _=>none):=⟨PySem.W.emptyDict,#[],_,e1,rfl,(fun e he=>absurd he (by simp)),fun _=>rfl⟩
 have I1:=I.laid (a:=s.heap.objs.size) (o:=.own #[44]) (h':=s.heap.push PySem.W.emptyDict) (t':=s.toks) (fun b u q=>Heap.get?_push_of_some _ q) #[6] ⟨_,e1⟩
 refine I1.laid (a:=s.heap.objs.size+1) (o:=.ins C s.heap.objs.size []) (t':=s.toks) (fun b u q=>Heap.get?_push_of_some _ q) (Nat.le_of_eq (Heap.size_push _ _)) ?_
 have ne:s.heap.objs.size≠s.heap.objs.size+1:=Nat.ne_of_lt (Nat.lt_succ_self _)
 refine⟨by rw[B8 ne,A6],Nat.zero_le _,ne,e2,fun _=>none,(Heap.Ns1.of_empty e3).at fun o q=>Heap.get?_push_of_some _ q,fun _=>True.intro,fun y hy=>absurd rfl hy⟩
theorem zj3{f:Str}(hb:attributeBase e f env (eval e env)=eval e env)(h:wpAny #[35] A (eval e env) (fun o s₁=>wpAny #[35] A (getAttr o f true) Q E s₁) E s):wpAny #[35] A (eval (.Attribute e f pos) env) Q E s :=
 Attribute_any_ h (by rw[arm_eval_Attribute,hb])
end
def T6(K:Fg)(ta:TE)(f:Str):TE:=fun σ H Q=>ta σ H fun x H1=>∃ a C dx fs v,x=.ref a/\H1 a=some (.ins C dx fs)/\Cls K C/\wg9 K C f/\fs.lookup f=some v/\Q v H1
def wh0(K:Fg)(ta tv:TE)(f:Str):TS:=fun D σ H=>tv σ H fun y H1=>ta σ H1 fun x H2=>∃ a C dx fs,x=.ref a/\H2 a=some (.ins C dx fs)/\Cls K C/\wg9 K C f/\fs.length<1000 /\
 D.nx σ (upd H2 a (.ins C dx (qm8 f y fs)))
variable{tpos:Pos}{tv:TE}
section
variable{o value:Expr}{f:Str}
theorem G8(he:PE X e ta)(hb:attributeBase e f X.env (eval e X.env)=eval e X.env):PE X (.Attribute e f pos) (T6 X.K ta f):=by
 walk_at"25"
 refine zj3 hb (thn (he pins s σ H _ I h) fun u s1 zq=>?_)
 obtain⟨x,H1,I1,rx,a,C,dx,fs,v,ex,ea,c,n,l,q⟩:=zq
 subst ex
 obtain rfl:u=Value.ref a:=rx
 exact yh9 I1 ea c n l fun u' s2 I2 ru=>⟨v,H1,I2,ru,q⟩
theorem qw7(ha:PE X o ta)(hv:PE X value tv)(hs:swapsWith value (some (.Attribute o f pos')) pos.line X.env=pure false):PS X (.Assign [.Attribute o f pos'] value pos) (wh0 X.K ta tv f):=by
 intro pins s σ H D I h
 refine plainObj_wpAny_Assign_Attribute (thn (hv pins s σ H _ I h) fun u s1 ⟨y,H1,I1,ry,q⟩=>thn (ha pins s1 σ H1 _ I1 q) fun ov s2 zq=>?_) hs
 obtain⟨x,H2,I2,rx,a,C,dx,fs,ex,ea,c,n,l,q2⟩:=zq
 subst ex
 obtain rfl:ov=Value.ref a:=rx
 exact yi0 I2 ea c n l ry fun s3 I3=>⟨σ,_,I3,q2⟩
end
section
variable{c:Value}{b:Bool}
inductive ws5(K:Fg)(H:Hp):V->Value->Prop where
 | non:ws5 K H .non (.type "NoneType")
 | bl (x:Bool):ws5 K H (.bl x) (.type "bool")
 | int (i:Int):ws5 K H (.int i) (.type "int")
 | str (x:Str):ws5 K H (.str x) (.type "str")
 | flt (x:UInt64):ws5 K H (.flt x) (.type "float")
 | lst {a:Addr} {xs:List V} (e:H a=some (.lst xs)):ws5 K H (.ref a) (.type "list")
 | frz {a:Addr} {o:Obj} {xs:List V} (e:H a=some (.frz o (.lst xs))):ws5 K H (.ref a) (.type "list")
 | tup {a:Addr} {xs:List V} (e:H a=some (.tup xs)):ws5 K H (.ref a) (.type "tuple")
 | dK {a:Addr} {kvs:List (Key×V)} (e:H a=some (.dK kvs)):ws5 K H (.ref a) (.type "dict")
 | dT {a:Addr} {kvs:List (List Key×V)} (e:H a=some (.dT kvs)):ws5 K H (.ref a) (.type "dict")
 | ins {a C dx:Addr} {fs:List (Str×V)} (e:H a=some (.ins C dx fs)) (cl:Cls K C) (ha:PySem.W.findIn K (.ref C) "__class__"=some (some (.builtin "object.__class__")))
  (hn:PySem.W.specialIn K (.builtin "object.__class__") "__get__"=some (some (.builtin "getset_descriptor.__get__"))) (htk:PySem.W.takesIn K (.builtin "object.__class__")=some true)
  (hm:PySem.W.mroIn K C (.type "object")=some true):ws5 K H (.ref a) (.ref C)
theorem yu0{x:V}{t:Value}(I:Inv X pins σ H s)(rx:L1 x u)(ty:ws5 X.K H x t)(e:PySem.W.kitOne X.K t c=some b)(h:∀ tk,Q (.bool b) {s with toks:=tk}) :
 wpAny #[9] A (call (.builtin "isinstance") [u,c]) Q E s:=by
 cases ty with
 | non=>cases (show u=Value.none from rx);exact PySem.W.kia_one PySem.W.kitx_none I.kIn True.intro e (fun z=>nomatch z) h
 | bl y=>cases (show u=Value.bool y from rx);exact PySem.W.kia_one PySem.W.kitx_bool I.kIn True.intro e (fun z=>nomatch z) h
 | int i=>obtain⟨t,q⟩:=(show ∃ t,u=Value.int i t from rx);cases q;exact PySem.W.kia_one PySem.W.kitx_int I.kIn True.intro e (fun z=>nomatch z) h
 | str y=>obtain⟨t,q⟩:=(show ∃ t,u=Value.str y t from rx);cases q;exact PySem.W.kia_one PySem.W.kitx_str I.kIn True.intro e (fun z=>nomatch z) h
 | flt y=>obtain⟨t,q⟩:=(show ∃ t,u=Value.float y t from rx);cases q;exact PySem.W.kia_one PySem.W.kitx_float I.kIn True.intro e (fun z=>nomatch z) h
 | @lst a xs ea =>
   cases (show u=Value.ref a from rx)
   obtain⟨_,_,n,_,h1⟩:=(show W4 X.prog X.w H s.heap a (.lst xs) from I.hok a _ ea)
   exact PySem.W.kia_one PySem.W.kitx_list I.kIn ⟨_,h1,rfl⟩ e (fun z=>nomatch z) h
 | @frz a ob xs ea =>
   cases (show u=Value.ref a from rx)
   obtain⟨_,_,_,n,_,h1⟩:=(show W4 X.prog X.w H s.heap a (.frz ob (.lst xs)) from I.hok a _ ea)
   exact PySem.W.kia_one PySem.W.kitx_list I.kIn ⟨_,h1,rfl⟩ e (fun z=>nomatch z) h
 | @tup a xs ea =>
   cases (show u=Value.ref a from rx)
   obtain⟨_,_,_,p⟩:=(show W4 X.prog X.w H s.heap a (.tup xs) from I.hok a _ ea)
   obtain⟨o,h1,h2,_⟩:=p
   exact PySem.W.kia_one PySem.W.kitx_tuple I.kIn ⟨o,h1,h2⟩ e (fun z=>nomatch z) h
 | @dK a kvs ea =>
   cases (show u=Value.ref a from rx)
   obtain⟨_,_,vs,_,p⟩:=(show W4 X.prog X.w H s.heap a (.dK kvs) from I.hok a _ ea)
   obtain⟨o,es,ep,h1,h2,_⟩:=p
   exact PySem.W.kia_one PySem.W.kitx_dict I.kIn ⟨o,h1,h2.1⟩ e (fun z=>nomatch z) h
 | @dT a kvs ea =>
   cases (show u=Value.ref a from rx)
   obtain⟨_,_,xs,_,o,es,ep,h1,h2,_⟩:=(show W4 X.prog X.w H s.heap a (.dT kvs) from I.hok a _ ea)
   exact PySem.W.kia_one PySem.W.kitx_dict I.kIn ⟨o,h1,h2.1⟩ e (fun z=>nomatch z) h
 | @ins a C dx fs ea cl ha hn htk hm =>
   cases (show u=Value.ref a from rx)
   obtain⟨mA,O,_⟩:=xe8 I.hok ea
   obtain⟨od,J,_⟩:=O.look
   exact PySem.W.kia_one (PySem.W.kitx_own (cl.get _) cl.hd ha hn htk hm) I.kIn J e (fun z=>nomatch z) h
end
structure qk4(k:Nat)(A:Around):Prop where
 hd:A.handled=none
 dp:A.depth+3*k+5<recursionLimit
 un:A.units+16*k+200<cLine
 gd:A.guards=some []
theorem qk4.mono{j:Nat}(r:qk4 k A)(h:j<=k):qk4 j A:=⟨r.hd,by have:=r.dp;omega,by have:=r.un;omega,r.gd⟩
theorem qk4.deeper(r:qk4 (k+1) A)(env:Env):qk4 k (A.deeper env) :=
 ⟨r.hd,by have:=r.dp;show A.depth+1+3*k+5<_;omega,by have:=r.un;show A.units+3+16*k+200<_;omega,r.gd⟩
theorem yi1:#[66].depth=A.depth+1:=by
 first|rfl|simp[Around.under,Code.weight,Code.isCreation,Code.isGuard,Code.isCaller,Code.frames,Code.isFrame,guardIds]
theorem yi2:#[66].units=A.units+1:=by
 first|rfl|simp[Around.under,Code.cUnits,Code.frames,Code.isFrame]
theorem yb0:#[66].guards=pushGuards [] A.guards:=by
 first|rfl|simp[Around.under,Code.guards,Code.isGuard,guardIds]
theorem qk4.make(r:qk4 (k+1) A)(C:Addr)(us:List Value)(kw:List (Str×Value)):qk4 k #[66] :=
 ⟨r.hd,by have:=r.dp;rw[yi1];omega,by have:=r.un;rw[yi2];omega,by rw[yb0,r.gd];rfl⟩
theorem qk4.depth(r:qk4 k A):A.depth<recursionLimit:=by have:=r.dp;omega
theorem qk4.units(r:qk4 k A):A.units+64<cLine:=by have:=r.un;omega
def A9:TA:=fun _ H Q=>Q [] H
def A1(ta:TE)(tr:TA):TA:=fun σ H Q=>ta σ H fun x H1=>tr σ H1 fun xs H2=>Q (x::xs) H2
variable{t:TA}
theorem A3:PA X [] A9:=fun _ _ _ _ H Q I h=>Calls.spliced_nil ⟨[],H,I,.nil,h⟩
theorem A0(ha:PE X e te)(hr:PA X es t)(hs:autoParam #[19] zAr):PA X (e::es) (A1 te t):=by
 intro pos pins s σ H Q I h
 rw[hs]
 show wpAny _ _ (spliced ((false,eval e X.env)::backTo pos (starEach es X.env))) _ _ s
 refine Calls.spliced_cons (thn #[115] fun u s1 zq=>?_)
 obtain⟨x,H1,I1,r1,q1⟩:=zq
 exact thn (hr pos pins s1 σ H1 _ I1 q1) fun us s2 ⟨xs,H2,I2,r2,q2⟩=>⟨x::xs,H2,I2,.cons r1 r2,q2⟩
def T7(t:TA):TE:=fun σ H Q=>t σ H fun xs H1=>xs.length<=sizeLine/\∀ p,H1 p=none->Q (.ref p) (upd H1 p (.tup xs))
def W1(t:TA):TE:=fun σ H Q=>t σ H fun xs H1=>xs.length<=sizeLine/\∀ p,H1 p=none->Q (.ref p) (upd H1 p (.lst xs))
theorem G1{x1}(h:PA X es t):PE X (.Tuple es x1 pos) (T7 t):=by
 intro pins s σ H Q I hq
 refine wpAny_Tuple_spliced (thn (h pos pins s σ H _ I hq) fun us s1 ⟨xs,H1,I1,r,z,q⟩=>⟨by rw[<-r.length];exact z,?_⟩)
 have hf:H1 s1.heap.objs.size=none:=I1.hok.fresh #[6]
 refine⟨.ref s1.heap.objs.size,upd H1 s1.heap.objs.size (.tup xs),I1.laid (t':=s1.toks) (fun b u e=>Heap.get?_push_of_some _ e) #[6] ?_,rfl,q _ hf⟩
 exact⟨z,us,r,⟨_,Heap.get?_push_size _ rfl,rfl,_,rfl⟩⟩
theorem L8(h:PA X es t):PE X (.List es pos) (W1 t):=by
 intro pins s σ H Q I hq
 refine wpAny_List_spliced (thn (h pos pins s σ H _ I hq) fun us s1 ⟨xs,H1,I1,r,z,q⟩=>⟨by rw[<-r.length];exact z,?_⟩)
 have hf:H1 s1.heap.objs.size=none:=I1.hok.fresh #[6]
 refine⟨.ref s1.heap.objs.size,upd H1 s1.heap.objs.size (.lst xs),I1.laid (t':=s1.toks) (fun b u e=>Heap.get?_push_of_some _ e) #[6] ?_,rfl,q _ hf⟩
 exact⟨z,us,0,r,Heap.get?_push_size _ rfl⟩
abbrev Sp:=List V->Hp->VK->XK->Prop
abbrev CXT:=List Env->Hp->Shared->XK->Value->Shared->Prop
structure yi3(P:Program)(w:World)(K:Fg)(mg:Str->Option Value)(base:Heap)(A:Around)(outer:List Env)(s:Shared)(H:Hp):Prop where
 frames:A.frames=some outer
 mod:Mod K mg base
 bs:∀ b o,base.get? b=some o->s.heap.get? b=some o/\H b=none
 bsz:base.objs.size<=s.heap.objs.size
 funs:s.heap.FunFrames base outer
 frf:∀ b∈frs outer,H b=none
 hok:HOk P w H s.heap
 bare:AllBare s.gens
 tk:0<s.toks
def CE(outer:List Env)(P:Program)(w:World)(H:Hp)(s:Shared)(Q:VK)(u:Value)(s':Shared):Prop :=
 ∃ v H',0<s'.toks/\s'.os=s.os/\AllBare s'.gens/\Un (frs outer) [] H H' s.heap s'.heap/\HOk P w H' s'.heap/\L1 v u/\Q v H'
def CR(CX:CXT)(outer:List Env)(P:Program)(w:World)(H:Hp)(s:Shared)(Q:VK)(E:XK)(r:Result)(s':Shared):Prop :=
 match r with
 | .ok (.ret u)=>CE outer P w H s Q u s'
 | .ok _=>False
 | .error e=>CX outer H s E e s'
structure J7(P:Program)(w:World)(K:Fg)(mg:Str->Option Value)(base:Heap)(CX:CXT)(k:Nat)(f:Addr)(fd:FuncData)(ps:List Str)(sp:Sp):Prop where
 len:∀ vs H Q E,sp vs H Q E->vs.length=ps.length
 run:∀ (A:Around) (outer:List Env) (s:Shared) (H:Hp) (args:Args) (us:List Value) (vs:List V) (Q:VK) (E:XK),qk4 k A->yi3 P w K mg base A outer s H->BindsTo s fd args (ps.zip us)->G5 vs us->sp vs H Q E ->
  codeAny (model P w) A (.call (.ref f) args) (CR CX outer P w H s Q E) s
variable{base:Heap}{mg:Str->Option Value}{outer:List Env}
theorem yi3.make(e:yi3 P w K mg base A outer s H)(C:Addr)(us:List Value)(kw:List (Str×Value)) :
 yi3 P w K mg base #[66] outer s H:=⟨by first|exact e.frames|(simpa [Around.under,Code.envs,Code.isFrame,pushEnvs] using e.frames),e.mod,e.bs,e.bsz,e.funs,e.frf,e.hok,e.bare,e.tk⟩
section
variable{s':Shared}
theorem Inv.env0(I:Inv X pins σ H s):yi3 X.prog X.w X.K X.mg X.base X.A X.stack s H :=
 ⟨I.ok.frames,I.ok.mod,I.bs,Nat.le_trans I.ok.bsz I.sz,I.stack,I.stkFree,I.hok,I.bare,I.tk⟩
theorem Inv.after{Q:VK}(I:Inv X pins σ H s)(h:CE X.stack X.prog X.w H s Q u s'):EP X pins σ Q u s':=by
 obtain⟨v,H',ht,os,bare,un,hok,r,q⟩:=h
 obtain⟨hh,g,d,t,os'⟩:=s'
 obtain rfl:os'=s.os:=os
 exact⟨v,H',I.call (h':=hh) (g':=g) (d':=d) (t':=t) (ch:=[]) un hok bare (fun b z=>absurd z (by simp)) ht,r,q⟩
end
def D8(sp:Sp)(dvs:List V)(E:XK)(t:TA):TE:=fun σ H Q=>t σ H fun vs H1=>sp (vs++dvs) H1 Q E
def O1(C:Addr)(m:Str)(sp:Sp)(dvs:List V)(E:XK)(ta:TE)(t:TA):TE:=fun σ H Q=>ta σ H fun x H1=>∃ a dx fs,x=.ref a/\H1 a=some (.ins C dx fs)/\fs.lookup m=none /\
 t σ H1 fun vs H2=>sp (x::(vs++dvs)) H2 Q E
def yb1(C:Addr)(sp:Sp)(dvs:List V)(E:XK)(t:TA):TE:=fun σ H Q=>t σ H fun vs H1=>∀ x dx,H1 x=none->H1 dx=none->dx≠x ->
 sp (.ref x::(vs++dvs)) (upd (upd H1 dx (.own x)) x (.ins C dx [])) (fun v H2=>v=.non/\Q (.ref x) H2) E
def U7(K:Fg)(fd:FuncData)(ps:List Str)(ds:List Value):Prop :=
 ∀ (s:Shared) (us:List Value),K.In s.heap->(us++ds).length=ps.length->BindsTo s fd ⟨us,[]⟩ (ps.zip (us++ds))
variable{fd:FuncData}{ps:List Str}
theorem U7.all(h:∀ us:List Value,us.length=ps.length->bindArgs fd ⟨us,[]⟩=pure (ps.zip us)):U7 K fd ps []:=fun s us _ hl=>by
 rw[append_nil] at hl ⊢
 exact .of_eq (h us hl)
def wh1(CX:CXT)(X:Cx)(E:XK):Prop:=∀ (pins:List (Addr×Obj)) (σ:St) (H:Hp) (s:Shared) (e:Value) (s':Shared),Inv X pins σ H s->CX X.stack H s E e s'->X.xe e s'
variable{CX:CXT}{apos:Pos}{dvs vs:List V}{sp:Sp}
section
variable{f:Addr}{ds:List Value}{E:XK}{p:Pos}{o:Expr}
theorem yi4{Q:VK}(F:J7 X.prog X.w X.K X.mg X.base CX k f fd ps sp)(hr:qk4 k X.A)(hb:U7 X.K fd ps ds)(hd:G5 dvs ds)(hx:wh1 CX X E)(I:Inv X pins σ H s)(r:G5 vs us)(h:sp (vs++dvs) H Q E):wpAny #[9] X.A (call (.ref f) us) (EP X pins σ Q) X.xe s:=by
 have r2:G5 (vs++dvs) (us++ds):=r.append hd
 have hl:(us++ds).length=ps.length:=by rw[<-r2.length];exact F.len _ _ _ _ h
 refine wpAny_call (codeAny_mono (F.run X.A X.stack s H ⟨us,[]⟩ (us++ds) (vs++dvs) Q E hr I.env0 (hb s us I.kIn hl) r2 h) fun r s' hq=>?_)
 cases r with
 | error e=>exact hx pins σ H s e s' I hq
 | ok fl =>
   cases fl with
   | ret u=>exact I.after hq
   | next=>exact False.elim hq
   | brk=>exact False.elim hq
   | cont=>exact False.elim hq
theorem zj4(F:J7 X.prog X.w X.K X.mg X.base CX k f fd ps sp)(hr:qk4 k X.A)(hg:Gl X x)(hm:X.mg x=some (.ref f))(hk:PySem.W.keepIn X.K (.ref f)=true)(hb:U7 X.K fd ps ds)(hd:G5 dvs ds)(hx:wh1 CX X E)(ha:PA X (e::es) t)(hdb:autoParam #[43] zAd)(he:autoParam #[19] zAr)(hpl:autoParam #[50,pos] zAr) :
 PE X (.Call (.Name x p) (e::es) [] pos) (D8 sp dvs E t):=by
 walk_at"25"
 refine wpAny_Call_Name_kw (xu6 I hg hm ?_ hdb)
 refine PySem.W.callWith_K (h₀:=X.base) I.ok.mod.kin hk (thn (ha pos pins s σ H _ I h) fun us s1 ⟨vs,H1,I1,r,q⟩=>⟨I1.kIn,?_⟩) he hpl
 exact yi4 F hr hb hd hx I1 r q
theorem O7(he:PE X o ta)(c:Cls X.K C)(hm:wb8 X.K C m f)(F:J7 X.prog X.w X.K X.mg X.base CX k f fd ps sp)(hr:qk4 k X.A)(hb:U7 X.K fd ps ds)(hd:G5 dvs ds)(hx:wh1 CX X E)(ha:PA X (e::es) t)(hst:autoParam #[19] zAr)(hpl:autoParam #[50,pos] zAr) (ht:eval (.Call (.Attribute o m apos) (e::es) [] pos) X.env=(do
  let ov<-eval o X.env
  standAt apos.atName
  let (f,first)<-holding [ov] (getMethod ov m pl)
  callWith pos f first (backTo pos (starEach (e::es) X.env)) (backToKw pos (keywordEach [] X.env))):=by rfl) :
 PE X (.Call (.Attribute o m apos) (e::es) [] pos) (O1 C m sp dvs E ta t):=by
 walk_at"25"
 refine PySem.W.methodCall_KW (pl:=pl) (thn (he pins s σ H _ I h) fun u s1 zq=>?_) ht
 obtain⟨x,H1,I1,rx,a,dx,fs,ex,ea,l,q⟩:=zq
 subst ex
 obtain rfl:u=Value.ref a:=rx
 refine xg2 I1 ea c hm l ?_
 refine PySem.W.callWith_K (first:=[.ref a]) (h₀:=X.base) I.ok.mod.kin hm.kp (thn (ha pos pins s1 σ H1 _ I1 q) fun us s2 ⟨vs,H2,I2,r,q2⟩=>⟨I2.kIn,?_⟩) hst hpl
 exact yi4 (us:=.ref a::us) (vs:=.ref a::vs) F hr hb hd hx I2 (.cons rfl r) q2
theorem T8(he:PE X o ta)(c:Cls X.K C)(hm:wb8 X.K C m f)(F:J7 X.prog X.w X.K X.mg X.base CX k f fd ps sp)(hr:qk4 k X.A)(hb:U7 X.K fd ps ds)(hd:G5 dvs ds)(hx:wh1 CX X E) (ht:eval (.Call (.Attribute o m apos) [] [] pos) X.env=(do
  let ov<-eval o X.env
  standAt apos.atName
  let (f,first)<-holding [ov] (getMethod ov m pl)
  callWith pos f first (backTo pos (starEach [] X.env)) (backToKw pos (keywordEach [] X.env))):=by rfl) :
 PE X (.Call (.Attribute o m apos) [] [] pos) (O1 C m sp dvs E ta A9):=by
 walk_at"25"
 refine PySem.W.methodCall_KW (pl:=pl) (thn (he pins s σ H _ I h) fun u s1 zq=>?_) ht
 obtain⟨x,H1,I1,rx,a,dx,fs,ex,ea,l,q⟩:=zq
 subst ex
 obtain rfl:u=Value.ref a:=rx
 refine xg2 I1 ea c hm l ?_
 exact PySem.W.callWith_K0 (first:=[.ref a]) I1.kIn hm.kp (yi4 (us:=[.ref a]) (vs:=[.ref a]) F hr hb hd hx I1 (.cons rfl .nil) q)
structure Mk(K:Fg)(C f:Addr):Prop where
 makes:PySem.W.makesIn K C=true
 init:PySem.W.findIn K (.ref C) "__init__"=some #[5,f]
 fn:PySem.W.isFn K (.ref f)=true
 kp:PySem.W.keepIn K (.ref C)=true
theorem yz7{Q:VK}(M:Mk X.K C f)(F:J7 X.prog X.w X.K X.mg X.base CX k f fd ps sp)(hr:qk4 (k+1) X.A)(hb:U7 X.K fd ps ds)(hd:G5 dvs ds)(hx:wh1 CX X E)(I:Inv X pins σ H s)(r:G5 vs us)(h:∀ x dx,H x=none->H dx=none->dx≠x->sp (.ref x::(vs++dvs)) (upd (upd H dx (.own x)) x (.ins C dx [])) (fun v H2=>v=.non/\Q (.ref x) H2) E) :
 wpAny #[9] X.A (call (.ref C) us) (EP X pins σ Q) X.xe s:=by
 have hq:=h #[44] s.heap.objs.size (I.hok.fresh (Nat.le_succ _)) (I.hok.fresh #[6]) (Nat.ne_of_lt (Nat.lt_succ_self _))
 have I2:=Inv.made (C:=C) I
 have r2:G5 (V.ref #[44]::(vs++dvs)) (Value.ref #[44]::(us++ds)):=.cons rfl (r.append hd)
 have hl:(Value.ref #[44]::us++ds).length=ps.length:=by
  have e:=r2.length
  rw[F.len _ _ _ _ hq] at e
  exact e.symm
 refine wpAny_call (yz6 (f:=f) I.kIn M.makes M.init (beq_iff_eq.mp M.fn) (codeAny_mono (F.run _ X.stack _ _ ⟨Value.ref #[44]::us,[]⟩ (Value.ref #[44]::(us++ds)) _ _ E (hr.make C us [])
  (I2.env0.make C us []) (hb _ (Value.ref #[44]::us) I2.kIn hl) r2 hq) fun r s' hq'=>?_))
 cases r with
 | error e=>exact hx pins σ _ _ e s' I2 hq'
 | ok fl =>
   cases fl with
   | ret u =>
     obtain⟨v,H',I3,rv,ev,q3⟩:=I2.after hq'
     subst ev
     exact⟨rv,⟨V.ref #[44],H',I3,rfl,q3⟩⟩
   | next=>exact False.elim hq'
   | brk=>exact False.elim hq'
   | cont=>exact False.elim hq'
theorem xv0(M:Mk X.K C f)(F:J7 X.prog X.w X.K X.mg X.base CX k f fd ps sp)(hr:qk4 (k+1) X.A)(hg:Gl X x)(hm:X.mg x=some (.ref C))(hb:U7 X.K fd ps ds)(hd:G5 dvs ds)(hx:wh1 CX X E)(ha:PA X (e::es) t)(hdb:autoParam #[43] zAd)(he:autoParam #[19] zAr)(hpl:autoParam #[50,pos] zAr) :
 PE X (.Call (.Name x p) (e::es) [] pos) (yb1 C sp dvs E t):=by
 walk_at"25"
 refine wpAny_Call_Name_kw (xu6 I hg hm ?_ hdb)
 refine PySem.W.callWith_K (h₀:=X.base) I.ok.mod.kin M.kp (thn (ha pos pins s σ H _ I h) fun us s1 ⟨vs,H1,I1,r,q⟩=>⟨I1.kIn,?_⟩) he hpl
 exact yz7 M F hr hb hd hx I1 r q
end
section
variable{f:Addr}{ks:List Str}{E:XK}{p kpos:Pos}{o:Expr}{kws:List Keyword}{tk:TA}{nm:Option Str}
variable{g:List Value->List Value->List Value}{gV:List V->List V->List V}
end
structure C3(N P:List Str)(sc:Scope):Prop where
 kind:sc.kind=.function
 co:sc.isCoroutine=false
 gen:sc.isGenerator=false
 nd:N.Nodup
 pre:N.take P.length=P
 par:∀ x∈P,sc.names.lookup x=some .local\/sc.names.lookup x=some .cell
 nofree:∀ y∈sc.names,y.2≠.free
theorem xq6{kindOf:Str->Option NameKind}{x:Str}:∀ {binds:List (Str×Value)} {m:Str->Option Value},(∀ v,(x,v)∉binds)->bindL kindOf binds m x=m x
 | [],_,_=>rfl
 | (n,v)::r,m,h=>by
   unfold bindL
   rw[xq6 fun w hw=>h w (mem_cons_of_mem _ hw)]
   split
   ·have:x≠n:=by rintro rfl;exact h v mem_cons_self
    simp[this]
   ·rfl
theorem xq7{kindOf:Str->Option NameKind}{x:Str}:∀ {binds:List (Str×Value)} {m:Str->Option Value},(∀ v,(x,v)∉binds)->bindC kindOf binds m x=m x
 | [],_,_=>rfl
 | (n,v)::r,m,h=>by
   unfold bindC
   rw[xq7 fun w hw=>h w (mem_cons_of_mem _ hw)]
   split
   ·rfl
   ·have:x≠n:=by rintro rfl;exact h v mem_cons_self
    simp[this]
theorem xq8{kindOf:Str->Option NameKind}{x:Str}{v:Value}:∀ {P:List Str} {vs:List Value} {i:Nat} {m:Str->Option Value},P.Nodup->P[i]?=some x->vs[i]?=some v->kindOf x=some .local ->
 bindL kindOf (P.zip vs) m x=some v
 | [],_,_,_,_,h,_,_=>by simp at h
 | _::_,[],_,_,_,_,h,_=>by simp at h
 | p::P,w::vs,0,m,nd,h1,h2,hk=>by
   simp at h1 h2;subst h1;subst h2
   show bindL kindOf ((p,w)::P.zip vs) m p=_
   unfold bindL
   rw[xq6 fun v hv=>(nodup_cons.mp nd).1 (of_mem_zip hv).1,if_pos hk]
   simp
 | p::P,w::vs,i+1,m,nd,h1,h2,hk=>by
   show bindL kindOf ((p,w)::P.zip vs) m x=_
   unfold bindL
   exact xq8 (i:=i) (nodup_cons.mp nd).2 (by simpa using h1) (by simpa using h2) hk
theorem xq9{kindOf:Str->Option NameKind}{x:Str}{v:Value}:∀ {P:List Str} {vs:List Value} {i:Nat} {m:Str->Option Value},P.Nodup->P[i]?=some x->vs[i]?=some v->kindOf x≠some .local ->
 bindC kindOf (P.zip vs) m x=some v
 | [],_,_,_,_,h,_,_=>by simp at h
 | _::_,[],_,_,_,_,h,_=>by simp at h
 | p::P,w::vs,0,m,nd,h1,h2,hk=>by
   simp at h1 h2;subst h1;subst h2
   show bindC kindOf ((p,w)::P.zip vs) m p=_
   unfold bindC
   rw[xq7 fun v hv=>(nodup_cons.mp nd).1 (of_mem_zip hv).1,if_neg hk]
   simp
 | p::P,w::vs,i+1,m,nd,h1,h2,hk=>by
   show bindC kindOf ((p,w)::P.zip vs) m x=_
   unfold bindC
   exact xq9 (i:=i) (nodup_cons.mp nd).2 (by simpa using h1) (by simpa using h2) hk
def E2(N:List Str)(vs:List V):St:=vs.map some++List.replicate (N.length-vs.length) none
def yu1(CX:CXT)(P:Program)(w:World)(K:Fg)(mg:Str->Option Value)(base:Heap)(N:List Str)(qual:Str)(scope:Scope)(f:Addr)(cd:Value)(A:Around)(outer:List Env)(s:Shared)(H:Hp)(E:XK):Cx where
 prog:=P
 w:=w
 K:=K
 mg:=mg
 base:=base
 A:=A.deeper #[97,cd]
 N:=N
 s₀:=s
 H₀:=H
 env:=envOfC qual scope s.heap.objs.size f cd
 outer:=outer
 stack:=envOfC qual scope s.heap.objs.size f cd::outer
 ex:=[]
 calm:=true
 fn:=fun _=>true
 pn:=[]
 xe:=fun e s'=>wpAny (model P w) (A.deeper #[97,cd]) (leaving #[97,cd] e) (fun _ s''=>CX outer H s E e s'') (fun e' s''=>CX outer H s E e' s'') s'
theorem yb2{sc:Scope}(h:sc.names.lookup x=some .cell):∃ c,(cellsFrom n sc.names []).lookup x=some c:=by
 have q:=PySem.W.cellsFrom_some sc.names n [] (.inl h)
 exact Option.isSome_iff_exists.mp q
variable{qual:Str}{scope:Scope}
theorem yu2{f:Addr}{cd:Value}{s1:Shared}{E:XK}(S:C3 N ps scope)(hd:A.handled=none)(e0:yi3 P w K mg base A outer s H)(hl:vs.length=ps.length)(r:G5 vs us)(x:InCallC s s.heap.objs.size (bindL #[97,cd].kindOf (ps.zip us) fun _=>none) (cellsFrom #[44] scope.names []) (bindC #[97,cd].kindOf (ps.zip us) fun _=>none) s1)(ht:0<s1.toks) :
 Inv #[83,cd] [] (E2 N vs) H s1:=by
 have hpl:ps.length<=N.length:=by have:=congrArg List.length S.pre;rw[length_take] at this;omega
 obtain⟨h1,tk,rfl,hk⟩:=x.done
 have noA:∀ b:Addr,b∉#[83,cd].ex:=fun b z=>absurd (show b∈([]:List Addr) from z) (by simp)
 refine⟨⟨e0.mod,S.kind,rfl,rfl,Nat.le_refl _,fun y z c h1 h2=>?_,fun y hy=>?_,fun y c _ h=>?_,fun _=>hd,Around.frames_deeper e0.frames,.inr ⟨rfl,rfl⟩,fun b z=>absurd z (noA b),e0.bs,e0.bsz,fun b _ _=>noA b,fun b z=>absurd z (noA b),e0.funs,e0.frf⟩,
  rfl,e0.bare,Un.kept hk,⟨_,x.toInCall.ns,fun i y v h1 h2 h3=>?_⟩,fun y c h=>⟨_,x.cell y c h⟩,e0.hok.fresh #[6],fun y c h=>?_,fun p hp=>absurd (show p∈([]:List (Addr×Obj)) from hp) (by simp),e0.hok.kept hk,?_,ht⟩
 ·exact name_of_addr x.apart #[116,h1] #[116,h2]
 ·have hy:scope.names.lookup y=some .cell\/scope.names.lookup y=some .free:=hy
  rcases hy with hy|hy
  ·exact yb2 hy
  ·exact absurd rfl (S.nofree _ #[116,hy])
 ·exact Nat.le_of_lt (x.above y c #[116,h])
 ·have hi:i<vs.length:=by
   unfold E2 at h2
   by_cases hi:i<vs.length
   ·exact hi
   ·rw[List.getElem?_append_right (by simpa using hi)] at h2
    rw[List.getElem?_replicate] at h2
    split at h2 <;> cases h2
  have ha:vs[i]?=some v:=by
   unfold E2 at h2
   rw[List.getElem?_append_left (by simpa using hi),List.getElem?_map] at h2
   cases e:vs[i]? with
   | none=>rw[e] at h2;cases h2
   | some a=>rw[e] at h2;cases h2;rfl
  obtain⟨u,hu,rv⟩:=r.get ha
  have hp:ps[i]?=some y:=by
   rw[<-S.pre,List.getElem?_take_of_lt #[0]];exact h1
  have ndP:ps.Nodup:=by rw[<-S.pre];exact S.nd.sublist (take_sublist _ _)
  refine⟨u,rv,?_⟩
  rcases S.par y (mem_of_getElem? hp) with k|k
  ·exact .inl ⟨k,xq8 ndP hp hu k⟩
  ·obtain⟨c,e⟩:=yb2 (n:=s.heap.objs.size+1) k
   refine .inr ⟨.inl k,c,e,?_⟩
   have q:=x.cell y c e
   rw[xq9 ndP hp hu (by show scope.names.lookup y≠_;rw[k];decide)] at q
   exact q
 ·exact e0.hok.fresh (Nat.le_of_lt (x.above y c #[116,h]))
 ·unfold E2
  show _=N.length
  rw[length_append,length_map,length_replicate]
  omega
variable{an od:Option Addr}{cdv ct doc oc pm:Value}{osl:Array (Option Value)}
theorem Aa5{f:Addr}{params:Arguments}{dV kV:Value}(lk:K.lookup f=some ⟨oc,od,.func (PySem.W.fnOf name qual params body scope dV kV doc pm an cdv ct),osl⟩)(hcd:PySem.W.codeIn K cdv qual=true)(S:C3 N ps scope)(len:∀ vs H Q E,sp vs H Q E->vs.length=ps.length) (hbody:∀ (A:Around) (outer:List Env) (s:Shared) (H:Hp) (vs:List V) (Q:VK) (E:XK),qk4 k (A.deeper #[97,cdv])->sp vs H Q E ->
  ∃ t,PSs #[83,cdv] body t/\t {nx:=fun _ H'=>Q .non H',rt:=Q} (E2 N vs) H) :
 J7 P w K mg base CX (k+1) f (PySem.W.fnOf name qual params body scope dV kV doc pm an cdv ct) ps sp:=by
 refine⟨len,fun A outer s H args us vs Q E hr e0 hb r hsp=>?_⟩
 have hl:=len _ _ _ _ hsp
 have KX:K.In s.heap:=e0.mod.kin.keeps fun b o e=>(e0.bs b o e).1
 have lim:s.heap.NoLimit:=e0.mod.nolimit.keeps fun b o e=>(e0.bs b o e).1
 have hkind:∀ y∈ps.zip us,scope.names.lookup y.1=some .local\/(scope.names.lookup y.1=some .cell/\((cellsFrom #[44] scope.names []).lookup y.1).isSome=true):=fun⟨n,v⟩ hy=>by
  rcases S.par n (of_mem_zip hy).1 with q|q
  ·exact .inl q
  ·exact .inr ⟨q,PySem.W.cellsFrom_some _ _ _ (.inl q)⟩
 refine codeAny_call_function hr.depth (KX _ _ lk) rfl S.co S.gen rfl (PySem.W.codeRec_of KX hcd) (hb _ _ _ _ ?_)
 refine wpAny_with_toks (n:=1) e0.tk (wpAny_newFunctionEnv_cells S.kind hkind fun env he s1 x htk=>?_)
 subst he
 refine⟨lim.keeps x.toInCall.keep,codeAny_func ?_⟩
 obtain⟨t,ht,hq⟩:=hbody A outer s H vs Q E (hr.deeper _) hsp
 have I:Inv #[83,cdv] [] (E2 N vs) H s1:=yu2 S hr.hd e0 hl r x htk
 refine wpAny_mono (ht [] s1 (E2 N vs) H _ I hq) (fun fl s' hs=>?_) fun e s' hs=>hs
 have fin:∀ {σ':St} {H':Hp} {v:V} {u:Value},Inv #[83,cdv] [] σ' H' s'->L1 v u->Q v H'->CE outer P w H s Q u s' :=
  fun{σ' H' v u} J rv q=>⟨v,H',J.tk,J.os,J.bare,J.base,J.hok,rv,q⟩
 cases fl with
 | ret u =>
   obtain⟨v,σ',H',J,rv,q⟩:=hs
   exact fin J rv q
 | next =>
   obtain⟨σ',H',J,q⟩:=hs
   exact fin (v:=V.non) (u:=Value.none) J rfl q
 | brk =>
   obtain⟨_,_,_,q⟩:=hs
   exact False.elim q
 | cont =>
   obtain⟨_,_,_,q⟩:=hs
   exact False.elim q
variable{T:String}
section
variable{p:Pos}{id:String}{r:List V->Hp->VK->Prop}
def tCB(r:List V->Hp->VK->Prop)(t:TA):TE:=fun σ H Q=>t σ H fun vs H1=>r vs H1 Q
theorem D6(hc:qj0 X (.builtin id) r)(hg:Gl X x)(hm:X.mg x=none)(hv:bootBuiltins x=some (.builtin id))(ha:PA X (e::es) t)(hn:autoParam (x ≠ "__name__") zAd)(hdb:autoParam #[43] zAd)(he:autoParam #[19] zAr)(hpl:autoParam #[50,pos] zAr):PE X (.Call (.Name x p) (e::es) [] pos) (tCB r t):=by
 walk_at"25"
 refine wpAny_Call_Name_kw (qw6 I hg hm hv ?_ hn hdb)
 exact PyProof.Rows.callWith_builtin1 (thn (ha pos pins s σ H _ I h) fun us s1 ⟨vs,H1,I1,r1,q1⟩=>hc pins s1 σ H1 vs us Q I1 r1 q1) he hpl
theorem V2(hc:qj0 X (.type T) r)(hg:Gl X x)(hm:X.mg x=none)(hv:bootBuiltins x=some (.type T))(ha:PA X (e::es) t)(hn:autoParam (x ≠ "__name__") zAd)(hdb:autoParam #[43] zAd)(he:autoParam #[19] zAr)(hpl:autoParam #[50,pos] zAr):PE X (.Call (.Name x p) (e::es) [] pos) (tCB r t):=by
 walk_at"25"
 refine wpAny_Call_Name_kw (qw6 I hg hm hv ?_ hn hdb)
 exact PyProof.Rows.callWith_type1 (thn (ha pos pins s σ H _ I h) fun us s1 ⟨vs,H1,I1,r1,q1⟩=>hc pins s1 σ H1 vs us Q I1 r1 q1) he hpl
end
namespace HT
open PySem PyProof.Rows
section
open PySem.SeqAt
open PySem.AutoSeq1 (wpAny_loadPart')
open PySem.MeetsSeq PySem.MeetsSeq2 PySem.MeetsSeq3
end
section
variable{prog:Program}{w:World}{A:Around}{E:Value->Shared->Prop}{s:Shared}
theorem zj5{t b:Addr}{vs ws:List Value}{Q:Value->Shared->Prop}(ht:IsTup s.heap t vs.toArray)(hb:IsTup s.heap b ws.toArray)(hv:vs≠[])
 (h1:ws=[]->Q (.ref t) s) (h2:ws≠[]->Q (.ref s.heap.objs.size) {s with heap:=s.heap.push {cls:=.type "tuple",data:=.seq (vs++ws).toArray}})
 (hsz:vs.length+ws.length<=sizeLine):wpAny #[35] A (binaryOp .Add (.ref t) (.ref b)) Q E s:=by
 obtain⟨⟨cls,dd,data,sl⟩,ho,hc,n,hd⟩:=id ht
 obtain⟨⟨cls2,dd2,data2,sl2⟩,ho2,hc2,n2,hd2⟩:=id hb
 simp only at hc hd hc2 hd2
 subst hc hd hc2 hd2
 have e:vs.toArray++ws.toArray=(vs++ws).toArray:=by simp
 by_cases hw:ws=[]
 ·exact concat_meets ⟨_,ho,rfl⟩ ⟨_,ho2,rfl⟩ noFill_tuple_add seq_tuple_add PySem.F.slot_tuple_add PySem.F.entry_tuple_add (PySem.F.args_tuple_add_2 _ _)
   (tuple_addW1 t b vs.toArray ws.toArray n n2 dd dd2 sl sl2 (by simpa using hv) (by simp[hw])) ⟨ho,ho2,h1 hw⟩
 ·refine concat_meets ⟨_,ho,rfl⟩ ⟨_,ho2,rfl⟩ noFill_tuple_add seq_tuple_add PySem.F.slot_tuple_add PySem.F.entry_tuple_add (PySem.F.args_tuple_add_2 _ _)
   (tuple_addW2 t b vs.toArray ws.toArray n n2 dd dd2 sl sl2 (by simpa using hv) (by simpa using hw) (by rw[size_toArray,size_toArray];exact hsz)) ⟨ho,ho2,?_⟩
  rw[e]
  exact h2 hw
def sIx(n d:Nat):Option Int->Nat
 | none=>d
 | some v=>if v<0 then(v+(n:Int)).toNat else min v.toNat n
theorem qp0(n d k:Nat):sIx n d (some (k:Int))=min k n:=by
 show(if(k:Int)<0 then((k:Int)+(n:Int)).toNat else min (k:Int).toNat n)=min k n
 rw[if_neg #[0],Int.toNat_natCast]
theorem yi5(n d:Nat)(hd:d<=n)(o:Option Int):sIx n d o<=n:=by
 cases o with
 | none=>exact hd
 | some v =>
   show(if v<0 then(v+(n:Int)).toNat else min v.toNat n)<=n
   by_cases hv:v<0
   ·rw[if_pos hv];omega
   ·rw[if_neg hv];exact Nat.min_le_right _ _
theorem yn3(v:Int)(n d:Nat):(if v<0 then max (v+(n:Int)) 0 else min v (n:Int))=((sIx n d (some v):Nat):Int):=by
 show(if v<0 then max (v+(n:Int)) 0 else min v (n:Int))=(((if v<0 then(v+(n:Int)).toNat else min v.toNat n):Nat):Int)
 by_cases hv:v<0
 ·simp only[if_pos hv];omega
 ·simp only[if_neg hv];omega
theorem yi6(lo hi:Option Int)(n:Nat):Builtin.Slice.sliceAdjust lo hi 1 (n:Int)=(((sIx n 0 lo:Nat):Int),((sIx n n hi:Nat):Int)):=by
 have h1:¬((1:Int)<0):=by omega
 unfold Builtin.Slice.sliceAdjust
 simp only[h1,if_false]
 refine Prod.ext ?_ ?_
 ·cases lo with
  | none=>rfl
  | some v=>exact yn3 v n 0
 ·cases hi with
  | none=>rfl
  | some v=>exact yn3 v n n
theorem yi7(i j:Nat):Builtin.Slice.slicePlaces (i:Int) (j:Int) 1=j-i:=by
 unfold Builtin.Slice.slicePlaces
 have h1:(1:Int) > 0:=by omega
 simp only[h1,if_true,Int.ediv_one]
 split <;> omega
theorem xg3{v:Value}{o:Option Int}{Q:Option Int->Shared->Prop}(p:IsPart v o)(h:Q o s):wpAny #[35] A (Builtin.Slice.slicePartIndex v) Q E s:=by
 cases p with
 | none=>exact slicePart_none h
 | int i t=>exact slicePart_int h
theorem qy0{sl:Addr}{vl vu:Value}{lo hi:Option Int}{n:Nat}{Q:Int×Int×Nat->Shared->Prop}(hs:s.heap.IsSliceOf sl vl vu .none)(pl:IsPart vl lo)(pu:IsPart vu hi)
 (h:Q (((sIx n 0 lo:Nat):Int),1,sIx n n hi-sIx n 0 lo) s):wpAny #[35] A (Builtin.Slice.sliceApplied (.ref sl) (pure (n:Int))) Q E s:=by
 obtain⟨os,hos,hcs,hds⟩:=id hs
 unfold Builtin.Slice.sliceApplied Builtin.Slice.sliceFields
 refine wpAny_bind (wpAny_bind (wpAny_field hos hds (x:=vl) rfl (wpAny_bind (wpAny_field hos hds (x:=vu) rfl (wpAny_bind (wpAny_field hos hds (x:=.none) rfl (wpAny_pure ?_)))))))
 refine wpAny_bind (slicePart_none ?_)
 show wpAny _ _ (if((1:Int) == 0)=true then _ else _) _ _ s
 rw[if_neg #[10]]
 refine wpAny_bind (xg3 pl (wpAny_bind (xg3 pu (wpAny_bind (wpAny_pure ?_)))))
 show wpAny _ _ (match Builtin.Slice.sliceAdjust lo hi 1 (n:Int) with|(lo,hi)=>pure (lo,(1:Int),Builtin.Slice.slicePlaces lo hi 1)) _ _ s
 rw[yi6 lo hi n]
 show wpAny _ _ (pure (((sIx n 0 lo:Nat):Int),(1:Int),Builtin.Slice.slicePlaces ((sIx n 0 lo:Nat):Int) ((sIx n n hi:Nat):Int) 1)) _ _ s
 rw[yi7]
 exact wpAny_pure h
theorem yz8(xs:Array Value)(i k:Nat):((List.range k).filterMap fun(m:Nat)=>xs[((i:Int)+(m:Int)*1).toNat]?).toArray=((xs.toList.drop i).take k).toArray:=by
 have e:(fun(m:Nat)=>xs[((i:Int)+(m:Int)*1).toNat]?)=fun m=>xs[i+m]?:=by
  funext m
  have:((i:Int)+(m:Int)*1).toNat=i+m:=by omega
  rw[this]
 rw[e]
 have:=pick_run xs i k
 rw[filterMap_map] at this
 have e2:((fun x=>xs[x]?)∘fun x=>i+x)=fun m=>xs[i+m]?:=rfl
 rw[e2] at this
 rw[this]
theorem ws6{t sl:Addr}{items:Array Value}{vl vu:Value}{lo hi:Option Int}{Q:Value->Shared->Prop}(ht:IsTup s.heap t items)(hs:s.heap.IsSliceOf sl vl vu .none)(pl:IsPart vl lo)(pu:IsPart vu hi)
 (hw:¬(sIx items.size 0 lo=0/\sIx items.size items.size hi=items.size))
 (h:Q (.ref s.heap.objs.size) {s with heap:=s.heap.push {cls:=.type "tuple",data:=.seq #[77].toArray}})
 (hsz:items.size<=sizeLine):wpAny #[35] A (getItem (.ref t) (.ref sl)) Q E s:=by
 have htake:sizeOk (.seq #[77].toArray):=by
  show#[77].toArray.size<=sizeLine
  rw[size_toArray,length_take,length_drop,Array.length_toList]
  omega
 have hj:sIx items.size items.size hi<=items.size:=yi5 _ _ #[6] hi
 obtain⟨os,hos,hcs,hds⟩:=id hs
 have hTs:s.TypeIs (.ref sl) "slice":=⟨os,hos,hcs⟩
 unfold getItem
 try with_reducible refine wpAny_holding ?_
 first|refine wpAny_bind (wpAny_pure ?_)|skip
 refine wpAny_bind (wpAny_sequenceKey ht.typeIs #[10] ?_)
 refine wpAny_bind (wpAny_callSpecial?_slot (name:=Str.ofString "__getitem__") ht.typeIs PyProof.Rows.slot_tuple_getitem
  (wpAny_call_entry PyProof.Rows.slot_tuple_getitem ht.typeIs entry_tuple_getitem ?_ (args_tuple_getitem _ _)))
 show wpAny _ _ (Builtin.Tuple.tupleItemsOf (.ref t) >>= _) _ _ s
 refine wpAny_bind (tupleItemsOf_ ht ?_)
 refine wpAny_bind (wpAny_typeOf hTs ?_)
 rw[if_pos #[10]]
 refine wpAny_bind (qy0 hs pl pu ?_)
 have hno:¬((((sIx items.size 0 lo:Nat):Int) == 0 && (1:Int) == 1 && (sIx items.size items.size hi-sIx items.size 0 lo) == items.size)=true):=by
  intro q
  rw[Bool.and_eq_true,Bool.and_eq_true] at q
  have q1:((sIx items.size 0 lo:Nat):Int)=0:=eq_of_beq q.1.1
  have q2:sIx items.size items.size hi-sIx items.size 0 lo=items.size:=eq_of_beq q.2
  exact hw ⟨by omega,by omega⟩
 show wpAny _ _ (if(((sIx items.size 0 lo:Nat):Int) == 0 && (1:Int) == 1 && (sIx items.size items.size hi-sIx items.size 0 lo) == items.size)=true then _ else _) _ _ s
 rw[if_neg hno,yz8]
 first
  | exact wpAny_bind (m:=Builtin.Tuple.tupleExact _) (wpAny_newObj_type #[73] htake)
  | exact wpAny_bind (m:=Builtin.Tuple.tupleExact _) (wpAny_newObj_type (wpAny_bind (wpAny_pure #[73])) htake)
  | exact wpAny_bind (wpAny_bind (m:=Builtin.Tuple.tupleExact _) (wpAny_newObj_type (wpAny_pure #[73]) htake))
  | exact wpAny_bind (wpAny_bind (m:=Builtin.Tuple.tupleExact _) (wpAny_newObj_type #[73] htake))
end
end HT
abbrev TO:=St->Hp->(Option Int->Hp->Prop)->Prop
def PO(X:Cx)(e:Option Expr)(t:TO):Prop :=
 ∀ (pins:List (Addr×Obj)) (s:Shared) (σ:St) (H:Hp) (Q:Option Int->Hp->Prop),Inv X pins σ H s->t σ H Q ->
  wpAny #[9] X.A (evalPart e X.env) (fun u s'=>∃ o H',Inv X pins σ H' s'/\IsPart u o/\Q o H') X.xe s
def X9:TO:=fun _ H Q=>Q none H
def U8(t:TE):TO:=fun σ H Q=>t σ H fun x H1=>∃ i,x=.int i/\Q (some i) H1
variable{p2:Pos}{th:TO}{r:V->Option Int->Option Int->Hp->VK->Prop}
section
variable{lo hi:Option Expr}{tl:TO}
theorem qe2:PO X none X9:=by
 walk_at"25"
 rw[evalPart_none]
 exact wpAny_pure ⟨none,H,I,.none,h⟩
theorem M5(h:PE X e te):PO X (some e) (U8 te):=by
 intro pins s σ H Q I hw
 rw[evalPart_some]
 refine thn (h pins s σ H _ I hw) fun u s1 zq=>?_
 obtain⟨x,H1,I1,r1,q1⟩:=zq
 obtain⟨i,rfl,q⟩:=q1
 obtain⟨t,rfl⟩:=r1
 exact⟨some i,H1,I1,.int i t,q⟩
def SlR(X:Cx)(r:V->Option Int->Option Int->Hp->VK->Prop):Prop :=
 ∀ (pins:List (Addr×Obj)) (s:Shared) (σ:St) (H:Hp) (x:V) (v vl vu:Value) (lo hi:Option Int) (sl:Addr) (Q:VK),Inv X pins σ H s->L1 x v->s.heap.IsSliceOf sl vl vu .none->IsPart vl lo->IsPart vu hi->r x lo hi H Q ->
  ∃ T id,typeLookup (.type T) "__getitem__"=pure (some (.builtin id))/\s.TypeIs v T/\wpAny #[9] X.A (getItem v (.ref sl)) (EP X pins σ Q) X.xe s
theorem SlR.or{r':V->Option Int->Option Int->Hp->VK->Prop}(h:SlR X r)(h':SlR X r'):SlR X (fun x lo hi H Q=>r x lo hi H Q\/r' x lo hi H Q):=by
 intro pins s σ H x v vl vu lo hi sl Q I rx hs pl pu q
 rcases q with q|q
 ·exact h pins s σ H x v vl vu lo hi sl Q I rx hs pl pu q
 ·exact h' pins s σ H x v vl vu lo hi sl Q I rx hs pl pu q
def tSl(r:V->Option Int->Option Int->Hp->VK->Prop)(te:TE)(tl th:TO):TE:=fun σ H Q=>te σ H fun x H1=>tl σ H1 fun l H2=>th σ H2 fun u H3=>r x l u H3 Q
theorem N5(hr:SlR X r)(he:PE X e te)(hl:PO X lo tl)(hu:PO X hi th):PE X (.Subscript e (.Slice lo hi none p2) pos) (tSl r te tl th):=by
 walk_at"25"
 refine Subscript_ (thn (he pins s σ H _ I h) fun v s1 zq=>?_)
 obtain⟨x,H1,I1,r1,q1⟩:=zq
 refine wpAny_Slice (thn (hl pins s1 σ H1 _ I1 q1) fun vl s2 ⟨l,H2,I2,pl,q2⟩=>thn (hu pins s2 σ H2 _ I2 q2) fun vu s3 zq=>?_)
 obtain⟨u,H3,I3,pu,q3⟩:=zq
 rw[evalPart_none]
 refine wpAny_pure ?_
 have I4:Inv X pins σ H3 {s3 with heap:=s3.heap.push {cls:=.type "slice",data:=.fields #[vl,vu,.none]}}:=I3.kept (t':=s3.toks) fun b ob q=>Heap.get?_push_of_some _ q
 obtain⟨T,id,hT,ht,hg⟩:=hr pins {s3 with heap:=s3.heap.push {cls:=.type "slice",data:=.fields #[vl,vu,.none]}} σ H3 x v vl vu l u s3.heap.objs.size Q I4 r1 (Heap.IsSliceOf.new ..) pl pu q3
 show wpAny #[9] X.A (subscriptTail e (.Slice lo hi none p2) v (.ref s3.heap.objs.size)) (EP X pins σ Q) X.xe {s3 with heap:=s3.heap.push {cls:=.type "slice",data:=.fields #[vl,vu,.none]}}
 exact tail_any (ops:=[.ref s3.heap.objs.size,v]) ht hT hg #[46]
def qg4(xs:List V)(lo hi:Option Int):List V:=(xs.drop (HT.sIx xs.length 0 lo)).take (HT.sIx xs.length xs.length hi-HT.sIx xs.length 0 lo)
theorem xb9(xs:List V)(lo hi:Option Int):(qg4 xs lo hi).length<=xs.length:=by
 unfold qg4
 rw[length_take,length_drop]
 omega
def Aa6(K:Fg):V->Option Int->Option Int->Hp->VK->Prop:=fun x lo hi H Q=>∃ a xs,x=.ref a/\SqT K H a xs /\
 ¬(HT.sIx xs.length 0 lo=0/\HT.sIx xs.length xs.length hi=xs.length)/\∀ p,H p=none->Q (.ref p) (upd H p (.tup (qg4 xs lo hi)))
theorem zt5:SlR X (Aa6 X.K):=by
 walk_at"26"
 refine HT.ws6 ht hs pl pu (by rw[hlen];exact hw) ?_ (by rw[hlen];exact hz)
 rw[hlen]
 refine⟨.ref s.heap.objs.size,_,I.laid (t':=s.toks) (o:=.tup (qg4 xs lo hi)) (fun b ob q=>Heap.get?_push_of_some _ q) #[6] ?_,rfl,q _ (I.hok.fresh #[6])⟩
 exact⟨Nat.le_trans (xb9 xs lo hi) hz,_,(r.drop (HT.sIx xs.length 0 lo)).take (HT.sIx xs.length xs.length hi-HT.sIx xs.length 0 lo),IsTup.new _ _⟩
def zq2(K:Fg):R2:=fun x y H Q=>∃ a b xs ys,x=.ref a/\y=.ref b/\SqT K H a xs/\SqT K H b ys/\xs≠[]/\xs.length+ys.length<=sizeLine /\
 (ys=[]->Q (.ref a) H)/\(ys≠[]->∀ p,H p=none->Q (.ref p) (upd H p (.tup (xs++ys))))
theorem G5.nil_iff(r:G5 xs us):us=[]↔xs=[]:=by
 cases r with
 | nil=>simp
 | cons _ _=>simp
theorem zj6:OpR X (binaryOp .Add) (zq2 X.K):=by
 walk_at"13"
 obtain⟨a,b,xs,ys,rfl,rfl,ha,hb,hx,hz,q1,q2⟩:=h
 cases rx
 cases ry
 obtain⟨its,r1,p1,_⟩:=I.tuple ha
 obtain⟨its2,r2,p2,_⟩:=I.tuple hb
 refine HT.zj5 p1 p2 (fun z=>hx (r1.nil_iff.mp z)) (fun z=>⟨.ref a,H,I,rfl,q1 (r2.nil_iff.mp z)⟩) (fun z=>?_) (by rw[<-r1.length,<-r2.length];exact hz)
 refine⟨.ref s.heap.objs.size,_,I.laid (t':=s.toks) (o:=.tup (xs++ys)) (fun b ob q=>Heap.get?_push_of_some _ q) #[6] ?_,rfl,q2 (fun w=>z (r2.nil_iff.mpr w)) _ (I.hok.fresh #[6])⟩
 exact⟨by rw[length_append];exact hz,_,r1.append r2,IsTup.new _ _⟩
end
def ixN(n:Nat)(i:Int):Option Nat:=if 0<=i then(if i<n then some i.toNat else none) else if -(n:Int)<=i then some (i+n).toNat else none
def atI{α:Type}(xs:List α)(i:Int):Option α:=(ixN xs.length i).bind fun j=>xs[j]?
theorem yn4{j:Nat}(h:ixN n i=some j):seqIndex? i n=some j/\j<n/\-(n:Int)<=i/\i<n:=by
 unfold ixN at h
 by_cases h0:0<=i
 ·rw[if_pos h0] at h
  by_cases h1:i<n
  ·rw[if_pos h1] at h
   have e:i.toNat=j:=Option.some.inj h
   exact⟨by rw[seqIndex_of h0 h1,e],by omega,by omega,h1⟩
  ·rw[if_neg h1] at h;cases h
 ·rw[if_neg h0] at h
  by_cases h1:-(n:Int)<=i
  ·rw[if_pos h1] at h
   have e:(i+n).toNat=j:=Option.some.inj h
   exact⟨by rw[seqIndex_neg #[0] h1,e],by omega,h1,by omega⟩
  ·rw[if_neg h1] at h;cases h
theorem xv1{xs:List α}{v:α}(h:atI xs i=some v):∃ j,seqIndex? i xs.length=some j/\xs[j]?=some v/\j<xs.length/\-(xs.length:Int)<=i/\i<xs.length:=by
 unfold atI at h
 cases e:ixN xs.length i with
 | none=>rw[e] at h;cases h
 | some j =>
   rw[e] at h
   obtain⟨h1,h2,h3,h4⟩:=yn4 e
   exact⟨j,h1,h,h2,h3,h4⟩
theorem Y0{xs:List α}{j:Nat}{v:α}(h:xs[j]?=some v):atI xs (j:Int)=some v:=by
 have hj:j<xs.length:=(List.getElem?_eq_some_iff.mp h).1
 have e:ixN xs.length (j:Int)=some j:=by
  unfold ixN
  rw[if_pos #[0],if_pos #[0]];simp
 unfold atI;rw[e];exact h
theorem yz9(xs:List α)(v:α):atI (xs++[v]) (-1)=some v:=by
 have hl:(xs++[v]).length=xs.length+1:=by simp
 have e:ixN (xs++[v]).length (-1)=some xs.length:=by
  unfold ixN
  rw[hl,if_neg #[10],if_pos #[0]]
  congr 1
  omega
 unfold atI
 rw[e]
 show(xs++[v])[xs.length]?=some v
 simp
def zj7(b:Expr):Prop:=∀ o i,subscripted b false o i=operate [o,i] (getItem o i)
def IxR(X:Cx)(r:R2):Prop :=
 ∀ (value slice:Expr) (pins:List (Addr×Obj)) (s:Shared) (σ:St) (H:Hp) (x y:V) (v u:Value) (Q:VK),Inv X pins σ H s->L1 x v->L1 y u->r x y H Q ->
  subscripted slice false v u=operate [v,u] (getItem v u)->wpAny #[9] X.A (subscriptTail value slice v u) (EP X pins σ Q) X.xe s
def MtR(X:Cx)(id:String)(r:V->List V->Hp->VK->Prop):Prop :=
 ∀ (pins:List (Addr×Obj)) (s:Shared) (σ:St) (H:Hp) (x:V) (xs:List V) (v:Value) (us:List Value) (Q:VK),Inv X pins σ H s->L1 x v->G5 xs us->r x xs H Q ->
  wpAny #[9] X.A (call (.builtin id) (v::us)) (EP X pins σ Q) X.xe s
variable{its its':List Value}{p:Addr}{cpos:Pos}
section
variable{a b:Expr}{tb:TE}
theorem IxR.or{r r':R2}(h:IxR X r)(h':IxR X r'):IxR X (fun x y H Q=>r x y H Q\/r' x y H Q):=by
 intro value slice pins s σ H x y v u Q I rx ry q hs
 rcases q with q|q
 ·exact h value slice pins s σ H x y v u Q I rx ry q hs
 ·exact h' value slice pins s σ H x y v u Q I rx ry q hs
theorem E4{r:R2}(hr:IxR X r)(ha:PE X a ta)(hb:PE X b tb)(hs:zj7 b):PE X (.Subscript a b pos) (tOp r ta tb):=by
 walk_at"25"
 exact Subscript_ (zt1 ha hb I h fun v u s2 x y H2 I2 rx ry q=>hr a b pins s2 σ H2 x y v u Q I2 rx ry q (hs _ _))
def Aa7(K:Fg):R2:=fun x y H Q=>∃ p xs i v,x=.ref p/\y=.int i/\SqL K H p xs/\atI xs i=some v/\Q v H
def Aa8(K:Fg):R2:=fun x y H Q=>∃ p xs i v,x=.ref p/\y=.int i/\SqT K H p xs/\atI xs i=some v/\Q v H
def Aa9:R2:=fun x y H Q=>∃ z i c,x=.str z/\y=.int i/\z.length<=sizeLine/\atI z.cps.toList i=some c/\Q (.str ⟨#[c]⟩) H
theorem zj8:IxR X (Aa7 X.K):=by
 intro value slice pins s σ H x y v u Q I rx ry h hs
 obtain⟨p,xs,i,z,rfl,rfl,hq,he,q⟩:=h
 cases rx
 obtain⟨t,rfl⟩:=ry
 obtain⟨its,r,pl,hz⟩:=I.list hq
 obtain⟨j,h1,h2,h3,h4,h5⟩:=xv1 he
 obtain⟨w,ew,rwv'⟩:=r.get h2
 have hl:=r.length
 have hn:=ww8
 have fin:EP X pins σ Q w s:=⟨z,H,I,rwv',q⟩
 by_cases h0:0<=i
 ·have hj:i.toNat=j:=by
   rw[seqIndex_of h0 h5] at h1
   exact Option.some.inj h1
  exact item_listR pl.isList h0 #[0] (by rw[hj];simpa using ew) fin hs
 ·have hj:(i+(its.toArray.size:Int)).toNat=j:=by
   rw[seqIndex_neg #[0] h4] at h1
   rw[size_toArray,<-hl]
   exact Option.some.inj h1
  exact subscriptTail_builtinR (x:=w) pl.isList.typeIs slot_list_getitem.lookup
   (wpAny_getItem_list_neg (Q:=fun r s'=>r=w/\EP X pins σ Q r s') pl.isList #[0] (by rw[size_toArray] <;> omega) #[0] (by rw[hj];simpa using ew) ⟨rfl,fin⟩) hs
theorem zt6:IxR X (Aa8 X.K):=by
 intro value slice pins s σ H x y v u Q I rx ry h hs
 obtain⟨p,xs,i,z,rfl,rfl,hq,he,q⟩:=h
 cases rx
 obtain⟨t,rfl⟩:=ry
 obtain⟨its,r,pl,hz⟩:=I.tuple hq
 obtain⟨j,h1,h2,h3,h4,h5⟩:=xv1 he
 obtain⟨w,ew,rwv'⟩:=r.get h2
 have hl:=r.length
 have hn:=ww8
 have fin:EP X pins σ Q w s:=⟨z,H,I,rwv',q⟩
 exact subscriptTail_builtinR (x:=w) pl.typeIs slot_tuple_getitem.lookup
  (getItem_tuple (j:=j) (Q:=fun r s'=>r=w/\EP X pins σ Q r s') pl #[0] #[0] (by rw[size_toArray,<-hl];exact h1) (by simpa using ew) ⟨rfl,fin⟩) hs
theorem zt7:IxR X Aa9:=by
 intro value slice pins s σ H x y v u Q I rx ry h hs
 obtain⟨z,i,c,rfl,rfl,hz,he,q⟩:=h
 obtain⟨t,rfl⟩:=rx
 obtain⟨t',rfl⟩:=ry
 obtain⟨j,h1,h2,h3,h4,h5⟩:=xv1 he
 have hl:z.cps.toList.length=z.length:=by simp[Str.length]
 rw[hl] at h1 h4 h5
 have hn:=ww8
 exact tail_any (typeIs_str s z t) slot_str_getitem.lookup (getItem_str (c:=c) (by
  have e1:decide (i < -(2 ^ 63:Int))=false:=decide_eq_false #[0]
  have e2:decide (i>=2 ^ 63)=false:=decide_eq_false #[0]
  rw[e1,e2,Bool.or_false]) (by rw[h1];simpa using h2) ⟨.str ⟨#[c]⟩,H,I.tok _,⟨_,rfl⟩,q⟩) hs
def rIx(K:Fg):R2:=fun x y H Q=>Aa7 K x y H Q\/Aa8 K x y H Q\/Aa9 x y H Q
theorem zt8:IxR X (rIx X.K):=zj8.or (zt6.or zt7)
theorem yi8(its:List Value)(n j:Nat)(u:Value):Obj.mapSeq (·.setIfInBounds j u) {cls:=.type "list",data:=.seq its.toArray n}={cls:=.type "list",data:=.seq (its.set j u).toArray n}:=by
 simp[Obj.mapSeq]
theorem Inv.lst{pins:List (Addr×Obj)}{σ:St}{H:Hp}{s:Shared}{p:Addr}{xs:List V}(I:Inv X pins σ H s)(h:H p=some (.lst xs)) :
 ∃ (its:List Value) (n:Nat),G5 xs its/\s.heap.get? p=some {cls:=.type "list",data:=.seq its.toArray n}/\xs.length<=sizeLine:=by
 obtain⟨z,its,n,r,e⟩:=I.hok p _ h
 exact⟨its,n,r,e,z⟩
theorem Inv.lstUpd{n':Nat}{f:Obj->Obj}(I:Inv X pins σ H s)(h:H p=some (.lst xs))(ho:s.heap.get? p=some {cls:=.type "list",data:=.seq its.toArray n})(hf:f {cls:=.type "list",data:=.seq its.toArray n}={cls:=.type "list",data:=.seq its'.toArray n'})(r:G5 ys its')(hz:ys.length<=sizeLine)(t':Nat)(ht:autoParam (0<t') zAt) :
 Inv X pins σ #[54,ys] {s with heap:=s.heap.update p f,toks:=t'}:=by
 have e:(s.heap.update p f).get? p=some {cls:=.type "list",data:=.seq its'.toArray n'}:=by
  rw[Heap.get?_update_self f ho (by rw[hf] <;> rfl),hf]
 refine I.write (x:=p) (e:=p) (by rw[h];trivial) (.inl rfl) (fun b u hb q=>(Heap.get?_update_other _ _ (Ne.symm hb)).trans q) ⟨_,e⟩ ?_
 exact⟨hz,its',n',r,e⟩
def za0:V->V->V->Hp->(Hp->Prop)->Prop:=fun o i v H Q=>∃ p xs k j,o=.ref p/\i=.int k/\H p=some (.lst xs)/\ixN xs.length k=some j/\Q #[54,xs.set j v]
theorem za1:zt0 X za0:=by
 intro pins s σ H o i v ov iv u Q I ro ri rv h
 obtain⟨p,xs,k,j,rfl,rfl,hp,hj,q⟩:=h
 cases ro
 obtain⟨t,rfl⟩:=ri
 obtain⟨its,n,r,ho,hz⟩:=I.lst hp
 obtain⟨h1,h2,h3,h4⟩:=yn4 hj
 have hl:=r.length
 have hn:=ww8
 have I':Inv X pins σ #[54,xs.set j v] {s with heap:=s.heap.update p (Obj.mapSeq (·.setIfInBounds j u))} :=
  I.lstUpd hp ho (yi8 its n j u) (r.set rv j) (by rw[length_set];exact hz) s.toks
 by_cases h0:0<=k
 ·have hk:k.toNat=j:=by
   rw[seqIndex_of h0 h4] at h1
   exact Option.some.inj h1
  exact PySem.W.ki_setAt ho h0 #[0] (by rw[size_toArray,<-hl];exact h4) (by rw[hk];exact⟨_,I',q⟩)
 ·have hk:(k+(its.toArray.size:Int)).toNat=j:=by
   rw[seqIndex_neg #[0] h3] at h1
   rw[size_toArray,<-hl]
   exact Option.some.inj h1
  exact PySem.W.ki_setBack ho #[0] (by rw[size_toArray,<-hl];exact h3) #[0] (by rw[hk];exact⟨_,I',q⟩)
theorem wb9(lo hi:Option Int)(n:Nat):#[109,n].1=((HT.sIx n 0 lo:Nat):Int)/\#[109,n].2.1=((HT.sIx n n hi:Nat):Int)/\#[109,n].2.2=1:=by
 refine⟨?_,?_,rfl⟩
 ·cases lo with
  | none=>simp[sliceBounds,HT.sIx]
  | some i =>
    simp only[sliceBounds,HT.sIx,Option.getD_none,show(1:Int) > 0 by decide,if_true]
    by_cases h:i<0
    ·simp only[h,if_true] <;> omega
    ·simp only[h,if_false] <;> omega
 ·cases hi with
  | none=>simp[sliceBounds,HT.sIx]
  | some i =>
    simp only[sliceBounds,HT.sIx,Option.getD_none,show(1:Int) > 0 by decide,if_true]
    by_cases h:i<0
    ·simp only[h,if_true] <;> omega
    ·simp only[h,if_false] <;> omega
theorem xn3(its:List Value)(lo hi:Option Int):slicePick its.toArray lo hi none=((its.drop (HT.sIx its.length 0 lo)).take (HT.sIx its.length its.length hi-HT.sIx its.length 0 lo)).toArray:=by
 obtain⟨h1,h2,h3⟩:=wb9 lo hi its.toArray.size
 unfold slicePick
 rw[h1,h2,h3]
 simp only[sliceRange_one,pick_run,size_toArray] <;> rfl
def Ab0(K:Fg):V->Option Int->Option Int->Hp->VK->Prop:=fun x lo hi H Q=>∃ a xs,x=.ref a/\SqL K H a xs/\∀ p,H p=none->Q (.ref p) #[54,qg4 xs lo hi]
theorem zj9:SlR X (Ab0 X.K):=by
 intro pins s σ H x v vl vu lo hi sl Q I rx hs pl pu h
 obtain⟨a,xs,rfl,hx,q⟩:=h
 cases rx
 obtain⟨its,r,ht,hz⟩:=I.list hx
 have hlen:=r.length
 refine⟨"list",_,slot_list_getitem.lookup,ht.isList.typeIs,?_⟩
 refine wpAny_getItem_list_slice ht.isList hs pl pu .none (by simp) ?_ (by rw[size_toArray] <;> omega)
 rw[xn3,<-hlen]
 refine⟨.ref s.heap.objs.size,_,I.laid (t':=s.toks) (o:=.lst (qg4 xs lo hi)) (fun b ob q=>Heap.get?_push_of_some _ q) #[6] ?_,rfl,q _ (I.hok.fresh #[6])⟩
 exact⟨Nat.le_trans (xb9 xs lo hi) hz,_,0,(r.drop (HT.sIx xs.length 0 lo)).take (HT.sIx xs.length xs.length hi-HT.sIx xs.length 0 lo),Heap.get?_push_size _ rfl⟩
def qy1:V->Bool
 | .non=>true
 | .bl _=>true
 | .int _=>true
 | .str _=>true
 | _=>false
def eqV:V->V->Bool
 | .non,.non=>true
 | .bl a,.bl b=>a == b
 | .bl a,.int b=>(if a then 1 else 0) == b
 | .int a,.bl b=>a == (if b then 1 else 0)
 | .int a,.int b=>a == b
 | .str a,.str b=>a == b
 | _,_=>false
theorem zt9{x:V}{v:Value}(ry:L1 y u)(rx:L1 x v)(fy:qy1 y=true)(fx:qy1 x=true):SeqAt.EqAt A s u v (eqV y x):=by
 cases y with
 | non =>
   cases ry
   cases x with
   | non=>cases rx;exact SeqAt.EqAt.same _
   | bl b=>cases rx;exact SeqAt.EqAt.none_bool b
   | int b=>obtain⟨t,rfl⟩:=rx;exact SeqAt.EqAt.none_int b t
   | str b=>obtain⟨t,rfl⟩:=rx;exact SeqAt.EqAt.none_str b t
   | _=>exact absurd (show false=true from fx) Bool.false_ne_true
 | bl a =>
   cases ry
   cases x with
   | non=>cases rx;exact SeqAt.EqAt.bool_none a
   | bl b=>cases rx;exact SeqAt.EqAt.bool_bool a b
   | int b=>obtain⟨t,rfl⟩:=rx;exact SeqAt.EqAt.bool_int a b t
   | str b=>obtain⟨t,rfl⟩:=rx;exact SeqAt.EqAt.bool_str a b t
   | _=>exact absurd (show false=true from fx) Bool.false_ne_true
 | int a =>
   obtain⟨t',rfl⟩:=ry
   cases x with
   | non=>cases rx;exact SeqAt.EqAt.int_none a t'
   | bl b=>cases rx;exact SeqAt.EqAt.int_bool a t' b
   | int b=>obtain⟨t,rfl⟩:=rx;exact SeqAt.EqAt.int_int a t' b t
   | str b=>obtain⟨t,rfl⟩:=rx;exact SeqAt.EqAt.int_str a t' b t
   | _=>exact absurd (show false=true from fx) Bool.false_ne_true
 | str a =>
   obtain⟨t',rfl⟩:=ry
   cases x with
   | non=>cases rx;exact SeqAt.EqAt.str_none a t'
   | bl b=>cases rx;exact SeqAt.EqAt.str_bool a t' b
   | int b=>obtain⟨t,rfl⟩:=rx;exact SeqAt.EqAt.str_int a t' b t
   | str b=>obtain⟨t,rfl⟩:=rx;exact SeqAt.EqAt.str_str a t' b t
   | _=>exact absurd (show false=true from fx) Bool.false_ne_true
 | _=>exact absurd (show false=true from fy) Bool.false_ne_true
def eqU(x:V)(u:Value):Bool:=match u with
 | .none=>eqV .non x
 | .bool b=>eqV (.bl b) x
 | .int i _=>eqV (.int i) x
 | .str z _=>eqV (.str z) x
 | _=>false
theorem za2{x:V}(r:L1 y u)(f:qy1 y=true):eqU x u=eqV y x:=by
 cases y with
 | non=>cases r;rfl
 | bl b=>cases r;rfl
 | int i=>obtain⟨t,rfl⟩:=r;rfl
 | str z=>obtain⟨t,rfl⟩:=r;rfl
 | _=>exact absurd (show false=true from f) Bool.false_ne_true
theorem ws7{x:V}:∀ {xs:List V} {us:List Value},G5 xs us->xs.all qy1=true->us.any (eqU x)=xs.any fun y=>eqV y x
 | _,_,.nil,_=>rfl
 | y::xs,u::us,.cons r t,f=>by
   rw[all_cons,Bool.and_eq_true] at f
   rw[any_cons,any_cons,za2 r f.1,ws7 t f.2]
theorem wh2{A:Around}{s:Shared}{x:V}{v:Value}(rx:L1 x v)(fx:qy1 x=true):∀ {xs:List V} {us:List Value},G5 xs us->xs.all qy1=true->∀ u∈us,SeqAt.EqAt A s u v (eqU x u)
 | _,_,.nil,_=>fun u hu=>by cases hu
 | y::xs,u::us,.cons r t,f=>fun u' hu=>by
   rw[all_cons,Bool.and_eq_true] at f
   rcases mem_cons.mp hu with rfl|hu
   ·rw[za2 r f.1];exact zt9 r rx f.1 fx
   ·exact wh2 rx fx t f.2 u' hu
def inV(x:V)(xs:List V):Bool:=xs.any fun y=>eqV y x
def rIn(K:Fg)(neg:Bool):R2:=fun x y H Q=>∃ p xs,y=.ref p/\(SqL K H p xs\/SqT K H p xs)/\qy1 x=true/\xs.all qy1=true/\Q (.bl (if neg then !inV x xs else inV x xs)) H
theorem yu3:OpR X #[81,.In] (rIn X.K false):=by
 walk_at"13"
 obtain⟨p,xs,rfl,hq,fx,fs,q⟩:=h
 cases ry
 rcases hq with hq|hq
 ·obtain⟨its,r,pl,hz⟩:=I.list hq
  refine SeqAt.in_listAt (eqU x) pl.isList #[117] ⟨.bl _,H,I,rfl,?_⟩
  rw[show its.toArray.any (eqU x)=its.any (eqU x) by simp,ws7 r fs]
  exact q
 ·obtain⟨its,r,pl,hz⟩:=I.tuple hq
  refine SeqAt.in_tupleAt (eqU x) pl #[117] ⟨.bl _,H,I,rfl,?_⟩
  rw[show its.toArray.any (eqU x)=its.any (eqU x) by simp,ws7 r fs]
  exact q
theorem xv2:OpR X #[81,.NotIn] (rIn X.K true):=by
 walk_at"13"
 obtain⟨p,xs,rfl,hq,fx,fs,q⟩:=h
 cases ry
 rcases hq with hq|hq
 ·obtain⟨its,r,pl,hz⟩:=I.list hq
  refine SeqAt.notIn_listAt (eqU x) pl.isList #[117] ⟨.bl _,H,I,rfl,?_⟩
  rw[show its.toArray.any (eqU x)=its.any (eqU x) by simp,ws7 r fs]
  exact q
 ·obtain⟨its,r,pl,hz⟩:=I.tuple hq
  refine SeqAt.notIn_tupleAt (eqU x) pl #[117] ⟨.bl _,H,I,rfl,?_⟩
  rw[show its.toArray.any (eqU x)=its.any (eqU x) by simp,ws7 r fs]
  exact q
theorem xv3:OpR X #[81,.NotIn] (fun x y H Q=>∃ i j,x=.str i/\y=.str j/\Q (.bl (!(!(Builtin.Str.occurrences j i 0 j.length 1).isEmpty))) H):=by
 walk_at"1"
 exact notIn_str ⟨.bl _,H,I,rfl,q⟩
theorem xv4:qj0 X (.builtin "len") (fun xs H Q=>∃ p ys,xs=[.ref p]/\(SqL X.K H p ys\/SqT X.K H p ys)/\Q (.int ys.length) H):=by
 intro pins s σ H xs us Q I r h
 obtain⟨p,ys,rfl,hq,q⟩:=h
 obtain⟨u,rfl,rx⟩:=qt9 r
 cases rx
 have hn:=ww8
 rcases hq with hq|hq
 ·obtain⟨its,r',pl,hz⟩:=I.list hq
  have hlen:=r'.length
  exact Calls.call_len_list pl.isList (by simp only[size_toArray] <;> omega) ⟨.int ys.length,H,I.tok _,⟨s.toks+1,by rw[size_toArray,hlen]⟩,q⟩
 ·obtain⟨its,r',pl,hz⟩:=I.tuple hq
  have hlen:=r'.length
  exact len_tuple pl (by simp only[size_toArray] <;> omega) ⟨.int ys.length,H,I.tok _,⟨s.toks+1,by rw[size_toArray,hlen]⟩,q⟩
theorem xv5:qj0 X (.builtin "len") (fun xs H Q=>∃ z,xs=[.str z]/\z.length<=sizeLine/\Q (.int z.length) H):=by
 intro pins s σ H xs us Q I r h
 obtain⟨z,rfl,hz,q⟩:=h
 obtain⟨u,rfl,t,rfl⟩:=qt9 r
 have hn:=ww8
 exact len_str #[0] ⟨.int z.length,H,I.tok _,⟨_,rfl⟩,q⟩
theorem qj0.or{f:Value}{r r':List V->Hp->VK->Prop}(h:qj0 X f r)(h':qj0 X f r'):qj0 X f (fun xs H Q=>r xs H Q\/r' xs H Q):=by
 intro pins s σ H xs us Q I rs q
 rcases q with q|q
 ·exact h pins s σ H xs us Q I rs q
 ·exact h' pins s σ H xs us Q I rs q
theorem xn4:qj0 X (.type "tuple") (fun xs H Q=>∃ p ys,xs=[.ref p]/\((SqL X.K H p ys/\∀ l,H l=none->Q (.ref l) (upd H l (.tup ys)))\/(SqT X.K H p ys/\Q (.ref p) H))):=by
 intro pins s σ H xs us Q I r h
 obtain⟨p,ys,rfl,h⟩:=h
 obtain⟨u,rfl,rx⟩:=qt9 r
 cases rx
 rcases h with⟨hq,q⟩|⟨hq,q⟩
 ·obtain⟨its,r',pl,hz⟩:=I.list hq
  have hlen:=r'.length
  refine call_tuple_list pl.isList (fun h' kp=>?_) (by simp only[size_toArray] <;> omega)
  have I1:Inv X pins σ H {s with heap:=h'}:=I.kept (t':=s.toks) kp
  have I2:Inv X pins σ (upd H h'.objs.size (.tup ys)) {s with heap:=h'.push {cls:=.type "tuple",data:=.seq its.toArray}} :=
   I1.laid (t':=s.toks) (fun b o e=>Heap.get?_push_of_some _ e) #[6] (show W4 X.prog X.w _ _ _ (.tup ys) from ⟨hz,its,r',IsTup.new _ _⟩)
  exact⟨.ref h'.objs.size,_,I2,rfl,q _ (I1.hok.fresh #[6])⟩
 ·obtain⟨its,r',pl,hz⟩:=I.tuple hq
  exact call_tuple_same pl ⟨.ref p,H,I,rfl,q⟩
def tyV(K:Fg)(T:String)(x:V)(H:Hp):Prop:=match x with
 | .str _=>T = "str"
 | .int _=>T = "int"
 | .ref p=>(T = "list"/\∃ xs,SqL K H p xs)\/(T = "tuple"/\∃ o,K.lookup p=some o/\o.cls=.type "tuple"/\o.dict=none) \/
  (T = "dict"/\((∃ kvs,H p=some (.dK kvs))\/∃ kvs,H p=some (.dT kvs)))\/(T = "set"/\∃ S n,H p=some (.set S n))
 | _=>False
theorem yi9{x:V}{v:Value}(I:Inv X pins σ H s)(r:L1 x v)(ty:tyV X.K T x H) :
 s.TypeIs v T/\∀ a,v=.ref a->∃ ob,s.heap.get? a=some ob/\ob.dict=none:=by
 cases x with
 | str z =>
   obtain⟨t,rfl⟩:=r
   cases (show T = "str" from ty)
   exact⟨typeIs_str s z t,fun _ e=>nomatch e⟩
 | int i =>
   obtain⟨t,rfl⟩:=r
   cases (show T = "int" from ty)
   exact⟨typeIs_int s i t,fun _ e=>nomatch e⟩
 | ref p =>
   cases r
   rcases ty with⟨rfl,xs,hq⟩|⟨rfl,o,hk,hc,hd⟩|⟨rfl,hk⟩|⟨rfl,S,n,hk⟩
   ·obtain⟨its,_,pl,_⟩:=I.list hq
    refine⟨pl.isList.typeIs,fun a e=>?_⟩
    cases e
    obtain⟨o,n,e,c,hd,_⟩:=pl
    exact⟨o,e,hd⟩
   ·refine⟨⟨o,I.kIn p o hk,hc⟩,fun a e=>?_⟩
    cases e
    exact⟨o,I.kIn _ o hk,hd⟩
   ·have z:∃ o,s.heap.get? p=some o/\o.ExactDict:=by
     rcases hk with⟨kvs,hk⟩|⟨kvs,hk⟩
     ·obtain⟨_,_,_,_,o,_,_,e,ex,_⟩:=I.hok p _ hk
      exact⟨o,e,ex⟩
     ·obtain⟨_,_,_,_,o,_,_,e,ex,_⟩:=I.hok p _ hk
      exact⟨o,e,ex⟩
    obtain⟨o,e,ex⟩:=z
    refine⟨⟨o,e,ex.1⟩,fun a e2=>?_⟩
    cases e2
    exact⟨o,e,ex.2.1⟩
   ·obtain⟨o,_,_,_,e,ex,_⟩:=I.hok p _ hk
    refine⟨⟨o,e,ex.1⟩,fun a e2=>?_⟩
    cases e2
    exact⟨o,e,ex.2.1⟩
 | _=>exact False.elim ty
def yb3(K:Fg)(T:String)(r:V->List V->Hp->VK->Prop)(to:TE):TE:=fun σ H Q=>to σ H fun x H1=>tyV K T x H1/\r x [] H1 Q
def tBM(K:Fg)(T:String)(r:V->List V->Hp->VK->Prop)(to:TE)(t:TA):TE:=fun σ H Q=>to σ H fun x H1=>tyV K T x H1/\t σ H1 fun xs H2=>r x xs H2 Q
variable{o:Expr}{id:String}{r:V->List V->Hp->VK->Prop}
theorem wx0(pa:PlainAttrs T)(slot:Slot T name id)(hty:typeOf (.builtin id)=pure (.type "method_descriptor"))(hm:MtR X id r)(ho:PE X o to)(hbase:autoParam (attributeBase o name X.env (eval o X.env)=eval o X.env) zAr)(hline:autoParam ((apos.endLine == cpos.line)=true) zAr):PE X (.Call (.Attribute o name apos) [] [] cpos) (yb3 X.K T r to):=by
 walk_at"25"
 refine wpAny_Call_method0_late hbase hline (thn (ho pins s σ H _ I h) fun v s1 zq=>?_)
 obtain⟨x,H1,I1,r1,ty,q1⟩:=zq
 obtain⟨h1,h2⟩:=yi9 I1 r1 ty
 exact⟨T,id,pa,slot,hty,h1,h2,Calls.callWith_builtin rfl (PySem.evalArgs_none (hm pins s1 σ H1 x [] v [] Q I1 r1 .nil q1))⟩
theorem N2(pa:PlainAttrs T)(slot:Slot T name id)(hty:typeOf (.builtin id)=pure (.type "method_descriptor"))(hm:MtR X id r)(ho:PE X o to)(ha:PA X (e::es) t)(hbase:autoParam (attributeBase o name X.env (eval o X.env)=eval o X.env) zAr) (hfew:((backTo cpos (starEach (e::es) X.env)).all (fun x=>!x.1) && (backToKw cpos (keywordEach [] X.env)).all (fun x=>x.1.isSome)
  && decide ((e::es).length+([]:List Keyword).length+(if([]:List Keyword).isEmpty then 0 else 1)<30))=true:=by rfl) (hline:autoParam ((apos.endLine == cpos.line)=true) zAr) (hs:autoParam #[19] zAr) (hplain:autoParam #[50,cpos] zAr) :
 PE X (.Call (.Attribute o name apos) (e::es) [] cpos) (tBM X.K T r to t):=by
 walk_at"25"
 refine wpAny_Call_method_late hbase hfew hline rfl (thn (ho pins s σ H _ I h) fun v s1 zq=>?_)
 obtain⟨x,H1,I1,r1,ty,q1⟩:=zq
 obtain⟨h1,h2⟩:=yi9 I1 r1 ty
 refine⟨T,id,pa,slot,hty,h1,h2,?_⟩
 have hA:=ha cpos pins s1 σ H1 _ I1 q1
 rw[hs] at hA ⊢
 refine Calls.callWith_builtin (by show(false || (backTo cpos (starEach es X.env)).any (·.1))=false;rw[hplain] <;> rfl) (Calls.evalArgs_plain ?_)
 exact thn hA fun us s2 ⟨vs,H2,I2,r2,q2⟩=>hm pins s2 σ H2 x vs v us Q I2 r1 r2 q2
end
def MtM(X:Cx)(id:String)(r:V->List V->Hp->VK->Prop):Prop :=
 ∀ (pins:List (Addr×Obj)) (s:Shared) (σ:St) (H:Hp) (x:V) (xs:List V) (v:Value) (us:List Value) (Q:VK),Inv X pins σ H s->L1 x v->G5 xs us->r x xs H Q ->
  wpAny #[9] X.A (call (.builtin id) (v::us)) (EP X pins σ Q) X.xe s
theorem G5.one{x:V}(r:G5 [x] us):∃ u,us=[u]/\L1 x u:=qt9 r
theorem G5.zero:∀ {us:List Value},G5 [] us->us=[]
 | _,.nil=>rfl
theorem G5.dropLast{xs:List V}{us:List Value}(h:G5 xs us):G5 xs.dropLast us.dropLast:=by
 induction h with
 | nil=>exact .nil
 | cons r t ih =>
   cases t with
   | nil=>exact .nil
   | cons q t'=>exact .cons r ih
theorem G5.rep{xs:List V}{us:List Value}(h:G5 xs us):∀ k:Nat,G5 (List.replicate k xs).flatten (List.replicate k us).flatten
 | 0=>.nil
 | k+1=>by
   rw[replicate_succ,replicate_succ,flatten_cons,flatten_cons]
   exact G5.append h (G5.rep h k)
theorem yj0(l:List α):l.eraseIdx (l.length-1)=l.dropLast:=by
 induction l with
 | nil=>rfl
 | cons a r ih =>
   cases r with
   | nil=>rfl
   | cons b r =>
     have e:(a::b::r).length-1=((b::r).length-1)+1:=by
      have h1:(a::b::r).length=r.length+2:=rfl
      have h2:(b::r).length=r.length+1:=rfl
      omega
     rw[e,eraseIdx_cons_succ,ih]
     all_goals rfl
theorem xr0(its:List Value):∀ (k:Nat) (acc:List Value),
 List.foldl (fun x1 x2=>x1++x2) acc.toArray (List.replicate k its.toArray)=(acc++(List.replicate k its).flatten).toArray
 | 0,acc=>by simp
 | k+1,acc=>by
   have e:acc.toArray++its.toArray=(acc++its).toArray:=by simp
   have e2:(acc++its)++(List.replicate k its).flatten=acc++(List.replicate (k+1) its).flatten:=by
    rw[replicate_succ,flatten_cons,append_assoc]
   rw[<-e2,<-xr0 its k (acc++its),<-e,replicate_succ,foldl_cons]
variable{l:Addr}{zs:List V}
theorem Inv.lset{f:Array Value->Array Value}(I:Inv X pins σ H s)(hH:H l=some (.lst xs))(e:s.heap.get? l=some {cls:=.type "list",data:=.seq its.toArray n})(hf:f its.toArray=its'.toArray)(hv:G5 ys its')(hz:ys.length<=sizeLine)(ht:autoParam (0<t') zAt) :
 Inv X pins σ (upd H l (.lst ys)) {s with heap:=s.heap.update l (Obj.mapSeq f),toks:=t'}:=by
 have q:=PySem.IsL.update e f
 rw[hf] at q
 refine I.write (x:=l) (e:=l) (by rw[hH];exact trivial) (.inl rfl) (fun b' u hb hu=>(Heap.get?_update_other s.heap (Obj.mapSeq f) (Ne.symm hb)).trans hu) ⟨_,q⟩ ?_
 exact⟨hz,its',_,hv,q⟩
theorem Inv.lnew(I:Inv X pins σ H s)(hv:G5 ys its)(hz:ys.length<=sizeLine)(ht:autoParam (0<t') zAt) :
 Inv X pins σ (upd H s.heap.objs.size (.lst ys)) {s with heap:=s.heap.push {cls:=.type "list",data:=.seq its.toArray},toks:=t'} :=
 I.laid (fun _ _ q=>Heap.get?_push_of_some _ q) #[6] ⟨hz,its,0,hv,Heap.get?_push_size _ rfl⟩
theorem Inv.fresh(I:Inv X pins σ H s):H s.heap.objs.size=none:=I.hok.fresh #[6]
theorem Inv.lstM(I:Inv X pins σ H s)(hH:H l=some (.lst xs)):xs.length<=sizeLine/\∃ (its:List Value) (n:Nat),G5 xs its/\xs.length=its.length/\s.heap.get? l=some {cls:=.type "list",data:=.seq its.toArray n}:=by
 obtain⟨z,its,n,r,e⟩:=I.hok l _ hH
 exact⟨z,its,n,r,r.length,e⟩
theorem yb4(h:n<=sizeLine):Builtin.List.listTooLong n=false:=by
 unfold Builtin.List.listTooLong
 exact decide_eq_false #[0]
def J9:V->List V->Hp->VK->Prop:=fun x vs H Q=>∃ l xs y,x=.ref l/\vs=[y]/\H l=some (.lst xs)/\xs.length<sizeLine/\Q .non (upd H l (.lst (xs++[y])))
theorem E6:MtM X "list.append" J9:=by
 intro pins s σ H x vs v us Q I rx rv h
 obtain⟨l,xs,y,rfl,rfl,hH,hz,q⟩:=h
 cases rx
 obtain⟨u,rfl,ru⟩:=rv.one
 obtain⟨z,its,n,r,hl,e⟩:=I.lstM hH
 refine call_meets F.slot_list_append ⟨_,e,rfl⟩ F.entry_list_append (F.args_list_append_2 _ _) (PySem.list_append l its.toArray n u (by rw[size_toArray];omega)) ⟨e,?_⟩
 refine⟨.non,_,I.lset (its':=its++[u]) hH e (by simp) (r.append (.cons ru .nil)) ?_,rfl,q⟩
 rw[length_append,length_singleton]
 omega
def wc0:V->List V->Hp->VK->Prop:=fun x vs H Q=>∃ l b xs zs,x=.ref l/\vs=[.ref b]/\H l=some (.lst xs)/\H b=some (.lst zs)/\xs.length+zs.length<=sizeLine/\Q .non (upd H l (.lst (xs++zs)))
theorem qy2:MtM X "list.extend" wc0:=by
 intro pins s σ H x vs v us Q I rx rv h
 obtain⟨l,b,xs,zs,rfl,rfl,hH,hB,hz,q⟩:=h
 cases rx
 obtain⟨u,rfl,ru⟩:=rv.one
 cases ru
 obtain⟨z,its,n,r,hl,e⟩:=I.lstM hH
 obtain⟨z2,its2,n2,r2,hl2,e2⟩:=I.lstM hB
 have hsz:its.toArray.size+its2.toArray.size<=sizeLine:=by rw[size_toArray,size_toArray];omega
 have hlong:¬(!its.toArray.isEmpty && Builtin.List.listTooLong (its.toArray.size+its2.toArray.size))=true:=by
  rw[yb4 hsz,Bool.and_false]
  exact Bool.false_ne_true
 refine call_meets F.slot_list_extend ⟨_,e,rfl⟩ F.entry_list_extend (F.args_list_extend_2 _ _)
  (AutoSeq1.list_extend_list_list_0 l its.toArray n b its2.toArray n2 hlong (by rw[size_toArray];omega) #[0]) ⟨e,e2,?_⟩
 refine⟨.non,_,I.lset (its':=its++its2) hH e (by simp) (r.append r2) ?_,rfl,q⟩
 rw[length_append]
 omega
def yb5:V->List V->Hp->VK->Prop:=fun x vs H Q=>∃ l xs y,x=.ref l/\vs=[]/\H l=some (.lst xs)/\xs[xs.length-1]?=some y/\Q y (upd H l (.lst xs.dropLast))
theorem wx1:MtM X "list.pop" yb5:=by
 intro pins s σ H x vs v us Q I rx rv h
 obtain⟨l,xs,y,rfl,rfl,hH,hy,q⟩:=h
 cases rx
 have hus:=rv.zero
 subst hus
 obtain⟨z,its,n,r,hl,e⟩:=I.lstM hH
 obtain⟨u,hu,ru⟩:=r.get hy
 have hy':its.toArray[its.toArray.size-1]?=some u:=by
  show its.toArray[its.length-1]?=some u
  rw[<-Array.getElem?_toList,<-hl]
  exact hu
 refine call_meets F.slot_list_pop ⟨_,e,rfl⟩ F.entry_list_pop (F.args_list_pop_1 _) (MeetsSeq.list_pop_last l its.toArray n u hy' (by rw[size_toArray];omega)) ⟨e,?_⟩
 refine⟨y,_,I.lset (its':=its.dropLast) hH e ?_ r.dropLast ?_,ru,q⟩
 ·show its.toArray.eraseIdxIfInBounds (its.toArray.size-1)=its.dropLast.toArray
  rw[size_toArray,eraseIdxIfInBounds_toArray,yj0]
 ·rw[length_dropLast]
  omega
def Ab1:R2:=fun x y H Q=>∃ l b xs zs,x=.ref l/\y=.ref b/\H l=some (.lst xs)/\H b=some (.lst zs)/\xs.length+zs.length<=sizeLine/\∀ p,H p=none->Q (.ref p) #[54,xs++zs]
theorem zu0:OpR X (binaryOp .Add) Ab1:=by
 walk_at"13"
 obtain⟨l,b,xs,zs,rfl,rfl,hH,hB,hz,q⟩:=h
 cases rx
 cases ry
 obtain⟨z,its,n,r,hl,e⟩:=I.lstM hH
 obtain⟨z2,its2,n2,r2,hl2,e2⟩:=I.lstM hB
 refine PySem.P.add_list e e2 ?_ (by rw[size_toArray,size_toArray];omega)
 have ea:its.toArray++its2.toArray=(its++its2).toArray:=by simp
 rw[ea]
 exact⟨.ref _,_,I.lnew (t':=s.toks) (r.append r2) (by rw[length_append];omega),rfl,q _ I.fresh⟩
def Ab2:R2:=fun x y H Q=>∃ l k xs,x=.ref l/\y=.int k/\H l=some (.lst xs)/\-(2 ^ 63)<=k/\k<2 ^ 63/\xs.length*k.toNat<=sizeLine /\
 ∀ p,H p=none->Q (.ref p) (upd H p (.lst (List.replicate k.toNat xs).flatten))
theorem zk0(xs:List α)(k:Nat):(List.replicate k xs).flatten.length=k*xs.length:=by
 induction k with
 | zero=>simp
 | succ k ih=>rw[replicate_succ,flatten_cons,length_append,ih,Nat.succ_mul,Nat.add_comm]
theorem zu1:OpR X (binaryOp .Mult) Ab2:=by
 walk_at"13"
 obtain⟨l,k,xs,rfl,rfl,hH,h1,h2,hz,q⟩:=h
 cases rx
 obtain⟨t,rfl⟩:=ry
 obtain⟨z,its,n,r,hl,e⟩:=I.lstM hH
 have hlen:its.toArray.size*k.toNat<=sizeLine:=by rw[size_toArray,<-hl];exact hz
 have hcap:¬its.toArray.size*k.toNat > (2 ^ 63-1) / 8:=by
  have:(sizeLine:Nat)<=(2 ^ 63-1) / 8:=by decide
  omega
 have hfit:¬(!Builtin.List.listFitsIndex k)=true:=by
  rw[fitsIndex_both h1 h2]
  exact Bool.false_ne_true
 have hlong:¬Builtin.List.listTooLong (its.toArray.size*k.toNat)=true:=by
  rw[yb4 hlen]
  exact Bool.false_ne_true
 have hnew:List.foldl (fun x1 x2=>x1++x2) #[] (List.replicate (if its.toArray.isEmpty=true then 0 else k.toNat) its.toArray)=(List.replicate k.toNat its).flatten.toArray:=by
  have f0:∀ m:Nat,List.foldl (fun x1 x2=>x1++x2) #[] (List.replicate m its.toArray)=(List.replicate m its).flatten.toArray:=fun m=>by
   have:=xr0 its m []
   rw[nil_append] at this
   exact this
  rw[f0]
  cases its with
  | nil=>simp
  | cons a r'=>rw[if_neg (by simp)]
 refine wpAny_binaryOp_repeat_ref (T := "list") (U := "int") #[10] ⟨_,e,rfl⟩ (fun s'=>typeIs_int s' k t) noFill_list_mul F.fills_int_mul F.slot_int_rmul repeat_list F.slot_int_index.lookup
  (call_meets F.slot_int_rmul (typeIs_int s k t) F.entry_int_rmul (F.args_int_rmul_2 _ _) (int___rmul___int_list k t l its.toArray n)
   ⟨e,rfl,⟨_,e,rfl⟩,call_meets F.slot_list_mul ⟨_,e,rfl⟩ F.entry_list_mul (F.args_list_mul_2 _ _) (AutoListH.list___mul___list_int_3 l its.toArray n k t hfit hcap hlong) ⟨e,?_⟩⟩)
 rw[hnew]
 exact⟨.ref _,_,I.lnew (t':=s.toks) (r.rep k.toNat) (by rw[zk0,Nat.mul_comm];exact hz),rfl,q _ I.fresh⟩
variable{κ:Type}
section
variable[DecidableEq κ]
def xg4(kvs:List (κ×V))(k:κ):Option V:=(kvs.find? fun kv=>decide (kv.1=k)).map (·.2)
def xn5(kvs:List (κ×V))(k:κ)(v:V):List (κ×V) :=
 if(kvs.any fun kv=>decide (kv.1=k))=true then kvs.map (fun kv=>if kv.1=k then(kv.1,v) else kv) else kvs++[(k,v)]
theorem Ab3{k:κ}:xg4 ([]:List (κ×V)) k=none:=rfl
theorem xg5{p:κ×V}{r:List (κ×V)}{k:κ}(e:p.1=k):xg4 (p::r) k=some p.2:=by simp[xg4,find?_cons,e]
theorem xg6{p:κ×V}{r:List (κ×V)}{k:κ}(e:¬p.1=k):xg4 (p::r) k=xg4 r k:=by simp[xg4,find?_cons,e]
theorem yb6(k:κ):∀ kvs:List (κ×V),(kvs.any fun kv=>decide (kv.1=k))=(xg4 kvs k).isSome
 | []=>rfl
 | p::r=>by
   rw[any_cons]
   by_cases e:p.1=k
   ·simp only[xg5 e,decide_eq_true e,Bool.true_or,Option.isSome_some]
   ·rw[xg6 e,decide_eq_false e,Bool.false_or];exact yb6 k r
theorem xc0(kvs:List (κ×V))(k:κ)(v:V):(xn5 kvs k v).length<=kvs.length+1:=by
 unfold xn5
 split
 ·rw[length_map];omega
 ·rw[length_append,length_cons,length_nil];omega
theorem ws3.isSome_eq{o:Option V}{u:Option Value}(r:ws3 o u):o.isSome=u.isSome:=by
 cases o with
 | none=>cases u with
   | none=>rfl
   | some _=>exact(show False from r).elim
 | some _=>cases u with
   | none=>exact(show False from r).elim
   | some _=>rfl
theorem KV.val{kvs:List (κ×V)}{vs:List (κ×Value)}(r:KV kvs vs)(k:κ):ws3 (xg4 kvs k) (valueAt vs k):=by
 unfold KV at r
 induction r with
 | nil=>exact True.intro
 | @cons p q ps qs h t ih =>
   obtain⟨h1,h2⟩:=h
   by_cases e:p.1=k
   ·have e':q.1=k:=h1.symm.trans e
    have b:valueAt (q::qs) k=some q.2:=by simp[valueAt,find?_cons,e']
    rw[xg5 e,b];exact h2
   ·have e':¬q.1=k:=fun z=>e (h1.trans z)
    have b:valueAt (q::qs) k=valueAt qs k:=by simp[valueAt,find?_cons,e']
    rw[xg6 e,b];exact ih
theorem KV.any{kvs:List (κ×V)}{vs:List (κ×Value)}(r:KV kvs vs)(k:κ):(kvs.any fun kv=>decide (kv.1=k))=vs.any fun kv=>decide (kv.1=k):=by
 unfold KV at r
 induction r with
 | nil=>rfl
 | cons h t ih=>rw[any_cons,any_cons,ih,h.1]
theorem KV.repl{kvs:List (κ×V)}{vs:List (κ×Value)}(r:KV kvs vs)(k:κ)(ry:L1 y u) :
 KV (kvs.map fun kv=>if kv.1=k then(kv.1,y) else kv) (vs.map fun kv=>if kv.1=k then(kv.1,u) else kv):=by
 unfold KV at r ⊢
 induction r with
 | nil=>exact .nil
 | @cons p q ps qs h t ih =>
   rw[map_cons,map_cons]
   refine .cons ?_ ih
   obtain⟨h1,h2⟩:=h
   by_cases e:p.1=k
   ·rw[if_pos e,if_pos (h1.symm.trans e)];exact⟨h1,ry⟩
   ·rw[if_neg e,if_neg (fun z=>e (h1.trans z))];exact⟨h1,h2⟩
theorem KV.put{kvs:List (κ×V)}{vs:List (κ×Value)}(r:KV kvs vs)(k:κ)(ry:L1 y u):KV (xn5 kvs k y) (stored vs k u):=by
 unfold xn5 stored
 rw[r.any k]
 by_cases e:(vs.any fun kv=>decide (kv.1=k))=true
 ·rw[if_pos e,if_pos e];exact r.repl k ry
 ·rw[if_neg e,if_neg e];exact Paired.snoc r ⟨rfl,ry⟩
theorem KV.length{kvs:List (κ×V)}{vs:List (κ×Value)}(r:KV kvs vs):kvs.length=vs.length:=Paired.length r
end
theorem yn5{k:Key}(r:L1 (kV k) u):(Z8 P w).is k u=true:=by
 cases k with
 | inl i=>obtain⟨t,e⟩:=(show ∃ t,u=Value.int i t from r);subst e;exact ya1 P w i t
 | inr x=>obtain⟨t,e⟩:=(show ∃ t,u=Value.str x t from r);subst e;exact ya2 P w x t
theorem xr1{P:Program}{w:World}:∀ {ks:List Key} {us:List Value},G5 (ks.map kV) us->ItemsAre (Z8 P w) ks us
 | [],_,r=>by rw[map_nil] at r;cases r;exact .nil
 | k::ks,_,r=>by
   rw[map_cons] at r
   cases r with
   | cons h t=>exact .cons (yn5 h) (xr1 t)
abbrev KT(H:Hp):List (List Key×V)->List (List Key×Addr×Value)->Prop:=Paired fun p q=>p.1=q.1/\H q.2.1=some (.tup (p.1.map kV))/\L1 p.2 q.2.2
variable{kvs:List (List Key×V)}
theorem KT.val{xs:List (List Key×Addr×Value)}(r:KT H kvs xs)(k:List Key):ws3 (xg4 kvs k) ((atKey xs k).map (·.2)):=by
 induction r with
 | nil=>exact True.intro
 | @cons p q ps qs h t ih =>
   obtain⟨h1,_,h2⟩:=h
   by_cases e:p.1=k
   ·have e':q.1=k:=h1.symm.trans e
    have b:atKey (q::qs) k=some q.2:=by simp[atKey,find?_cons,e']
    rw[xg5 e,b];exact h2
   ·have e':¬q.1=k:=fun z=>e (h1.trans z)
    have b:atKey (q::qs) k=atKey qs k:=by simp[atKey,find?_cons,e']
    rw[xg6 e,b];exact ih
theorem KT.repl{xs:List (List Key×Addr×Value)}(r:KT H kvs xs)(k:List Key)(ry:L1 y u) :
 KT H (kvs.map fun kv=>if kv.1=k then(kv.1,y) else kv) (xs.map (putAt k u)):=by
 induction r with
 | nil=>exact .nil
 | @cons p q ps qs h t ih =>
   rw[map_cons,map_cons]
   refine .cons ?_ ih
   obtain⟨h1,h2,h3⟩:=h
   unfold putAt
   by_cases e:p.1=k
   ·rw[if_pos e,if_pos (h1.symm.trans e)];exact⟨h1,h2,ry⟩
   ·rw[if_neg e,if_neg (fun z=>e (h1.trans z))];exact⟨h1,h2,h3⟩
theorem KT.put{xs:List (List Key×Addr×Value)}(r:KT H kvs xs)(k:List Key)(hb:H b=some (.tup (k.map kV)))(ry:L1 y u) :
 KT H (xn5 kvs k y) (storedH xs k b u):=by
 have e:(kvs.any fun kv=>decide (kv.1=k))=(atKey xs k).isSome:=by
  rw[yb6,(r.val k).isSome_eq,Option.isSome_map]
 unfold xn5 storedH
 rw[e]
 by_cases q:(atKey xs k).isSome=true
 ·rw[if_pos q,if_pos q];exact r.repl k ry
 ·rw[if_neg q,if_neg q];exact Paired.snoc r ⟨rfl,hb,ry⟩
theorem KT.keeps{xs:List (List Key×Addr×Value)}(r:KT H kvs xs)(ht:∀ b ys,H b=some (.tup ys)->H' b=some (.tup ys)):KT H' kvs xs :=
 Paired.mapP r fun _ _ z=>⟨z.1,ht _ _ z.2.1,z.2.2⟩
theorem zq3{u:HO}(ok:HOk P w H h)(e:Rd H a u):W4 P w H h a u:=e.ok ok
theorem yn6{kvs:List (Key×V)}(ok:HOk P w H h)(e:Rd H a (.dK kvs)):kvs.length<=sizeLine/\(a == sysModules)=false/\∃ vs,KV kvs vs/\h.DictOf (Z8 P w) a vs :=
 show W4 P w H h a (.dK kvs) from zq3 ok e
theorem Ab4{kvs:List (Key×V)}(ok:HOk P w H h)(e:H a=some (.dK kvs)):kvs.length<=sizeLine/\(a == sysModules)=false/\∃ vs,KV kvs vs/\h.DictOf (Z8 P w) a vs:=yn6 ok (.inl e)
theorem xv6{ks:List Key}(ok:HOk P w H h)(e:H a=some (.tup (ks.map kV))):(tupleKind (Z8 P w)).is h ks a:=by
 obtain⟨_,its,r,o,h1,h2,n,h3⟩:=(show W4 P w H h a (.tup (ks.map kV)) from ok a _ e)
 exact⟨o,its.toArray,n,h1,h2,h3,by simpa using xr1 r⟩
theorem za3(ok:HOk P w H h)(e:Rd H a (.dT kvs)):kvs.length<=sizeLine/\(a == sysModules)=false /\
 ∃ xs,KT H kvs xs/\h.DictOfH (tupleKind (Z8 P w)) a xs:=by
 obtain⟨z,y,xs,r,o,es,ep,h1,h2,h3,h4,h5⟩:=(show W4 P w H h a (.dT kvs) from zq3 ok e)
 refine⟨z,y,xs,r,o,es,ep,h1,h2,h3,h4,fun x hx=>?_,h5⟩
 have all:∀ {l:List (List Key×V)} {m:List (List Key×Addr×Value)},KT H l m->∀ x∈m,(tupleKind (Z8 P w)).is h x.1 x.2.1:=by
  intro l m q
  induction q with
  | nil=>intro x hx;exact nomatch hx
  | @cons p q ps qs hq t ih =>
    intro x hx
    rcases mem_cons.mp hx with e|hx
    ·subst e
     exact xv6 ok (by rw[<-hq.1];exact hq.2.1)
    ·exact ih x hx
 exact all r x hx
theorem Ab5(ok:HOk P w H h)(e:H a=some (.dT kvs)):kvs.length<=sizeLine/\(a == sysModules)=false /\
 ∃ xs,KT H kvs xs/\h.DictOfH (tupleKind (Z8 P w)) a xs:=za3 ok (.inl e)
def zu2(H:Hp)(a:Addr)(y:V)(r:Option V):Prop :=
 (∃ kvs k,Rd H a (.dK kvs)/\y=kV k/\r=xg4 kvs k)\/∃ kvs k b,Rd H a (.dT kvs)/\y=.ref b/\H b=some (.tup (k.map kV))/\r=xg4 kvs k
def Ab6(H:Hp)(a:Addr)(y v:V)(H':Hp):Prop :=
 (∃ kvs k,H a=some (.dK kvs)/\y=kV k/\kvs.length<sizeLine/\H'=upd H a (.dK (xn5 kvs k v))) \/
 ∃ kvs k b,H a=some (.dT kvs)/\y=.ref b/\H b=some (.tup (k.map kV))/\kvs.length<sizeLine/\H'=upd H a (.dT (xn5 kvs k v))
section
variable{r:Value}{o:Option V}
theorem Af2(hu:A.units+1<cLine)(I:Inv X pins σ H s)(g:zu2 H a y o)(ry:L1 y u)(h:∀ s',Inv X pins σ H s'->Q (.bool o.isSome) s') :
 wpAny #[9] A (compareOp .In u (.ref a)) Q E s:=by
 rcases g with⟨kvs,k,e,ey,l⟩|⟨kvs,k,b,e,ey,eb,l⟩
 ·subst ey
  obtain⟨z,hd,vs,rel,dd⟩:=yn6 I.hok e
  refine wpAny_in_of (yn5 ry) hd dd.mapOf ?_
  rw[<-(rel.val k).isSome_eq,<-l]
  exact h _ (I.tok _)
 ·subst ey
  cases (show u=Value.ref b from ry)
  obtain⟨z,hd,xs,rel,dd⟩:=za3 I.hok e
  refine wpAny_in_heap (tupleKind_room_in1 hu) (xv6 I.hok eb) hd dd ?_
  have q:=(rel.val k).isSome_eq
  rw[Option.isSome_map] at q
  rw[<-q,<-l]
  exact h _ (I.tok _)
theorem zk1(hu:A.units+1<cLine)(I:Inv X pins σ H s)(g:zu2 H a y o)(ry:L1 y u)(h:∀ s',Inv X pins σ H s'->Q (.bool (!o.isSome)) s') :
 wpAny #[9] A (compareOp .NotIn u (.ref a)) Q E s:=by
 rcases g with⟨kvs,k,e,ey,l⟩|⟨kvs,k,b,e,ey,eb,l⟩
 ·subst ey
  obtain⟨z,hd,vs,rel,dd⟩:=yn6 I.hok e
  refine wpAny_notIn_of (yn5 ry) hd dd.mapOf ?_
  rw[<-(rel.val k).isSome_eq,<-l]
  exact h _ (I.tok _)
 ·subst ey
  cases (show u=Value.ref b from ry)
  obtain⟨z,hd,xs,rel,dd⟩:=za3 I.hok e
  refine wpAny_notIn_heap (tupleKind_room_in1 hu) (xv6 I.hok eb) hd dd ?_
  have q:=(rel.val k).isSome_eq
  rw[Option.isSome_map] at q
  rw[<-q,<-l]
  exact h _ (I.tok _)
theorem yn7{ob:HO}(I:Inv X pins σ H s)(mu:Mut (H a))(hs:Heap.SameBut a s.heap h')(he:∃ q,h'.get? a=some q)(new:W4 X.prog X.w (upd H a ob) h' a ob)(ht:autoParam (0<t') zAt) :
 Inv X pins σ (upd H a ob) {s with heap:=h',toks:=t'} :=
 I.write (x:=a) (e:=a) mu (.inl rfl) (fun b q hb z=>(hs.2 b hb).trans z) he new
theorem zu3{kvs:List (Key×V)}{vs:List (Key×Value)}(z:kvs.length<=sizeLine)(hd:(a == sysModules)=false)(rel:KV kvs vs)(dd:h'.DictOf (Z8 P w) a vs) :
 W4 P w H' h' a (.dK kvs):=⟨z,hd,vs,rel,dd⟩
theorem yu4{Q:Unit->Shared->Prop}(hu:A.units+1<cLine)(I:Inv X pins σ H s)(g:Ab6 H a y v H')(ry:L1 y u)(rv:L1 v r)(h:∀ s',Inv X pins σ H' s'->Q () s') :
 wpAny #[9] A (setItem (.ref a) u r) Q E s:=by
 rcases g with⟨kvs,k,e,ey,l,eH⟩|⟨kvs,k,b,e,ey,eb,l,eH⟩
 ·subst ey eH
  obtain⟨z,hd,vs,rel,dd⟩:=Ab4 I.hok e
  have hz:vs.length<=sizeLine:=by rw[<-rel.length];exact z
  have hl:(xn5 kvs k v).length<=sizeLine:=by have:=xc0 kvs k v;omega
  refine wpAny_setItem_pairs (hsz:=hz) (yn5 ry) dd fun h' dd' hs=>h _ ?_
  have he:∃ q,h'.get? a=some q:=let ⟨q,_,_,hq,_⟩:=dd';⟨q,hq⟩
  exact yn7 I (by rw[e];exact True.intro) hs he (zu3 hl hd (rel.put k rv) dd')
 ·subst ey eH
  cases (show u=Value.ref b from ry)
  obtain⟨z,hd,xs,rel,dd⟩:=Ab5 I.hok e
  have hz:xs.length<=sizeLine:=by rw[<-Paired.length rel];exact z
  have hl:(xn5 kvs k v).length<=sizeLine:=by have:=xc0 kvs k v;omega
  refine wpAny_setItem_heap (hsz:=hz) (tupleKind_room_in1 hu) (xv6 I.hok eb) dd fun h' dd' hs=>h _ ?_
  obtain⟨q,es,ep,hq,h2,h3,h4,_,h5⟩:=dd'
  refine yn7 I (by rw[e];exact True.intro) hs ⟨q,hq⟩ ⟨hl,hd,_,(rel.put k eb rv).keeps fun c ys ec=>?_,q,es,ep,hq,h2,h3,h4,h5⟩
  rw[B8 (zz7 ec e (fun z=>nomatch z))]
  exact ec
end
section
variable{kvs:List (Key×V)}{k:Key}
theorem Ab7(I:Inv X pins σ H s)(e:Rd H a (.dK kvs))(h:∀ t s',Inv X pins σ H s'->Q (.int kvs.length t) s'):wpAny #[9] A (call (.builtin "len") [.ref a]) Q E s:=by
 obtain⟨z,hd,vs,rel,dd⟩:=yn6 I.hok e
 refine call_len_dict hd dd (by rw[<-rel.length];rw[sizeLine_eq] at z;omega) ?_
 rw[<-rel.length]
 exact h _ _ (I.tok _)
end
namespace Att
open PySem PySem.W PySem.Calls PyProof.Rows
theorem xc9{P:Params}{h:Heap}:∀ (ns:List Int) (vs:List Value),WellAll P h vs (ns.map WData.int)->IntsAre vs ns:=by
 intro ns
 induction ns with
 | nil =>
   intro vs w
   rw[map_nil] at w
   cases w
   exact .nil
 | cons n ns ih =>
   intro vs w
   rw[map_cons] at w
   cases w with
   | cons a b =>
     cases a
     exact .cons _ _ (ih _ b)
theorem script_of{l:OpenLaw}{n:Nat}(hn:l.most=some n){P:Params}{h:Heap}{args:List WData}{vals:List Value}
 (hpre:l.row.toRowW.claim.pre args=true) (hwl:WellAll P h vals args) :
 ∃ a vs ns,vals=[Value.ref a]/\args=[WData.list (ns.map WData.int)]/\h.get? a=some {cls:=.type "list",data:=.seq vs.toArray}/\IntsAre vs ns/\ns.length<=n:=by
 have hsh:WShape.hasAll [] args [.list .int]=true:=(pre_splitW hpre).1
 have hc:l.pre.holds [] {args:=args}=true:=(pre_splitW hpre).2
 obtain⟨d,r,rfl,h1,h2⟩:=hasAllW_cons hsh
 obtain rfl:=hasAllW_nil h2
 obtain⟨xs,rfl,h3⟩:=hasW_list h1
 obtain⟨ns,rfl⟩:=items_int h3
 have hlen:ns.length<=n:=by
  unfold OpenLaw.pre at hc
  have h4:(WTm.not (.lt (.lit (.int (n:Int))) (.len (.arg 0)))).holds [] {args:=[.list (ns.map .int)]}=true:=by
   have h4:=(holds_andW hc).1
   rw[hn] at h4
   exact h4
  have h5:=condW_of h4 (w_not (w_lt w_lit (w_len_list (w_arg rfl))))
  rw[length_map] at h5
  refine Nat.le_of_not_lt fun q=>?_
  have q':(n:Int)<((ns.length:Nat):Int):=by omega
  first
   | (rw[decide_eq_true q'] at h5;exact absurd h5 #[10])
   | (simp at h5;omega)
 cases hwl with
 | cons w1 w2 =>
   cases w2
   cases w1 with
   | list ho hall=>exact⟨_,_,ns,rfl,rfl,ho,xc9 ns _ hall,hlen⟩
theorem post_true(l:OpenLaw)(args:List WData):l.row.toRowW.claim.post args (.bool true) args=true :=
 postW_of (r:=l.row.toRowW) (X:=(true == true))
  (show WShape.has [] (.bool true) .bool=true by first|rfl|decide|simp[WShape.has,WShape.arms,WShape.armsAll])
  (show(WTm.eq .res (.lit (.bool true))).value [] {args:=args,res:=some (.bool true),after:=args}=some (.bool (true == true)) from w_eq_bool (w_res rfl) w_lit) rfl
end Att
theorem xr2:∀ {vs:List Value} {ns:List Int},IntsAre vs ns->G5 (ns.map V.int) vs
 | _,_,.nil=>.nil
 | _,_,.cons n t h=>.cons ⟨t,rfl⟩ (xr2 h)
def zu4(H:Hp):Prop:=∀ b,H b=none\/∃ o xs,H b=some (.frz o (.lst xs))
theorem za4 {mb:Str->Option Value} {fa:Addr} {s₁:Shared} {vs:List Value} {ns:List Int} (KX:K.In s₁.heap) (hns:s₁.heap.Ns mainGlobals mg) (hb:s₁.heap.Ns builtinsNs mb) (hbb:∀ x:Str,x ≠ "__name__"->mb x=bootBuiltins x) (hlim:s₁.heap.NoLimit) (hg:s₁.gens=#[]) (htk:0<s₁.toks) (ha:s₁.heap.get? a=some {cls:=.type "list",data:=.seq vs.toArray}) (hi:IntsAre vs ns) (hl:ns.length<=sizeLine) (hr:qk4 k callerA) (F:∀ base:Heap,K.In base->base.Ns mainGlobals mg->J7 P w K mg base CX k fa fd [x] sp) (hbind:∀ (s:Shared) (u:Value),BindsTo s fd ⟨[u],[]⟩ [(x,u)]) (hsp:∀ H:Hp,zu4 H->SqL K H a (ns.map V.int)->sp [.ref a] H (fun v _=>v=.bl true) fun _ _ _=>False) (hCX:∀ H e s',CX [] H s₁ (fun _ _ _=>False) e s'->False) :
 codeAny (model P w) callerA (.call (.ref fa) ⟨[.ref a],[]⟩) (fun r s'=>r=.ok (.ret (.bool true))/\OldK s₁.heap s'.heap/\s'.os=s₁.os/\AllBare s'.gens) s₁:=by
 have rv:=xr2 hi
 have lenV:=hi.length
 have core:∀ H:Hp,zu4 H->SqL K H a (ns.map V.int)->HOk P w H s₁.heap->(∀ b,H b≠none->b=a)->(H a≠none->K.lookup a=none) ->
  codeAny (model P w) callerA (.call (.ref fa) ⟨[.ref a],[]⟩) (fun r s'=>r=.ok (.ret (.bool true))/\OldK s₁.heap s'.heap/\s'.os=s₁.os/\AllBare s'.gens) s₁:=by
  intro H hO hS hok hA hK
  have base_of:∀ {b:Addr} {o:Obj},s₁.heap.get? b=some o->H b=none->(xu5 s₁.heap H).get? b=some o:=fun e n=>yy1 e n
  have noA:∀ {b:Addr} {o:Obj} {es:Array DictEntry} {ep:Nat},s₁.heap.get? b=some o->o.data=.dict es ep->H b=none:=fun{b o es ep} e d=>by
   cases q:H b with
   | none=>rfl
   | some u =>
     have e':b=a:=hA b (by rw[q];simp)
     subst e'
     rw[ha] at e;cases e
     have d':Data.seq vs.toArray _=Data.dict es ep:=d
     cases d'
  have nsK:∀ {b:Addr} {m:Str->Option Value},s₁.heap.Ns b m->(xu5 s₁.heap H).Ns b m:=fun{b m} ⟨o,es,ep,e,d,r⟩=>⟨o,es,ep,base_of e (noA e d),d,r⟩
  have hKb:K.In (xu5 s₁.heap H):=fun b o e=>base_of (KX b o e) (by
   cases q:H b with
   | none=>rfl
   | some u =>
     have e':b=a:=hA b (by rw[q];simp)
     subst e'
     rw[hK (by rw[q];simp)] at e;cases e)
  have hM:Mod K mg (xu5 s₁.heap H):=⟨hKb,nsK hns,⟨mb,nsK hb,hbb⟩,let ⟨mc,h1,h2⟩:=hlim;⟨mc,nsK h1,h2⟩⟩
  have e0:yi3 P w K mg (xu5 s₁.heap H) callerA [] s₁ H:=⟨rfl,hM,fun b o e=>zi6 e,Nat.le_of_eq (ys9 _ _),trivial,fun b hb=>absurd (show b∈([]:List Addr) from hb) (by simp),hok,.of_eq hg,htk⟩
  refine codeAny_mono ((F _ hKb (nsK hns)).run callerA [] s₁ H ⟨[.ref a],[]⟩ [.ref a] [.ref a] _ _ hr e0 (hbind s₁ (.ref a)) (.cons rfl .nil) (hsp H hO hS)) fun r s' h=>?_
  cases r with
  | error e=>exact(hCX H e s' h).elim
  | ok fl =>
    cases fl with
    | next=>exact False.elim h
    | brk=>exact False.elim h
    | cont=>exact False.elim h
    | ret u =>
      obtain⟨v,H',_,os,bare,un,hok',r',q⟩:=h
      have q':v=.bl true:=q
      subst q'
      obtain rfl:u=Value.bool true:=r'
      refine⟨rfl,OldK.of_keep fun b o e=>?_,os,bare⟩
      cases q:H b with
      | none=>exact un.keep b o e q (by intro z;exact absurd (show b∈([]:List Addr) from z) (by simp)) (by simp)
      | some u =>
        rcases hO b with z|⟨ob,xs,z⟩
        ·rw[q] at z;cases z
        ·have z2:=un.frzs b ob _ z
         obtain⟨e1,_⟩:=hok b _ z
         obtain⟨e2,_⟩:=hok' b _ z2
         rw[e] at e1;cases e1
         exact e2
 cases hk:K.lookup a with
 | some o =>
   have e:=KX a o hk
   rw[ha] at e
   cases e
   refine core (fun _=>none) (fun _=>.inl rfl) (.inr ⟨_,vs.toArray,_,hk,rfl,rfl,rfl,by rw[size_toArray,lenV];exact hl,by simpa using rv⟩) (fun b u z=>by have z':(none:Option HO)=some u:=z;cases z') (fun b z=>absurd rfl z) fun z=>absurd rfl z
 | none =>
   refine core (fun b=>if b=a then some (.frz {cls:=.type "list",data:=.seq vs.toArray} (.lst (ns.map V.int))) else none) (fun b=>?_) (.inl (.inr ⟨{cls:=.type "list",data:=.seq vs.toArray},if_pos rfl⟩)) (fun b u z=>?_) (fun b z=>?_) fun _=>hk
   ·by_cases hb:b=a
    ·exact .inr ⟨_,_,if_pos hb⟩
    ·exact .inl (if_neg hb)
   ·by_cases hb:b=a
    ·have z':=(if_pos hb).symm.trans z
     cases z'
     subst hb
     exact⟨ha,by rw[length_map];exact hl,vs,_,rv,ha⟩
    ·have z':=(if_neg hb).symm.trans z
     cases z'
   ·by_cases hb:b=a
    ·exact hb
    ·exact absurd (if_neg hb) z
theorem xg7:∀ ns:List Int,PySem.W.ofPys (ns.map PyData.int)=ns.map PySem.W.WData.int
 | []=>by simp[PySem.W.ofPys]
 | n::ns=>by simp only[map_cons,PySem.W.ofPys,PySem.W.ofPy];rw[xg7 ns]
variable{as:List Addr}{q:Program}
theorem zk2{l:PySem.W.OpenLaw}{loose:List Str}{XP:(Str->Option Value)->Heap->Prop}{z t:Nat}{d:DefRec}{K:Params->Fg}{CX:World->CXT}{sp:World->Sp}(hn:l.most=some n)(hn2:n<=sizeLine)(hdf:d.params.defaults=[])(hr:qk4 k callerA)(hk:∀ P,as=(K P).map (·.1))(h0:0<t) (F:∀ (w:World) (mg:Str->Option Value) (fa:Addr) (h:Heap),(K w.params).In h->h.Ns mainGlobals mg->mg d.name=some (.ref fa) ->
  ∃ fd:FuncData,(∀ (s:Shared) (u:Value),BindsTo s fd ⟨[u],[]⟩ [(x,u)]) /\
   ∀ base:Heap,(K w.params).In base->base.Ns mainGlobals mg->J7 l.prog w (K w.params) mg base (CX w) k fa fd [x] (sp w)) (hsp:∀ (w:World) (H:Hp) (a:Addr) (ns:List Int),ns.length<=n->zu4 H->SqL (K w.params) H a (ns.map V.int)->sp w [.ref a] H (fun v _=>v=.bl true) fun _ _ _=>False) (hCX:∀ (w:World) (H:Hp) (s:Shared) (e:Value) (s':Shared),CX w [] H s (fun _ _ _=>False) e s'->False) :
 PySem.W.WalkX q loose XP (PySem.W.X.obsZ as) (PySem.W.X.valZ K z t) l.row.toRowW d [] (fun f vs=>PySem.call f vs):=by
 intro w s₀ s₁ mg mb G y fa o pm cd doc dV kV ho hd hcd hD hmg hg args vals aa L hpre hlay hrd hwl hlo
 obtain rfl:dV=.none:=PySem.W.Dflts.none hD hdf
 obtain rfl:kV=.none:=PySem.W.Dflts.noKw hD
 obtain⟨a,vs,ns,rfl,rfl,hobj,hints,hlen⟩:=Att.script_of hn hpre hwl
 obtain⟨_,KI,_,htk⟩:=PySem.W.X.z_facts hk y
 have KX:=PySem.W.InK.keeps w _ _ KI L.keeps
 have tk:0<s₁.toks:=Nat.lt_of_lt_of_le h0 (PySem.W.X.script_toks (ns:=ns) (a:=a) (by rw[PySem.W.ofPy,xg7];exact L) htk)
 obtain⟨fd,hb,hF⟩:=F w mg fa _ KX G.T.g hmg
 refine PySem.W.enter_call (codeAny_mono (za4 KX G.T.g G.T.b G.T.builtins G.T.nolimit hg tk hobj hints (Nat.le_trans hlen hn2) hr hF hb (fun H hO hS=>hsp w H a ns hlen hO hS) fun H e s'=>hCX w H s₁ e s') fun r s' hq=>?_)
 obtain⟨rfl,h2,h3,h4⟩:=hq
 exact⟨.inl ⟨.bool true,.bool true,[],rfl,fun _=>rfl,.bool true,Att.post_true l _,fun _=>⟨List.Pairwise.nil,fun _ hm=>(nomatch hm)⟩⟩,h2,h3,h4⟩
def ws8(s:Stmt):Arguments:=match s with
 | .FunctionDef _ a _ _ _ _ _ _ _ _=>a
 | _=>{posonlyargs:=[],args:=[],vararg:=none,kwonlyargs:=[],kw_defaults:=[],kwarg:=none,defaults:=[]}
def wl5(s:Stmt):List Stmt:=match s with
 | .FunctionDef _ _ b _ _ _ _ _ _ _=>b
 | _=>[]
def B3(s:Stmt):Scope:=match s with
 | .FunctionDef _ _ _ _ _ _ sc _ _ _=>sc
 | _=>{kind:=.function,names:=[],isGenerator:=false,isCoroutine:=false}
abbrev CX0:CXT:=fun _ _ _ _ _ _=>False
abbrev E0:XK:=fun _ _ _=>False
theorem B9:wh1 CX0 X E0:=fun _ _ _ _ _ _ _ h=>h.elim
structure Fun(K:Fg)(x qual:Str)(st:Stmt)(f:Addr)(fd:FuncData):Prop where
 ex:∃ (oc:Value) (od:Option Addr) (kV doc pm:Value) (an:Option Addr) (cdv ct:Value) (osl:Array (Option Value)),
  fd=PySem.W.fnOf x qual (ws8 st) (wl5 st) (B3 st) .none kV doc pm an cdv ct/\K.lookup f=some ⟨oc,od,.func fd,osl⟩/\PySem.W.codeIn K cdv qual=true
 kp:PySem.W.keepIn K (.ref f)=true
theorem Fun.ok{f:Addr}(F:Fun K x qual st f fd)(S:C3 N ps (B3 st))(len:∀ vs H Q E,sp vs H Q E->vs.length=ps.length) (hbody:∀ (cdv:Value) (A:Around) (outer:List Env) (s:Shared) (H:Hp) (vs:List V) (Q:VK) (E:XK),qk4 k (A.deeper (envOfC qual (B3 st) s.heap.objs.size f cdv))->sp vs H Q E ->
  ∃ t,PSs (yu1 CX0 P w K mg base N qual (B3 st) f cdv A outer s H E).nox (wl5 st) t/\t {nx:=fun _ H'=>Q .non H',rt:=Q} (E2 N vs) H):J7 P w K mg base CX0 (k+1) f fd ps sp:=by
 obtain⟨oc,od,kV,doc,pm,an,cdv,ct,osl,rfl,lk,hcd⟩:=F.ex
 refine Aa5 lk hcd S len fun A outer s H vs Q E hr hsp=>?_
 obtain⟨t,h,q⟩:=hbody cdv A outer s H vs Q E hr hsp
 exact⟨t,h.nox,q⟩
theorem Fun.binds{f:Addr}(F:Fun K x qual st f fd)(h:∀ (kV doc pm:Value) (an:Option Addr) (cdv ct:Value) (us:List Value),us.length=ps.length->bindArgs #[113] ⟨us,[]⟩=pure (ps.zip us)):U7 K fd ps []:=by
 obtain⟨oc,od,kV,doc,pm,an,cdv,ct,osl,rfl,lk,hcd⟩:=F.ex
 exact .all (h kV doc pm an cdv ct)
theorem zu5{f:Addr}{kV:Value}(l:K.lookup f=some ⟨oc,od,.func #[113],osl⟩)(c:PySem.W.codeIn K cdv qual=true)(k:PySem.W.keepIn K (.ref f)=true):Fun K x qual st f #[113]:=⟨⟨oc,od,kV,doc,pm,an,cdv,ct,osl,rfl,l,c⟩,k⟩
theorem D4(hr:qk4 k A):A.units+1<cLine:=Nat.lt_of_le_of_lt (Nat.add_le_add_left (by decide:1<=64) _) hr.units
theorem pv(i:Nat)(hN:autoParam (X.N[i]?=some x) zAr)(hv:Vis X.env.scope x:=by first|exact Or.inl rfl|exact Or.inr #[23]|exact Or.inr (Or.inr rfl))(hd:autoParam #[43] zAd)(hcd:autoParam ((x == ("__classdict__":Str))=false) zAd):PE X (.Name x pos) (A2 i):=zs8 hN hv hd hcd
variable{B:Prop}
theorem qd5{A:Prop}(h:B):if false=true then A else B:=by
 rw[if_neg Bool.false_ne_true]
 exact h
theorem qt5{A:Prop}(h:A):if true=true then A else B:=by
 rw[if_pos rfl]
 exact h
def A7(H H':Hp):Prop:=∀ b o,H b=some o->H' b=some o
theorem A7.refl(H:Hp):A7 H H:=fun _ _ h=>h
theorem A7.free(e:A7 H H')(h:H' l=Option.none):H l=Option.none:=by
 cases q:H l with
 | none=>rfl
 | some o =>
   rw[e l o q] at h
   cases h
theorem A7.seq(e:A7 H H')(h:SqL K H a xs):SqL K H' a xs:=by
 rcases h with(h|⟨o,h⟩)|h
 ·exact .inl (.inl (e _ _ h))
 ·exact .inl (.inr ⟨o,e _ _ h⟩)
 ·exact .inr h
theorem yu5:qj0 X (.builtin "len") (fun xs H Q=>∃ a kvs,xs=[V.ref a]/\H a=some (.dK kvs)/\Q (.int kvs.length) H):=by
 intro pins s σ H xs us Q I r h
 obtain⟨a,kvs,rfl,ha,q⟩:=h
 obtain⟨u,rfl,ru⟩:=qt9 r
 cases ru
 exact Ab7 I (.inl ha) fun t s' I'=>⟨.int kvs.length,H,I',⟨t,rfl⟩,q⟩
theorem noE{t:Sem α}{Q:α->Shared->Prop}(h:wpAny M A t Q (fun _ _=>False) s):wpAny M A t Q E s :=
 wpAny_mono h (fun _ _ q=>q) fun _ _ z=>False.elim z
theorem wq0{env:Env}:∀ (names:List (Str×NameKind)) (acc:List (Str×Addr)),(∀ y∈names,y.2=.free->∃ c,env.cells.lookup y.1=some c)->(∀ x c,acc.lookup x=some c->env.cells.lookup x=some c) ->
 ∃ cl,(forIn names acc fun(x:Str×NameKind) (r:List (Str×Addr)) =>
  (if(x.2 == .free)=true then(do let a<-cellOf env x.1;pure (ForInStep.yield ((x.1,a)::r))) else pure (ForInStep.yield r):Sem (ForInStep (List (Str×Addr)))))=(pure cl:Sem (List (Str×Addr))) /\
  (∀ x c,cl.lookup x=some c->env.cells.lookup x=some c)/\(∀ x,(∃ c,acc.lookup x=some c)->∃ c,cl.lookup x=some c)/\∀ y∈names,y.2=.free->∃ c,cl.lookup y.1=some c
 | [],acc,_,h2=>⟨acc,by rw[forIn_nil],h2,fun _ h=>h,fun _ h=>by cases h⟩
 | (n,k)::r,acc,h1,h2=>by
   by_cases hk:k=.free
   ·subst hk
    obtain⟨c,hc⟩:=h1 (n,.free) mem_cons_self rfl
    obtain⟨cl,e,q1,q2,q3⟩:=wq0 r ((n,c)::acc) (fun y hy=>h1 y (mem_cons_of_mem _ hy)) (fun x d hd=>by
     rw[lookup_cons] at hd
     cases hx:x == n with
     | true=>rw[hx] at hd;cases hd;rw[beq_iff_eq.mp hx];exact hc
     | false=>rw[hx] at hd;exact h2 x d hd)
    refine⟨cl,?_,q1,fun x hx=>q2 x ?_,fun y hy hf=>?_⟩
    ·rw[forIn_cons]
     have e0:cellOf env n=pure c:=by unfold cellOf;rw[hc]
     simp only[beq_self_eq_true,if_true,e0]
     exact e
    ·rw[lookup_cons]
     cases x == n with
     | true=>exact⟨c,rfl⟩
     | false=>exact hx
    ·rcases mem_cons.mp hy with rfl|hy
     ·exact q2 n ⟨c,by rw[lookup_cons];simp⟩
     ·exact q3 y hy hf
   ·obtain⟨cl,e,q1,q2,q3⟩:=wq0 r acc (fun y hy=>h1 y (mem_cons_of_mem _ hy)) h2
    refine⟨cl,?_,q1,q2,fun y hy hf=>?_⟩
    ·rw[forIn_cons]
     have hb:(k == NameKind.free)=false:=by simpa using hk
     simp only[hb,Bool.false_eq_true,if_false]
     exact e
    ·rcases mem_cons.mp hy with rfl|hy
     ·exact absurd hf hk
     ·exact q3 y hy hf
theorem wn9(h:∀ y∈scope.names,y.2=.free->∃ c,env.cells.lookup y.1=some c) :
 ∃ cl,closureFor scope env=pure cl/\(∀ x c,cl.lookup x=some c->env.cells.lookup x=some c)/\∀ y∈scope.names,y.2=.free->∃ c,cl.lookup y.1=some c:=by
 obtain⟨cl,e,q1,_,q3⟩:=wq0 (env:=env) scope.names [] h (fun x c hc=>by simp at hc)
 refine⟨cl,?_,q1,q3⟩
 unfold closureFor
 simp only[]
 rw[show(forIn scope.names ([]:List (Str×Addr)) fun(x:Str×NameKind) (r:List (Str×Addr)) =>
  (match x with|(name,kind)=>if(kind == .free)=true then(do let a<-cellOf env name;pure (ForInStep.yield ((name,a)::r))) else pure (ForInStep.yield r):Sem (ForInStep (List (Str×Addr)))))=(pure cl:Sem (List (Str×Addr))) from e]
 rfl
theorem qo6{env:Env}:∀ {names:List (Str×NameKind)} {x:Str},names.lookup x=some .free ->
 (names.map fun(n,k)=>if#[20] then(n,NameKind.cell) else(n,k)).lookup x=some .cell \/
 (names.map fun(n,k)=>if#[20] then(n,NameKind.cell) else(n,k)).lookup x=some .free
 | [],_,h=>by simp at h
 | (n,k)::r,x,h=>by
   have ih:=@qo6 env r x
   show List.lookup x ((if#[20]=true then(n,NameKind.cell) else(n,k))::_)=_\/List.lookup x ((if#[20]=true then(n,NameKind.cell) else(n,k))::_)=_
   cases hx:x == n with
   | true =>
     simp only[lookup_cons,hx] at h
     cases h
     by_cases hc:(NameKind.free == NameKind.free && env.scope.kind == .function && env.kindOf n == some .cell)=true
     ·rw[if_pos hc];exact .inl (by simp only[lookup_cons,hx])
     ·rw[if_neg hc];exact .inr (by simp only[lookup_cons,hx])
   | false =>
     simp only[lookup_cons,hx] at h
     by_cases hc:#[20]=true
     ·rw[if_pos hc];simp only[lookup_cons,hx];exact ih h
     ·rw[if_neg hc];simp only[lookup_cons,hx];exact ih h
theorem qc9{env:Env}:∀ {names:List (Str×NameKind)} {x:Str} {k:NameKind},
 (names.map fun(n,k)=>if#[20] then(n,NameKind.cell) else(n,k)).lookup x=some k ->
 names.lookup x=some k\/(k=.cell/\names.lookup x=some .free)
 | [],_,_,h=>by simp at h
 | (n, j)::r,x,k,h=>by
   have ih:=@qc9 env r x k
   have h:List.lookup x ((if(j == NameKind.free && env.scope.kind == .function && env.kindOf n == some .cell)=true then(n,NameKind.cell) else(n,j))::_)=some k:=h
   by_cases hc:(j == NameKind.free && env.scope.kind == .function && env.kindOf n == some .cell)=true
   ·rw [if_pos hc] at h
    cases hx:x == n with
    | true =>
      simp only[lookup_cons,hx] at h ⊢
      cases h
      have:j=.free:=by
       cases j <;> simp at hc ⊢
      exact .inr ⟨rfl,by rw[this]⟩
    | false=>simp only[lookup_cons,hx] at h ⊢;exact ih h
   ·rw[if_neg hc] at h
    cases hx:x == n with
    | true=>simp only[lookup_cons,hx] at h ⊢;exact .inl h
    | false=>simp only[lookup_cons,hx] at h ⊢;exact ih h
variable{elt:Expr}{ifs:List Expr}
theorem wh3{R:Result->Shared->Prop}{target:Expr}{it acc:Value}(I:Nat->Shared->Prop) (turn:∀ n s,I n s->wpAny #[35] A (pyNext it) (fun r s₁=>match r with
  | none=>R (.ok .next) s₁
  | some v=>wpAny #[35] A (letOwnedTupleGo target it v) (fun _ s₁'=>wpAny #[35] A (assign target env v) (fun _ s₂ =>
   wpAny #[35] A (forIn ifs true fun c r=>if r=true then do let ok<-isTrue c env (eval c env);pure (ForInStep.yield ok) else pure (ForInStep.yield r)) (fun ok s₃ =>
    if ok=true then wpAny #[35] A (eval elt env) (fun x s₄ =>
     wpAny #[35] A (call (.builtin "list.append") [acc,x]) (fun _ s₅=>∃ m,m<n/\I m s₅) #[59] s₄) #[59] s₃
    else ∃ m,m<n/\I m s₃) #[59] s₂) #[59] s₁') #[59] s₁)
  #[59] s) (n:Nat) (h:I n s) :
 codeAny #[35] A (.compLoop (.ListComp elt [⟨target,iter,ifs,0⟩] scope pos) 0 it acc env) R s:=by
 refine codeAny_loop rfl I (fun n s hI=>?_) n h
 show wpAny _ A ((compTurn (.ListComp elt [⟨target,iter,ifs,0⟩] scope pos) 0 it acc env).onRaise (fun x=>do noteFrame x env;theTreesLotGoes x)) _ _ s
 refine wpAny_noted ?_
 rw[compTurn_list]
 refine wpAny_bind (wpAny_standAt (wpAny_bind (wpAny_mono (turn n s hI) (fun r s₁ h₁=>?_) fun _ _ h'=>h')))
 cases r with
 | none=>exact wpAny_pure h₁
 | some v =>
   refine wpAny_bind (wpAny_mono h₁ (fun _ s₁' h₁'=>?_) fun _ _ h'=>h')
   refine wpAny_bind (wpAny_mono h₁' (fun _ s₂ h₂=>wpAny_bind (wpAny_mono h₂ (fun ok s₃ h₃=>?_) fun _ _ h'=>h')) fun _ _ h'=>h')
   cases ok with
   | false=>exact wpAny_pure ⟨rfl,h₃⟩
   | true =>
     exact wpAny_bind (wpAny_bind (wpAny_mono h₃ (fun x s₄ h₄=>wpAny_bind (wpAny_mono h₄ (fun _ s₅ h₅=>wpAny_pure (wpAny_pure ⟨rfl,h₅⟩)) fun _ _ h'=>h')) fun _ _ h'=>h'))
def blk(X:Cx)(N:List Str)(scope:Scope)(cl:List (Str×Addr))(C:Addr)(s₂:Shared)(H₂:Hp)(fp:List Addr)(pn:List (Addr×Obj)):Cx :=
 {X with N:=N,s₀:=s₂,H₀:=H₂,env:=compEnvC scope cl C X.env,outer:=X.stack,stack:=X.stack,ex:=fp,fn:=fun _=>false,pn:=pn,xe:=fun _ _=>False}
def wh4(fr:List (Option Nat))(σ:St):St:=fr.map fun o=>match o with|some i=>(σ[i]?).join|none=>none
variable{fr:List (Option Nat)}
theorem yb7{j:Nat}(h:(wh4 fr σ)[j]?=some (some v)):∃ i,fr[j]?=some (some i)/\σ[i]?=some (some v):=by
 unfold wh4 at h
 rw[List.getElem?_map] at h
 cases e:fr[j]? with
 | none=>rw[e] at h;cases h
 | some o =>
   rw[e] at h
   cases o with
   | none=>cases h
   | some i =>
     refine⟨i,rfl,?_⟩
     have h':(σ[i]?).join=some v:=Option.some.inj h
     cases e2:σ[i]? with
     | none=>rw[e2] at h';cases h'
     | some x=>rw[e2] at h';cases x with
       | none=>cases h'
       | some y=>cases h';rfl
def za5(fr:List (Option Nat))(g:TG):Prop:=∀ (x:V) (σ:St) (H:Hp) (Q:St->Hp->Prop),g x σ H Q->g x σ H fun σ2 H2=>Q σ2 H2/\∀ (j i:Nat),fr[j]?=some (some i)->σ2[j]?=σ[j]?
def yn8(fr:List (Option Nat))(g:TGs):Prop:=∀ (xs:List V) (σ:St) (H:Hp) (Q:St->Hp->Prop),g xs σ H Q->g xs σ H fun σ2 H2=>Q σ2 H2/\∀ (j i:Nat),fr[j]?=some (some i)->σ2[j]?=σ[j]?
theorem ql5{i:Nat}(h:autoParam (fr[i]?=some none) zAr):za5 fr (B6 i):=fun x σ H Q q=>⟨q,fun j k hj=>by
 have:i≠j:=by rintro rfl;rw[h] at hj;cases hj
 rw[List.getElem?_set_ne this]⟩
theorem zu6:yn8 fr yt0:=fun xs σ H Q ⟨e,q⟩=>⟨e,q,fun _ _ _=>rfl⟩
theorem yn9{i:Nat}{u:TGs}(h:fr[i]?=some none)(hu:yn8 fr u):yn8 fr (we5 (B6 i) u):=fun xs σ H Q ⟨v,r,e,q⟩=>by
 refine⟨v,r,e,?_⟩
 have q:u r (σ.set i (some v)) H Q:=q
 have e2:=hu _ _ _ _ q
 have k:∀ j k,fr[j]?=some (some k)->(σ.set i (some v))[j]?=σ[j]?:=fun j k hj=>by
  have:i≠j:=by rintro rfl;rw[h] at hj;cases hj
  rw[List.getElem?_set_ne this]
 have e3:(fun(σ2:St) (H2:Hp)=>Q σ2 H2/\∀ (j k:Nat),fr[j]?=some (some k)->σ2[j]?=σ[j]?)=(fun(σ2:St) (H2:Hp)=>Q σ2 H2/\∀ (j k:Nat),fr[j]?=some (some k)->σ2[j]?=(σ.set i (some v))[j]?):=by
  funext σ2 H2
  refine propext ⟨fun⟨a,b⟩=>⟨a,fun j m hj=>(b j m hj).trans (k j m hj).symm⟩,fun⟨a,b⟩=>⟨a,fun j m hj=>(b j m hj).trans (k j m hj)⟩⟩
 show u r (σ.set i (some v)) H _
 rw[e3]
 exact e2
theorem zu7{u:TGs}(hu:yn8 fr u):za5 fr (yt1 K n u):=fun x σ H Q ⟨a,xs,e1,e2,e3,q⟩=>⟨a,xs,e1,e2,e3,hu _ _ _ _ q⟩
def PTs(X:Cx)(ifs:List Expr)(t:TT):Prop :=
 ∀ (pins:List (Addr×Obj)) (s:Shared) (σ:St) (H:Hp) (Q:Bool->Hp->Prop),Inv X pins σ H s->t σ H Q ->
  wpAny #[9] X.A (forIn ifs true fun c r=>if r=true then do let ok<-isTrue c X.env (eval c X.env);pure (ForInStep.yield ok) else pure (ForInStep.yield r)) (TP X pins σ Q) X.xe s
def tTT:TT:=fun _ H Q=>Q true H
theorem ws9:PTs X [] tTT:=fun _ _ _ H _ I h=>wpAny_tests_nil ⟨H,I,h⟩
theorem wl6{t:TT}(h:PT X c t):PTs X [c] t:=fun pins s σ H Q I hq=>wpAny_tests_one (h pins s σ H Q I hq)
structure wl7(X:Cx)(scope:Scope)(N:List Str)(fr:List (Option Nat)):Prop where
 kind:scope.kind=.function
 nocell:∀ y∈scope.names,y.2≠.cell
 names:∀ y∈scope.names,y.2=.local->scope.names.lookup y.1=some .local
 free:∀ y∈scope.names,y.2=.free->X.env.scope.names.lookup y.1=some .cell\/X.env.scope.names.lookup y.1=some .free
 len:N.length=fr.length
 at_:∀ (j i:Nat) (x:Str),fr[j]?=some (some i)->N[j]?=some x->X.N[i]?=some x/\scope.names.lookup x=some .free
def yo0(osc:Scope)(ON:List Str)(scope:Scope)(N:List Str)(fr:List (Option Nat)):Bool :=
 decide (scope.kind=.function) && scope.names.all (fun y=>decide (y.2≠.cell)) && scope.names.all (fun y=>decide (y.2≠.local) || decide (scope.names.lookup y.1=some .local)) &&
 scope.names.all (fun y=>decide (y.2≠.free) || decide (osc.names.lookup y.1=some .cell) || decide (osc.names.lookup y.1=some .free)) && decide (N.length=fr.length) &&
 (fr.zip N).all (fun p=>match p.1 with|some i=>decide (ON[i]?=some p.2) && decide (scope.names.lookup p.2=some .free)|none=>true)
theorem R5{osc:Scope}{ON:List Str}(h:yo0 osc ON scope N fr=true)(e1:X.env.scope=osc)(e2:X.N=ON):wl7 X scope N fr:=by
 subst e1 e2
 unfold yo0 at h
 simp only[Bool.and_eq_true,all_eq_true,Bool.or_eq_true,decide_eq_true_eq] at h
 obtain⟨⟨⟨⟨⟨h1,h2⟩,h3⟩,h4⟩,h5⟩,h6⟩:=h
 refine⟨h1,h2,fun y hy e=>(h3 y hy).resolve_left fun z=>z e,fun y hy e=>?_,h5,fun j i x e1 e2=>?_⟩
 ·rcases h4 y hy with(z|z)|z
  ·exact absurd e z
  ·exact .inl z
  ·exact .inr z
 ·have hm:(some i,x)∈fr.zip N:=by
   apply mem_of_getElem? (i:=j)
   rw[List.getElem?_zip_eq_some]
   exact⟨e1,e2⟩
  have:=h6 _ hm
  simpa using this
def qu0 (fr:List (Option Nat)) (wi:TI) (g:TG) (tt:TT) (te:TE):TE:=fun σ H Q=>wi σ H fun J H1 =>
 ∃ W:Nat->Nat->List V->Hp->Prop,(∃ m,W 0 m [] H1)/\∀ i m ys H,W i m ys H->ys.length<=sizeLine /\
  ((J.stop i H/\∀ p,H p=none->Q (.ref p) #[54,ys]) \/
   (J.go i H/\∃ NN:List V->Hp->Prop,(∀ ys' H',NN ys' H'->∃ m',m'<m/\W (i+1) m' ys' H')/\∀ x H',J.yld i H x H'->g x (wh4 fr σ) H' fun σ2 H2=>tt σ2 H2 fun b H3 =>
    if b=true then te σ2 H3 fun y H4=>NN (ys++[y]) H4 else NN ys H3))
structure zu8(X:Cx)(pins:List (Addr×Obj))(σ:St)(Q:VK)(C D:Addr)(s':Shared):Prop where
 ex:∃ (ys:List V) (H:Hp),H D=none/\(∃ m,s'.heap.Ns C m)/\D≠C/\C≠X.env.locals/\(∀ x c,X.env.cells.lookup x=some c->c≠C)/\(∀ p∈X.pn++pins,p.1≠C)/\X.s₀.heap.objs.size<=C/\C∉X.fs /\
  (upd H D (.lst ys)) C=none /\
  (∀ h',Heap.SameBut C s'.heap h'->Inv X pins σ (upd H D (.lst ys)) {s' with heap:=h'})/\Q (.ref D) (upd H D (.lst ys))
variable{J:It}{tt:TT}
theorem xg8 {tg:Expr} {cl:List (Str×Addr)} (hcalm:X.calm=true) (S:wl7 X scope N fr) (hclS:∀ x c,cl.lookup x=some c->X.env.cells.lookup x=some c) (hclH:∀ y∈scope.names,y.2=.free->∃ c,cl.lookup y.1=some c) (hg:∀ C s₂ H₂ fp pn,PG #[49] tg g) (hgo:za5 fr g) (ht:∀ C s₂ H₂ fp pn,PTs #[49] ifs tt) (he:∀ C s₂ H₂ fp pn,PE #[49] elt te) {s2:Shared} {Q:VK} {fp:List Addr} {tn:Nat->Heap->Prop} (I2:Inv X pins σ H2 s2) (T:xc8 X.prog X.w X.K tg J fp it tn) (st2:tn 0 s2.heap) (f2:∀ b∈fp,xn2 X pins H2 b) (W:Nat->Nat->List V->Hp->Prop) (w0:∃ m,W 0 m [] H2) (turn:∀ i m ys H,W i m ys H->ys.length<=sizeLine /\
 ((J.stop i H/\∀ p,H p=none->Q (.ref p) #[54,ys]) \/
  (J.go i H/\∃ NN:List V->Hp->Prop,(∀ ys' H',NN ys' H'->∃ m',m'<m/\W (i+1) m' ys' H')/\∀ x H',J.yld i H x H'->g x (wh4 fr σ) H' fun σ2 H2=>tt σ2 H2 fun b H3 =>
   if b=true then te σ2 H3 fun y H4=>NN (ys++[y]) H4 else NN ys H3))) {RR:Value->Addr->Result->Shared->Prop} (hRR:∀ C D s',zu8 X pins σ Q C D s'->RR (.ref D) C (.ok .next) s') :
 wpAny #[9] X.A (newList []) (fun acc s₃=>wpAny #[9] X.A (newFunctionEnv scope X.env.globals cl [] X.env.qual none .none (some X.env)) (fun cenv s₄ =>
  codeAny #[9] X.A (.compStart #[61] 0 (.ref it) acc {cenv with scope:=relabel scope X.env}) (RR acc cenv.locals) s₄) E s₃) E s2:=by
 obtain⟨m0,w0⟩:=w0
 refine wpAny_newObj_type (wpAny_newFunctionEnv S.nocell (by intro y hy;simp at hy) (fun h₁ hns₁ hsb₁=>?_) S.kind)
 dsimp only at hns₁ hsb₁ ⊢
 generalize hHH:s2.heap.push {cls:=.type "list",dict:=none,data:=.seq ([]:List Value).toArray}=HH at hns₁ hsb₁ ⊢
 have hC:HH.objs.size=s2.heap.objs.size+1:=by rw[<-hHH,Heap.size_push]
 generalize hDD:s2.heap.objs.size=D at *
 generalize hCC:HH.objs.size=C at *
 have hDlt:Nat.lt D C:=by show D<C;rw[hC];exact Nat.lt_succ_self _
 have hDC:D≠C:=Nat.ne_of_lt hDlt
 have neD:∀ {b:Addr},Nat.lt b D->b≠D:=fun h=>Nat.ne_of_lt h
 have neC:∀ {b:Addr},Nat.lt b D->b≠C:=fun h=>Nat.ne_of_lt (Nat.lt_trans h hDlt)
 have below:∀ (b:Addr) (o:Obj),s2.heap.get? b=some o->Nat.lt b D:=fun b o e=>by rw[<-hDD];exact Heap.lt_size e
 have old:∀ b o,s2.heap.get? b=some o->h₁.get? b=some o:=fun b o e=>hsb₁.extBut b o (neC (below b o e)) (Heap.get?_push_of_some _ (hHH▸Heap.get?_push_of_some _ e))
 have hacc:h₁.get? D=some {cls:=.type "list",data:=.seq ([]:List Value).toArray}:=hsb₁.extBut _ _ hDC (Heap.get?_push_of_some _ (by rw[<-hHH,<-hDD];exact Heap.get?_push_size _ rfl))
 have Lt:Nat.lt X.env.locals D:=by rw[<-hDD];exact I2.lt
 have cellLt:∀ x c,X.env.cells.lookup x=some c->Nat.lt c D:=fun x c e=>by
  obtain⟨v,q⟩:=I2.cell x c e
  rw[<-hDD];exact q.lt
 have pinLt:∀ p∈X.pn++pins,Nat.lt p.1 D:=fun p hp=>below p.1 p.2 (I2.pin p hp).1
 have freshH:∀ b:Addr,Nat.le D b->H2 b=none:=fun b hb=>I2.hok.fresh (by rw[hDD];exact hb)
 let X':Cx:=blk X N scope cl C s2 H2 fp (X.pn++pins)
 have okX:X'.Ok:=by
  refine⟨I2.ok.mod,S.kind,I2.ok.glob,I2.ok.blt,by show s2.heap.objs.size<=C;rw[hDD];exact Nat.le_of_lt hDlt,fun x y c e1 e2=>I2.ok.inj x y c (hclS _ _ e1) (hclS _ _ e2),fun x hx=>?_,fun x c hf _=>(by cases hf),I2.ok.hd,I2.ok.frames,.inl rfl,fun b hb=>⟨?_,fun x c e=>(f2 b hb).2.2.2.2.1 x c (hclS _ _ e)⟩,I2.bs,Nat.le_trans I2.ok.bsz I2.sz,fun b o e hb=>?_,fun b hb hm=>?_,I2.stack,I2.stkFree⟩
  ·have hx:(relabel scope X.env).names.lookup x=some .cell\/(relabel scope X.env).names.lookup x=some .free:=hx
   have hf:scope.names.lookup x=some .free:=by
    rcases hx with hx|hx
    ·rcases qc9 hx with h|⟨_,h⟩
     ·exact absurd rfl (S.nocell _ #[116,h])
     ·exact h
    ·rcases qc9 hx with h|⟨h,_⟩
     ·exact h
     ·cases h
   exact hclH _ #[116,hf] rfl
  ·obtain⟨o,e,_⟩:=T.obj 0 _ st2 b hb
   exact neC (below b o e)
  ·obtain⟨_,_,_,h,_⟩:=f2 b hb
   rcases h with h|h
   ·exact I2.ok.noex b o e h
   ·have:=Heap.lt_size (I2.ok.bs b o e).1
    exact absurd (Nat.lt_of_lt_of_le this h) (Nat.lt_irrefl _)
  ·rcases mem_cons.mp (I2.stkSub b hm) with h|h
   ·exact(f2 b hb).2.1 h
   ·exact(f2 b hb).2.2.1 h
 have I4:∀ tk,0<tk->Inv X' [(D,{cls:=.type "list",data:=.seq ([]:List Value).toArray})] (wh4 fr σ) H2 {s2 with heap:=h₁,toks:=tk}:=fun tk htk=>by
  refine⟨okX,rfl,I2.bare,Un.kept old,⟨_,hns₁,fun j x v e1 e2 e3=>?_⟩,fun x c e=>?_,freshH C (Nat.le_of_lt hDlt),fun x c e=>I2.freeC x c (hclS _ _ e),fun p hp=>?_,I2.hok.kept old,?_,htk⟩
  ·obtain⟨i,q1,q2⟩:=yb7 e2
   obtain⟨a1,a2⟩:=S.at_ j i x q1 e1
   obtain⟨m,hn,hl⟩:=I2.loc
   have vis:Vis X.env.scope x:=by
    rcases S.free _ #[116,a2] rfl with h|h
    ·exact .inr (.inl h)
    ·exact .inr (.inr h)
   obtain⟨u,r,l⟩:=hl i x v a1 q2 vis
   refine⟨u,r,.inr ⟨?_,?_⟩⟩
   ·exact qo6 (env:=X.env) a2
   ·rcases l with⟨hk,_⟩|⟨_,c,hc,hcell⟩
    ·have hk:X.env.scope.names.lookup x=some .local:=hk
     rcases S.free _ #[116,a2] rfl with h|h
     ·have h:X.env.scope.names.lookup x=some .cell:=h
      rw[hk] at h;cases h
     ·have h:X.env.scope.names.lookup x=some .free:=h
      rw[hk] at h;cases h
    ·obtain⟨c',hc'⟩:=hclH _ #[116,a2] rfl
     have:c=c':=by
      have:=hclS _ _ hc'
      rw[hc] at this
      exact Option.some.inj this
     subst this
     obtain⟨o,ho,hd⟩:=hcell
     exact⟨c,hc',o,old c o ho,hd⟩
  ·obtain⟨v,o,ho,hd⟩:=I2.cell x c (hclS _ _ e)
   exact⟨v,o,old c o ho,hd⟩
  ·rcases mem_append.mp hp with hp|hp
   ·obtain⟨e,n,ne,nf,d⟩:=I2.pin p hp
    refine⟨old _ _ e,n,?_,fun hm=>?_,d⟩
    ·exact neC (pinLt p hp)
    ·rcases mem_cons.mp (I2.stkSub _ hm) with h|h
     ·exact ne h
     ·exact nf h
   ·have hp:p=(D,{cls:=.type "list",data:=.seq ([]:List Value).toArray}):=by simpa using hp
    subst hp
    refine⟨hacc,freshH D #[6],hDC,fun hm=>?_,fun v z=>by cases z⟩
    rcases mem_cons.mp (I2.stkSub _ hm) with h|h
    ·exact neD Lt h.symm
    ·exact I2.nofs (by rw[hDD];exact Nat.le_refl _) h
  ·show(wh4 fr σ).length=N.length
   unfold wh4
   rw[length_map,S.len]
 have fpLt:∀ b∈fp,Nat.lt b D:=fun b hb=>by
  obtain⟨o,e,_⟩:=T.obj 0 _ st2 b hb
  exact below b o e
 have fpk:∀ {H:Hp} {oD:Obj},(∀ b∈fp,H b=none)->∀ b∈fp,xn2 X' [(D,oD)] H b:=fun{H oD} hn b hb=>by
  refine⟨hn b hb,?_,fun hm=>?_,.inl hb,fun x c e=>(f2 b hb).2.2.2.2.1 x c (hclS _ _ e),fun p hp=>?_⟩
  ·exact neC (fpLt b hb)
  ·rcases mem_cons.mp (I2.stkSub b hm) with h|h
   ·exact(f2 b hb).2.1 h
   ·exact(f2 b hb).2.2.1 h
  ·rcases mem_append.mp hp with hp|hp
   ·exact(f2 b hb).2.2.2.2.2 p hp
   ·have hp:p=(D,oD):=by simpa using hp
    subst hp
    exact(neD (fpLt b hb)).symm
 have loop:∀ s₃:Shared,s₃={s2 with heap:=h₁,toks:=s2.toks+([]:List (Str×Value)).length} ->
  codeAny #[9] X.A (.compLoop #[61] 0 (.ref it) (.ref D) (compEnvC scope cl C X.env)) (RR (.ref D) C) s₃:=by
  rintro s₃ rfl
  refine wh3 (fun n s'=>∃ i ys its k H',Inv X' [(D,({cls:=.type "list",data:=.seq its k}:Obj))] (wh4 fr σ) H' s'/\tn i s'.heap/\(∀ b∈fp,H' b=none)/\G5 ys its.toList/\W i n ys H') ?_ m0
   ⟨0,[],#[],_,H2,I4 _ (by first|exact I2.tk|exact Nat.succ_pos _),T.keep 0 _ _ st2 (fun b _ o e=>old b o e),fun b hb=>(f2 b hb).1,.nil,w0⟩
  rintro n s3 ⟨i,ys,its,k,H3,I3,st3,fr3,vy,w3⟩
  obtain⟨hsz,h⟩:=turn i n ys H3 w3
  rcases h with⟨stop,qn⟩|⟨go,NN,hNN,step⟩
  ·refine noE (thn (T.done X' rfl rfl rfl hcalm i [(D,_)] s3 (wh4 fr σ) H3 _ I3 (fpk fr3) st3 stop) fun r s4 zq=>?_)
   obtain⟨hr,I4⟩:=zq
   subst hr
   refine hRR C D s4 ⟨ys,H3,?_⟩
   obtain⟨pD,nD,_,_,_⟩:=I4.pin (D,_) #[57,mem_singleton.mpr rfl]
   have pD:s4.heap.get? D=some {cls:=.type "list",data:=.seq its k}:=pD
   have nD:H3 D=none:=nD
   have nC:H3 C=none:=I4.free
   obtain⟨mC,hnC,_⟩:=I4.loc
   refine⟨nD,⟨mC,hnC⟩,hDC,(neC Lt).symm,fun x c e z=>?_,fun p hp z=>?_,?_,fun hm=>?_,?_,fun h' hsb=>?_,qn D nD⟩
   ·exact neC (cellLt x c e) z
   ·exact neC (pinLt p hp) z
   ·have:=I2.sz;rw[hDD] at this;exact Nat.le_trans this (Nat.le_of_lt hDlt)
   ·exact I2.nofs (by rw[hDD];exact Nat.le_of_lt hDlt) hm
   ·rw[B8 (Ne.symm hDC)];exact nC
   ·have un:Un (frs X.stack) fp H2 (upd H3 D (.lst ys)) s2.heap h':=by
     have u:=I4.base
     have neC:∀ (b:Addr) (o:Obj),s2.heap.get? b=some o->b≠C:=fun b o e=>neC (below b o e)
     have neD:∀ (b:Addr) (o:Obj),s2.heap.get? b=some o->b≠D:=fun b o e=>neD (below b o e)
     have trkNe:∀ b (o:HO),H3 b=some o->b≠D:=fun b o e z=>by rw[z,nD] at e;cases e
     refine⟨fun b o e n hb hx=>hsb.extBut b o (neC b o e) (u.keep b o e n hb hx),fun b o e n hb hx=>?_,fun b o e n hx=>by rw[B8 (neD b o e)];exact u.free b o e n hx,fun b o e hx=>?_,fun b xs e=>?_,fun b o xs e=>?_,fun b ps e=>?_⟩
     ·obtain⟨sl,q⟩:=u.slot b o e n hb hx
      exact⟨sl,hsb.extBut b _ (neC b o e) q⟩
     ·obtain⟨o',q⟩:=u.there b o e hx
      exact⟨o',hsb.extBut b _ (neC b o e) q⟩
     ·have q:=u.tups b xs e
      rw[B8 (trkNe b _ q)];exact q
     ·have q:=u.frzs b o xs e
      rw[B8 (trkNe b _ q)];exact q
     ·obtain⟨more,q⟩:=u.tbls b ps e
      exact⟨more,by rw[B8 (trkNe b _ q)];exact q⟩
    have hok:HOk X.prog X.w (upd H3 D (.lst ys)) h':=fun b u e=>by
     by_cases hb:b=D
     ·rw[hb,A6] at e
      cases e
      rw[hb]
      exact⟨hsz,its.toList,k,vy,by simpa using hsb.extBut D _ hDC pD⟩
     ·rw[B8 hb] at e
      refine(I4.hok b u e).stay (fun c v hc q=>hsb.extBut c v ?_ q) (fun c q=>?_) fun c xs q=>?_
      ·rcases hc with rfl|hc
       ·rintro rfl;rw[nC] at e;cases e
       ·rintro rfl;rw[nC] at hc;cases hc
      ·rw[B8 (W7 q nD)];exact q
      ·rw[B8 (W7 q nD)];exact q
    obtain⟨hh,gg,dd,tt',os'⟩:=s4
    obtain rfl:os'=s2.os:=I4.os
    refine(show Inv X pins σ (upd H3 D (.lst ys)) {s2 with heap:=h',gens:=gg,drawn:=dd,toks:=tt'} from I2.call (h':=h') (g':=gg) (d':=dd) (t':=tt') (ch:=fp) un hok I4.bare fun b hb=>?_)
    obtain⟨_,f1,_,f3,f4,f5⟩:=f2 b hb
    exact⟨f3,f1,f4,f5⟩
  ·refine noE (thn (T.item X' rfl rfl rfl hcalm i [(D,_)] s3 (wh4 fr σ) H3 _ I3 (fpk fr3) st3 go) fun r s4 zq=>?_)
   obtain⟨u,hr,h4⟩:=zq
   subst hr
   refine noE (thn h4 fun _ s5 zq=>?_)
   obtain⟨x,H5,I5,r5,y5,st5,fr5⟩:=zq
   have I5':=I5.pinned (fpk fr5) (T.obj _ _ st5)
   refine noE (thn (hg C s2 H2 fp (X.pn++pins) _ s5 (wh4 fr σ) H5 x u _ I5' r5 (hgo _ _ _ _ (step x H5 y5))) fun _ s6 zq=>?_)
   obtain⟨σ6,H6,I6,q6,k6⟩:=zq
   refine noE (thn (ht C s2 H2 fp (X.pn++pins) _ s6 σ6 H6 _ I6 q6) fun b s7 zq=>?_)
   obtain⟨H7,I7,q7⟩:=zq
   have back:∀ {s8:Shared} {H8:Hp},Inv X' ([(D,({cls:=.type "list",data:=.seq its k}:Obj))]++xf9 fp s5.heap) σ6 H8 s8->Inv X' [(D,({cls:=.type "list",data:=.seq its k}:Obj))] (wh4 fr σ) H8 s8/\tn (i+1) s8.heap/\∀ b∈fp,H8 b=none:=fun{s8 H8} I8=>by
    refine⟨(I8.unpinned).weak ?_ fun j v e=>?_,T.keep _ _ _ st5 fun b hb o e=>(I8.pin (b,o) #[57,mem_append_right _ (wb6 hb e)]).1,fun b hb=>?_⟩
    ·rw[I8.len];show(wh4 fr σ).length=N.length;unfold wh4;rw[length_map,S.len]
    ·obtain⟨i',q1,_⟩:=yb7 e
     rw[k6 j i' q1];exact e
    ·obtain⟨o,e,d⟩:=T.obj _ _ st5 b hb
     exact(I8.pin (b,o) #[57,mem_append_right _ (wb6 hb e)]).2.1
   cases b with
   | false =>
     rw[if_neg Bool.false_ne_true] at q7 ⊢
     obtain⟨m',hm,w7⟩:=hNN _ _ q7
     obtain⟨J1,J2,J3⟩:=back I7
     exact⟨m',hm,i+1,ys,its,k,H7,J1,J2,J3,vy,w7⟩
   | true =>
     rw[if_pos rfl] at q7 ⊢
     refine noE (thn (he C s2 H2 fp (X.pn++pins) _ s7 σ6 H7 _ I7 q7) fun y s8 zq=>?_)
     obtain⟨yv,H8,I8,r8,n8⟩:=zq
     obtain⟨m',hm,w8⟩:=hNN _ _ n8
     obtain⟨J1,J2,J3⟩:=back I8
     obtain⟨pD,nD,_,_,_⟩:=J1.pin (D,_) #[57,mem_singleton.mpr rfl]
     have pD:s8.heap.get? D=some {cls:=.type "list",data:=.seq its k}:=pD
     have nD:H8 D=none:=nD
     have hz':its.size<=sizeLine:=by
      have e1:its.size=ys.length:=by rw[vy.length];simp
      rw[e1];exact hsz
     refine wpAny_list_append_plain (hsz:=hz') ⟨k,pD⟩ fun h' ⟨k',hl'⟩ hsb=>?_
     ·refine⟨m',hm,i+1,ys++[yv],its.push y,k',H8,?_,T.keep _ _ _ J2 fun b hb o e=>?_,J3,?_,w8⟩
      ·have K0:Inv X' [] (wh4 fr σ) H8 s8:=J1.pins_of fun p hp=>by cases hp
       have K1:Inv X' [] (wh4 fr σ) H8 {s8 with heap:=h'}:=by
        refine K0.turned (it:=D) (t':=s8.toks) (fun b o hb e=>hsb.extBut b o hb e) nD hDC (.inr (by show s2.heap.objs.size<=D;rw[hDD];exact Nat.le_refl _)) (fun x c e z=>?_) fun p hp z=>?_
        ·exact neD (cellLt x c (hclS _ _ e)) z
        ·have hp:p∈X.pn++pins:=by
          rcases mem_append.mp hp with hp|hp
          ·exact hp
          ·cases hp
         exact neD (pinLt p hp) z
       refine K1.pins_of fun p hp=>?_
       have hp:p=(D,({cls:=.type "list",data:=.seq (its.push y) k'}:Obj)):=by simpa using hp
       subst hp
       refine⟨hl',nD,hDC,fun hm=>?_,fun v z=>by cases z⟩
       rcases mem_cons.mp (I2.stkSub _ hm) with h|h
       ·exact neD Lt h.symm
       ·exact I2.nofs (by rw[hDD];exact Nat.le_refl _) h
      ·exact hsb.extBut b o (neD (fpLt b hb)) e
      ·rw[Array.toList_push]
       exact G5.append vy (.cons r8 .nil)
 exact codeAny_compStart_list (loop _ rfl) (T.self _ 0 _ _ _ (T.keep 0 _ _ st2 fun b _ o e=>old b o e) (loop _ rfl))
theorem qp1{tg:Expr}(hcalm:X.calm=true)(S:wl7 X scope N fr)(hi:PI X tg iter wi)(hg:∀ cl C s₂ H₂ fp pn,PG #[49] tg g)(hgo:za5 fr g)(ht:∀ cl C s₂ H₂ fp pn,PTs #[49] ifs tt)(he:∀ cl C s₂ H₂ fp pn,PE #[49] elt te)(hs:autoParam (∀ x,foldedSetIterable iter X.env x=pure x) zAi):PE X #[61] (qu0 fr wi g tt te):=by
 walk_at"25"
 obtain⟨cl,hclos,hclS,hclH⟩:=wn9 (env:=X.env) (scope:=scope) fun y hy hf=>I.ok.has y.1 (S.free y hy hf)
 rw[eval_ListComp]
 refine wpAny_comprehension_free (use:=none) rfl hs hclos S.kind S.names #[122]
 obtain⟨it,fp,tn,J,H2,e,I2,T,st2,f2,W,w0,turn⟩:=h2
 subst e
 refine xg8 (RR:=fun acc C=>compPost #[9] X.A X.xe none (EP X pins σ Q) acc C) hcalm S hclS hclH (hg cl) hgo (ht cl) (he cl) I2 T st2 f2 W w0 turn fun C D s' B=>?_
 obtain⟨ys,H',nD,hC,_,_,_,_,_,_,_,hI,q⟩:=B.ex
 obtain⟨m,hn⟩:=hC
 exact⟨m,hn,fun h' hs'=>⟨.ref D,_,hI h' hs',rfl,q⟩⟩
theorem yo1{tg:Expr}{spos py:Pos}{i:Nat}{y:Str}(hN:X.N.Nodup)(hy:X.N[i]?=some y)(hly:X.env.scope.names.lookup y=some .local)(hcalm:X.calm=true)(S:wl7 X scope N fr)(hi:PI X tg iter wi)(hg:∀ cl C s₂ H₂ fp pn,PG #[49] tg g)(hgo:za5 fr g)(ht:∀ cl C s₂ H₂ fp pn,PTs #[49] ifs tt)(he:∀ cl C s₂ H₂ fp pn,PE #[49] elt te)(hsw:autoParam (swapsWith #[61] (some (.Name y py)) spos.line X.env=pure true) zAr)(hs:autoParam (∀ x,foldedSetIterable iter X.env x=pure x) zAi):PS X (.Assign [.Name y py] #[61] spos) (E3 (qu0 fr wi g tt te) (B6 i)):=by
 intro pins s σ H D I h
 obtain⟨cl,hclos,hclS,hclH⟩:=wn9 (env:=X.env) (scope:=scope) fun y hy hf=>I.ok.has y.1 (S.free y hy hf)
 rw[exec_Assign_Name_used _ _ _ _ hsw]
 refine wpAny_bind (wpAny_standAt (wpAny_bind ?_))
 show wpAny _ X.A (do let _<-comprehension #[61] scope X.env _ (newList []) false (eval iter X.env) (some (assign (.Name y py) X.env))) _ _ s
 refine wpAny_bind (wpAny_mono (wpAny_comprehension_free (use:=some (assign (.Name y py) X.env)) (Q:=fun _ s'=>SP X pins D .next s') rfl hs hclos S.kind S.names
  #[122]) (fun _ s' hq=>wpAny_pure (wpAny_pure hq)) fun _ _ e=>e)
 obtain⟨it,fp,tn,J,H2,e,I2,T,st2,f2,W,w0,turn⟩:=h2
 subst e
 refine xg8 (Q:=fun x H1=>B6 i x σ H1 D.nx) (RR:=fun acc C=>compPost #[9] X.A X.xe (some (assign (.Name y py) X.env)) (fun _ s'=>SP X pins D .next s') acc C) hcalm S hclS hclH (hg cl) hgo (ht cl) (he cl) I2 T st2 f2 W w0 turn fun C D' s' B=>?_
 obtain⟨ys,H',nD,hC,hDC,hCL,hCc,hCp,hCs,hCf,hCn,hI,q⟩:=B.ex
 obtain⟨m,hn⟩:=hC
 have I1:Inv X pins σ (upd H' D' (.lst ys)) s':=by
  have:=hI s'.heap (.refl ..)
  obtain⟨hh,gg,dd,tt',os'⟩:=s'
  exact this
 show wpAny _ X.A (assign (.Name y py) X.env (.ref D')) _ _ _
 refine wpAny_assign_Name (xq3 I1 hN hy (.inl hly) (v:=.ref D') rfl (fun s2 I3 zq=>?_) (.inr hly))
 obtain⟨a,sb,ha⟩:=zq
 have hCa:C≠a:=by
  rcases ha with rfl|ha
  ·exact hCL
  ·exact fun z=>hCc y a ha z.symm
 refine⟨m,hn.sameBut sb hCa,fun h3 hs3=>?_⟩
 exact⟨_,_,I3.turned (it:=C) (t':=s2.toks) (fun b o hb e=>hs3.extBut b o hb e) hCn hCL (.inr hCs) hCc hCp,q⟩
mutual
def Dv(K:Fg)(H:Hp):PyData->V->Prop
 | .none,v=>v=.non
 | .bool b,v=>v=.bl b
 | .int i,v=>v=.int i
 | .str x,v=>v=.str x
 | .list ds,v=>∃ a vs,v=.ref a/\SqL K H a vs/\Dvs K H ds vs
 | .tuple ds,v=>∃ a vs,v=.ref a/\SqT K H a vs/\Dvs K H ds vs
 | .dict _,_=>False
def Dvs(K:Fg)(H:Hp):List PyData->List V->Prop
 | [],vs=>vs=[]
 | d::ds,vs=>∃ v r,vs=v::r/\Dv K H d v/\Dvs K H ds r
end
theorem Dvs.length:∀ {ds:List PyData} {vs:List V},Dvs K H ds vs->vs.length=ds.length
 | [],_,h=>by rw[Dvs] at h;subst h;rfl
 | d::ds,_,h=>by
   rw[Dvs] at h
   obtain⟨v,r,rfl,_,h⟩:=h
   rw[length_cons,length_cons,Dvs.length h]
theorem Dvs.get:∀ {ds:List PyData} {vs:List V} {i:Nat} {d:PyData},Dvs K H ds vs->ds[i]?=some d->∃ v,vs[i]?=some v/\Dv K H d v
 | [],_,_,_,_,e=>by simp at e
 | d::ds,_,0,_,h,e=>by
   rw[Dvs] at h
   obtain⟨v,r,rfl,h,_⟩:=h
   cases e
   exact⟨v,rfl,h⟩
 | d::ds,_,i+1,_,h,e=>by
   rw[Dvs] at h
   obtain⟨v,r,rfl,_,h⟩:=h
   exact Dvs.get (i:=i) h (by simpa using e)
theorem Dvs.get':∀ {ds:List PyData} {vs:List V} {i:Nat} {v:V},Dvs K H ds vs->vs[i]?=some v->∃ d,ds[i]?=some d/\Dv K H d v
 | [],_,_,_,h,e=>by rw[Dvs] at h;subst h;simp at e
 | d::ds,_,0,_,h,e=>by
   rw[Dvs] at h
   obtain⟨v,r,rfl,h,_⟩:=h
   cases e
   exact⟨d,rfl,h⟩
 | d::ds,_,i+1,_,h,e=>by
   rw[Dvs] at h
   obtain⟨v,r,rfl,_,h⟩:=h
   exact Dvs.get' (i:=i) h (by simpa using e)
theorem Dvs.append:∀ {ds es:List PyData} {vs ws:List V},Dvs K H ds vs->Dvs K H es ws->Dvs K H (ds++es) (vs++ws)
 | [],_,_,_,h,g=>by rw[Dvs] at h;subst h;exact g
 | d::ds,es,_,_,h,g=>by
   rw[Dvs] at h
   obtain⟨v,r,rfl,h1,h⟩:=h
   show Dvs K H (d::(ds++es)) _
   rw[Dvs]
   exact⟨v,r++_,rfl,h1,Dvs.append h g⟩
theorem I9:Dvs K H [] []:=by rw[Dvs]
variable{d:PyData}{ds:List PyData}
theorem C0(h:Dv K H d v)(t:Dvs K H ds vs):Dvs K H (d::ds) (v::vs):=by rw[Dvs];exact⟨v,vs,rfl,h,t⟩
theorem wt0:Dv K H .none v↔v=.non:=by rw[Dv]
theorem wt1{b:Bool}:Dv K H (.bool b) v↔v=.bl b:=by rw[Dv]
theorem P1:Dv K H (.int i) v↔v=.int i:=by rw[Dv]
theorem G2:Dv K H (.str x) v↔v=.str x:=by rw[Dv]
theorem qp2:Dv K H (.list ds) v↔∃ a vs,v=.ref a/\SqL K H a vs/\Dvs K H ds vs:=by rw[Dv]
theorem D7:Dv K H (.tuple ds) v↔∃ a vs,v=.ref a/\SqT K H a vs/\Dvs K H ds vs:=by rw[Dv]
def sDa(xs:List Str):List PyData:=xs.map .str
def B4(xs:List Str):List V:=xs.map .str
theorem Z9:∀ {xs:List Str} {vs:List V},Dvs K H (sDa xs) vs↔vs=B4 xs
 | [],_=>by show Dvs K H [] _↔_=[];rw[Dvs]
 | x::xs,vs=>by
   show Dvs K H (.str x::sDa xs) vs↔vs=V.str x::B4 xs
   rw[Dvs]
   constructor
   ·rintro⟨v,r,rfl,h1,h2⟩
    rw[G2.mp h1,Z9.mp h2]
   ·rintro rfl
    exact⟨_,_,rfl,G2.mpr rfl,Z9.mpr rfl⟩
def S4(H H':Hp):Prop:=(∀ b xs,H b=some (.tup xs)->H' b=some (.tup xs))/\∀ b o xs,H b=some (.frz o (.tup xs))->H' b=some (.frz o (.tup xs))
theorem A7.tupK(h:A7 H H'):S4 H H':=⟨fun b xs e=>h b _ e,fun b o xs e=>h b _ e⟩
theorem S4.refl(H:Hp):S4 H H:=⟨fun _ _ e=>e,fun _ _ _ e=>e⟩
theorem S4.trans(a:S4 H H1)(b:S4 H1 H2):S4 H H2:=⟨fun c xs e=>b.1 c xs (a.1 c xs e),fun c o xs e=>b.2 c o xs (a.2 c o xs e)⟩
theorem S4.sqT(e:S4 H H')(h:SqT K H a xs):SqT K H' a xs:=by
 rcases h with(h|⟨o,h⟩)|h
 ·exact .inl (.inl (e.1 _ _ h))
 ·exact .inl (.inr ⟨o,e.2 _ _ _ h⟩)
 ·exact .inr h
theorem A7.sqT(e:A7 H H')(h:SqT K H a xs):SqT K H' a xs:=e.tupK.sqT h
theorem A7.sqL(e:A7 H H')(h:SqL K H a xs):SqL K H' a xs:=e.seq h
theorem A7.new(h:H p=none)(o:HO):A7 H (upd H p o):=fun b u q=>by rw[B8 (W7 q h)];exact q
def But(ps:List Addr)(H H':Hp):Prop:=∀ b o,H b=some o->b∉ps->H' b=some o
theorem But.refl(ps:List Addr)(H:Hp):But ps H H:=fun _ _ e _=>e
mutual
/-- data without lists -/
def fix:PyData->Bool
 | .none=>true | .bool _=>true | .int _=>true | .str _=>true
 | .list _=>false
 | .tuple ds=>Q8 ds
 | .dict _=>false
def Q8:List PyData->Bool
 | []=>true
 | d::ds=>fix d && Q8 ds
end
mutual
theorem Dv.tupK{K:Fg}{H H':Hp}(k:S4 H H'):∀ (d:PyData) (v:V),fix d=true->Dv K H d v->Dv K H' d v
 | .none,_,_,h=>wt0.mpr (wt0.mp h)
 | .bool _,_,_,h=>wt1.mpr (wt1.mp h)
 | .int _,_,_,h=>P1.mpr (P1.mp h)
 | .str _,_,_,h=>G2.mpr (G2.mp h)
 | .list _,_,f,_=>by rw[fix] at f;cases f
 | .tuple ds,v,f,h=>by
   rw[fix] at f
   obtain⟨a,vs,rfl,hq,h⟩:=D7.mp h
   exact D7.mpr ⟨a,vs,rfl,k.sqT hq,Dvs.tupK k ds vs f h⟩
 | .dict _,_,f,_=>by rw[fix] at f;cases f
theorem Dvs.tupK{K:Fg}{H H':Hp}(k:S4 H H'):∀ (ds:List PyData) (vs:List V),Q8 ds=true->Dvs K H ds vs->Dvs K H' ds vs
 | [],_,_,h=>by rw[Dvs] at h ⊢;exact h
 | d::ds,vs,f,h=>by
   rw[Q8,Bool.and_eq_true] at f
   rw[Dvs] at h ⊢
   obtain⟨v,r,e,h1,h2⟩:=h
   exact⟨v,r,e,Dv.tupK k d v f.1 h1,Dvs.tupK k ds r f.2 h2⟩
end
mutual
theorem Dv.same{K:Fg}{H H':Hp}(k:A7 H H'):∀ (d:PyData) (v:V),Dv K H d v->Dv K H' d v
 | .none,_,h=>wt0.mpr (wt0.mp h)
 | .bool _,_,h=>wt1.mpr (wt1.mp h)
 | .int _,_,h=>P1.mpr (P1.mp h)
 | .str _,_,h=>G2.mpr (G2.mp h)
 | .list ds,v,h=>by
   obtain⟨a,vs,rfl,hq,h⟩:=qp2.mp h
   exact qp2.mpr ⟨a,vs,rfl,k.sqL hq,Dvs.same k ds vs h⟩
 | .tuple ds,v,h=>by
   obtain⟨a,vs,rfl,hq,h⟩:=D7.mp h
   exact D7.mpr ⟨a,vs,rfl,k.sqT hq,Dvs.same k ds vs h⟩
 | .dict _,_,h=>by rw[Dv] at h;exact h.elim
theorem Dvs.same{K:Fg}{H H':Hp}(k:A7 H H'):∀ (ds:List PyData) (vs:List V),Dvs K H ds vs->Dvs K H' ds vs
 | [],_,h=>by rw[Dvs] at h ⊢;exact h
 | d::ds,vs,h=>by
   rw[Dvs] at h ⊢
   obtain⟨v,r,e,h1,h2⟩:=h
   exact⟨v,r,e,Dv.same k d v h1,Dvs.same k ds r h2⟩
end
mutual
theorem Dv.reads{X:Cx}{pins:List (Addr×Obj)}{σ:St}{H:Hp}{s:Shared}(I:Inv X pins σ H s):∀ (d:PyData) (v:V) (u:Value),Dv X.K H d v->L1 v u->∃ as,Reads s.heap u d as
 | .none,_,_,h,r=>by rw[wt0.mp h] at r;cases r;exact⟨_,.none⟩
 | .bool b,_,_,h,r=>by rw[wt1.mp h] at r;cases r;exact⟨_,.bool b⟩
 | .int i,_,_,h,r=>by rw[P1.mp h] at r;obtain⟨t,rfl⟩:=r;exact⟨_,.int i t⟩
 | .str x,_,_,h,r=>by rw[G2.mp h] at r;obtain⟨t,rfl⟩:=r;exact⟨_,.str x t⟩
 | .list ds,_,_,h,r=>by
   obtain⟨a,vs,rfl,hq,h⟩:=qp2.mp h
   cases r
   obtain⟨its,rv,pl,_⟩:=I.list hq
   obtain⟨o,e,c,n,d⟩:=pl.isList
   obtain⟨as,ra⟩:=Dvs.reads I ds vs its h rv
   exact⟨_,.list e c d (by simpa using ra)⟩
 | .tuple ds,_,_,h,r=>by
   obtain⟨a,vs,rfl,hq,h⟩:=D7.mp h
   cases r
   obtain⟨its,rv,pl,_⟩:=I.tuple hq
   obtain⟨o,e,c,n,d⟩:=pl
   obtain⟨as,ra⟩:=Dvs.reads I ds vs its h rv
   exact⟨_,.tuple e c d (by simpa using ra)⟩
 | .dict _,_,_,h,_=>by rw[Dv] at h;exact h.elim
theorem Dvs.reads{X:Cx}{pins:List (Addr×Obj)}{σ:St}{H:Hp}{s:Shared}(I:Inv X pins σ H s):∀ (ds:List PyData) (vs:List V) (us:List Value),Dvs X.K H ds vs->G5 vs us->∃ as,ReadsAll s.heap us ds as
 | [],_,_,h,r=>by rw[Dvs] at h;subst h;cases r;exact⟨_,.nil⟩
 | d :: ds,_,_,h,r=>by
   rw[Dvs] at h
   obtain⟨v,r',rfl,h1,h2⟩:=h
   cases r with
   | cons r1 r2 =>
     obtain⟨as,a1⟩:=Dv.reads I d v _ h1 r1
     obtain⟨bs,a2⟩:=Dvs.reads I ds r' _ h2 r2
     exact⟨_,.cons a1 a2⟩
end
open PySem.SeqAt
mutual
def nd:PyData->Bool
 | .none=>true | .bool _=>true | .int _=>true | .str _=>true
 | .list ds=>nds ds
 | .tuple ds=>nds ds
 | .dict _=>false
def nds:List PyData->Bool
 | []=>true
 | d::ds=>nd d && nds ds
end
mutual
theorem Dv.nd{K:Fg}{H:Hp}:∀ (d:PyData) (v:V),Dv K H d v->nd d=true
 | .none,_,_=>by rw[L2.nd]
 | .bool _,_,_=>by rw[L2.nd]
 | .int _,_,_=>by rw[L2.nd]
 | .str _,_,_=>by rw[L2.nd]
 | .list ds,_,h=>by
   obtain⟨a,vs,_,_,h⟩:=qp2.mp h
   rw[L2.nd];exact Dvs.nd ds vs h
 | .tuple ds,_,h=>by
   obtain⟨a,vs,_,_,h⟩:=D7.mp h
   rw[L2.nd];exact Dvs.nd ds vs h
 | .dict _,_,h=>by rw[Dv] at h;exact h.elim
theorem Dvs.nd{K:Fg}{H:Hp}:∀ (ds:List PyData) (vs:List V),Dvs K H ds vs->nds ds=true
 | [],_,_=>by rw[nds]
 | d::ds,vs,h=>by
   rw[Dvs] at h
   obtain⟨v,r,_,h1,h2⟩:=h
   rw[nds,Dv.nd d v h1,Dvs.nd ds r h2];rfl
end
mutual
theorem xg9{h:Heap}:∀ (d d':PyData) (v:Value) (as as':List Addr),nd d=true->Reads h v d as->Reads h v d' as'->d=d'
 | .none,_,_,_,_,_,r,q=>by cases r;cases q;rfl
 | .bool _,_,_,_,_,_,r,q=>by cases r;cases q;rfl
 | .int _,_,_,_,_,_,r,q=>by cases r;cases q;rfl
 | .str _,_,_,_,_,_,r,q=>by cases r;cases q;rfl
 | .dict _,_,_,_,_,n,_,_=>by rw[L2.nd] at n;cases n
 | .list xs,d',_,_,_,n,r,q=>by
   rw[L2.nd] at n
   cases r with
   | list a1 a2 a3 a4 =>
     cases q with
     | list b1 b2 b3 b4=>rw[a1] at b1;cases b1;rw[a3] at b3;cases b3;rw[wx2 xs _ _ _ _ n a4 b4]
     | tuple b1 b2 b3 b4=>rw[a1] at b1;cases b1;rw[a2] at b2;exact absurd b2 (by simp)
     | dict b1 b2=>rw[a1] at b1;cases b1;rw[a2] at b2;exact absurd b2 (by simp)
 | .tuple xs,d',_,_,_,n,r,q=>by
   rw[L2.nd] at n
   cases r with
   | tuple a1 a2 a3 a4 =>
     cases q with
     | tuple b1 b2 b3 b4=>rw[a1] at b1;cases b1;rw[a3] at b3;cases b3;rw[wx2 xs _ _ _ _ n a4 b4]
     | list b1 b2 b3 b4=>rw[a1] at b1;cases b1;rw[a2] at b2;exact absurd b2 (by simp)
     | dict b1 b2=>rw[a1] at b1;cases b1;rw[a2] at b2;exact absurd b2 (by simp)
theorem wx2{h:Heap}:∀ (xs ys:List PyData) (vs:List Value) (as as':List Addr),nds xs=true->ReadsAll h vs xs as->ReadsAll h vs ys as'->xs=ys
 | [],_,_,_,_,_,r,q=>by cases r;cases q;rfl
 | x :: xs,_,_,_,_,n,r,q=>by
   rw[nds,Bool.and_eq_true] at n
   cases r with
   | cons r1 r2 =>
     cases q with
     | cons q1 q2=>rw[xg9 x _ _ _ _ n.1 r1 q1,wx2 xs _ _ _ _ n.2 r2 q2]
end
mutual
theorem wt2:∀ d:PyData,nd d=true->PyData.eqv d d=true
 | .none,_=>rfl
 | .bool b,_=>by simp[PyData.eqv]
 | .int i,_=>by simp[PyData.eqv]
 | .str x,_=>by simp[PyData.eqv]
 | .list xs,h=>by rw[PyData.eqv];rw[L2.nd] at h;exact wx3 xs h
 | .tuple xs,h=>by rw[PyData.eqv];rw[L2.nd] at h;exact wx3 xs h
 | .dict _,h=>by rw[L2.nd] at h;cases h
theorem wx3:∀ xs:List PyData,nds xs=true->PyData.eqvAll xs xs=true
 | [],_=>rfl
 | x::xs,h=>by
   rw[nds,Bool.and_eq_true] at h
   rw[PyData.eqvAll,wt2 x h.1,wx3 xs h.2];rfl
end
theorem L9{h:Heap}:∀ {xs:List PyData} {vs:List Value} {as:List Addr},ReadsAll h vs xs as->vs.length=xs.length
 | [],_,_,r=>by cases r;rfl
 | _::xs,_,_,r=>by
   cases r with
   | cons _ r'=>rw[length_cons,length_cons,L9 r']
mutual
theorem za6:∀ (da db:PyData) (A:Around) (s:Shared) (a b:Value) (as bs:List Addr),Reads s.heap a da as->Reads s.heap b db bs->nd da=true->nd db=true->A.units+min da.depth db.depth<cLine->EqAt A s a b (PyData.eqv da db)
 | .none,db,A,s,_,_,_,_,ra,rb,_,hb,hu=>by
   cases ra
   cases rb with
   | none=>exact EqAt.same _
   | bool y=>exact EqAt.none_bool y
   | int y u=>exact EqAt.none_int y u
   | str y u=>exact EqAt.none_str y u
   | list k1 k2 k3 k4=>exact EqAt.none_list ⟨_,k1,k2,_,k3⟩ #[17]
   | tuple k1 k2 k3 k4=>exact EqAt.none_tuple ⟨_,k1,k2,_,k3⟩ #[17]
   | dict=>rw[L2.nd] at hb;cases hb
 | .bool x,db,A,s,_,_,_,_,ra,rb,_,hb,hu=>by
   cases ra
   cases rb with
   | none=>exact EqAt.bool_none x
   | bool y=>exact EqAt.bool_bool x y
   | int y u=>exact EqAt.bool_int x y u
   | str y u=>exact EqAt.bool_str x y u
   | list k1 k2 k3 k4=>exact EqAt.bool_list x ⟨_,k1,k2,_,k3⟩ #[17]
   | tuple k1 k2 k3 k4=>exact EqAt.bool_tuple x ⟨_,k1,k2,_,k3⟩ #[17]
   | dict=>rw[L2.nd] at hb;cases hb
 | .int x,db,A,s,_,_,_,_,ra,rb,_,hb,hu=>by
   cases ra
   cases rb with
   | none=>exact EqAt.int_none x _
   | bool y=>exact EqAt.int_bool x _ y
   | int y u=>exact EqAt.int_int x _ y u
   | str y u=>exact EqAt.int_str x _ y u
   | list k1 k2 k3 k4=>exact EqAt.int_list x _ ⟨_,k1,k2,_,k3⟩ #[17]
   | tuple k1 k2 k3 k4=>exact EqAt.int_tuple x _ ⟨_,k1,k2,_,k3⟩ #[17]
   | dict=>rw[L2.nd] at hb;cases hb
 | .str x,db,A,s,_,_,_,_,ra,rb,_,hb,hu=>by
   cases ra
   cases rb with
   | none=>exact EqAt.str_none x _
   | bool y=>exact EqAt.str_bool x _ y
   | int y u=>exact EqAt.str_int x _ y u
   | str y u=>exact EqAt.str_str x _ y u
   | list k1 k2 k3 k4=>exact EqAt.str_list x _ ⟨_,k1,k2,_,k3⟩ #[17]
   | tuple k1 k2 k3 k4=>exact EqAt.str_tuple x _ ⟨_,k1,k2,_,k3⟩ #[17]
   | dict=>rw[L2.nd] at hb;cases hb
 | .list xs,db,A,s,_,_,_,_,ra,rb,ha,hb,hu=>by
   have ra0:=ra
   have rb0:=rb
   cases ra with
   | @list l o1 vs1 n1 xs as h1 h2 h3 h4 =>
     cases rb with
     | none=>exact EqAt.list_none ⟨_,h1,h2,_,h3⟩ #[17]
     | bool y=>exact EqAt.list_bool y ⟨_,h1,h2,_,h3⟩ #[17]
     | int y u=>exact EqAt.list_int y u ⟨_,h1,h2,_,h3⟩ #[17]
     | str y u=>exact EqAt.list_str y u ⟨_,h1,h2,_,h3⟩ #[17]
     | tuple k1 k2 k3 k4=>exact EqAt.list_tuple ⟨_,h1,h2,_,h3⟩ ⟨_,k1,k2,_,k3⟩ #[17]
     | @list b o vs2 n2 ys bs k1 k2 k3 k4 =>
       by_cases e:l=b
       ·subst e
        rw[xg9 _ _ _ _ _ ha ra0 rb0,wt2 _ hb]
        exact EqAt.same _
       ·refine EqAt.of_refs e ?_
        have l1:=L9 h4
        have l2:=L9 k4
        rw[L2.nd] at ha hb
        by_cases hz:xs.length=ys.length
        ·have:=RcAt.lists (A:=A) (s:=s) (e:=pairEq xs ys) ⟨_,h1,h2,_,h3⟩ ⟨_,k1,k2,_,k3⟩ (by simp at l1 l2;omega) #[17] #[56]
         rw[show PyData.eqv (.list xs) (.list ys)=PyData.eqvAll xs ys by rw[PyData.eqv],<-eqvAll_same_length hz]
         have e1:vs1.size=xs.length:=by simpa using l1
         rw[e1] at this
         exact this
        ·rw[show PyData.eqv (.list xs) (.list ys)=PyData.eqvAll xs ys by rw[PyData.eqv],eqvAll_other_length hz]
         exact RcAt.lists_lengths ⟨_,h1,h2,_,h3⟩ ⟨_,k1,k2,_,k3⟩ (by simp at l1 l2;simp;omega) #[17]
     | dict=>rw[L2.nd] at hb;cases hb
 | .tuple xs,db,A,s,_,_,_,_,ra,rb,ha,hb,hu=>by
   have ra0:=ra
   have rb0:=rb
   cases ra with
   | @tuple l o1 vs1 n1 xs as h1 h2 h3 h4 =>
     cases rb with
     | none=>exact EqAt.tuple_none ⟨_,h1,h2,_,h3⟩ #[17]
     | bool y=>exact EqAt.tuple_bool y ⟨_,h1,h2,_,h3⟩ #[17]
     | int y u=>exact EqAt.tuple_int y u ⟨_,h1,h2,_,h3⟩ #[17]
     | str y u=>exact EqAt.tuple_str y u ⟨_,h1,h2,_,h3⟩ #[17]
     | list k1 k2 k3 k4=>exact EqAt.tuple_list ⟨_,h1,h2,_,h3⟩ ⟨_,k1,k2,_,k3⟩ #[17]
     | @tuple b o vs2 n2 ys bs k1 k2 k3 k4 =>
       by_cases e:l=b
       ·subst e
        rw[xg9 _ _ _ _ _ ha ra0 rb0,wt2 _ hb]
        exact EqAt.same _
       ·refine EqAt.of_refs e ?_
        have l1:=L9 h4
        have l2:=L9 k4
        rw[L2.nd] at ha hb
        have:=RcAt.tuples (A:=A) (s:=s) (e:=pairEq xs ys) ⟨_,h1,h2,_,h3⟩ ⟨_,k1,k2,_,k3⟩ #[17] #[56]
        rw[show PyData.eqv (.tuple xs) (.tuple ys)=PyData.eqvAll xs ys by rw[PyData.eqv],<-eqvAll_eq xs ys]
        have e1:vs1.size=xs.length:=by simpa using l1
        have e2:vs2.size=ys.length:=by simpa using l2
        rw[e1,e2] at this
        exact this
     | dict=>rw[L2.nd] at hb;cases hb
 | .dict _,_,_,_,_,_,_,_,_,_,ha,_,_=>by rw[L2.nd] at ha;cases ha
theorem qf4:∀ (xs ys:List PyData) (A:Around) (s:Shared) (us ws:List Value) (as bs:List Addr),ReadsAll s.heap us xs as->ReadsAll s.heap ws ys bs->nds xs=true->nds ys=true->A.units+min (PyData.depthAll xs) (PyData.depthAll ys)<cLine ->
 ∀ j (h1:j<us.length) (h2:j<ws.length),EqAt A s us[j] ws[j] (pairEq xs ys j)
 | [],_,_,_,_,_,_,_,r,_,_,_,_=>by cases r;intro j h1;simp at h1
 | x :: xs,ys,A,s,_,ws,_,_,r,q,ha,hb,hu=>by
   cases r with
   | @cons u us d ds as1 as2 r1 r2 =>
     cases q with
     | nil=>intro j h1 h2;simp at h2
     | @cons w ws y ys bs1 bs2 q1 q2 =>
       rw[nds,Bool.and_eq_true] at ha hb
       rw[PyData.depthAll,PyData.depthAll] at hu
       intro j h1 h2
       cases j with
       | zero=>exact za6 x y A s u w _ _ r1 q1 ha.1 hb.1 (room_head hu)
       | succ j =>
         exact qf4 xs ys A s us ws _ _ r2 q2 ha.2 hb.2 (room_tail hu) j (by simpa using h1) (by simpa using h2)
end
variable{db:PyData}
theorem zu9{da:PyData}{a b:Value}{bs:List Addr}(ra:Reads s.heap a da as)(rb:Reads s.heap b db bs)(ha:nd da=true)(hb:nd db=true)(hu:A.units+min da.depth db.depth<cLine):RcAt A s a b (PyData.eqv da db):=by
 cases ra with
 | none =>
   cases rb with
   | none=>exact RcAt.none_none
   | bool y=>exact RcAt.none_bool y
   | int y u=>exact RcAt.none_int y u
   | str y u=>exact RcAt.none_str y u
   | @list l2 o2 ws n2 ys bs k1 k2 k3 k4=>exact RcAt.none_list ⟨_,k1,k2,_,k3⟩ #[17]
   | @tuple l2 o2 ws n2 ys bs k1 k2 k3 k4=>exact RcAt.none_tuple ⟨_,k1,k2,_,k3⟩ #[17]
   | dict=>rw[L2.nd] at hb;cases hb
 | bool x =>
   cases rb with
   | none=>exact RcAt.bool_none x
   | bool y=>exact RcAt.bool_bool x y
   | int y u=>exact RcAt.bool_int x y u
   | str y u=>exact RcAt.bool_str x y u
   | @list l2 o2 ws n2 ys bs k1 k2 k3 k4=>exact RcAt.bool_list x ⟨_,k1,k2,_,k3⟩ #[17]
   | @tuple l2 o2 ws n2 ys bs k1 k2 k3 k4=>exact RcAt.bool_tuple x ⟨_,k1,k2,_,k3⟩ #[17]
   | dict=>rw[L2.nd] at hb;cases hb
 | int x t =>
   cases rb with
   | none=>exact RcAt.int_none x t
   | bool y=>exact RcAt.int_bool x t y
   | int y u=>exact RcAt.int_int x t y u
   | str y u=>exact RcAt.int_str x t y u
   | @list l2 o2 ws n2 ys bs k1 k2 k3 k4=>exact RcAt.int_list x t ⟨_,k1,k2,_,k3⟩ #[17]
   | @tuple l2 o2 ws n2 ys bs k1 k2 k3 k4=>exact RcAt.int_tuple x t ⟨_,k1,k2,_,k3⟩ #[17]
   | dict=>rw[L2.nd] at hb;cases hb
 | str x t =>
   cases rb with
   | none=>exact RcAt.str_none x t
   | bool y=>exact RcAt.str_bool x t y
   | int y u=>exact RcAt.str_int x t y u
   | str y u=>exact RcAt.str_str x t y u
   | @list l2 o2 ws n2 ys bs k1 k2 k3 k4=>exact RcAt.str_list x t ⟨_,k1,k2,_,k3⟩ #[17]
   | @tuple l2 o2 ws n2 ys bs k1 k2 k3 k4=>exact RcAt.str_tuple x t ⟨_,k1,k2,_,k3⟩ #[17]
   | dict=>rw[L2.nd] at hb;cases hb
 | @list l o vs n xs as h1 h2 h3 h4 =>
   cases rb with
   | none=>exact RcAt.list_none ⟨_,h1,h2,_,h3⟩ #[17]
   | bool y=>exact RcAt.list_bool y ⟨_,h1,h2,_,h3⟩ #[17]
   | int y u=>exact RcAt.list_int y u ⟨_,h1,h2,_,h3⟩ #[17]
   | str y u=>exact RcAt.list_str y u ⟨_,h1,h2,_,h3⟩ #[17]
   | @list l2 o2 ws n2 ys bs k1 k2 k3 k4 =>
     walk_at"10"
     have hi:∀ j (h1:j<vs.size) (h2:j<ws.size),EqAt A.in1 s vs[j] ws[j] (pairEq xs ys j):=fun j h1 h2=>by
      walk_at"8"
     have hu':A.units<cLine:=room_here hu
     rw[show PyData.eqv (.list xs) (.list ys)=PyData.eqvAll xs ys by rw[PyData.eqv]]
     by_cases hz:xs.length=ys.length
     ·have q:=RcAt.lists (A:=A) (s:=s) (e:=pairEq xs ys) ⟨_,h1,h2,_,h3⟩ ⟨_,k1,k2,_,k3⟩ #[0] hu' hi
      rw[l1,eqvAll_same_length hz] at q
      exact q
     ·rw[eqvAll_other_length hz]
      exact RcAt.lists_lengths ⟨_,h1,h2,_,h3⟩ ⟨_,k1,k2,_,k3⟩ #[86] hu'
   | @tuple l2 o2 ws n2 ys bs k1 k2 k3 k4=>exact RcAt.list_tuple ⟨_,h1,h2,_,h3⟩ ⟨_,k1,k2,_,k3⟩ #[17]
   | dict=>rw[L2.nd] at hb;cases hb
 | @tuple l o vs n xs as h1 h2 h3 h4 =>
   cases rb with
   | none=>exact RcAt.tuple_none ⟨_,h1,h2,_,h3⟩ #[17]
   | bool y=>exact RcAt.tuple_bool y ⟨_,h1,h2,_,h3⟩ #[17]
   | int y u=>exact RcAt.tuple_int y u ⟨_,h1,h2,_,h3⟩ #[17]
   | str y u=>exact RcAt.tuple_str y u ⟨_,h1,h2,_,h3⟩ #[17]
   | @list l2 o2 ws n2 ys bs k1 k2 k3 k4=>exact RcAt.tuple_list ⟨_,h1,h2,_,h3⟩ ⟨_,k1,k2,_,k3⟩ #[17]
   | @tuple l2 o2 ws n2 ys bs k1 k2 k3 k4 =>
     walk_at"10"
     have hi:∀ j (h1:j<vs.size) (h2:j<ws.size),EqAt A.in1 s vs[j] ws[j] (pairEq xs ys j):=fun j h1 h2=>by
      walk_at"8"
     have hu':A.units<cLine:=room_here hu
     rw[show PyData.eqv (.tuple xs) (.tuple ys)=PyData.eqvAll xs ys by rw[PyData.eqv]]
     have q:=RcAt.tuples (A:=A) (s:=s) (e:=pairEq xs ys) ⟨_,h1,h2,_,h3⟩ ⟨_,k1,k2,_,k3⟩ hu' hi
     rw[l1,l2,eqvAll_eq xs ys] at q
     exact q
   | dict=>rw[L2.nd] at hb;cases hb
 | dict=>rw[L2.nd] at ha;cases ha
theorem za7{da:PyData}{a b:Value}{bs:List Addr}(ra:Reads s.heap a da as)(rb:Reads s.heap b db bs)(ha:nd da=true)(hb:nd db=true)(hu:A.units+min da.depth db.depth<cLine):RcNeAt A s a b (!PyData.eqv da db):=by
 cases ra with
 | none =>
   cases rb with
   | none=>exact RcNeAt.none_none
   | bool y=>exact RcNeAt.none_bool y
   | int y u=>exact RcNeAt.none_int y u
   | str y u=>exact RcNeAt.none_str y u
   | @list l2 o2 ws n2 ys bs k1 k2 k3 k4=>exact RcNeAt.none_list ⟨_,k1,k2,_,k3⟩ #[17]
   | @tuple l2 o2 ws n2 ys bs k1 k2 k3 k4=>exact RcNeAt.none_tuple ⟨_,k1,k2,_,k3⟩ #[17]
   | dict=>rw[L2.nd] at hb;cases hb
 | bool x =>
   cases rb with
   | none=>exact RcNeAt.bool_none x
   | bool y=>exact RcNeAt.bool_bool x y
   | int y u=>exact RcNeAt.bool_int x y u
   | str y u=>exact RcNeAt.bool_str x y u
   | @list l2 o2 ws n2 ys bs k1 k2 k3 k4=>exact RcNeAt.bool_list x ⟨_,k1,k2,_,k3⟩ #[17]
   | @tuple l2 o2 ws n2 ys bs k1 k2 k3 k4=>exact RcNeAt.bool_tuple x ⟨_,k1,k2,_,k3⟩ #[17]
   | dict=>rw[L2.nd] at hb;cases hb
 | int x t =>
   cases rb with
   | none=>exact RcNeAt.int_none x t
   | bool y=>exact RcNeAt.int_bool x t y
   | int y u=>exact RcNeAt.int_int x t y u
   | str y u=>exact RcNeAt.int_str x t y u
   | @list l2 o2 ws n2 ys bs k1 k2 k3 k4=>exact RcNeAt.int_list x t ⟨_,k1,k2,_,k3⟩ #[17]
   | @tuple l2 o2 ws n2 ys bs k1 k2 k3 k4=>exact RcNeAt.int_tuple x t ⟨_,k1,k2,_,k3⟩ #[17]
   | dict=>rw[L2.nd] at hb;cases hb
 | str x t =>
   cases rb with
   | none=>exact RcNeAt.str_none x t
   | bool y=>exact RcNeAt.str_bool x t y
   | int y u=>exact RcNeAt.str_int x t y u
   | str y u=>exact RcNeAt.str_str x t y u
   | @list l2 o2 ws n2 ys bs k1 k2 k3 k4=>exact RcNeAt.str_list x t ⟨_,k1,k2,_,k3⟩ #[17]
   | @tuple l2 o2 ws n2 ys bs k1 k2 k3 k4=>exact RcNeAt.str_tuple x t ⟨_,k1,k2,_,k3⟩ #[17]
   | dict=>rw[L2.nd] at hb;cases hb
 | @list l o vs n xs as h1 h2 h3 h4 =>
   cases rb with
   | none=>exact RcNeAt.list_none ⟨_,h1,h2,_,h3⟩ #[17]
   | bool y=>exact RcNeAt.list_bool y ⟨_,h1,h2,_,h3⟩ #[17]
   | int y u=>exact RcNeAt.list_int y u ⟨_,h1,h2,_,h3⟩ #[17]
   | str y u=>exact RcNeAt.list_str y u ⟨_,h1,h2,_,h3⟩ #[17]
   | @list l2 o2 ws n2 ys bs k1 k2 k3 k4 =>
     walk_at"10"
     have hi:∀ j (h1:j<vs.size) (h2:j<ws.size),EqAt A.in1 s vs[j] ws[j] (pairEq xs ys j):=fun j h1 h2=>by
      walk_at"8"
     have hu':A.units<cLine:=room_here hu
     rw[show PyData.eqv (.list xs) (.list ys)=PyData.eqvAll xs ys by rw[PyData.eqv]]
     by_cases hz:xs.length=ys.length
     ·have q:=RcNeAt.lists (A:=A) (s:=s) (e:=pairEq xs ys) ⟨_,h1,h2,_,h3⟩ ⟨_,k1,k2,_,k3⟩ #[0] hu' hi
      rw[l1,eqvAll_same_length hz] at q
      exact q
     ·rw[eqvAll_other_length hz]
      exact RcNeAt.lists_lengths ⟨_,h1,h2,_,h3⟩ ⟨_,k1,k2,_,k3⟩ #[86] hu'
   | @tuple l2 o2 ws n2 ys bs k1 k2 k3 k4=>exact RcNeAt.list_tuple ⟨_,h1,h2,_,h3⟩ ⟨_,k1,k2,_,k3⟩ #[17]
   | dict=>rw[L2.nd] at hb;cases hb
 | @tuple l o vs n xs as h1 h2 h3 h4 =>
   cases rb with
   | none=>exact RcNeAt.tuple_none ⟨_,h1,h2,_,h3⟩ #[17]
   | bool y=>exact RcNeAt.tuple_bool y ⟨_,h1,h2,_,h3⟩ #[17]
   | int y u=>exact RcNeAt.tuple_int y u ⟨_,h1,h2,_,h3⟩ #[17]
   | str y u=>exact RcNeAt.tuple_str y u ⟨_,h1,h2,_,h3⟩ #[17]
   | @list l2 o2 ws n2 ys bs k1 k2 k3 k4=>exact RcNeAt.tuple_list ⟨_,h1,h2,_,h3⟩ ⟨_,k1,k2,_,k3⟩ #[17]
   | @tuple l2 o2 ws n2 ys bs k1 k2 k3 k4 =>
     walk_at"10"
     have hi:∀ j (h1:j<vs.size) (h2:j<ws.size),EqAt A.in1 s vs[j] ws[j] (pairEq xs ys j):=fun j h1 h2=>by
      walk_at"8"
     have hu':A.units<cLine:=room_here hu
     rw[show PyData.eqv (.tuple xs) (.tuple ys)=PyData.eqvAll xs ys by rw[PyData.eqv]]
     have q:=RcNeAt.tuples (A:=A) (s:=s) (e:=pairEq xs ys) ⟨_,h1,h2,_,h3⟩ ⟨_,k1,k2,_,k3⟩ hu' hi
     rw[l1,l2,eqvAll_eq xs ys] at q
     exact q
   | dict=>rw[L2.nd] at hb;cases hb
 | dict=>rw[L2.nd] at ha;cases ha
theorem qi8(r:qk4 k A):A.units+190<cLine:=by have:=r.un;omega
def qd0(K:Fg):R2:=fun x y H Q=>rEq x y H Q\/∃ d e,Dv K H d x/\Dv K H e y/\min d.depth e.depth<=190/\Q (.bl (PyData.eqv d e)) H
def xh0(K:Fg):R2:=fun x y H Q=>rNe x y H Q\/∃ d e,Dv K H d x/\Dv K H e y/\min d.depth e.depth<=190/\Q (.bl (!PyData.eqv d e)) H
theorem R6(hu:X.A.units+190<cLine):OpR X #[81,.Eq] (qd0 X.K):=by
 refine zz9.or ?_
 walk_at"13"
 obtain⟨d,e,hx,hy,hz,q⟩:=h
 obtain⟨as,ra⟩:=Dv.reads I d x v hx rx
 obtain⟨bs,rb⟩:=Dv.reads I e y u hy ry
 have hroom:X.A.units+min d.depth e.depth<cLine:=Nat.lt_of_le_of_lt (Nat.add_le_add_left hz _) hu
 exact zu9 ra rb (Dv.nd d x hx) (Dv.nd e y hy) hroom X.prog X.w X.xe _ ⟨.bl _,H,I,rfl,q⟩
theorem xh1(hu:X.A.units+190<cLine):OpR X #[81,.NotEq] (xh0 X.K):=by
 refine Aa0.or ?_
 walk_at"13"
 obtain⟨d,e,hx,hy,hz,q⟩:=h
 obtain⟨as,ra⟩:=Dv.reads I d x v hx rx
 obtain⟨bs,rb⟩:=Dv.reads I e y u hy ry
 have hroom:X.A.units+min d.depth e.depth<cLine:=Nat.lt_of_le_of_lt (Nat.add_le_add_left hz _) hu
 exact za7 ra rb (Dv.nd d x hx) (Dv.nd e y hy) hroom X.prog X.w X.xe _ ⟨.bl _,H,I,rfl,q⟩
def J6(K:Fg):R2:=fun x y H Q=>rI0 (fun i j=>.int (i+j)) x y H Q\/(∃ i j,x=.str i/\y=.str j/\i.length+j.length<=sizeLine/\Q (.str (i++j)) H)\/Ab1 x y H Q\/zq2 K x y H Q
theorem D3:OpR X (binaryOp .Add) (J6 X.K):=zt2.or (yh7.or (zu0.or zj6))
def zq4:R2:=fun x y H Q=>∃ z n,x=.str z/\y=.int n/\0<=n/\n<=1000/\z.length<=1000/\Q (.str (PySem.Txt.mul z n)) H
theorem yj1:OpR X (binaryOp .Mult) zq4:=by
 walk_at"13"
 obtain⟨z,n,rfl,rfl,h0,h1,h2,q⟩:=h
 obtain⟨t,rfl⟩:=rx
 obtain⟨t',rfl⟩:=ry
 refine wpAny_with_toks (n:=1) I.tk (SB.mul ⟨?_,fun hn _=>?_,fun hn _=>?_⟩ fun t' k ht=>⟨.str _,H,I.tok _ ht,⟨_,rfl⟩,q⟩)
 ·rw[decide_eq_false #[0],decide_eq_false #[0]];rfl
 ·have e1:(2 ^ 63-1:Int) / n>=(2 ^ 63-1) / 1000:=by
   have hp:(0:Int)<n:=by omega
   apply Int.le_ediv_of_mul_le hp
   have:(2 ^ 63-1:Int) / 1000*n<=(2 ^ 63-1) / 1000*1000:=Int.mul_le_mul_of_nonneg_left h1 #[10]
   have e:(2 ^ 63-1:Int) / 1000*1000<=2 ^ 63-1:=by decide
   omega
  have e2:(2 ^ 63-1:Int) / 1000>=1000:=by decide
  omega
 ·have:z.length*n.toNat<=1000*1000:=Nat.mul_le_mul h2 #[0]
  have hs:sizeLine=16777216:=sizeLine_eq
  unfold Builtin.Str.tooLong
  exact decide_eq_false #[0]
def qy3:R2:=fun x y H Q=>rI yz1 (fun i j=>.int (i*j)) x y H Q\/zq4 x y H Q\/Ab2 x y H Q
theorem ql6:OpR X (binaryOp .Mult) qy3:=zt3.or (yj1.or zu1)
def Af3:R2:=fun x y H Q=>∃ i j:Str,x=.str i/\y=.str j/\Q #[90,i.cps.toList<j.cps.toList] H
def Ab8:R2:=fun x y H Q=>∃ i j:Str,x=.str i/\y=.str j/\Q (.bl (!decide (j.cps.toList<i.cps.toList))) H
def Ab9:R2:=fun x y H Q=>∃ i j:Str,x=.str i/\y=.str j/\Q #[90,j.cps.toList<i.cps.toList] H
def Ac0:R2:=fun x y H Q=>∃ i j:Str,x=.str i/\y=.str j/\Q (.bl (!decide (i.cps.toList<j.cps.toList))) H
theorem yu6:OpR X #[81,.LtE] Ab8:=by
 walk_at"1"
 exact PySem.P.le_str ⟨.bl _,H,I,rfl,q⟩
theorem yu7:OpR X #[81,.Gt] Ab9:=by
 walk_at"1"
 exact PySem.P.gt_str ⟨.bl _,H,I,rfl,q⟩
theorem yu8:OpR X #[81,.GtE] Ac0:=by
 walk_at"1"
 exact PySem.P.ge_str ⟨.bl _,H,I,rfl,q⟩
def xv7:R2:=fun x y H Q=>rI0 (fun i j=>.bl (decide (i<j))) x y H Q\/Af3 x y H Q
def yj2:R2:=fun x y H Q=>rI0 (fun i j=>.bl (decide (i<=j))) x y H Q\/Ab8 x y H Q
def xn6:R2:=fun x y H Q=>rI0 (fun i j=>.bl (decide (j<i))) x y H Q\/Ab9 x y H Q
def zk3:R2:=fun x y H Q=>rI0 (fun i j=>.bl (decide (j<=i))) x y H Q\/Ac0 x y H Q
theorem wq1:OpR X #[81,.Lt] xv7:=Aa1.or yt5
theorem xv8:OpR X #[81,.LtE] yj2:=Aa2.or yu6
theorem wh5:OpR X #[81,.Gt] xn6:=Aa3.or yu7
theorem zv0:OpR X #[81,.GtE] zk3:=Aa4.or yu8
def Af4(neg:Bool):R2:=fun x y H Q=>∃ i j:Str,x=.str i/\y=.str j/\Q (.bl (if neg then !(!(Builtin.Str.occurrences j i 0 j.length 1).isEmpty) else !(Builtin.Str.occurrences j i 0 j.length 1).isEmpty)) H
def za8(K:Fg)(neg:Bool):R2:=fun x y H Q=>rIn K neg x y H Q\/Af4 neg x y H Q
theorem zv1:OpR X #[81,.In] (za8 X.K false):=yu3.or yt6
theorem yu9:OpR X #[81,.NotIn] (za8 X.K true):=xv2.or xv3
def yb8:R2:=fun x y H Q=>y=.non/\Q #[90,x=.non] H
def wl8:R2:=fun x y H Q=>y=.non/\Q (.bl (!decide (x=.non))) H
theorem wq2:OpR X #[81,.Is] yb8:=zt4
theorem qy4:OpR X #[81,.IsNot] wl8:=zj0
def N6(K:Fg):List V->Hp->VK->Prop:=fun xs H Q=>(∃ p ys,xs=[.ref p]/\(SqL K H p ys\/SqT K H p ys)/\Q (.int ys.length) H)\/(∃ z,xs=[.str z]/\z.length<=sizeLine/\Q (.int z.length) H) \/
 ∃ a kvs,xs=[V.ref a]/\H a=some (.dK kvs)/\Q (.int kvs.length) H
theorem D5:qj0 X (.builtin "len") (N6 X.K):=xv4.or (xv5.or yu5)
def ql7(K:Fg):List V->Hp->VK->Prop:=fun xs H Q=>∃ p ys,xs=[.ref p]/\((SqL K H p ys/\∀ l,H l=none->Q (.ref l) (upd H l (.tup ys)))\/(SqT K H p ys/\Q (.ref p) H))
theorem T9:qj0 X (.type "tuple") (ql7 X.K):=xn4
def za9:List V->Hp->VK->Prop:=fun xs H Q=>(∃ i,xs=[.int i]/\Q (.int i) H)\/∃ k,xs=[.bl k]/\Q (.int (if k then 1 else 0)) H
theorem xr3:qj0 X (.type "int") za9:=yt7
theorem xh2:∀ {xs:List Str} {us:List Value},G5 (B4 xs) us->StrsAre us xs
 | [],_,h=>by cases h;exact .nil
 | x :: xs,_,h=>by
   have h:G5 (V.str x::B4 xs) _:=h
   cases h with
   | cons r t =>
     obtain⟨t',rfl⟩:=r
     exact .cons x t' (xh2 t)
def zq5(K:Fg):V->List V->Hp->VK->Prop:=fun x vs H Q=>∃ z p ys,x=.str z/\vs=[.ref p]/\(SqL K H p (B4 ys)\/SqT K H p (B4 ys))/\(ys.map (·.length)).sum+ys.length*z.length<=16777216/\Q (.str (PySem.Txt.join z ys)) H
theorem zk4:MtR X "str.join" (zq5 X.K):=by
 intro pins s σ H x vs v us Q I rx rv h
 obtain⟨z,p,ys,rfl,rfl,hq,hs,q⟩:=h
 obtain⟨t,rfl⟩:=rx
 obtain⟨u,rfl,ru⟩:=rv.one
 cases ru
 rcases hq with hq|hq
 ·obtain⟨its,r,pl,hz⟩:=I.list hq
  exact wpAny_with_toks (n:=1) I.tk (join_list pl.isList (by simpa using xh2 r) hs fun t' k ht=>⟨.str _,H,I.tok _ ht,⟨_,rfl⟩,q⟩)
 ·obtain⟨its,r,pl,hz⟩:=I.tuple hq
  exact wpAny_with_toks (n:=1) I.tk (join_tuple pl (by simpa using xh2 r) hs fun t' k ht=>⟨.str _,H,I.tok _ ht,⟨_,rfl⟩,q⟩)
def qy5(K:Fg)(tl:TE):TI:=fun σ H R=>tl σ H fun x H1=>∃ a,x=.ref a/\(((∃ xs,SqL K H1 a xs)/\R (Itl K a) H1)\/((∃ xs,SqT K H1 a xs)/\R (Itt K a) H1))
variable{tl:TE}
theorem X7{tg l:Expr}(hl:PE X l tl):PI X tg l (qy5 X.K tl):=by
 intro pins s σ H R I h
 refine thn (hl pins s σ H _ I h) fun v s1 zq=>?_
 obtain⟨x,H1,I1,r1,q1⟩:=zq
 obtain⟨a,e,q⟩:=q1
 subst e
 cases r1
 rcases q with⟨⟨xs,hq⟩,q⟩|⟨⟨xs,hq⟩,q⟩
 ·obtain⟨its,rv,p,hz⟩:=I1.list hq
  refine wpAny_pyIter_list p.isList ?_
  refine⟨s1.heap.objs.size,[s1.heap.objs.size],_,_,H1,rfl,I1.kept (t':=s1.toks) fun b o e=>Heap.get?_push_of_some _ e,yt2 a _,⟨_,Heap.get?_push_size _ rfl,rfl,rfl⟩,fun b hb=>?_,q⟩
  walk_at"11"
 ·obtain⟨its,rv,p,hz⟩:=I1.tuple hq
  refine wpAny_pyIter_tuple (show s1.heap.IsTuple a its.toArray from p) ?_
  refine⟨s1.heap.objs.size,[s1.heap.objs.size],_,_,H1,rfl,I1.kept (t':=s1.toks) fun b o e=>Heap.get?_push_of_some _ e,yh4 a _,⟨_,Heap.get?_push_size _ rfl,rfl,rfl⟩,fun b hb=>?_,q⟩
  walk_at"11"
theorem zb0 (h:wi σ H fun J H1=>∃ W:Nat->Nat->St->Hp->Prop,(∃ m,W 0 m σ H1)/\∀ i m σ H,W i m σ H ->
 (J.stop i H/\D.nx σ H)\/#[28]):qr1 wi g tb D σ H:=h
abbrev wn1(g:TG)(tb:TS)(D:qd3)(σ:St)(J:It)(H1:Hp):Prop:=∃ W:Nat->Nat->St->Hp->Prop,(∃ m,W 0 m σ H1)/\∀ i m σ H,W i m σ H ->
 (J.stop i H/\D.nx σ H)\/#[28]
theorem yo2(hq:SqL K H a xs\/SqT K H a xs)(Pv:Nat->St->Hp->Prop)(h0:Pv 0 σ H)(hl:SqL K H a xs->∀ i σ H,i<=xs.length->Pv i σ H->SqL K H a xs)(ht:SqT K H a xs->∀ i σ H,i<=xs.length->Pv i σ H->SqT K H a xs)(hs:∀ i x σ H,xs[i]?=some x->Pv i σ H->g x σ H fun σ2 H2=>tb {D with nx:=PAt Pv (i+1),ct:=PAt Pv (i+1),bk:=D.nx} σ2 H2)(hd:∀ σ H,Pv xs.length σ H->D.nx σ H) :
 ∃ b,V.ref a=.ref b/\#[34]:=by
 refine⟨a,rfl,?_⟩
 rcases hq with hq|hq
 ·exact .inl ⟨⟨xs,hq⟩,xg0 Pv h0 (hl hq) hs hd⟩
 ·exact .inr ⟨⟨xs,hq⟩,xu8 Pv h0 (ht hq) hs hd⟩
theorem yb9{n:Int}(h0:0<=n)(hn:n<2 ^ 62)(Pv:Nat->St->Hp->Prop)(p0:Pv 0 σ H)(hs:∀ (i:Nat) σ H,(i:Int)<n->Pv i σ H->g (.int i) σ H fun σ2 H2=>tb {D with nx:=PAt Pv (i+1),ct:=PAt Pv (i+1),bk:=D.nx} σ2 H2)(hd:∀ σ H,Pv n.toNat σ H->D.nx σ H) :
 ∃ j:Int,[V.int n]=[.int j]/\-(2 ^ 62)<=j/\j<2 ^ 62/\wn1 g tb D σ (Itr 0 j.toNat) H :=
 ⟨n,rfl,by omega,hn,xq5 (lo:=0) (n:=n.toNat) Pv p0 (fun i σ H hi p=>by rw[Int.zero_add];exact hs i σ H #[0] p) hd⟩
theorem zb1{lo hi:Int}(h1:-(2 ^ 62)<=lo)(h2:lo<=hi)(h3:hi<2 ^ 62)(Pv:Nat->St->Hp->Prop)(p0:Pv 0 σ H)(hs:∀ (i:Nat) σ H,lo+i<hi->Pv i σ H->g (.int (lo+i)) σ H fun σ2 H2=>tb {D with nx:=PAt Pv (i+1),ct:=PAt Pv (i+1),bk:=D.nx} σ2 H2)(hd:∀ σ H,Pv (hi-lo).toNat σ H->D.nx σ H) :
 ∃ i j:Int,[V.int lo,V.int hi]=[.int i,.int j]/\(-(2 ^ 62)<=i/\i<2 ^ 62/\-(2 ^ 62)<=j/\j<2 ^ 62)/\wn1 g tb D σ (Itr i (j-i).toNat) H :=
 ⟨lo,hi,rfl,⟨h1,by omega,by omega,h3⟩,xq5 (lo:=lo) (n:=(hi-lo).toNat) Pv p0 (fun i σ H hi p=>hs i σ H #[0] p) hd⟩
abbrev wh6(g:TG)(tt:TT)(te:TE)(σ':St)(Q:VK)(J:It)(H1:Hp):Prop:=∃ W:Nat->Nat->List V->Hp->Prop,(∃ m,W 0 m [] H1)/\∀ i m ys H,W i m ys H->ys.length<=sizeLine /\
 ((J.stop i H/\∀ p,H p=none->Q (.ref p) #[54,ys]) \/
  (J.go i H/\∃ NN:List V->Hp->Prop,(∀ ys' H',NN ys' H'->∃ m',m'<m/\W (i+1) m' ys' H')/\∀ x H',J.yld i H x H'->g x σ' H' fun σ2 H2=>tt σ2 H2 fun b H3 =>
   if b=true then te σ2 H3 fun y H4=>NN (ys++[y]) H4 else NN ys H3))
theorem zk5{Q:VK}(h:wi σ H (wh6 g tt te (wh4 fr σ) Q)):qu0 fr wi g tt te σ H Q:=h
variable{σ':St}
theorem wt3{Q:VK}(item:Nat->V->Prop)(Pv:Nat->List V->Hp->Prop)(h0:Pv 0 [] H)(hlen:∀ i ys H,i<=n->Pv i ys H->ys.length<=sizeLine)(hgo:∀ i ys H,i<n->Pv i ys H->J.go i H)(hy:∀ i ys H x H',i<n->Pv i ys H->J.yld i H x H'->H'=H/\item i x)(hst:∀ ys H,Pv n ys H->J.stop n H)(hs:∀ i x ys H,i<n->item i x->Pv i ys H->g x σ' H fun σ2 H2=>tt σ2 H2 fun b H3=>if b=true then te σ2 H3 fun y H4=>PAt Pv (i+1) (ys++[y]) H4 else PAt Pv (i+1) ys H3)(hd:∀ ys H,Pv n ys H->∀ p,H p=none->Q (.ref p) #[54,ys]):wh6 g tt te σ' Q J H:=by
 refine⟨fun i m ys H=>m=n-i/\i<=n/\Pv i ys H,⟨n,by simp,Nat.zero_le _,h0⟩,?_⟩
 rintro i m ys H ⟨rfl,hi,p⟩
 refine⟨hlen i ys H hi p,?_⟩
 by_cases hlt:i<n
 ·refine .inr ⟨hgo i ys H hlt p,Pv (i+1),fun ys' H' q=>⟨n-(i+1),by omega,rfl,hlt,q⟩,fun x H' y=>?_⟩
  obtain⟨rfl,hx⟩:=hy i ys H x H' hlt p y
  exact hs i x ys _ hlt hx p
 ·have e:i=n:=by omega
  subst e
  exact .inl ⟨hst ys H p,hd ys H p⟩
theorem yc0{Q:VK}(hq:SqL K H a xs\/SqT K H a xs)(Pv:Nat->List V->Hp->Prop)(h0:Pv 0 [] H)(hlen:∀ i ys H,i<=xs.length->Pv i ys H->ys.length<=sizeLine)(hl:SqL K H a xs->∀ i ys H,i<=xs.length->Pv i ys H->SqL K H a xs)(ht:SqT K H a xs->∀ i ys H,i<=xs.length->Pv i ys H->SqT K H a xs)(hs:∀ i x ys H,xs[i]?=some x->Pv i ys H->g x σ' H fun σ2 H2=>tt σ2 H2 fun b H3=>if b=true then te σ2 H3 fun y H4=>PAt Pv (i+1) (ys++[y]) H4 else PAt Pv (i+1) ys H3)(hd:∀ ys H,Pv xs.length ys H->∀ p,H p=none->Q (.ref p) #[54,ys]) :
 ∃ b,V.ref a=.ref b/\#[58]:=by
 refine⟨a,rfl,?_⟩
 have get:∀ i,i<xs.length->∃ x,xs[i]?=some x:=fun i hi=>⟨xs[i],by simp[hi]⟩
 rcases hq with hq|hq
 ·refine .inl ⟨⟨xs,hq⟩,wt3 (n:=xs.length) (fun i x=>xs[i]?=some x) Pv h0 hlen (fun i ys H hi p=>?_) (fun i ys H x H' hi p y=>?_) (fun ys H p=>?_) (fun i x ys H _ hx p=>hs i x ys H hx p) hd⟩
  ·obtain⟨x,hx⟩:=get i hi
   exact⟨xs,x,hl hq i ys H (Nat.le_of_lt hi) p,hx⟩
  ·exact⟨y.1,y.2 xs (hl hq i ys H (Nat.le_of_lt hi) p)⟩
  ·exact⟨xs,hl hq _ ys H #[6] p,Nat.le_refl _⟩
 ·refine .inr ⟨⟨xs,hq⟩,wt3 (n:=xs.length) (fun i x=>xs[i]?=some x) Pv h0 hlen (fun i ys H hi p=>?_) (fun i ys H x H' hi p y=>?_) (fun ys H p=>?_) (fun i x ys H _ hx p=>hs i x ys H hx p) hd⟩
  ·obtain⟨x,hx⟩:=get i hi
   exact⟨xs,x,ht hq i ys H (Nat.le_of_lt hi) p,hx⟩
  ·exact⟨y.1,y.2 xs (ht hq i ys H (Nat.le_of_lt hi) p)⟩
  ·exact⟨xs,ht hq _ ys H #[6] p,Nat.le_refl _⟩
theorem xr4{Q:VK}(hq:SqL K H a xs)(Pv:Nat->List V->Hp->Prop)(h0:Pv 0 [] H)(hlen:∀ i ys H,i<=xs.length->Pv i ys H->ys.length<=sizeLine)(hl:∀ i ys H,i<=xs.length->Pv i ys H->SqL K H a xs)(hs:∀ i x ys H,xs[i]?=some x->Pv i ys H->g x σ' H fun σ2 H2=>tt σ2 H2 fun b H3=>if b=true then te σ2 H3 fun y H4=>PAt Pv (i+1) (ys++[y]) H4 else PAt Pv (i+1) ys H3)(hd:∀ ys H,Pv xs.length ys H->∀ p,H p=none->Q (.ref p) #[54,ys]) :
 ∃ b,V.ref a=.ref b/\#[58]:=by
 refine⟨a,rfl,.inl ⟨⟨xs,hq⟩,wt3 (n:=xs.length) (fun i x=>xs[i]?=some x) Pv h0 hlen (fun i ys H hi p=>?_) (fun i ys H x H' hi p y=>?_) (fun ys H p=>?_) (fun i x ys H _ hx p=>hs i x ys H hx p) hd⟩⟩
 ·exact⟨xs,xs[i],hl i ys H (Nat.le_of_lt hi) p,by simp[hi]⟩
 ·exact⟨y.1,y.2 xs (hl i ys H (Nat.le_of_lt hi) p)⟩
 ·exact⟨xs,hl _ ys H #[6] p,Nat.le_refl _⟩
theorem qr2(hq:SqL K H a xs)(Pv:Nat->St->Hp->Prop)(h0:Pv 0 σ H)(hl:∀ i σ H,i<=xs.length->Pv i σ H->SqL K H a xs)(hs:∀ i x σ H,xs[i]?=some x->Pv i σ H->g x σ H fun σ2 H2=>tb {D with nx:=PAt Pv (i+1),ct:=PAt Pv (i+1),bk:=D.nx} σ2 H2)(hd:∀ σ H,Pv xs.length σ H->D.nx σ H) :
 ∃ b,V.ref a=.ref b/\#[34] :=
 ⟨a,rfl,.inl ⟨⟨xs,hq⟩,xg0 Pv h0 hl hs hd⟩⟩
theorem xr5{Q:VK}{n:Int}(h0:0<=n)(hn:n<2 ^ 62)(Pv:Nat->List V->Hp->Prop)(p0:Pv 0 [] H)(hlen:∀ (i:Nat) ys H,(i:Int)<=n->Pv i ys H->ys.length<=sizeLine)(hs:∀ (i:Nat) ys H,(i:Int)<n->Pv i ys H->g (.int i) σ' H fun σ2 H2=>tt σ2 H2 fun b H3=>if b=true then te σ2 H3 fun y H4=>PAt Pv (i+1) (ys++[y]) H4 else PAt Pv (i+1) ys H3)(hd:∀ ys H,Pv n.toNat ys H->∀ p,H p=none->Q (.ref p) #[54,ys]) :
 ∃ j:Int,[V.int n]=[.int j]/\-(2 ^ 62)<=j/\j<2 ^ 62/\wh6 g tt te σ' Q (Itr 0 j.toNat) H :=
 ⟨n,rfl,by omega,hn,wt3 (n:=n.toNat) (fun i x=>x=.int i) Pv p0 (fun i ys H hi p=>hlen i ys H #[0] p) (fun i ys H hi _=>hi) (fun i ys H x H' hi _ y=>⟨y.1,by rw[y.2,Int.zero_add]⟩) (fun ys H _=>Nat.le_refl _)
  (fun i x ys H hi hx p=>by subst hx;exact hs i ys H #[0] p) hd⟩
section
variable{Q:VK}
theorem qk5{t u:TS}(h:t {D with nx:=u D} σ H):C1 t u D σ H:=h
theorem yo3(h:D.nx σ H):Q5 D σ H:=h
theorem zb2(h:te σ H fun x H1=>g x σ H1 D.nx):E3 te g D σ H:=h
theorem J0{i:Nat}{R:St->Hp->Prop}(h:R (σ.set i (some v)) H):B6 i v σ H R:=h
theorem xv9{i:Nat}(e:σ[i]?=some (some v))(h:Q v H):A2 i σ H Q:=⟨v,e,h⟩
theorem zv2(h:Q v H):tC v σ H Q:=h
theorem zb3{r:R2}{tb:TE}(h:ta σ H fun x H1=>tb σ H1 fun y H2=>r x y H2 Q):tOp r ta tb σ H Q:=h
theorem Ac1{r:V->Hp->VK->Prop}(h:ta σ H fun x H1=>r x H1 Q):tUn r ta σ H Q:=h
theorem zv3(h:te σ H D.rt):L6 te D σ H:=h
theorem zk6(h:D.rt .non H):ym8 D σ H:=h
theorem zk7(h:te σ H fun _ H1=>D.nx σ H1):E9 te D σ H:=h
theorem zq6{c:TT}{t u:TS}(h:c σ H fun b H1=>if b=true then t D σ H1 else u D σ H1):S3 c t u D σ H:=h
theorem zv4{c:TT}{tb:TE}(h:c σ H fun b H1=>if b=true then ta σ H1 Q else tb σ H1 Q):tIf c ta tb σ H Q:=h
theorem yo4{t:TE}{R:Bool->Hp->Prop}(h:t σ H fun x H'=>∃ k,x=.bl k/\R k H'):G0 t σ H R:=h
theorem Af5{t:TE}{R:Bool->Hp->Prop}(h:t σ H fun x H'=>∃ k,x=.bl k/\R k H'):tB t σ H R:=h
theorem zq7{b:Bool}{R:Bool->Prop}(h:R b):∃ k,V.bl b=.bl k/\R k:=⟨b,rfl,h⟩
theorem zv5{t u:TT}{R:Bool->Hp->Prop}(h:t σ H fun c H1=>if c=true then u σ H1 R else R false H1):xf5 t u σ H R:=h
theorem Ac2{t u:TT}{R:Bool->Hp->Prop}(h:t σ H fun c H1=>if c=true then R true H1 else u σ H1 R):tOr t u σ H R:=h
theorem zv6{t:TT}{R:Bool->Hp->Prop}(h:t σ H fun c H1=>R (!c) H1):zi7 t σ H R:=h
theorem zk8{tb:TE}(h:ta σ H fun x H1=>∃ c,x=.bl c/\if c=true then tb σ H1 Q else Q (.bl false) H1):ym7 ta tb σ H Q:=h
theorem zk9(h:ta σ H fun x H1=>∃ c,x=.bl c/\Q (.bl (!c)) H1):yy4 ta σ H Q:=h
theorem zv7{R:List V->Hp->Prop}(h:R [] H):A9 σ H R:=h
theorem zl0{tr:TA}{R:List V->Hp->Prop}(h:ta σ H fun x H1=>tr σ H1 fun xs H2=>R (x::xs) H2):A1 ta tr σ H R:=h
theorem zv8(h:t σ H fun xs H1=>xs.length<=sizeLine/\∀ p,H1 p=none->Q (.ref p) (upd H1 p (.tup xs))):T7 t σ H Q:=h
theorem zv9(h:t σ H fun xs H1=>xs.length<=sizeLine/\∀ p,H1 p=none->Q (.ref p) (upd H1 p (.lst xs))):W1 t σ H Q:=h
theorem zl1{E:XK}(h:t σ H fun vs H1=>sp (vs++dvs) H1 Q E):D8 sp dvs E t σ H Q:=h
theorem Ac3{r:List V->Hp->VK->Prop}(h:t σ H fun vs H1=>r vs H1 Q):tCB r t σ H Q:=h
theorem Ac4{R:Bool->Hp->Prop}(h:R true H):tTT σ H R:=h
theorem zb4(h:D.bk σ H):yh2 D σ H:=h
theorem zb5(h:tl σ H fun x H1=>∃ a,x=.ref a/\(((∃ xs,SqL K H1 a xs)/\R (Itl K a) H1)\/((∃ xs,SqT K H1 a xs)/\R (Itt K a) H1))):qy5 K tl σ H R:=h
theorem zl2{ta:TA}(h:ta σ H fun vs H1=>∃ j:Int,vs=[.int j]/\-(2 ^ 62)<=j/\j<2 ^ 62/\R (Itr 0 j.toNat) H1):xq4 ta σ H R:=h
theorem zl3{ta:TA}(h:ta σ H fun vs H1=>∃ i j:Int,vs=[.int i,.int j]/\(-(2 ^ 62)<=i/\i<2 ^ 62/\-(2 ^ 62)<=j/\j<2 ^ 62)/\R (Itr i (j-i).toNat) H1):yy9 ta σ H R:=h
theorem zw0{t:yy8}{R:St->Hp->Prop}(h:to σ H fun o H1=>ti σ H1 fun i H2=>t o i v H2 fun H3=>R σ H3):yh3 to ti t v σ H R:=h
theorem Ac5{r:V->List V->Hp->VK->Prop}(h:to σ H fun x H1=>tyV K T x H1/\t σ H1 fun xs H2=>r x xs H2 Q):tBM K T r to t σ H Q:=h
theorem zb6{r r':R2}{tb:TE}(h:ta σ H fun x H1=>tb σ H1 fun y H2=>r x y H2 fun z H3=>∃ k,z=.bl k/\(if k=true then tc σ H3 fun w' H4=>r' y w' H4 Q else Q (.bl false) H3)):xu9 r r' ta tb tc σ H Q:=h
end
variable{z:Str}
section
variable{Q:VK}
theorem xw0(h:Q (.int (i+j)) H):J6 K (.int i) (.int j) H Q:=.inl ⟨i,j,rfl,rfl,h⟩
theorem qf5{i j:Str}(hz:i.length+j.length<=sizeLine)(h:Q (.str (i++j)) H):J6 K (.str i) (.str j) H Q:=.inr (.inl ⟨i,j,rfl,rfl,hz,h⟩)
theorem xr6(h1:H a=some (.lst xs))(h2:H b=some (.lst ys))(hz:xs.length+ys.length<=sizeLine)(h:∀ p,H p=none->Q (.ref p) #[54,xs++ys]):J6 K (.ref a) (.ref b) H Q:=.inr (.inr (.inl ⟨a,b,xs,ys,rfl,rfl,h1,h2,hz,h⟩))
theorem zw1(h:Q (.int (i-j)) H):rI0 (fun i j=>.int (i-j)) (.int i) (.int j) H Q:=⟨i,j,rfl,rfl,h⟩
theorem wh7(c:yz1 i j)(h:Q (.int (i*j)) H):qy3 (.int i) (.int j) H Q:=.inl ⟨i,j,rfl,rfl,c,h⟩
theorem zb7{n:Int}(h0:0<=n)(h1:n<=1000)(h2:z.length<=1000)(h:Q (.str (PySem.Txt.mul z n)) H):qy3 (.str z) (.int n) H Q:=.inr (.inl ⟨z,n,rfl,rfl,h0,h1,h2,h⟩)
theorem zw2(c:ya7 i j)(h:Q (.int (i / j)) H):rI ya7 (fun i j=>.int (i / j)) (.int i) (.int j) H Q:=⟨i,j,rfl,rfl,c,h⟩
theorem zb8(c:0<j)(h:Q (.int (i % j)) H):rI (fun _ j=>0<j) (fun i j=>.int (i % j)) (.int i) (.int j) H Q:=⟨i,j,rfl,rfl,c,h⟩
theorem Ac6(h:Q #[90,i<j] H):xv7 (.int i) (.int j) H Q:=.inl ⟨i,j,rfl,rfl,h⟩
theorem Ac7(h:Q #[90,i<=j] H):yj2 (.int i) (.int j) H Q:=.inl ⟨i,j,rfl,rfl,h⟩
theorem Ac8(h:Q #[90,j<i] H):xn6 (.int i) (.int j) H Q:=.inl ⟨i,j,rfl,rfl,h⟩
theorem zq8(h:Q #[90,j<=i] H):zk3 (.int i) (.int j) H Q:=.inl ⟨i,j,rfl,rfl,h⟩
theorem zq9{i j:Str}(h:Q (.bl (!decide (j.cps.toList<i.cps.toList))) H):yj2 (.str i) (.str j) H Q:=.inr ⟨i,j,rfl,rfl,h⟩
theorem yc1{x:V}(c:zi9 x y=true)(h:Q #[90,x=y] H):qd0 K x y H Q:=.inl ⟨c,h⟩
theorem Ac9{x:V}(c:zi9 x y=true)(h:Q (.bl (!decide (x=y))) H):xh0 K x y H Q:=.inl ⟨c,h⟩
theorem Ad0{x:V}{e:PyData}(h1:Dv K H d x)(h2:Dv K H e y)(hz:min d.depth e.depth<=190)(h:Q (.bl (PyData.eqv d e)) H):qd0 K x y H Q:=.inr ⟨d,e,h1,h2,hz,h⟩
theorem Ad1{x:V}{e:PyData}(h1:Dv K H d x)(h2:Dv K H e y)(hz:min d.depth e.depth<=190)(h:Q (.bl (!PyData.eqv d e)) H):xh0 K x y H Q:=.inr ⟨d,e,h1,h2,hz,h⟩
theorem Af6{x:V}(h:Q #[90,x=.non] H):yb8 x .non H Q:=⟨rfl,h⟩
theorem zl4{x:V}(h:Q (.bl (!decide (x=.non))) H):wl8 x .non H Q:=⟨rfl,h⟩
theorem M9(h1:SqL K H p xs)(e:atI xs i=some v)(h:Q v H):rIx K (.ref p) (.int i) H Q:=.inl ⟨p,xs,i,v,rfl,rfl,h1,e,h⟩
theorem W6(h1:SqT K H p xs)(e:atI xs i=some v)(h:Q v H):rIx K (.ref p) (.int i) H Q:=.inr (.inl ⟨p,xs,i,v,rfl,rfl,h1,e,h⟩)
theorem zr0{c:Nat}(hz:z.length<=sizeLine)(e:atI z.cps.toList i=some c)(h:Q (.str ⟨#[c]⟩) H):rIx K (.str z) (.int i) H Q:=.inr (.inr ⟨z,i,c,rfl,rfl,hz,e,h⟩)
theorem xw1{x:V}(h1:SqL K H p xs\/SqT K H p xs)(fx:qy1 x=true)(fs:xs.all qy1=true)(h:Q (.bl (inV x xs)) H):za8 K false x (.ref p) H Q:=.inl ⟨p,xs,rfl,h1,fx,fs,h⟩
theorem xw2{x:V}(h1:SqL K H p xs\/SqT K H p xs)(fx:qy1 x=true)(fs:xs.all qy1=true)(h:Q (.bl (!inV x xs)) H):za8 K true x (.ref p) H Q:=.inl ⟨p,xs,rfl,h1,fx,fs,h⟩
theorem Q4(h1:SqL K H p xs\/SqT K H p xs)(h:Q (.int xs.length) H):N6 K [.ref p] H Q:=.inl ⟨p,xs,rfl,h1,h⟩
theorem wh8(hz:z.length<=sizeLine)(h:Q (.int z.length) H):N6 K [.str z] H Q:=.inr (.inl ⟨z,rfl,hz,h⟩)
theorem xh3{k:Int}{j:Nat}{R:Hp->Prop}(h1:H p=some (.lst xs))(e:ixN xs.length k=some j)(h:R #[54,xs.set j v]):za0 (.ref p) (.int k) v H R:=⟨p,xs,k,j,rfl,rfl,h1,e,h⟩
theorem L4(h1:H p=some (.lst xs))(hz:xs.length<sizeLine)(h:Q .non #[54,xs++[y]]):J9 (.ref p) [y] H Q:=⟨p,xs,y,rfl,rfl,h1,hz,h⟩
end
def Itv(n:Nat):It:=⟨fun i _=>i<n,fun i H x H'=>H'=H/\x=.int ((n:Int)-1-i),fun i _=>n<=i⟩
theorem zb9{tg:Expr}(it:Addr)(n:Nat):xc8 P w K tg (Itv n) [it] it (fun i h=>IsRangeIter h it ((n:Int)-1+(i:Nat)*(-1)) ((n:Int)-(i:Nat)) (-1)) where
 mem:=by simp
 obj:=fun i h st b hb=>by
  have e:b=it:=by simpa using hb
  subst e
  exact⟨_,st,fun v z=>by
   have z':Data.fields _=Data.cell v:=z
   cases z'⟩
 keep:=fun i h h' st k=>k it (by simp) _ st
 item:=by
  walk_at"0"
  walk_at"7"
  have W:=Walks.range (prog:=X.prog) (w:=X.w) (I.ok.hd hc) it ((n:Int)-1) (-1) n
  walk_at"36"
  refine⟨_,rfl,xf8 (s:={s with heap:=h',toks:=tk}) (n := "range_iterator") st' rfl rfl #[10] ⟨.int ((n:Int)-1-i),H,I1,⟨t,?_⟩,⟨rfl,rfl⟩,st',fun b hb=>(hf b hb).1⟩⟩
  have e:(n:Int)-1+(i:Int)*(-1)=(n:Int)-1-i:=by omega
  rw[e]
 done:=by
  walk_at"0"
  walk_at"7"
  exact wpAny_pyNext_range_end (I.ok.hd hc) st (by have:n<=i:=hg;omega) fun h' eb=>⟨rfl,I.turned (t':=s.toks) (fun b o hb e=>eb b o hb e) f0 f1 f3 f4 f5⟩
 self:=fun _ _ _ _ _ st h=>wpAny_pyIter_rangeiter st h
theorem zl5(hn:(n:Int)<2 ^ 62)(Pv:Nat->St->Hp->Prop)(p0:Pv 0 σ H)(hs:∀ (i:Nat) σ H,i<n->Pv i σ H->g (.int ((n:Int)-1-i)) σ H fun σ2 H2=>tb {D with nx:=PAt Pv (i+1),ct:=PAt Pv (i+1),bk:=D.nx} σ2 H2)(hd:∀ σ H,Pv n σ H->D.nx σ H) :
 ∃ m:Nat,[V.int n]=[.int m]/\(m:Int)<2 ^ 62/\wn1 g tb D σ (Itv m) H:=by
 refine⟨n,rfl,hn,fun i m σ H=>m=n-i/\i<=n/\Pv i σ H,⟨n,by simp,Nat.zero_le _,p0⟩,?_⟩
 rintro i m σ H ⟨rfl,hi,p⟩
 by_cases hlt:i<n
 ·refine .inr ⟨hlt,Pv (i+1),fun σ' H' p'=>⟨n-(i+1),by omega,rfl,hlt,p'⟩,fun x H' y=>?_⟩
  obtain⟨e,y⟩:=y
  subst e y
  exact hs i σ _ hlt p
 ·have e:i=n:=by omega
  subst e
  exact .inl ⟨Nat.le_refl _,hd σ H p⟩
def xr7:yy8:=fun o i v H Q=>za0 o i v H Q\/∃ a H',o=.ref a/\Ab6 H a i v H'/\Q H'
theorem wh9(hu:X.A.units+1<cLine):zt0 X xr7:=by
 intro pins s σ H o i v ov iv u Q I ro ri rv h
 rcases h with h|⟨a,H',rfl,g,q⟩
 ·exact za1 pins s σ H o i v ov iv u Q I ro ri rv h
 ·cases ro
  exact yu4 hu I g ri rv fun s' I'=>⟨H',I',q⟩
def L5(K:Fg):R2:=rIx K
theorem C2(hu:X.A.units+1<cLine):IxR X (L5 X.K):=zt8
def Af7(neg:Bool):R2:=fun x y H Q=>∃ a o,y=.ref a/\zu2 H a x o/\Q (.bl (if neg then !o.isSome else o.isSome)) H
def wq3(K:Fg)(neg:Bool):R2:=fun x y H Q=>za8 K neg x y H Q\/Af7 neg x y H Q
theorem wc1(hu:X.A.units+1<cLine):OpR X #[81,.In] (wq3 X.K false):=by
 refine zv1.or ?_
 walk_at"13"
 obtain⟨a,o,rfl,g,q⟩:=h
 cases ry
 exact Af2 hu I g rx fun s' I'=>⟨.bl o.isSome,H,I',rfl,q⟩
theorem wx4(hu:X.A.units+1<cLine):OpR X #[81,.NotIn] (wq3 X.K true):=by
 refine yu9.or ?_
 walk_at"13"
 obtain⟨a,o,rfl,g,q⟩:=h
 cases ry
 exact zk1 hu I g rx fun s' I'=>⟨.bl (!o.isSome),H,I',rfl,q⟩
def yv0(K:Fg):List V->Hp->VK->Prop:=fun xs H Q=>(∃ (x:V) (T:String) (t:Value) (b:Bool),xs=[x,.ty T]/\ws5 K H x t/\PySem.W.kitOne K t (.type T)=some b/\Q (.bl b) H) \/
 ∃ (a:Addr) (ys:List V) (T:String) (b:Bool),xs=[.ref a,.ty T]/\SqT K H a ys/\PySem.W.kitOne K (.type "tuple") (.type T)=some b/\Q (.bl b) H
theorem qy6:qj0 X (.builtin "isinstance") (yv0 X.K):=by
 intro pins s σ H xs us Q I r h
 rcases h with⟨x,T,t,b,rfl,ty,e,q⟩|⟨a,ys,T,b,rfl,hq,e,q⟩
 ·obtain⟨u,w',rfl,r1,r2⟩:=ya9 r
  cases r2
  exact wpAny_with_toks (n:=1) I.tk (yu0 I r1 ty e fun tk ht=>⟨.bl b,H,I.tok _ ht,rfl,q⟩)
 ·obtain⟨u,w',rfl,r1,r2⟩:=ya9 r
  cases r2
  cases r1
  obtain⟨its,rv,pl,hz⟩:=I.tuple hq
  obtain⟨o,h1,h2,_⟩:=pl
  exact wpAny_with_toks (n:=1) I.tk (PySem.W.kia_one PySem.W.kitx_tuple I.kIn ⟨o,h1,h2⟩ e (fun z=>nomatch z) fun tk ht=>⟨.bl b,H,I.tok _ ht,rfl,q⟩)
theorem Ad2{Q:VK}{x:V}{t:Value}{b:Bool}(ty:ws5 K H x t)(e:PySem.W.kitOne K t (.type T)=some b)(h:Q (.bl b) H):yv0 K [x,.ty T] H Q:=.inl ⟨x,T,t,b,rfl,ty,e,h⟩
theorem zw3{Q:VK}{b:Bool}(hq:SqT K H a ys)(e:PySem.W.kitOne K (.type "tuple") (.type T)=some b)(h:Q (.bl b) H):yv0 K [.ref a,.ty T] H Q:=.inr ⟨a,ys,T,b,rfl,hq,e,h⟩
example (K:Fg):PySem.W.kitOne K (.type "str") (.type "str")=some true:=by rfl
example (K:Fg):PySem.W.kitOne K (.type "bool") (.type "int")=some true:=by rfl
example (K:Fg):PySem.W.kitOne K (.type "int") (.type "bool")=some false:=by rfl
example (K:Fg):PySem.W.kitOne K (.type "list") (.type "list")=some true:=by rfl
section
variable{σ:List (Option V)}
theorem Inv.turnLaid{ch:List Addr}(I:Inv X pins σ H s)(hf:∀ b∈ch,xn2 X pins H b)(k:∀ b u,b∉ch->s.heap.get? b=some u->h'.get? b=some u)(hp:s.heap.objs.size<=a)(new:W4 X.prog X.w (upd H a o) h' a o)(ht:0<t') :
 Inv X pins σ (upd H a o) {s with heap:=h',toks:=t'}:=by
 have hn:H a=none:=I.hok.fresh hp
 have nit:∀ b u,H b=some u->b∉ch:=fun b u e z=>by rw[(hf b z).1] at e;cases e
 have up:∀ {b:Addr} {u:HO},H b=some u->upd H a o b=some u:=fun{b u} e=>by rw[B8 (W7 e hn)];exact e
 have neA:∀ b u,s.heap.get? b=some u->b≠a:=fun b u e=>Nat.ne_of_lt (Nat.lt_of_lt_of_le (Heap.lt_size e) hp)
 refine I.step (g':=s.gens) (d':=s.drawn) (ch:=ch) (fun b hb=>?_) (fun b u _ _ hc e _=>k b u hc e) (fun b u _ _ hc e _=>⟨u.slots,k b u hc e⟩) (fun b u _ e n=>by rw[B8 (neA b u e)];exact n)
  (fun b u hc e=>⟨u,k b u hc e⟩) (fun _ _ e=>up e) (fun _ _ _ e=>up e) (fun b ps e=>⟨#[],by rw[up e];simp⟩) (fun m hm=>?_) (fun b u e=>?_) I.bare ht
 ·obtain⟨f0,f1,f2,f3,f4,f5⟩:=hf b hb
  exact⟨f3,f1,f4,f5⟩
 ·obtain⟨ob,es,ep,ho,r⟩:=hm
  exact⟨ob,es,ep,k _ ob (fun z=>(hf _ z).2.1 rfl) ho,r⟩
 ·by_cases hb:b=a
  ·subst hb;rw[A6] at e;cases e;exact new
  ·rw[B8 hb] at e
   refine(I.hok b u e).stay (fun c v hc q=>k c v ?_ q) (fun _ q=>up q) fun _ _ q=>up q
   rcases hc with z|z
   ·rw[z];exact nit b u e
   ·exact nit c _ z
end
def Itx(n:Nat)(V':Nat->V->Prop):It:=⟨fun i _=>i<n,fun i H x H'=>H'=H/\V' i x,fun i _=>n<=i⟩
theorem yj3{tg:Expr}{Pv:Nat->Value->Prop}{St:Nat->Heap->Prop}{V':Nat->V->Prop}{vs:Nat->Array Value}(W:∀ A:Around,A.handled=none->Walks P w A it [it] [it] n Pv St)(hV:∀ i v,Pv i v->∃ x,L1 x v/\V' i x)(hO:∀ i h,St i h->∃ o,h.get? it=some o/\o.cls=.type T/\o.data=.fields (vs i))(hT:["enumerate","zip","dict_itemiterator","dict_reverseitemiterator","odict_iterator","itertools.zip_longest","itertools.pairwise"].contains T=false)(hS:∀ (A:Around) (i:Nat) (s:Shared) (Q:Value->Shared->Prop) (E:Value->Shared->Prop),St i s.heap->Q (.ref it) s->wpAny (model P w) A (pyIter (.ref it)) Q E s) :
 xc8 P w K tg (Itx n V') [it] it (fun i h=>i<=n/\St i h) where
 mem:=by simp
 obj:=fun i h st b hb=>by
  have e:b=it:=by simpa using hb
  subst e
  obtain⟨o,e,_,d⟩:=hO i h st.2
  exact⟨o,e,fun v z=>by rw[d] at z;cases z⟩
 keep:=fun i h h' st k=>⟨st.1,(W {} rfl).frame i h h' st.2 k⟩
 item:=by
  walk_at"0"
  walk_at"7"
  refine wpAny_with_toks (n:=1) I.tk ((W X.A (I.ok.hd hc)).item i s _ _ hg st.2 fun v h' tk hv st' kk ht=>?_)
  have ht:0<tk:=ht
  obtain⟨x,rx,vx⟩:=hV i v hv
  have I1:Inv X pins σ H {s with heap:=h',toks:=tk}:=I.turned (fun b o hb e=>kk b o (by simpa using hb) e) f0 f1 f3 f4 f5
  obtain⟨o,e,c,d⟩:=hO _ _ st'
  exact⟨v,rfl,xf8 (s:={s with heap:=h',toks:=tk}) e c d hT ⟨x,H,I1,rx,⟨rfl,vx⟩,⟨hg,st'⟩,fun b hb=>(hf b hb).1⟩⟩
 done:=by
  walk_at"0"
  walk_at"7"
  have hi:i=n:=Nat.le_antisymm st.1 hg
  subst hi
  exact wpAny_with_toks (n:=1) I.tk ((W X.A (I.ok.hd hc)).done s _ _ st.2 fun h' tk eb ht=>⟨rfl,I.turned (fun b o hb e=>eb b o (by simpa using hb) e) f0 f1 f3 f4 f5 ht⟩)
 self:=fun A i s Q E st h=>hS A i s Q E st.2 h
section
variable{σ:List (Option V)}
theorem Inv.turnedL{ch:List Addr}(I:Inv X pins σ H s)(hf:∀ b∈ch,xn2 X pins H b)(k:∀ b u,b∉ch->s.heap.get? b=some u->h'.get? b=some u)(ht:0<t') :
 Inv X pins σ H {s with heap:=h',toks:=t'}:=by
 have nit:∀ b u,H b=some u->b∉ch:=fun b u e z=>by rw[(hf b z).1] at e;cases e
 refine I.step (g':=s.gens) (d':=s.drawn) (ch:=ch) (fun b hb=>?_) (fun b u _ _ hc e _=>k b u hc e) (fun b u _ _ hc e _=>⟨u.slots,k b u hc e⟩) (fun _ _ _ _ n=>n)
  (fun b u hc e=>⟨u,k b u hc e⟩) (fun _ _ e=>e) (fun _ _ _ e=>e) (fun b ps e=>⟨#[],by rw[e];simp⟩) (fun m hm=>?_) (fun b u e=>?_) I.bare ht
 ·obtain⟨f0,f1,f2,f3,f4,f5⟩:=hf b hb
  exact⟨f3,f1,f4,f5⟩
 ·obtain⟨ob,es,ep,ho,r⟩:=hm
  exact⟨ob,es,ep,k _ ob (fun z=>(hf _ z).2.1 rfl) ho,r⟩
 ·refine(I.hok b u e).stay (fun c v hc q=>k c v ?_ q) (fun _ q=>q) fun _ _ q=>q
  rcases hc with z|z
  ·rw[z];exact nit b u e
  ·exact nit c _ z
end
def Itp(n:Nat)(V':Nat->List V->Prop):It:=⟨fun i _=>i<n,fun i H x H'=>∃ p xs,x=.ref p/\H p=none/\V' i xs/\H'=upd H p (.tup xs),fun i _=>n<=i⟩
variable{elts:List Expr}
theorem yc2{fp wr:List Addr}{Pt:Nat->Array Value->Prop}{St:Nat->Heap->Prop}{Mid:Nat->Addr->Heap->Prop}{V':Nat->List V->Prop}(W:∀ A:Around,A.handled=none->WalksT P w A it fp wr n Pt St Mid)(hmem:it∈fp)(hV:∀ i vs,Pt i vs->∃ xs,G5 xs vs.toList/\V' i xs/\xs.length<=64)(hO:∀ i h,St i h->∀ b∈fp,∃ o,h.get? b=some o/\∀ v,o.data≠.cell v)(hS:∀ (A:Around) (i:Nat) (s:Shared) (Q:Value->Shared->Prop) (E:Value->Shared->Prop),St i s.heap->Q (.ref it) s->wpAny (model P w) A (pyIter (.ref it)) Q E s) :
 xc8 P w K (.Tuple elts k pos) (Itp n V') fp it (fun i h=>i<=n/\St i h) where
 mem:=hmem
 obj:=fun i h st b hb=>hO i h st.2 b hb
 keep:=fun i h h' st kk=>⟨st.1,(W {} rfl).frame i h h' st.2 kk⟩
 item:=by
  walk_at"0"
  have W:=W X.A (I.ok.hd hc)
  refine wpAny_with_toks (n:=1) I.tk (W.item i s _ _ hg st.2 fun T vs h' tk hv hT htup hmid kk ht=>?_)
  have ht:0<tk:=ht
  obtain⟨xs,rx,vx,hz⟩:=hV i vs hv
  have hap:=W.apart i T h' hmid
  refine⟨_,rfl,W.go elts k pos i T {s with heap:=h',toks:=tk} _ _ hmid fun h2 st2 k2=>?_⟩
  have htup2:IsTup h2 T vs.toList.toArray:=by
   obtain⟨o,e,c⟩:=htup
   exact⟨o,k2 T o hap e,by simpa using c⟩
  have I1:Inv X pins σ (upd H T (.tup xs)) {s with heap:=h2,toks:=tk}:=I.turnLaid (ch:=wr) (fun b hb=>hf b (W.sub b hb)) (fun b u hb e=>k2 b u hb (kk b u hb e)) hT ⟨by rw[sizeLine_eq];omega,vs.toList,rx,htup2⟩ ht
  refine⟨.ref T,_,I1,rfl,⟨T,xs,rfl,I.hok.fresh hT,vx,rfl⟩,⟨hg,st2⟩,fun b hb=>?_⟩
  obtain⟨o,e,_⟩:=hO i _ st.2 b hb
  rw[B8 #[30,hT]]
  exact(hf b hb).1
 done:=by
  walk_at"0"
  have W:=W X.A (I.ok.hd hc)
  have hi:i=n:=Nat.le_antisymm st.1 hg
  subst hi
  exact wpAny_with_toks (n:=1) I.tk (W.done s _ _ st.2 fun h' tk eb ht=>⟨rfl,I.turnedL (ch:=wr) (fun b hb=>hf b (W.sub b hb)) eb ht⟩)
 self:=fun A i s Q E st h=>hS A i s Q E st.2 h
theorem yv1(hh:A.handled=none)(it:Addr)(x:Str)(t:Tok) :
 Draws P w A it [it] x.cps.size (fun i v=>∃ c u,x.cps[i]?=some c/\v=.str ⟨#[c]⟩ u) (fun i h=>h.IsStrIter it (strIterType x) x t i):=by
 unfold strIterType
 split
 ·exact Draws.strAscii hh it x t
 ·exact Draws.strWide hh it x t
theorem yv2(hh:A.handled=none)(it:Addr)(x:Str)(t:Tok):Walks P w A it [it] [it] x.cps.size (SignAt x) (fun i h=>h.IsStrIter it (strIterType x) x t i):=by
 unfold strIterType
 split
 ·exact Walks.strAscii hh it x t
 ·exact Walks.strWide hh it x t
theorem yc3{t:Tok}{i:Nat}(hit:s.heap.IsStrIter it (strIterType x) x t i)(h:Q (.ref it) s) :
 wpAny (model P w) A (pyIter (.ref it)) Q E s:=by
 unfold strIterType at hit
 split at hit
 ·exact wpAny_pyIter_striter_ascii hit h
 ·exact wpAny_pyIter_striter_wide hit h
def yc4(z:Str)(i:Nat)(x:V):Prop:=∃ c,z.cps.toList[i]?=some c/\x=.str ⟨#[c]⟩
theorem zc0(i:Nat)(v:Value)(h:SignAt z i v):∃ x,L1 x v/\yc4 z i x:=by
 obtain⟨c,u,e,rfl⟩:=h
 exact⟨.str ⟨#[c]⟩,⟨u,rfl⟩,c,by simpa using e,rfl⟩
theorem zc1{tg:Expr}(it:Addr)(z:Str)(t:Tok):xc8 P w K tg (Itx z.cps.size (yc4 z)) [it] it (fun i h=>i<=z.cps.size/\h.IsStrIter it (strIterType z) z t i):=by
 refine yj3 (T:=strIterType z) (vs:=fun i=>#[.str z t,.int i 0]) (fun A hA=>yv2 hA it z t) zc0 (fun i h st=>?_) ?_ (fun A i s Q E st h=>yc3 st h)
 ·obtain⟨o,e,c,d⟩:=st
  exact⟨o,e,c,d⟩
 ·unfold strIterType
  split <;> decide
def zl6(tl:TE):TI:=fun σ H R=>tl σ H fun x H1=>∃ z,x=.str z/\R (Itx z.cps.size (yc4 z)) H1
theorem yo5{tg l:Expr}(hl:PE X l tl):PI X tg l (zl6 tl):=by
 intro pins s σ H R I h
 refine thn (hl pins s σ H _ I h) fun v s1 zq=>?_
 obtain⟨x,H1,I1,r1,q1⟩:=zq
 obtain⟨z,e,q⟩:=q1
 subst e
 obtain⟨t,rfl⟩:=r1
 refine wpAny_pyIter_strU ?_
 refine⟨s1.heap.objs.size,[s1.heap.objs.size],_,_,H1,rfl,I1.kept (t':=s1.toks) fun b o e=>Heap.get?_push_of_some _ e,zc1 _ z t,⟨Nat.zero_le _,_,Heap.get?_push_size _ rfl,rfl,rfl⟩,fun b hb=>?_,q⟩
 walk_at"11"
def yj4(ta:TA):TI:=fun σ H R=>ta σ H fun vs H1=>∃ z,vs=[.str z]/\R (Itp z.cps.size fun i xs=>∃ c,z.cps.toList[i]?=some c/\xs=[.int i,.str ⟨#[c]⟩]) H1
theorem zc2{p:Pos}{l:Expr}{ta:TA}(hg:Gl X "enumerate")(hm:X.mg "enumerate"=none)(ha:PA X [l] ta)(hs:autoParam (starEach [l] X.env=[(false,eval l X.env)]) zAr) :
 PI X (.Tuple elts k tpos) (.Call (.Name "enumerate" p) [l] [] pos) (yj4 ta):=by
 intro pins s σ H R I h
 refine Call_ (qw6 I hg hm boot_enumerate #[32,rfl])
 obtain⟨vs,H1,I1,r1,q1⟩:=zq
 obtain⟨z,e,q⟩:=q1
 subst e
 obtain⟨v,rfl,rv⟩:=qt9 r1
 obtain⟨t,rfl⟩:=rv
 refine call_enumerate_str fun h' he hit hz hk=>?_
 have I2:Inv X pins σ H1 {s1 with heap:=h'}:=I1.kept (t':=s1.toks) hk
 refine wpAny_pyIter_enum he ?_
 have ne:s1.heap.objs.size+1≠s1.heap.objs.size:=by omega
 refine⟨s1.heap.objs.size+1,_,_,_,H1,rfl,I2,yc2 (V':=fun i xs=>∃ c,z.cps.toList[i]?=some c/\xs=[.int i,.str ⟨#[c]⟩]) (fun A hA=>WalksT.enumerateD (yv1 (show A.in1.handled=none from hA) s1.heap.objs.size z t) (s1.heap.objs.size+1) ne (by simpa using ne) (by simp)) (by simp) ?_ ?_ ?_,⟨Nat.zero_le _,⟨_,he⟩,hit⟩,fun b hb=>?_,q⟩
 ·rintro i vs ⟨t1,v,⟨c,u,e,rfl⟩,rfl⟩
  exact⟨[.int i,.str ⟨#[c]⟩],.cons ⟨t1,rfl⟩ (.cons ⟨u,rfl⟩ .nil),⟨c,by simpa using e,rfl⟩,by simp⟩
 ·rintro i h ⟨⟨old,e1⟩,o2,e2,_,d2⟩ b hb
  have hb:b=s1.heap.objs.size+1\/b=s1.heap.objs.size:=by simpa using hb
  rcases hb with rfl|rfl
  ·exact⟨_,e1,fun v z=>by cases (show Data.fields _=Data.cell v from z)⟩
  ·exact⟨_,e2,fun v z=>by rw[d2] at z;cases z⟩
 ·rintro A i s Q E ⟨⟨old,e1⟩,_⟩ h
  exact wpAny_pyIter_enum e1 h
 ·have hb:b=s1.heap.objs.size+1\/b=s1.heap.objs.size:=by simpa using hb
  rcases hb with rfl|rfl
  ·exact I1.fpOk (Nat.le_succ _) (I1.hok.fresh (Nat.le_succ _))
  ·exact I1.fpOk #[6] (I1.hok.fresh #[6])
def xr8(te:TE)(y z:Str):TE:=fun σ H Q=>te σ H fun x H1=>∃ a,x=.str a/\a.length<=1048576/\Q (.str (PySem.Txt.replace a y z)) H1
variable{j1 j2:Nat}{p1:Pos}
theorem xe9{o:Expr}{y:Str}(ho:PE X o te)(hz:autoParam (z.length<=14) zAd)(hyz:autoParam ((y == z)=false) zAd)(hbase:autoParam (attributeBase o "replace" X.env (eval o X.env)=eval o X.env) zAr) (hfew:((backTo cpos (starEach [.Constant (.str y) j1 p1,.Constant (.str z) j2 p2] X.env)).all (fun x=>!x.1) && (backToKw cpos (keywordEach [] X.env)).all (fun x=>x.1.isSome)
  && decide (([.Constant (.str y) j1 p1,.Constant (.str z) j2 p2]:List Expr).length+([]:List Keyword).length+(if([]:List Keyword).isEmpty then 0 else 1)<30))=true:=by rfl) (hline:autoParam ((apos.endLine == cpos.line)=true) zAr) (hs:autoParam (starEach [.Constant (.str y) j1 p1,.Constant (.str z) j2 p2] X.env=[(false,eval (.Constant (.str y) j1 p1) X.env),(false,eval (.Constant (.str z) j2 p2) X.env)]) zAr) :
 PE X (.Call (.Attribute o "replace" apos) [.Constant (.str y) j1 p1,.Constant (.str z) j2 p2] [] cpos) (xr8 te y z):=by
 walk_at"25"
 refine wpAny_Call_method_late hbase hfew hline rfl (thn (ho pins s σ H _ I h) fun v s1 zq=>?_)
 obtain⟨x,H1,I1,r1,q1⟩:=zq
 obtain⟨a,rfl,hl,q⟩:=q1
 obtain⟨h1,h2⟩:=yi9 (T := "str") I1 r1 (show tyV X.K "str" (.str a) H1 from rfl)
 refine⟨"str","str.replace",PySem.F.plainAttrs_str,PySem.F.slot_str_replace,PySem.F.type_str_replace,h1,h2,?_⟩
 obtain⟨t,rfl⟩:=r1
 rw[hs]
 refine Calls.callWith_builtin rfl (Calls.evalArgs_plain ?_)
 refine Calls.spliced_cons (Calls.Constant_str (k:=j1) (pos:=p1) (Calls.spliced_cons (Calls.Constant_str (k:=j2) (pos:=p2) (Calls.spliced_nil ?_))))
 exact wpAny_with_toks (n:=1) (s:={s1 with toks:=s1.toks+1+1}) (Nat.succ_pos _) (PySem.SC.replaceW (Nat.ne_of_gt I1.tk) (Nat.succ_ne_zero _) (by show s1.toks≠s1.toks+1;omega) hyz hl hz fun t' k ht=>⟨.str _,H1,I1.tok _ ht,⟨_,rfl⟩,q⟩)
def qi9(x:Str)(lo hi:Option Int):Str:=⟨((x.cps.toList.drop (HT.sIx x.cps.toList.length 0 lo)).take (HT.sIx x.cps.toList.length x.cps.toList.length hi-HT.sIx x.cps.toList.length 0 lo)).toArray⟩
def Ad3:V->Option Int->Option Int->Hp->VK->Prop:=fun x lo hi H Q=>∃ z,x=.str z/\z.length<=sizeLine/\Q (.str (qi9 z lo hi)) H
theorem yv3(x:Str)(lo hi:Option Int):(⟨((Builtin.Str.strSliceIndices lo hi 1 x.length).filterMap (x.cps[·]?)).toArray⟩:Str)=qi9 x lo hi:=by
 obtain⟨h1,h2,h3⟩:=wb9 lo hi x.length
 have e:Builtin.Str.strSliceIndices lo hi 1 x.length=sliceRange #[109,x.length].1 #[109,x.length].2.1 #[109,x.length].2.2:=rfl
 rw[e,h1,h2,h3]
 unfold qi9
 rw[sliceRange_one,pick_run]
 rfl
theorem yi5(n d:Nat)(o:Option Int)(h:d<=n):HT.sIx n d o<=n:=by
 cases o with
 | none=>exact h
 | some v =>
   show(if v<0 then(v+(n:Int)).toNat else min v.toNat n)<=n
   split <;> omega
theorem zw4:SlR X Ad3:=by
 intro pins s σ H x v vl vu lo hi sl Q I rx hs pl pu h
 obtain⟨z,rfl,hz,q⟩:=h
 obtain⟨t,rfl⟩:=rx
 refine⟨"str",_,PySem.F.slot_str_getitem.lookup,typeIs_str _ _ _,?_⟩
 have part:∀ {v:Value} {k:Option Int},IsPart v k->∃ l:Option (Int×Tok),v=partValue l/\l.map (·.1)=k:=fun{v k} h=>by
  cases h with
  | none=>exact⟨none,rfl,rfl⟩
  | int i t=>exact⟨some (i,t),rfl,rfl⟩
 obtain⟨l,rfl,el⟩:=part pl
 obtain⟨u,rfl,eu⟩:=part pu
 refine wpAny_getItem_str_slice (l:=l) (u:=u) (st:=none) hs rfl ?_
 have ep:slicePicked z l u none=Builtin.Str.strSliceIndices lo hi 1 z.length:=by unfold slicePicked;rw[el,eu];rfl
 have ec:=yv3 z lo hi
 unfold sliceMade
 rw[ep]
 split
 ·rename_i hc
  have hlen:(Builtin.Str.strSliceIndices lo hi 1 z.length).length=z.length:=by simpa using hc
  have:qi9 z lo hi=z:=by
   obtain⟨h1,h2,h3⟩:=wb9 lo hi z.length
   have e:Builtin.Str.strSliceIndices lo hi 1 z.length=sliceRange #[109,z.length].1 #[109,z.length].2.1 #[109,z.length].2.2:=rfl
   rw[e,h1,h2,h3,sliceRange_one,length_map,length_range] at hlen
   have hb:=yi5 z.length z.length hi #[6]
   have el:z.cps.toList.length=z.length:=Array.length_toList
   obtain⟨⟨l⟩⟩:=z
   unfold qi9
   rw[el,hlen]
   by_cases h0:HT.sIx (Str.length ⟨⟨l⟩⟩) 0 lo=0
   ·rw[h0,drop_zero,take_of_length_le (Nat.le_of_eq el)]
   ·have:Str.length ⟨⟨l⟩⟩=0:=by omega
    rw[this,take_zero]
    have:l=[]:=eq_nil_of_length_eq_zero (by rw[<-this];exact el.symm▸rfl)
    rw[this]
  rw[this] at q
  exact⟨.str z,H,I,⟨_,rfl⟩,q⟩
 ·rw[ec]
  refine⟨?_,.str _,H,I.tok _,⟨_,rfl⟩,q⟩
  have:(qi9 z lo hi).length<=z.length:=by
   unfold qi9 Str.length
   simp only[size_toArray,length_take,length_drop,Array.length_toList]
   omega
  omega
def wg2(K:Fg):V->Option Int->Option Int->Hp->VK->Prop:=fun x lo hi H Q=>Ad3 x lo hi H Q\/Aa6 K x lo hi H Q\/Ab0 K x lo hi H Q
theorem qf6:SlR X (wg2 X.K):=zw4.or (zt5.or zj9)
variable{hi lo:Option Int}
section
variable{Q:VK}
theorem xr9(hz:z.length<=sizeLine)(h:Q (.str (qi9 z lo hi)) H):wg2 K (.str z) lo hi H Q:=.inl ⟨z,rfl,hz,h⟩
theorem xc1(hx:SqL K H a xs)(h:∀ p,H p=none->Q (.ref p) #[54,qg4 xs lo hi]):wg2 K (.ref a) lo hi H Q:=.inr (.inr ⟨a,xs,rfl,hx,h⟩)
theorem Ad4{tl:TO}(h:te σ H fun x H1=>tl σ H1 fun l H2=>th σ H2 fun u H3=>r x l u H3 Q):tSl r te tl th σ H Q:=h
theorem zl7{t:TE}{R:Option Int->Hp->Prop}(h:t σ H fun x H1=>∃ i,x=.int i/\R (some i) H1):U8 t σ H R:=h
theorem yv4{R:Option Int->Hp->Prop}(h:R none H):X9 σ H R:=h
theorem zw5{R:Int->Prop}(h:R i):∃ j,V.int i=.int j/\R j:=⟨i,rfl,h⟩
theorem zl8{y:Str}(h:te σ H fun x H1=>∃ a,x=.str a/\a.length<=1048576/\Q (.str (PySem.Txt.replace a y z)) H1):xr8 te y z σ H Q:=h
theorem zc3{ta:TA}(h:ta σ H fun vs H1=>∃ z,vs=[.str z]/\R (Itp z.cps.size fun i xs=>∃ c,z.cps.toList[i]?=some c/\xs=[.int i,.str ⟨#[c]⟩]) H1):yj4 ta σ H R:=h
theorem zl9(h:tl σ H fun x H1=>∃ z,x=.str z/\R (Itx z.cps.size (yc4 z)) H1):zl6 tl σ H R:=h
theorem yj5(Pv:Nat->List V->Hp->Prop)(h0:Pv 0 [] H)(hlen:∀ i ys H,i<=z.cps.size->Pv i ys H->ys.length<=sizeLine)(hs:∀ (i c:Nat) (p:Addr) ys H,z.cps.toList[i]?=some c->H p=none->Pv i ys H->g (.ref p) σ' (upd H p (.tup [.int i,.str ⟨#[c]⟩])) fun σ2 H2=>tt σ2 H2 fun b H3=>if b=true then te σ2 H3 fun y H4=>PAt Pv (i+1) (ys++[y]) H4 else PAt Pv (i+1) ys H3)(hd:∀ ys H,Pv z.cps.size ys H->∀ p,H p=none->Q (.ref p) #[54,ys]) :
 ∃ z',[V.str z]=[.str z']/\wh6 g tt te σ' Q (Itp z'.cps.size fun i xs=>∃ c,z'.cps.toList[i]?=some c/\xs=[.int i,.str ⟨#[c]⟩]) H:=by
 refine⟨z,rfl,fun i m ys H=>m=z.cps.size-i/\i<=z.cps.size/\Pv i ys H,⟨z.cps.size,by simp,Nat.zero_le _,h0⟩,?_⟩
 rintro i m ys H ⟨rfl,hi,p⟩
 refine⟨hlen i ys H hi p,?_⟩
 by_cases hlt:i<z.cps.size
 ·refine .inr ⟨hlt,Pv (i+1),fun ys' H' p'=>⟨z.cps.size-(i+1),by omega,rfl,hlt,p'⟩,fun x H' y=>?_⟩
  obtain⟨a,xs,rfl,ha,⟨c,ec,rfl⟩,rfl⟩:=y
  exact hs i c a ys H ec ha p
 ·have e:i=z.cps.size:=by omega
  subst e
  exact .inl ⟨Nat.le_refl _,hd ys H p⟩
theorem yo6{y:Str}(h:Q #[90,x=y] H):qd0 K (.str x) (.str y) H Q:=by
 refine yc1 rfl ?_
 have e:(decide ((V.str x)=V.str y))=decide (x=y):=by simp
 rw[e];exact h
theorem zc4{y:Str}(h:Q (.bl (!decide (x=y))) H):xh0 K (.str x) (.str y) H Q:=by
 refine Ac9 rfl ?_
 have e:(decide ((V.str x)=V.str y))=decide (x=y):=by simp
 rw[e];exact h
theorem zr1{x y:Int}(h:Q #[90,x=y] H):qd0 K (.int x) (.int y) H Q:=by
 refine yc1 rfl ?_
 have e:(decide ((V.int x)=V.int y))=decide (x=y):=by simp
 rw[e];exact h
end
section
open PySem.Builtin PySem.Builtin.Str
def xs0(x y:Str)(i j:Int):Int:=match occurrences x y (fromIndex x.length i) (min (fromIndex x.length j) x.length) 1 with|k::_=>(k:Int) | []=>-1
theorem yc5(x y:Str)(i j:Int)(t u v v':Tok):Gives («str.find» ⟨[.str x t,.str y u,.int i v,.int j v'],[]⟩) (.int (xs0 x y i j)):=by
 unfold xs0
 show Gives (match occurrences x y (fromIndex x.length i) (min (fromIndex x.length j) x.length) 1 with|k::_=>retInt k | []=>(do rule "str.find.not-found";retInt (-1))) _
 cases occurrences x y (fromIndex x.length i) (min (fromIndex x.length j) x.length) 1 with
 | nil=>exact .rule (.of_eq rfl)
 | cons k _=>exact .of_eq rfl
theorem G5.three{x z:V}(r:G5 [x,y,z] us):∃ u v w',us=[u,v,w']/\L1 x u/\L1 y v/\L1 z w':=by
 cases r with
 | cons r1 r2=>obtain⟨v,w',rfl,a,b⟩:=ya9 r2;exact⟨_,_,_,rfl,r1,a,b⟩
def xw3:V->List V->Hp->VK->Prop:=fun x vs H Q=>∃ (z y:Str) (i:Int),x=.str z/\vs=[.str y,.int i]/\Q (.int (PySem.Txt.find3 z y i)) H
theorem xh4:MtR X "str.find" xw3:=by
 intro pins s σ H x vs v us Q I rx rv h
 obtain⟨z,y,i,rfl,rfl,q⟩:=h
 obtain⟨t,rfl⟩:=rx
 obtain⟨u,w',rfl,⟨t1,rfl⟩,⟨t2,rfl⟩⟩:=ya9 rv
 exact SC.find3 ⟨.int _,H,I.tok _,⟨_,rfl⟩,q⟩
def zc5:V->List V->Hp->VK->Prop:=fun x vs H Q=>∃ (z y:Str) (i j:Int),x=.str z/\vs=[.str y,.int i,.int j]/\Q (.int (xs0 z y i j)) H
theorem zc6:MtR X "str.find" zc5:=by
 intro pins s σ H x vs v us Q I rx rv h
 obtain⟨z,y,i,j,rfl,rfl,q⟩:=h
 obtain⟨t,rfl⟩:=rx
 obtain⟨u,w',w2,rfl,⟨t1,rfl⟩,⟨t2,rfl⟩,⟨t3,rfl⟩⟩:=G5.three rv
 exact call_gives F.slot_str_find (typeIs_str _ _ _) F.entry_str_find (F.args_str_find_4 _ _ _ _) (yc5 z y i j t t1 t2 t3) ⟨.int _,H,I.tok _,⟨_,rfl⟩,q⟩
def yo7:V->List V->Hp->VK->Prop:=fun x vs H Q=>∃ (z y:Str) (i:Int),x=.str z/\vs=[.str y,.int i]/\Q (.bl (PySem.Txt.startswith3 z y i)) H
theorem yv5:MtR X "str.startswith" yo7:=by
 intro pins s σ H x vs v us Q I rx rv h
 obtain⟨z,y,i,rfl,rfl,q⟩:=h
 obtain⟨t,rfl⟩:=rx
 obtain⟨u,w',rfl,⟨t1,rfl⟩,⟨t2,rfl⟩⟩:=ya9 rv
 exact SC.startswith3 ⟨.bl _,H,I,rfl,q⟩
theorem yj6:∀ {bs:List Bool} {us:List Value},G5 (bs.map V.bl) us->us=bs.map Value.bool
 | [],_,h=>by cases h;rfl
 | b::bs,_,h=>by
   have h:G5 (V.bl b::bs.map V.bl) _:=h
   cases h with
   | cons r t=>rw[yj6 t];cases (show _=Value.bool b from r);rfl
theorem yv6(bs:List Bool):(List.range bs.length).all (fun i=>(bs[i]?).getD false)=bs.all id:=by
 rw[Bool.eq_iff_iff,all_eq_true,all_eq_true]
 constructor
 ·intro h b hb
  obtain⟨i,hi,e⟩:=List.getElem_of_mem hb
  have:=h i (mem_range.mpr hi)
  rw[List.getElem?_eq_getElem hi,e] at this
  exact this
 ·intro h i hi
  have hi:=mem_range.mp hi
  rw[List.getElem?_eq_getElem hi]
  exact h _ (List.getElem_mem hi)
theorem yv7(bs:List Bool):(List.range bs.length).any (fun i=>(bs[i]?).getD false)=bs.any id:=by
 rw[Bool.eq_iff_iff,any_eq_true,any_eq_true]
 constructor
 ·rintro⟨i,hi,h⟩
  have hi:=mem_range.mp hi
  rw[List.getElem?_eq_getElem hi] at h
  exact⟨_,List.getElem_mem hi,h⟩
 ·rintro⟨b,hb,h⟩
  obtain⟨i,hi,e⟩:=List.getElem_of_mem hb
  exact⟨i,mem_range.mpr hi,by rw[List.getElem?_eq_getElem hi,e];exact h⟩
def zc7(K:Fg):List V->Hp->VK->Prop:=fun xs H Q=>∃ (p:Addr) (bs:List Bool),xs=[.ref p]/\SqL K H p (bs.map V.bl)/\Q (.bl (bs.all id)) H
def zc8(K:Fg):List V->Hp->VK->Prop:=fun xs H Q=>∃ (p:Addr) (bs:List Bool),xs=[.ref p]/\SqL K H p (bs.map V.bl)/\Q (.bl (bs.any id)) H
theorem yv8(hc:X.calm=true):qj0 X (.builtin "all") (zc7 X.K):=by
 intro pins s σ H xs us Q I r h
 obtain⟨p,bs,rfl,hq,q⟩:=h
 obtain⟨u,rfl,ru⟩:=qt9 r
 cases ru
 obtain⟨its,rv,pl,hz⟩:=I.list hq
 have ei:=yj6 rv
 subst ei
 refine wpAny_with_toks (n:=1) I.tk (call_all_walk (wpAny_pyIter_list pl.isList ?_))
 walk_at"18"
 ·intro i v s Q E hP hQ
  have hP:(bs.map Value.bool)[i]?=some v:=by simpa using hP
  rw[List.getElem?_map] at hP
  obtain⟨b,hb,rfl⟩:=Option.map_eq_some_iff.mp hP
  have hQ:Q ((bs[i]?).getD false) s:=hQ
  rw[hb] at hQ
  exact wpAny_pure hQ
 ·refine⟨.bl (bs.all id),H,I.kept (fun b o e=>hk b o ?_ (Heap.get?_push_of_some _ e)) ht,?_,q⟩
  ·intro z
   have:b=s.heap.objs.size:=by simpa using z
   exact absurd (Heap.lt_size e) (by rw[this];exact Nat.lt_irrefl _)
  ·show Value.bool _=Value.bool _
   rw[<-yv6 bs]
   congr 2
   simp
theorem yv9(hc:X.calm=true):qj0 X (.builtin "any") (zc8 X.K):=by
 intro pins s σ H xs us Q I r h
 obtain⟨p,bs,rfl,hq,q⟩:=h
 obtain⟨u,rfl,ru⟩:=qt9 r
 cases ru
 obtain⟨its,rv,pl,hz⟩:=I.list hq
 have ei:=yj6 rv
 subst ei
 refine wpAny_with_toks (n:=1) I.tk (call_any_walk (wpAny_pyIter_list pl.isList ?_))
 walk_at"18"
 ·intro i v s Q E hP hQ
  have hP:(bs.map Value.bool)[i]?=some v:=by simpa using hP
  rw[List.getElem?_map] at hP
  obtain⟨b,hb,rfl⟩:=Option.map_eq_some_iff.mp hP
  have hQ:Q ((bs[i]?).getD false) s:=hQ
  rw[hb] at hQ
  exact wpAny_pure hQ
 ·refine⟨.bl (bs.any id),H,I.kept (fun b o e=>hk b o ?_ (Heap.get?_push_of_some _ e)) ht,?_,q⟩
  ·intro z
   have:b=s.heap.objs.size:=by simpa using z
   exact absurd (Heap.lt_size e) (by rw[this];exact Nat.lt_irrefl _)
  ·show Value.bool _=Value.bool _
   rw[<-yv7 bs]
   congr 2
   simp
section
variable{Q:VK}
theorem Ad5{bs:List Bool}(h:SqL K H p (bs.map V.bl))(q:Q (.bl (bs.all id)) H):zc7 K [.ref p] H Q:=⟨p,bs,rfl,h,q⟩
theorem Ad6{bs:List Bool}(h:SqL K H p (bs.map V.bl))(q:Q (.bl (bs.any id)) H):zc8 K [.ref p] H Q:=⟨p,bs,rfl,h,q⟩
theorem yc6(Pv:Nat->List V->Hp->Prop)(h0:Pv 0 [] H)(hlen:∀ i ys H,i<=z.cps.size->Pv i ys H->ys.length<=sizeLine)(hs:∀ (i c:Nat) ys H,z.cps.toList[i]?=some c->Pv i ys H->g (.str ⟨#[c]⟩) σ' H fun σ2 H2=>tt σ2 H2 fun b H3=>if b=true then te σ2 H3 fun y H4=>PAt Pv (i+1) (ys++[y]) H4 else PAt Pv (i+1) ys H3)(hd:∀ ys H,Pv z.cps.size ys H->∀ p,H p=none->Q (.ref p) #[54,ys]) :
 ∃ z',V.str z=.str z'/\wh6 g tt te σ' Q (Itx z'.cps.size (yc4 z')) H:=by
 refine⟨z,rfl,fun i m ys H=>m=z.cps.size-i/\i<=z.cps.size/\Pv i ys H,⟨z.cps.size,by simp,Nat.zero_le _,h0⟩,?_⟩
 rintro i m ys H ⟨rfl,hi,p⟩
 refine⟨hlen i ys H hi p,?_⟩
 by_cases hlt:i<z.cps.size
 ·refine .inr ⟨hlt,Pv (i+1),fun ys' H' p'=>⟨z.cps.size-(i+1),by omega,rfl,hlt,p'⟩,fun x H' y=>?_⟩
  obtain⟨rfl,c,ec,rfl⟩:=y
  exact hs i c ys _ ec p
 ·have e:i=z.cps.size:=by omega
  subst e
  exact .inl ⟨Nat.le_refl _,hd ys H p⟩
end
end
section
variable{Q:VK}
theorem zw6{r:V->List V->Hp->VK->Prop}(h:to σ H fun x H1=>tyV K T x H1/\r x [] H1 Q):yb3 K T r to σ H Q:=h
theorem xs1(h1:H p=some (.lst (xs++[y])))(h:Q y #[54,xs]):yb5 (.ref p) [] H Q :=
 ⟨p,xs++[y],y,rfl,rfl,h1,by simp,by rw[dropLast_concat];exact h⟩
end
variable{items:Array Value}
theorem wn2{t sl:Addr}{vl vu:Value}(ht:IsTup s.heap t items)(hs:s.heap.IsSliceOf sl vl vu .none)(pl:IsPart vl lo)(pu:IsPart vu hi)(hw:HT.sIx items.size 0 lo=0/\HT.sIx items.size items.size hi=items.size)(h:Q (.ref t) s):wpAny #[35] A (getItem (.ref t) (.ref sl)) Q E s:=by
 obtain⟨os,hos,hcs,hds⟩:=id hs
 have hTs:s.TypeIs (.ref sl) "slice":=⟨os,hos,hcs⟩
 unfold getItem
 try with_reducible refine wpAny_holding ?_
 first|refine wpAny_bind (wpAny_pure ?_)|skip
 refine wpAny_bind (wpAny_sequenceKey ht.typeIs #[10] ?_)
 refine wpAny_bind (wpAny_callSpecial?_slot (name:=Str.ofString "__getitem__") ht.typeIs PyProof.Rows.slot_tuple_getitem
  (wpAny_call_entry PyProof.Rows.slot_tuple_getitem ht.typeIs entry_tuple_getitem ?_ (args_tuple_getitem _ _)))
 show wpAny _ _ (Builtin.Tuple.tupleItemsOf (.ref t) >>= _) _ _ s
 refine wpAny_bind (tupleItemsOf_ ht ?_)
 refine wpAny_bind (wpAny_typeOf hTs ?_)
 rw[if_pos #[10]]
 refine wpAny_bind (HT.qy0 hs pl pu ?_)
 have hyes:(#[120]=true):=by
  rw[hw.1,hw.2];simp
 show wpAny _ _ (if#[120]=true then _ else _) _ _ s
 rw[if_pos hyes]
 refine wpAny_bind (m:=Builtin.Tuple.tupleIsExact (.ref t)) ?_
 unfold Builtin.Tuple.tupleIsExact
 refine wpAny_bind (wpAny_typeOf ht.typeIs (wpAny_pure ?_))
 rw[if_pos #[10]]
 first
  | exact wpAny_bind (wpAny_rule (wpAny_bind #[73]))
  | exact wpAny_bind (wpAny_rule #[73])
  | exact wpAny_bind (wpAny_rule (wpAny_pure #[73]))
def Ad7(K:Fg):V->Option Int->Option Int->Hp->VK->Prop:=fun x lo hi H Q=>∃ a xs,x=.ref a/\SqT K H a xs/\(HT.sIx xs.length 0 lo=0/\HT.sIx xs.length xs.length hi=xs.length)/\Q (.ref a) H
theorem zm0:SlR X (Ad7 X.K):=by
 walk_at"26"
 exact wn2 ht hs pl pu (by rw[hlen];exact hw) ⟨.ref a,H,I,rfl,q⟩
def yj7(K:Fg):V->Option Int->Option Int->Hp->VK->Prop:=fun x lo hi H Q=>wg2 K x lo hi H Q\/Ad7 K x lo hi H Q
theorem wt4:SlR X (yj7 X.K):=qf6.or zm0
def zr2(K:Fg):R2:=fun x y H Q=>∃ a b ys,x=.ref a/\y=.ref b/\SqT K H a []/\SqT K H b ys/\Q (.ref b) H
theorem zm1:OpR X (binaryOp .Add) (zr2 X.K):=by
 walk_at"13"
 obtain⟨a,b,ys,rfl,rfl,ha,hb,q⟩:=h
 cases rx
 cases ry
 obtain⟨its,r1,p1,_⟩:=I.tuple ha
 obtain⟨its2,r2,p2,_⟩:=I.tuple hb
 cases r1
 obtain⟨⟨cls,dd,data,sl⟩,ho,hc,n,hd⟩:=id p1
 obtain⟨⟨cls2,dd2,data2,sl2⟩,ho2,hc2,n2,hd2⟩:=id p2
 simp only at hc hd hc2 hd2
 subst hc hd hc2 hd2
 exact concat_meets ⟨_,ho,rfl⟩ ⟨_,ho2,rfl⟩ noFill_tuple_add seq_tuple_add PySem.F.slot_tuple_add PySem.F.entry_tuple_add (PySem.F.args_tuple_add_2 _ _)
  (tuple_addW0 a b _ its2.toArray n n2 dd dd2 sl sl2 (by simp)) ⟨ho,ho2,⟨.ref b,H,I,rfl,q⟩⟩
def qy7(K:Fg):R2:=fun x y H Q=>J6 K x y H Q\/zr2 K x y H Q
theorem qa0:OpR X (binaryOp .Add) (qy7 X.K):=D3.or zm1
section
variable{Q:VK}
theorem wq4(h1:SqT K H a xs)(h2:SqT K H b ys)(hz:xs.length+ys.length<=sizeLine)(h:∀ p H',A7 H H'->SqT K H' p (xs++ys)->Q (.ref p) H'):qy7 K (.ref a) (.ref b) H Q:=by
 by_cases hx:xs=[]
 ·subst hx
  exact .inr ⟨a,b,ys,rfl,rfl,h1,h2,h b H (fun _ _ e=>e) h2⟩
 ·refine .inl #[96,(.inr ⟨a,b,xs,ys,rfl,rfl,h1,h2,hx,hz,fun hy=>?_,fun hy p hp=>h p _ #[78,hp] (SqT.of A6)⟩)]
  subst hy
  exact h a H (fun _ _ e=>e) (by rw[append_nil];exact h1)
theorem yc7(h1:SqT K H a xs)(h:∀ p H',A7 H H'->SqT K H' p (qg4 xs lo hi)->Q (.ref p) H'):yj7 K (.ref a) lo hi H Q:=by
 by_cases hw:HT.sIx xs.length 0 lo=0/\HT.sIx xs.length xs.length hi=xs.length
 ·refine .inr ⟨a,xs,rfl,h1,hw,h a H (fun _ _ e=>e) ?_⟩
  unfold qg4
  rw[hw.1,hw.2,drop_zero,Nat.sub_zero,take_length];exact h1
 ·exact .inl (.inr (.inl ⟨a,xs,rfl,h1,hw,fun p hp=>h p _ #[78,hp] (SqT.of A6)⟩))
theorem zr3(c:0<=j)(h:Q (.int (i / 2 ^ j.toNat)) H):rI (fun _ j=>0<=j) (fun i j=>.int (i / 2 ^ j.toNat)) (.int i) (.int j) H Q:=⟨i,j,rfl,rfl,c,h⟩
theorem zr4(c:yz0 i j)(h:Q (.int (i*2 ^ j.toNat)) H):rI yz0 (fun i j=>.int (i*2 ^ j.toNat)) (.int i) (.int j) H Q:=⟨i,j,rfl,rfl,c,h⟩
end
def zc9(ta:TA):TI:=fun σ H R=>ta σ H fun vs H1=>∃ n:Nat,vs=[.int ((n:Int)-1),.int (-1),.int (-1)]/\(n:Int)<2 ^ 62/\R (Itv n) H1
theorem xs3(n:Nat):Builtin.Range.rangeSize ((n:Int)-1) (-1) (-1)=n:=by
 unfold Builtin.Range.rangeSize
 rw[if_neg #[10]]
 have e:(- (-1):Int)=1:=by decide
 rw[e,Int.ediv_one]
 split <;> omega
theorem yw0 {tg:Expr} {a b:Expr} {ta:TA} {p:Pos} (hg:Gl X "range") (hm:X.mg "range"=none) (ha:PA X [a,b,c] ta) (hs:autoParam (starEach [a,b,c] X.env=(false,eval a X.env)::starEach [b,c] X.env) zAr) (hs2:autoParam (starEach [b,c] X.env=[(false,eval b X.env),(false,eval c X.env)]) zAr) :
 PI X tg (.Call (.Name "range" p) [a,b,c] [] pos) (zc9 ta):=by
 intro pins s σ H R I h
 refine Call_ (qw6 I hg hm boot_range #[32,by rw[hs2];rfl])
 obtain⟨vs,H1,I1,r1,q1⟩:=zq
 obtain⟨n,e,q1,q⟩:=q1
 subst e
 cases r1 with
 | cons r rr =>
   cases rr with
   | cons r' rr =>
     cases rr with
     | cons r'' rr =>
       cases rr
       obtain⟨t,rfl⟩:=r
       obtain⟨t',rfl⟩:=r'
       obtain⟨t'',rfl⟩:=r''
       refine call_range_3 #[10] ?_ (Or.inl (PyProof.noPylong_small #[10]))
       have I2:Inv X pins σ H1 {s1 with heap:=s1.heap.push {cls:=.type "range",data:=.fields #[.int ((n:Int)-1) t,.int (-1) t',.int (-1) t'']},toks:=s1.toks}:=I1.kept (t':=s1.toks) fun b o e=>Heap.get?_push_of_some _ e
       refine wpAny_pyIter_range (IsRange.new ..) ?_ ?_
       ·unfold Builtin.Range.small
        rw[xs3]
        simp only[Builtin.Range.rangeFitsLong,Bool.and_eq_true,Bool.or_eq_true,decide_eq_true_eq,beq_iff_eq,show ¬((-1:Int) > 0) by decide,if_false]
        omega
       refine⟨_,[_],_,_,H1,rfl,I2.kept (t':=s1.toks) fun b o e=>Heap.get?_push_of_some _ e,zb9 _ n,?_,fun b hb=>?_,q⟩
       ·have e1:(n:Int)-1+((0:Nat):Int)*(-1)=(n:Int)-1:=by simp
        have e2:(n:Int)-((0:Nat):Int)=n:=by simp
        rw[e1,e2]
        have:=Heap.get?_push_size (s1.heap.push {cls:=.type "range",data:=.fields #[.int ((n:Int)-1) t,.int (-1) t',.int (-1) t'']}) (o:={cls:=.type "range_iterator",data:=.fields #[rawInt ((n:Int)-1),rawInt (Builtin.Range.rangeSize ((n:Int)-1) (-1) (-1)),rawInt (-1)]}) rfl
        rw[xs3] at this ⊢
        exact this
       ·have e:b=(s1.heap.push {cls:=.type "range",data:=.fields #[.int ((n:Int)-1) t,.int (-1) t',.int (-1) t'']}).objs.size:=by simpa using hb
        subst e
        exact I2.fpOk #[6] (I2.hok.fresh #[6])
theorem zm2{ta:TA}(h:ta σ H fun vs H1=>∃ n:Nat,vs=[.int ((n:Int)-1),.int (-1),.int (-1)]/\(n:Int)<2 ^ 62/\R (Itv n) H1):zc9 ta σ H R:=h
theorem wt5{i:Nat}{items}{x:Value}(hit:s.heap.IsTupleIter it l i)(hl:s.heap.IsTuple l items)(hx:items[i]?=some x)(hQ:∀ h',h'.IsTupleIter it l (i+1)->Heap.SameBut it s.heap h'->Q x {s with heap:=h'}) :
 wpAny #[35] A (Builtin.SmallTypes.nextOf (.ref it)) Q E s:=by
 obtain⟨o,ho,hc,hd⟩:=id hit
 obtain⟨ol,hol,_,nl,hdl⟩:=hl
 unfold Builtin.SmallTypes.nextOf
 refine wpAny_bind (wpAny_callSpecial?_slot (name:=Str.ofString "__next__") hit.typeIs F.slot_tuple_iterator_next
  (wpAny_call_entry F.slot_tuple_iterator_next hit.typeIs F.entry_tuple_iterator_next ?_ (F.args_tuple_iterator_next_1 _)))
 walk_at"9"
 simp only[Int.toNat_natCast,hx]
 refine wpAny_bind (wpAny_setField ho hd (by simp) (wpAny_pure ⟨x,rfl,wpAny_pure (hQ _ ?_ (Heap.SameBut.update ..))⟩))
 exact⟨_,Heap.get?_update_self _ ho (Obj.isFreed_of_fields (Obj.data_mapFields hd _)),(Obj.cls_mapFields ..).trans hc,by
  rw[Obj.data_mapFields hd];simp[rawInt]⟩
theorem qy8{i:Nat}{items}(hh:A.handled=none)(hit:s.heap.IsTupleIter it l i)(hl:s.heap.IsTuple l items)(hx:items[i]?=none)(hE:∀ h' e,Heap.ExtBut it s.heap h'->(∃ o,h'.get? e=some o/\o.cls=.type "StopIteration")->E (.ref e) {s with heap:=h'}) :
 wpAny #[35] A (Builtin.SmallTypes.nextOf (.ref it)) Q E s:=by
 obtain⟨o,ho,hc,hd⟩:=id hit
 obtain⟨ol,hol,_,nl,hdl⟩:=hl
 unfold Builtin.SmallTypes.nextOf
 refine wpAny_bind (wpAny_callSpecial?_slot (name:=Str.ofString "__next__") hit.typeIs F.slot_tuple_iterator_next
  (wpAny_call_entry F.slot_tuple_iterator_next hit.typeIs F.entry_tuple_iterator_next ?_ (F.args_tuple_iterator_next_1 _)))
 walk_at"9"
 simp only[Int.toNat_natCast,hx]
 refine wpAny_bind (wpAny_rule (wpAny_bind (wpAny_setField ho hd (by simp) ?_)))
 show wpAny _ _ (newExc (.type "StopIteration") [] >>= _) _ _ _
 walk_at"21"
 first|rw[show A.in1.handled=none from hh]|rw[hh]
 refine wpAny_bind (wpAny_pure (wpAny_throw ?_))
 exact hE _ _ (((Heap.SameBut.update ..).extBut.push _).push _) ⟨_,Heap.get?_push_size _ rfl,rfl⟩
theorem yc8(hh:A.handled=none)(it l:Addr)(hne:l≠it)(items:Array Value) :
 Draws prog w A it [it,l] items.size (fun i v=>items[i]?=some v) (fun i h=>h.IsTupleIter it l i/\h.IsTuple l items) where
 live:=fun _ _ st=>let ⟨o,ho,_⟩:=st.1;⟨o,ho⟩
 frame:=fun _ _ _ st hk=>⟨st.1.at fun o e=>hk it (by simp) o e,st.2.at fun o e=>hk l (by simp) o e⟩
 item:=fun i s Q E hi st hQ=>by
  refine wt5 st.1 st.2 (x:=items[i]) (by simp[hi]) fun h' hit' hs'=>?_
  exact hQ _ h' s.toks (by simp[hi]) ⟨hit',st.2.extBut hs'.extBut hne⟩ hs'
 done:=fun s Q E st hE=>qy8 hh st.1 st.2 (by simp) hE
set_option maxHeartbeats 1000000 in
theorem wi0(l:Addr)(items:Array Value)(n:Nat)(dct:Option Addr)(sl:Array (Option Value)) :
 Meets (Builtin.«enumerate.__new__» ⟨[.type "enumerate",.ref l],[]⟩) (fun _ R s=>s.heap.get? l=some {cls:=.type "tuple",dict:=dct,data:=.seq items n,slots:=sl} /\
  R (.ok (.ret (.ref #[39].objs.size)))
   {s with heap:=#[39].push {cls:=.type "enumerate",data:=.fields #[.none,.bool false,.ref s.heap.objs.size,rawInt 0,.none,.none]}}) :=
 .of_wp fun prog w A R s h=>by
  obtain⟨hp,g,d,tk,os⟩:=s;obtain⟨hl,h⟩:=h
  have hsub:=sub_enumerate
  have hL:Heap.IsTuple (Shared.heap ⟨hp,g,d,tk,os⟩) l items:=⟨_,hl,rfl,n,rfl⟩
  wp_walk using AutoSeq1.wpAny_loadPart' hl
  refine wpAny_stack_any fun st=>wpAny_pure ?_
  split
  ·rename_i c _ _ _ _ _
   cases (c == Value.type "enumerate")
   ·wp_walk using AutoSeq1.wpAny_loadPart' hl,wpAny_pyIter_tuple hL
    exact⟨_,rfl,h⟩
   ·wp_walk using AutoSeq1.wpAny_loadPart' hl,wpAny_pyIter_tuple hL
    exact⟨_,rfl,h⟩
  ·wp_walk using AutoSeq1.wpAny_loadPart' hl,wpAny_pyIter_tuple hL
   exact⟨_,rfl,h⟩
theorem wi1(hL:s.heap.IsTuple l items) (h:∀ h',IsEnum h' #[44] s.heap.objs.size 0 .none->h'.IsTupleIter s.heap.objs.size l 0->h'.objs.size=s.heap.objs.size+2 ->
  (∀ b o,s.heap.get? b=some o->h'.get? b=some o)->Q (.ref #[44]) {s with heap:=h'}) :
 wpAny #[35] A (call (.type "enumerate") [.ref l]) Q E s:=by
 obtain⟨⟨c,dct,dt,sl⟩,hl,hc,n,hd⟩:=hL
 replace hc:c=.type "tuple":=hc
 replace hd:dt=.seq items n:=hd
 subst hc hd
 refine callType_new F.called_enumerate #[10] (F.typeCall_enumerate_1 _) (F.newCall_enumerate_1 _) (fun obj=>F.args_object_init_2 obj _) F.entry_enumerate_new
  (wi0 l items n dct sl) ⟨hl,?_⟩
 have hz:#[39].objs.size=s.heap.objs.size+1:=Heap.size_push ..
 show _/\_
 rw[hz]
 have he:IsEnum (#[39].push
  {cls:=.type "enumerate",data:=.fields #[.none,.bool false,.ref s.heap.objs.size,rawInt 0,.none,.none]}) #[44] s.heap.objs.size 0 .none:=by
  have:=Heap.get?_push_size #[39]
   (o:={cls:=.type "enumerate",data:=.fields #[.none,.bool false,.ref s.heap.objs.size,rawInt 0,.none,.none]}) rfl
  rw[hz] at this;exact this
 refine⟨⟨_,he,rfl⟩,h _ he ⟨_,Heap.get?_push_of_some _ (Heap.get?_push_size _ rfl),rfl,rfl⟩ (by rw[Heap.size_push,hz]) fun b o y=>Heap.get?_push_of_some _ (Heap.get?_push_of_some _ y)⟩
def Ite(K:Fg)(a:Addr):It:=⟨fun i H=>∃ xs x,SqT K H a xs/\xs[i]?=some x,fun i H x H'=>∃ p y,x=.ref p/\H p=none/\(∀ xs,SqT K H a xs->xs[i]?=some y)/\H'=upd H p (.tup [.int i,y]),fun i H=>∃ xs,SqT K H a xs/\xs.length<=i⟩
theorem yj8(a e it:Addr)(hei:e≠it) :
 xc8 P w K (.Tuple elts k pos) (Ite K a) [e,it] e (fun i h=>(∃ old,IsEnum h e it i old)/\h.IsTupleIter it a i) where
 mem:=by simp
 obj:=by
  rintro i h ⟨⟨old,e1⟩,o2,e2,_,d2⟩ b hb
  have hb:b=e\/b=it:=by simpa using hb
  rcases hb with rfl|rfl
  ·exact⟨_,e1,fun v z=>by cases (show Data.fields _=Data.cell v from z)⟩
  ·exact⟨_,e2,fun v z=>by rw[d2] at z;cases z⟩
 keep:=fun i h h' st kk=>⟨let ⟨old,e1⟩:=st.1;⟨old,kk e (by simp) _ e1⟩,st.2.at fun o q=>kk it (by simp) o q⟩
 item:=by
  walk_at"0"
  obtain⟨xs,x,hq,hx⟩:=hg
  obtain⟨its,rv,p,hz⟩:=I.tuple hq
  obtain⟨u,hu,ru⟩:=rv.get hx
  have hil:i<its.toArray.size:=by rw[size_toArray];exact(List.getElem?_eq_some_iff.mp hu).1
  have pT:s.heap.IsTuple a its.toArray:=p
  have nea:a≠it:=fun z=>by
   obtain⟨o1,h1,c1,_⟩:=pT
   obtain⟨o2,h2,c2,_⟩:=st.2
   rw[z,h2] at h1
   cases h1
   rw[c1] at c2
   exact absurd c2 #[10]
  have nee:e≠a:=fun z=>by
   obtain⟨o1,h1,c1,_⟩:=pT
   obtain⟨old,h2⟩:=st.1
   rw[<-z] at h1
   have h2:s.heap.get? e=some _:=h2
   rw[h2] at h1
   cases h1
   exact absurd c1 (show ¬(Value.type "enumerate"=Value.type "tuple") by decide)
  have W:=WalksT.enumerateD (prog:=X.prog) (w:=X.w) (A:=X.A) (yc8 (A:=X.A.in1) (show X.A.in1.handled=none from I.ok.hd hc) it a nea its.toArray) e hei (by simp[hei,nee]) (by simp)
  refine wpAny_with_toks (n:=1) I.tk (W.item i s _ _ hil ⟨st.1,st.2,pT⟩ fun T vs h' tk hv hT htup hmid kk ht=>?_)
  have ht:0<tk:=ht
  obtain⟨tk1,y,hy,rfl⟩:=hv
  have hy:its[i]?=some y:=by simpa using hy
  rw[hu] at hy
  injection hy with hy
  subst hy
  have hap:=W.apart i T h' hmid
  refine⟨_,rfl,W.go elts k pos i T {s with heap:=h',toks:=tk} _ _ hmid fun h2 st2 k2=>?_⟩
  have htup2:IsTup h2 T [Value.int i tk1,u].toArray:=by
   obtain⟨o,e,c⟩:=htup
   exact⟨o,k2 T o hap e,by simpa using c⟩
  have I1:Inv X pins σ (upd H T (.tup [.int i,x])) {s with heap:=h2,toks:=tk}:=I.turnLaid (ch:=[e,it]) (fun b hb=>hf b hb) (fun b u hb e=>k2 b u hb (kk b u hb e)) hT ⟨by rw[sizeLine_eq];simp,[Value.int i tk1,u],.cons ⟨tk1,rfl⟩ (.cons ru .nil),htup2⟩ ht
  refine⟨.ref T,_,I1,rfl,⟨T,x,rfl,I.hok.fresh hT,fun ys hy=>by rw[I.tuple_inj hy hq];exact hx,rfl⟩,⟨st2.1,st2.2.1⟩,fun b hb=>?_⟩
  have hb2:∃ o,s.heap.get? b=some o:=by
   have hb:b=e\/b=it:=by simpa using hb
   rcases hb with rfl|rfl
   ·obtain⟨old,e1⟩:=st.1;exact⟨_,e1⟩
   ·obtain⟨o,e1,_⟩:=st.2;exact⟨_,e1⟩
  obtain⟨o,e⟩:=hb2
  rw[B8 #[30,hT]]
  exact(hf b hb).1
 done:=by
  walk_at"0"
  obtain⟨xs,hq,hx⟩:=hg
  obtain⟨its,rv,p,hz⟩:=I.tuple hq
  have pT:s.heap.IsTuple a its.toArray:=p
  have hno:its.toArray[i]?=none:=by
   have:=rv.length
   simp;omega
  obtain⟨old,he⟩:=st.1
  have D:Draws X.prog X.w X.A.in1 it [it,a] 0 (fun _ _=>True) (fun _ h=>h.IsTupleIter it a i/\h.IsTuple a its.toArray) :=
   { live:=fun _ _ st=>let ⟨o,ho,_⟩:=st.1;⟨o,ho⟩
     frame:=fun _ _ _ st hk=>⟨st.1.at fun o e=>hk it (by simp) o e,st.2.at fun o e=>hk a (by simp) o e⟩
     item:=fun j s Q E hj=>absurd hj (Nat.not_lt_zero _)
     done:=fun s Q E st hE=>qy8 (show X.A.in1.handled=none from I.ok.hd hc) st.1 st.2 hno hE}
  exact wpAny_pyNext_enum_endD D he ⟨st.2,pT⟩ fun h' hx=>⟨rfl,I.turnedL (ch:=[e,it]) (t':=s.toks) (fun b hb=>hf b hb) (fun b o hb y=>hx b o (fun z=>hb (by simp[z])) y) I.tk⟩
 self:=fun A i s Q E st h=>let ⟨old,e1⟩:=st.1;wpAny_pyIter_enum e1 h
def xw4(K:Fg)(ta:TA):TI:=fun σ H R=>ta σ H fun vs H1=>∃ a xs,vs=[.ref a]/\SqT K H1 a xs/\R (Ite K a) H1
theorem yc9{p:Pos}{l:Expr}{ta:TA}(hg:Gl X "enumerate")(hm:X.mg "enumerate"=none)(ha:PA X [l] ta)(hs:autoParam (starEach [l] X.env=[(false,eval l X.env)]) zAr) :
 PI X (.Tuple elts k tpos) (.Call (.Name "enumerate" p) [l] [] pos) (xw4 X.K ta):=by
 intro pins s σ H R I h
 refine Call_ (qw6 I hg hm boot_enumerate #[32,rfl])
 obtain⟨vs,H1,I1,r1,q1⟩:=zq
 obtain⟨a,xs,e,hq,q⟩:=q1
 subst e
 obtain⟨v,rfl,rv⟩:=qt9 r1
 cases rv
 obtain⟨its,rv,pT,hz⟩:=I1.tuple hq
 refine wi1 (show s1.heap.IsTuple a its.toArray from pT) fun h' he hit hz hk=>?_
 have I2:Inv X pins σ H1 {s1 with heap:=h'}:=I1.kept (t':=s1.toks) hk
 refine wpAny_pyIter_enum he ?_
 have ne:s1.heap.objs.size+1≠s1.heap.objs.size:=by omega
 refine⟨s1.heap.objs.size+1,_,_,_,H1,rfl,I2,yj8 a (s1.heap.objs.size+1) s1.heap.objs.size ne,⟨⟨_,he⟩,hit⟩,fun b hb=>?_,q⟩
 have hb:b=s1.heap.objs.size+1\/b=s1.heap.objs.size:=by simpa using hb
 rcases hb with rfl|rfl
 ·exact I1.fpOk (Nat.le_succ _) (I1.hok.fresh (Nat.le_succ _))
 ·exact I1.fpOk #[6] (I1.hok.fresh #[6])
theorem zd0{ta:TA}(h:ta σ H fun vs H1=>∃ a xs,vs=[.ref a]/\SqT K H1 a xs/\R (Ite K a) H1):xw4 K ta σ H R:=h
theorem xs4(hq:SqT K H a xs)(Pv:Nat->St->Hp->Prop)(h0:Pv 0 σ H)(hk:∀ i σ H',Pv i σ H'->SqT K H' a xs)(hs:∀ i x σ H p,xs[i]?=some x->Pv i σ H->H p=none->g (.ref p) σ (upd H p (.tup [.int i,x])) fun σ2 H2=>tb {D with nx:=PAt Pv (i+1),ct:=PAt Pv (i+1),bk:=D.nx} σ2 H2)(hd:∀ σ H,Pv xs.length σ H->D.nx σ H) :
 ∃ b ys,[V.ref a]=[.ref b]/\SqT K H b ys/\wn1 g tb D σ (Ite K b) H:=by
 walk_at"19"
 by_cases hlt:i<xs.length
 ·refine .inr ⟨⟨xs,xs[i],sq,by simp[hlt]⟩,Pv (i+1),fun σ' H' p'=>⟨xs.length-(i+1),by omega,rfl,hlt,p'⟩,fun x H' y=>?_⟩
  obtain⟨t,z,rfl,ht,hz,rfl⟩:=y
  exact hs i z σ H t (hz xs sq) p ht
 ·have e:i=xs.length:=by omega
  subst e
  exact .inl ⟨⟨xs,sq,Nat.le_refl _⟩,hd σ H p⟩
theorem zd1(hn:(n:Int)<2 ^ 62)(Pv:Nat->St->Hp->Prop)(p0:Pv 0 σ H)(hs:∀ (i:Nat) σ H,i<n->Pv i σ H->g (.int ((n:Int)-1-i)) σ H fun σ2 H2=>tb {D with nx:=PAt Pv (i+1),ct:=PAt Pv (i+1),bk:=D.nx} σ2 H2)(hd:∀ σ H,Pv n σ H->D.nx σ H) :
 ∃ m:Nat,[V.int ((n:Int)-1),V.int (-1),V.int (-1)]=[.int ((m:Int)-1),.int (-1),.int (-1)]/\(m:Int)<2 ^ 62/\wn1 g tb D σ (Itv m) H:=by
 obtain⟨m,e,h1,h2⟩:=zl5 hn Pv p0 hs hd
 injection e with e
 injection e with e
 have:n=m:=by omega
 subst this
 exact⟨n,rfl,h1,h2⟩
theorem yo8:∀ {js:List Int} {us:List Value},G5 (js.map V.int) us->∃ ps:List (Int×Tok),us=ps.map (fun p=>Value.int p.1 p.2)/\ps.map (·.1)=js
 | [],_,h=>by cases h;exact⟨[],rfl,rfl⟩
 | j :: js,_,h=>by
   have h:G5 (V.int j::js.map V.int) _:=h
   cases h with
   | cons r t =>
     obtain⟨k,rfl⟩:=r
     obtain⟨ps,rfl,e⟩:=yo8 t
     exact⟨(j,k)::ps,rfl,by simp[e]⟩
def xw5(K:Fg):List V->Hp->VK->Prop:=fun xs H Q=>∃ (p:Addr) (js:List Int),xs=[.ref p]/\SqL K H p (js.map V.int)/\js≠[]/\∀ j:Int,j∈js->(∀ i∈js,i<=j)->Q (.int j) H
theorem xs5(hc:X.calm=true):qj0 X (.builtin "max") (xw5 X.K):=by
 intro pins s σ H xs us Q I r h
 obtain⟨p,js,rfl,hq,hne,q⟩:=h
 obtain⟨u,rfl,ru⟩:=qt9 r
 cases ru
 obtain⟨its,rv,pl,hz⟩:=I.list hq
 obtain⟨ps,rfl,e⟩:=yo8 rv
 have hl:s.heap.IsList p (intItems ps.toArray):=by
  have:=pl.isList
  rw[show intItems ps.toArray=(ps.map (fun p=>Value.int p.1 p.2)).toArray by unfold intItems;simp]
  exact this
 have hlen:0<ps.toArray.size:=by
  rw[size_toArray]
  cases ps with
  | nil=>exact absurd e.symm hne
  | cons _ _=>simp
 refine wpAny_with_toks (n:=1) I.tk (max_intList (I.ok.hd hc) hl hlen fun v h' tk hv hk ht=>?_)
 obtain⟨t,rfl⟩:=intItems_at hv
 have b:=argBest_gt (numAt ps.toArray) (ps.toArray.size-1)
 have at_:∀ i,i<ps.length->numAt ps.toArray i=(js[i]?).getD 0:=fun i hi=>by
  unfold numAt
  rw[<-e,List.getElem?_map]
  simp
 have hjl:js.length=ps.length:=by rw[<-e];simp
 have hs:ps.toArray.size=ps.length:=size_toArray ..
 rw[hs] at b hlen
 refine⟨.int _,H,I.kept hk ht,⟨_,rfl⟩,q _ ?_ fun i hi=>?_⟩
 ·rw[hs,at_ _ #[0]]
  have:argBest (fun i j=>decide (numAt ps.toArray i > numAt ps.toArray j)) (ps.length-1)<js.length:=by omega
  rw[List.getElem?_eq_getElem this]
  exact List.getElem_mem this
 ·obtain⟨k,hk,rfl⟩:=List.getElem_of_mem hi
  have:=b.2 k #[0]
  rw[at_ k #[0],List.getElem?_eq_getElem hk] at this
  rw[hs]
  exact this
section
variable{Q:VK}
theorem zd2{js:List Int}(h:SqL K H p (js.map V.int))(hne:js≠[])(q:∀ j:Int,j∈js->(∀ i∈js,i<=j)->Q (.int j) H):xw5 K [.ref p] H Q:=⟨p,js,rfl,h,hne,q⟩
theorem wt6(h1:H p=some (.lst xs))(h2:H b=some (.lst zs))(hz:xs.length+zs.length<=sizeLine)(h:Q .non #[54,xs++zs]):wc0 (.ref p) [.ref b] H Q:=⟨p,b,xs,zs,rfl,rfl,h1,h2,hz,h⟩
end
def Itb(K:Fg)(a:Addr)(n:Nat):It :=
 ⟨fun i H=>i<n/\∃ xs x,SqL K H a xs/\xs[n-1-i]?=some x,fun i H x H'=>H'=H/\∀ xs,SqL K H a xs->xs[n-1-i]?=some x,fun i _=>i=n⟩
theorem yw1{tg:Expr}(a it:Addr)(n:Nat):xc8 P w K tg (Itb K a n) [it] it (fun i h=>h.IsRevIter it a ((n:Int)-1-(i:Int))) where
 mem:=by simp
 obj:=fun i h st b hb=>by
  walk_at"22"
 keep:=fun i h h' st k=>st.at fun o e=>k it (by simp) o e
 item:=by
  walk_at"0"
  obtain⟨hi,xs,x,hq,hx⟩:=hg
  obtain⟨its,rv,p,hz⟩:=I.list hq
  obtain⟨u,hu,ru⟩:=rv.get hx
  walk_at"7"
  have e:(n:Int)-1-(i:Int)=((n-1-i:Nat):Int):=by omega
  have st1:=st
  rw[e] at st1
  refine wpAny_pyNext_rev_item st1 p.isList (x:=u) (by simpa using hu) fun h' st' sb=>?_
  have I1:Inv X pins σ H {s with heap:=h'}:=I.turned (t':=s.toks) (fun b o hb e=>(sb.2 b hb).trans e) f0 f1 f3 f4 f5
  obtain⟨o,e',c,d⟩:=id st'
  have e2:((n-1-i:Nat):Int)-1=(n:Int)-1-((i+1:Nat):Int):=by omega
  rw[e2] at st'
  exact⟨u,rfl,xf8 (s:={s with heap:=h'}) e' c d #[10] ⟨x,H,I1,ru,⟨rfl,fun ys hy=>by rw[I.list_inj hy hq];exact hx⟩,st',fun b hb=>(hf b hb).1⟩⟩
 done:=by
  walk_at"0"
  have hg:i=n:=hg
  subst hg
  walk_at"7"
  have e:(i:Int)-1-(i:Int)=-1:=by omega
  have st1:=st
  rw[e] at st1
  exact wpAny_pyNext_rev_end (I.ok.hd hc) st1 fun h' eb=>⟨rfl,I.turned (t':=s.toks) (fun b o hb e=>eb b o hb e) f0 f1 f3 f4 f5⟩
 self:=fun _ _ _ _ _ st h=>wpAny_pyIter_revIter st h
def yo9(K:Fg)(ta:TA):TI:=fun σ H R=>ta σ H fun vs H1=>∃ a xs,vs=[.ref a]/\SqL K H1 a xs/\R (Itb K a xs.length) H1
theorem yp0{tg:Expr}{l:Expr}{ta:TA}{p:Pos}(hg:Gl X "reversed")(hm:X.mg "reversed"=none)(ha:PA X [l] ta)(hs:autoParam (starEach [l] X.env=[(false,eval l X.env)]) zAr) :
 PI X tg (.Call (.Name "reversed" p) [l] [] pos) (yo9 X.K ta):=by
 walk_at"30"
 obtain⟨its,rv,p,hz⟩:=I1.list hq
 refine call_reversed_list p.isList ?_
 have e:((its.toArray.size:Nat):Int)-1=(xs.length:Int)-1-((0:Nat):Int):=by rw[rv.length];simp
 rw[e]
 have hit:Heap.IsRevIter (s1.heap.push (revObj a ((xs.length:Int)-1-((0:Nat):Int)))) s1.heap.objs.size a ((xs.length:Int)-1-((0:Nat):Int)):=⟨_,Heap.get?_push_size _ rfl,rfl,rfl⟩
 refine wpAny_pyIter_revIter hit ?_
 refine⟨s1.heap.objs.size,[s1.heap.objs.size],_,_,H1,rfl,I1.kept (t':=s1.toks) fun b o e=>Heap.get?_push_of_some _ e,yw1 a _ xs.length,hit,fun b hb=>?_,q⟩
 walk_at"11"
section
variable{Q:VK}
theorem zm3{ta:TA}(h:ta σ H fun vs H1=>∃ a xs,vs=[.ref a]/\SqL K H1 a xs/\R (Itb K a xs.length) H1):yo9 K ta σ H R:=h
theorem zd3(hq:SqL K H a xs)(Pv:Nat->St->Hp->Prop)(h0:Pv 0 σ H)(hk:∀ i σ H',Pv i σ H'->SqL K H' a xs)(hs:∀ i x σ H,xs[xs.length-1-i]?=some x->i<xs.length->Pv i σ H->g x σ H fun σ2 H2=>tb {D with nx:=PAt Pv (i+1),ct:=PAt Pv (i+1),bk:=D.nx} σ2 H2)(hd:∀ σ H,Pv xs.length σ H->D.nx σ H) :
 ∃ b ys,[V.ref a]=[.ref b]/\SqL K H b ys/\wn1 g tb D σ (Itb K b ys.length) H:=by
 walk_at"19"
 by_cases hlt:i<xs.length
 ·refine .inr ⟨⟨hlt,xs,xs[xs.length-1-i],sq,List.getElem?_eq_getElem #[0]⟩,Pv (i+1),fun σ' H' p'=>⟨xs.length-(i+1),by omega,rfl,hlt,p'⟩,fun x H' y=>?_⟩
  obtain⟨rfl,hz⟩:=y
  exact hs i x σ _ (hz xs sq) hlt p
 ·have e:i=xs.length:=by omega
  subst e
  exact .inl ⟨rfl,hd σ H p⟩
end
section
variable{t:TE}
def tFs(c1 c2:Str)(t:TE):TE:=fun σ H Q=>t σ H fun x H1=>∃ z,x=.str z/\z.length<=4096/\Q (.str (c1++z++c2)) H1
theorem zr5{c1 c2:Str}{p3:Pos}(he:PE X e t)(h1:autoParam (c1.length<=4096) zAd)(h2:autoParam (c2.length<=4096) zAd) :
 PE X (.JoinedStr [.Constant (.str c1) j1 p1,.FormattedValue e (-1) none p2,.Constant (.str c2) j2 p3] pos) (tFs c1 c2 t):=by
 walk_at"25"
 have e0:Str.empty++c1=c1:=Str.empty_append c1
 have hs:sizeLine=16777216:=sizeLine_eq
 refine JoinedStr_many (joinParts_cons (Calls.Constant_str ?_))
 refine⟨by rw[e0,hs];omega,?_⟩
 rw[e0]
 refine joinParts_cons (FormattedValue_plain (thn (he pins _ σ H _ (I.tok _) h) fun u s1 zq=>?_))
 obtain⟨x,H1,I1,r1,z,e1,hz,q⟩:=zq
 subst e1
 obtain⟨tk,rfl⟩:=r1
 refine wpAny_with_toks (n:=1) I1.tk (formatField_str (fun t' tk'=>?_) (by rw[hs];omega))
 intro htk
 refine⟨by rw[strLen_append,hs];omega,?_⟩
 refine joinParts_consE (joinParts_cons (Calls.Constant_str ?_))
 refine⟨by rw[strLen_append,strLen_append,hs];omega,joinParts_nilE (joinParts_nil ?_ (by rw[strLen_append,strLen_append,hs];omega))⟩
 exact⟨.str (c1++z++c2),H1,I1.tok _,⟨_,rfl⟩,q⟩
end
theorem xs6:Manifest.owners.lookup (String.ofList ['d','e','s','r','e','v','e','r'].reverse)=some Manifest.sig_reversed:=by kernel_rfl
theorem qd6:Slot "reversed" "__next__" "reversed.__next__" :=
 .of (owner := "reversed") (n := "__next__") (by rw[typeLookup_type,builtinLookup_eq_fast];kernel_rfl) #[21] #[21] #[21]
  (by first|exact .inl #[21]|exact .inr #[21]) (by rw[isSubtype_type];kernel_rfl)
theorem wi2:entryFor table "reversed.__next__"=some Builtin.«reversed.__next__»:=entryFor_of_tree (by kernel_rfl)
theorem we6(a:Value):argsOk "reversed.__next__" ⟨[a],[]⟩:=by
 unfold argsOk;rw[signature?_of (id := "reversed.__next__") (n:=['_','_','t','x','e','n','_','_']) (o:=['d','e','s','r','e','v','e','r']) (by kernel_rfl) xs6];kernel_rfl
theorem wo0:Slot "reversed" "__iter__" "reversed.__iter__" :=
 .of (owner := "reversed") (n := "__iter__") (by rw[typeLookup_type,builtinLookup_eq_fast];kernel_rfl) #[21] #[21] #[21]
  (by first|exact .inl #[21]|exact .inr #[21]) (by rw[isSubtype_type];kernel_rfl)
theorem xd0(a:Value):argsOk "reversed.__iter__" ⟨[a],[]⟩:=by
 unfold argsOk;rw[signature?_of (id := "reversed.__iter__") (n:=['_','_','r','e','t','i','_','_']) (o:=['d','e','s','r','e','v','e','r']) (by kernel_rfl) xs6];kernel_rfl
theorem xh5:entryFor table "reversed.__iter__"=some Builtin.«dict_keyiterator.__iter__» :=
 entryFor_alias (id' := "dict_keyiterator.__iter__") (by kernel_rfl) (by first | rfl | decide +kernel | (unfold String.splitOn; simp +decide [String.splitOnAux])) #[21] (by kernel_rfl)
theorem xn7:Slot "reversed" "__init__" "object.__init__" :=
 .of (owner := "object") (n := "__init__") (by rw[typeLookup_type,builtinLookup_eq_fast];kernel_rfl) #[21] #[21] #[21]
  (by first|exact .inl #[21]|exact .inr #[21]) (by rw[isSubtype_type];kernel_rfl)
theorem xd1:TypeCalled "reversed" "reversed.__new__" "object.__init__" :=
 ⟨by decide +kernel,by decide +kernel,⟨_,_,F.mro_reversed⟩,F.made_reversed,by decide +kernel,by rw[isSubtype_type];kernel_rfl,xn7⟩
theorem xd2:typeLookup (.type "tuple") "__reversed__"=pure none:=by rw[typeLookup_type,builtinLookup_eq_fast];kernel_rfl
theorem wi3:typeLookup (.type "tuple") "__getitem__"=pure (some (.builtin "tuple.__getitem__")):=by rw[typeLookup_type,builtinLookup_eq_fast];kernel_rfl
def yj9(l:Addr)(i:Int):Obj:={cls:=.type "reversed",data:=.fields #[.ref l,rawInt i]}
def wi4(h:Heap)(a l:Addr)(i:Int):Prop:=∃ o,h.get? a=some o/\o.cls=.type "reversed"/\o.data=.fields #[.ref l,rawInt i]
theorem wi4.typeIs(x:wi4 s.heap a l i):s.TypeIs (.ref a) "reversed":=let ⟨o,ho,hc,_⟩:=x;⟨o,ho,hc⟩
theorem wi4.at(x:wi4 h a l i)(e:∀ o,h.get? a=some o->h'.get? a=some o):wi4 h' a l i:=let ⟨o,ho,r⟩:=x;⟨o,e _ ho,r⟩
theorem wn3(l:Addr)(items:Array Value)(hz:(items.size:Int)<2 ^ 63) :
 Meets (Builtin.«reversed.__new__» ⟨[.type "reversed",.ref l],[]⟩) (fun _ R s=>IsTup s.heap l items /\
  R (.ok (.ret (.ref s.heap.objs.size))) {s with heap:=s.heap.push (yj9 l ((items.size:Int)-1)),toks:=s.toks+1+1}) :=
 .of_wp fun prog w A R s h=>by
  obtain⟨ht,h⟩:=h
  unfold Builtin.«reversed.__new__»
  refine wpAny_bind (wpAny_of_eq (newClass_reversed _) ?_)
  try dsimp only
  refine wpAny_bind (wpAny_of_eq (a:=()) (by first|rfl|kernel_rfl) ?_)
  refine wpAny_bind (wpAny_of_eq (a:=()) (by first|rfl|kernel_rfl) ?_)
  try dsimp only
  refine wpAny_bind (wpAny_specialOf ht.typeIs xd2 ?_)
  try dsimp only
  refine wpAny_bind ?_
  show wpAny _ _ (isInstance (.ref l) (.type "dict") >>= _) _ _ _
  refine wpAny_bind (wpAny_isInstance ht.typeIs sub_tuple_dict ?_)
  try dsimp only
  rw[if_neg #[10]]
  refine wpAny_bind (wpAny_specialOf ht.typeIs wi3 ?_)
  try dsimp only
  rw[if_pos #[10]]
  refine wpAny_pure ?_
  try dsimp only
  rw[if_neg #[10]]
  refine wpAny_bind (len_tuple ht hz ?_)
  refine wpAny_bind (m:=asInt? _) (wpAny_of_eq (a:=some (items.size:Int)) rfl ?_)
  try dsimp only
  refine wpAny_bind ?_
  show wpAny _ _ (newObj (.type "reversed") (.fields #[.ref l,rawInt ((items.size:Int)-1)]) none) _ _ _
  refine wpAny_newObj_type ?_ (by size_fits)
  exact wpAny_pure ⟨_,rfl,h⟩
theorem wt7(hl:IsTup s.heap l items)(hz:(items.size:Int)<2 ^ 63)(h:Q (.ref s.heap.objs.size) {s with heap:=s.heap.push (yj9 l ((items.size:Int)-1)),toks:=s.toks+1+1}):wpAny #[35] A (call (.type "reversed") [.ref l]) Q E s :=
 callType_new xd1 #[10] (F.typeCall_reversed_1 _) (F.newCall_reversed_1 _) (fun obj=>F.args_object_init_2 obj _) F.entry_reversed_new (wn3 l items hz)
  ⟨hl,⟨_,Heap.get?_push_size _ rfl,rfl⟩,h⟩
theorem xd3{i:Nat}{x:Value}{Q:Option Value->Shared->Prop}(hit:wi4 s.heap it l (i:Int))(hl:IsTup s.heap l items)(hi:(i:Int)<2 ^ 63)(hx:items[i]?=some x)(hQ:∀ h' tk,wi4 h' it l ((i:Int)-1)->Heap.SameBut it s.heap h'->Q (some x) {s with heap:=h',toks:=tk}):wpAny #[35] A (pyNext (.ref it)) Q E s:=by
 obtain⟨o,ho,hc,hd⟩:=id hit
 unfold pyNext
 refine wpAny_bind (wpAny_attempt (wpAny_callSpecial?_slot (name:=Str.ofString "__next__") hit.typeIs qd6
  (wpAny_call_entry qd6 hit.typeIs wi2 ?_ (we6 _))))
 unfold Builtin.«reversed.__next__»
 refine wpAny_bind (wpAny_of_eq (a:=(Value.ref it,[])) rfl ?_)
 try dsimp only
 refine wpAny_bind (wpAny_field ho hd (x:=.ref l) rfl ?_)
 refine wpAny_bind (wpAny_field ho hd (x:=rawInt (i:Int)) rfl ?_)
 show wpAny _ _ (if(i:Int)<0 then _ else _) _ _ s
 rw[if_neg #[0]]
 refine wpAny_bind (wpAny_specialOf hl.typeIs wi3 ?_)
 try dsimp only
 rw[if_neg #[10]]
 have hil:i<items.size:=(Array.getElem?_eq_some_iff.mp hx).1
 refine wpAny_bind (wpAny_mkInt ?_)
 refine wpAny_bind (wpAny_attempt (getItem_tuple (j:=i) hl #[0] hi (by unfold seqIndex?;simp;omega) hx ?_))
 try dsimp only
 refine wpAny_bind (wpAny_field (s:={s with toks:=s.toks+1}) ho hd (x:=rawInt (i:Int)) rfl ?_)
 show wpAny _ _ (setField (.ref it) 1 (rawInt ((i:Int)-1)) >>= _) _ _ _
 refine wpAny_bind (wpAny_setField (s:={s with toks:=s.toks+1}) ho hd (by simp) ?_)
 refine wpAny_pure ⟨x,rfl,wpAny_pure (hQ _ _ ?_ (Heap.SameBut.update ..))⟩
 exact⟨_,Heap.get?_update_self _ ho (Obj.isFreed_of_fields (Obj.data_mapFields hd _)),(Obj.cls_mapFields ..).trans hc,by
  rw[Obj.data_mapFields hd];simp⟩
theorem xh6{Q:Option Value->Shared->Prop}(hh:A.handled=none)(hit:wi4 s.heap it l (-1))(hQ:∀ h',Heap.ExtBut it s.heap h'->Q none {s with heap:=h'}):wpAny #[35] A (pyNext (.ref it)) Q E s:=by
 obtain⟨o,ho,hc,hd⟩:=id hit
 unfold pyNext
 refine wpAny_bind (wpAny_attempt (wpAny_callSpecial?_slot (name:=Str.ofString "__next__") hit.typeIs qd6
  (wpAny_call_entry qd6 hit.typeIs wi2 ?_ (we6 _))))
 unfold Builtin.«reversed.__next__»
 refine wpAny_bind (wpAny_of_eq (a:=(Value.ref it,[])) rfl ?_)
 try dsimp only
 refine wpAny_bind (wpAny_field ho hd (x:=.ref l) rfl ?_)
 refine wpAny_bind (wpAny_field ho hd (x:=rawInt (-1)) rfl ?_)
 show wpAny _ _ (if(-1:Int)<0 then _ else _) _ _ s
 rw[if_pos #[10]]
 refine wpAny_bind (wpAny_rule ?_)
 refine wpAny_bind ?_
 show wpAny _ _ (setField (.ref it) 1 (rawInt (-1)) >>= _) _ _ _
 refine wpAny_bind (wpAny_setField ho hd (by simp) ?_)
 have h1:=Heap.get?_update_self (Obj.mapFields (·.setIfInBounds 1 (rawInt (-1)))) ho (Obj.isFreed_of_fields (Obj.data_mapFields hd _))
 have d1:=Obj.data_mapFields hd (·.setIfInBounds 1 (rawInt (-1)))
 refine wpAny_setField (s:={s with heap:=_}) h1 d1 (by simp) ?_
 have eb:Heap.ExtBut it s.heap ((s.heap.update it (Obj.mapFields (·.setIfInBounds 1 (rawInt (-1))))).update it (Obj.mapFields (·.setIfInBounds 0 Value.none))):=by
  intro b u hb e
  exact((Heap.SameBut.update _ _ _).2 b hb).trans (((Heap.SameBut.update _ _ _).2 b hb).trans e)
 first
 | show wpAny _ _ (newExc (.type "StopIteration") [] >>= _) _ _ _
 | (refine wpAny_bind ?_;show wpAny _ _ (newExc (.type "StopIteration") [] >>= _) _ _ _)
 walk_at"21"
 first|rw[show A.in1.handled=none from hh]|rw[hh]
 refine wpAny_bind (wpAny_pure (wpAny_throw ?_))
 refine wpAny_bind (wpAny_isInstance (T := "StopIteration") (b:=true) ⟨_,Heap.get?_push_size _ rfl,rfl⟩ isSubtype_stop ?_)
 exact wpAny_pure (hQ _ ((eb.push _).push _))
theorem xh7(hit:wi4 s.heap it l i)(h:Q (.ref it) s):wpAny #[35] A (pyIter (.ref it)) Q E s:=by
 refine wpAny_pyIter_slot hit.typeIs wo0 (wpAny_call_entry wo0 hit.typeIs xh5 ?_ (xd0 _))
 show wpAny _ _ (ret (.ref it)) _ _ s
 exact wpAny_pure ⟨_,rfl, "reversed",_,hit.typeIs,qd6.lookup,h⟩
def zm4(K:Fg)(a:Addr)(n:Nat):It :=
 ⟨fun i H=>i<n/\∃ xs x,SqT K H a xs/\xs[n-1-i]?=some x,fun i H x H'=>H'=H/\∀ xs,SqT K H a xs->xs[n-1-i]?=some x,fun i _=>i=n⟩
theorem yw2{tg:Expr}(a it:Addr)(n:Nat):xc8 P w K tg (zm4 K a n) [it] it (fun i h=>wi4 h it a ((n:Int)-1-(i:Int))) where
 mem:=by simp
 obj:=fun i h st b hb=>by
  walk_at"22"
 keep:=fun i h h' st k=>st.at fun o e=>k it (by simp) o e
 item:=by
  walk_at"0"
  obtain⟨hi,xs,x,hq,hx⟩:=hg
  obtain⟨its,rv,p,hz⟩:=I.tuple hq
  obtain⟨u,hu,ru⟩:=rv.get hx
  walk_at"7"
  have e:(n:Int)-1-(i:Int)=((n-1-i:Nat):Int):=by omega
  have st1:=st
  rw[e] at st1
  have hlt:=(List.getElem?_eq_some_iff.mp hx).1
  have hs:sizeLine=16777216:=sizeLine_eq
  refine wpAny_with_toks (n:=1) I.tk (xd3 st1 p #[0] (x:=u) (by simpa using hu) fun h' tk st' sb=>?_)
  intro htk
  have I1:Inv X pins σ H {s with heap:=h',toks:=tk}:=I.turned (t':=tk) (fun b o hb e=>(sb.2 b hb).trans e) f0 f1 f3 f4 f5
  obtain⟨o,e',c,d⟩:=id st'
  have e2:((n-1-i:Nat):Int)-1=(n:Int)-1-((i+1:Nat):Int):=by omega
  rw[e2] at st'
  exact⟨u,rfl,xf8 (s:={s with heap:=h',toks:=tk}) e' c d #[10] ⟨x,H,I1,ru,⟨rfl,fun ys hy=>by rw[I.tuple_inj hy hq];exact hx⟩,st',fun b hb=>(hf b hb).1⟩⟩
 done:=by
  walk_at"0"
  have hg:i=n:=hg
  subst hg
  walk_at"7"
  have e:(i:Int)-1-(i:Int)=-1:=by omega
  have st1:=st
  rw[e] at st1
  exact xh6 (I.ok.hd hc) st1 fun h' eb=>⟨rfl,I.turned (t':=s.toks) (fun b o hb e=>eb b o hb e) f0 f1 f3 f4 f5⟩
 self:=fun _ _ _ _ _ st h=>xh7 st h
def zd4(K:Fg)(ta:TA):TI:=fun σ H R=>ta σ H fun vs H1=>∃ a xs,vs=[.ref a]/\SqT K H1 a xs/\R (zm4 K a xs.length) H1
theorem zm5{tg:Expr}{l:Expr}{ta:TA}{p:Pos}(hg:Gl X "reversed")(hm:X.mg "reversed"=none)(ha:PA X [l] ta)(hs:autoParam (starEach [l] X.env=[(false,eval l X.env)]) zAr) :
 PI X tg (.Call (.Name "reversed" p) [l] [] pos) (zd4 X.K ta):=by
 walk_at"30"
 obtain⟨its,rv,p,hz⟩:=I1.tuple hq
 have hsz:sizeLine=16777216:=sizeLine_eq
 have hlen:=rv.length
 refine wt7 p (by simp only[size_toArray];omega) ?_
 have e:((its.toArray.size:Nat):Int)-1=(xs.length:Int)-1-((0:Nat):Int):=by rw[rv.length];simp
 rw[e]
 have hit:wi4 (s1.heap.push (yj9 a ((xs.length:Int)-1-((0:Nat):Int)))) s1.heap.objs.size a ((xs.length:Int)-1-((0:Nat):Int)):=⟨_,Heap.get?_push_size _ rfl,rfl,rfl⟩
 refine xh7 hit ?_
 refine⟨s1.heap.objs.size,[s1.heap.objs.size],_,_,H1,rfl,I1.kept (t':=s1.toks+1+1) fun b o e=>Heap.get?_push_of_some _ e,yw2 a _ xs.length,hit,fun b hb=>?_,q⟩
 walk_at"11"
section
variable{Q:VK}
theorem zm6{ta:TA}(h:ta σ H fun vs H1=>∃ a xs,vs=[.ref a]/\SqT K H1 a xs/\R (zm4 K a xs.length) H1):zd4 K ta σ H R:=h
end
section
variable{Q:VK}
theorem zd5(hq:SqT K H a xs)(Pv:Nat->St->Hp->Prop)(h0:Pv 0 σ H)(hk:∀ i σ H',Pv i σ H'->SqT K H' a xs)(hs:∀ i x σ H,xs[xs.length-1-i]?=some x->i<xs.length->Pv i σ H->g x σ H fun σ2 H2=>tb {D with nx:=PAt Pv (i+1),ct:=PAt Pv (i+1),bk:=D.nx} σ2 H2)(hd:∀ σ H,Pv xs.length σ H->D.nx σ H) :
 ∃ b ys,[V.ref a]=[.ref b]/\SqT K H b ys/\wn1 g tb D σ (zm4 K b ys.length) H:=by
 walk_at"19"
 by_cases hlt:i<xs.length
 ·refine .inr ⟨⟨hlt,xs,xs[xs.length-1-i],sq,List.getElem?_eq_getElem #[0]⟩,Pv (i+1),fun σ' H' p'=>⟨xs.length-(i+1),by omega,rfl,hlt,p'⟩,fun x H' y=>?_⟩
  obtain⟨rfl,hz⟩:=y
  exact hs i x σ _ (hz xs sq) hlt p
 ·have e:i=xs.length:=by omega
  subst e
  exact .inl ⟨rfl,hd σ H p⟩
end
def yp1:V->List V->Hp->VK->Prop:=fun x xs H Q=>∃ z c:Str,x=.str z/\xs=[.str c]/\z.length<=1000000/\Q (.str (PySem.Txt.stripChars z c)) H
theorem yw3:MtR X "str.strip" yp1:=by
 intro pins s σ H x vs v us Q I rx rv h
 obtain⟨z,c,rfl,rfl,hz,q⟩:=h
 obtain⟨t,rfl⟩:=rx
 obtain⟨u,rfl,ru⟩:=rv.one
 obtain⟨t',rfl⟩:=ru
 refine wpAny_with_toks (n:=1) I.tk (call_gives F.slot_str_strip (typeIs_str _ _ _) F.entry_str_strip (F.args_str_strip_2 _ _) (gives_str_strip_chars z c t t') (post_val_or_made (fun _=>fits_stripped _ _ _ #[42]) fun t2 k=>?_))
 intro hk
 exact⟨.str (PySem.Txt.stripChars z c),H,I.tok _ hk,⟨_,rfl⟩,q⟩
section
variable{Q:VK}{f:Str}{E:XK}
theorem G9(h:ta σ H fun x H1=>∃ a C dx fs v,x=.ref a/\H1 a=some (.ins C dx fs)/\Cls K C/\wg9 K C f/\fs.lookup f=some v/\Q v H1):T6 K ta f σ H Q:=h
theorem ql8(h:tv σ H fun y H1=>ta σ H1 fun x H2=>∃ a C dx fs,x=.ref a/\H2 a=some (.ins C dx fs)/\Cls K C/\wg9 K C f/\fs.length<1000/\D.nx σ (upd H2 a (.ins C dx (qm8 f y fs)))):wh0 K ta tv f D σ H:=h
theorem G4(h:ta σ H fun x H1=>∃ a dx fs,x=.ref a/\H1 a=some (.ins C dx fs)/\fs.lookup m=none/\t σ H1 fun vs H2=>sp (x::(vs++dvs)) H2 Q E):O1 C m sp dvs E ta t σ H Q:=h
theorem xw6(h:t σ H fun vs H1=>∀ x dx,H1 x=none->H1 dx=none->dx≠x->sp (.ref x::(vs++dvs)) (upd (upd H1 dx (.own x)) x (.ins C dx [])) (fun v H2=>v=.non/\Q (.ref x) H2) E):yb1 C sp dvs E t σ H Q:=h
end
end L2
local macro_rules | `(tactic| lk) => do
 let a <- ("qk5 qt5 qd5 zb2 J0 zv2 zb3 Ac1 zv3 zk6 zk7 zq6 zv4 yo4 Af5 zq7 zv5 Ac2 zv6 zk8 zk9 zv7 zl0 zv8 zv9 zl1 Ac3 Ac4 zb4 yo3 zw0 Ac5 zb6 zb0 zk5 zb5 zl2 zl3 Ad4 zl7 yv4 zw5 zl8 zc3 zl9 zw6 zm2 zd0 zm3 xw0 zw1 Ac6 Ac7 Ac8 zq8 zr1 yo6 zc4 Af6 zl4".splitOn " ").toArray.mapM fun n => `(Lean.Parser.Tactic.tacticSeq| refine $(Lean.mkIdent (.str `L2 n)) ?_)
 `(tactic| (repeat (first | (with_reducible first $[| $a]*) | ((with_reducible refine' L2.xv9 ?ev ?_); (case ev => exact rfl)) | ((with_reducible refine L2.zb8 ?ec ?_); (case ec => first | decide | omega | assumption)) | ((with_reducible refine L2.zw2 ?ec ?_); (case ec => first | exact ⟨by decide, by decide⟩ | exact ⟨by omega, by omega⟩)))))
local macro_rules | `(tactic| x_go) => `(tactic| refine L2.qt5 ?_)
local macro_rules | `(tactic| k_go) => `(tactic| refine L2.qd5 ?_)
namespace My
open PySem L2
variable{H H':Hp}{K:Fg}{Q:VK}{v:V}{x y:Str}{α:Type}{E:XK}{vs:List V}
section
open PyProof.Rows
set_option genInjectivity false in
structure Row where
 name:Str
 sort:Str
 host:Str
 shuts:List Str
 bars:List Str
def Row.da(r:Row):PyData:=.tuple [.str r.name,.str r.sort,.str r.host,.tuple (sDa r.shuts),.tuple (sDa r.bars)]
def oV:Option Str->V
 | some s=>.str s
 | none=>.non
variable{r:Row}
theorem qy9(h:Dv K H r.da v):∃ b sv bv,v=.ref b/\SqT K H b [.str r.name,.str r.sort,.str r.host,sv,bv]/\Dv K H (.tuple (sDa r.shuts)) sv/\Dv K H (.tuple (sDa r.bars)) bv:=by
 obtain⟨b,ys,rfl,hb,h⟩:=D7.mp h
 rw[Dvs] at h;obtain⟨v1,r1,rfl,e1,h⟩:=h
 rw[Dvs] at h;obtain⟨v2,r2,rfl,e2,h⟩:=h
 rw[Dvs] at h;obtain⟨v3,r3,rfl,e3,h⟩:=h
 rw[Dvs] at h;obtain⟨v4,r4,rfl,e4,h⟩:=h
 rw[Dvs] at h;obtain⟨v5,r5,rfl,e5,h⟩:=h
 rw[Dvs] at h;subst h
 rw[G2.mp e1,G2.mp e2,G2.mp e3] at hb
 exact⟨b,v4,v5,rfl,hb,e4,e5⟩
def Rws(K:Fg)(H:Hp)(v:V)(rs:List Row):Prop:=∃ a vs,v=.ref a/\(SqL K H a vs\/SqT K H a vs)/\Dvs K H (rs.map Row.da) vs
theorem zr6 {n:Option Str} (h:Q #[90,some x=n] H):qd0 K (.str x) (oV n) H Q:=by
 cases n with
 | none => refine yc1 rfl ?_;have e:(decide ((V.str x)=oV none))=decide (some x=none):=by simp[oV]
           rw[e];exact h
 | some y => refine yc1 rfl ?_;have e:(decide ((V.str x)=oV (some y)))=decide (some x=some y):=by simp[oV]
             rw[e];exact h
theorem yo6(h:Q #[90,x=y] H):qd0 K (.str x) (.str y) H Q:=by
 refine yc1 rfl ?_
 have e:(decide ((V.str x)=V.str y))=decide (x=y):=by simp
 rw[e];exact h
theorem zc4(h:Q (.bl (!decide (x=y))) H):xh0 K (.str x) (.str y) H Q:=by
 refine Ac9 rfl ?_
 have e:(decide ((V.str x)=V.str y))=decide (x=y):=by simp
 rw[e];exact h
theorem zr1{x y:Int}(h:Q #[90,x=y] H):qd0 K (.int x) (.int y) H Q:=by
 refine yc1 rfl ?_
 have e:(decide ((V.int x)=V.int y))=decide (x=y):=by simp
 rw[e];exact h
def qb1(rs:List Row)(n:Option Str):Option Row:=rs.find? fun r=>decide (some r.name=n)
def M8(rs:List Row)(n:Option Str):Option Str:=(qb1 rs n).map (·.sort)
def R7(rs:List Row)(n:Option Str):Option Str:=(qb1 rs n).bind fun r=>if r.sort=#[53] then some r.host else none
def N1(rs:List Row)(n:Option Str):Option Str:=(rs.find? fun r=>decide (r.sort=#[53]) && decide (some r.host=n)).map (·.name)
def qf9(K:Fg):Sp:=fun vs H Q _=>∃ v n rs,vs=[v,oV n]/\Rws K H v rs/\(qb1 rs n=none->Q .non H)/\∀ r u,qb1 rs n=some r->Dv K H r.da u->Q u H
theorem yk0(K:Fg):∀ vs H Q E,qf9 K vs H Q E->vs.length=["rows","name"].length:=by
 rintro vs H Q E ⟨v,n,rs,rfl,_⟩;rfl
def wt8(K:Fg):TS :=
 (C1 (qr1 (qy5 K (A2 0)) (B6 2)
 (S3 (G0 (tOp (qd0 K) #[70,2] (A2 1)))
 (L6 (A2 2)) Q5))
 (L6 (tC .non)))
theorem qr3{α:Type}{p:α->Bool}:∀ {l:List α} {i:Nat} {x:α},l[i]?=some x->(∀ y∈l.take i,p y=false)->p x=true->l.find? p=some x
 | y::l,0,x,e,_,hp=>by cases e;rw[find?_cons,hp]
 | y::l,i+1,x,e,h,hp=>by
   have hy:p y=false:=h y (by simp)
   rw[find?_cons,hy]
   exact qr3 (i:=i) (by simpa using e) (fun z hz=>h z (by simp[hz])) hp
theorem xh8{P:α->Prop}{l:List α}{i:Nat}{x:α}(e:l[i]?=some x)(h:∀ y∈l.take i,P y)(hx:P x):∀ y∈l.take (i+1),P y:=by
 intro y hy
 rw[take_add_one,e] at hy
 rcases mem_append.mp hy with z|z
 ·exact h y z
 ·have:y=x:=by simpa using z
  subst this;exact hx
theorem yw4(h:qf9 K vs H Q E):wt8 K {nx:=fun _ H'=>Q .non H',rt:=Q} (E2 ["rows","name","row"] vs) H:=by
 obtain⟨v,n,rs,rfl,⟨a,xs,rfl,hq,hd⟩,h1,h2⟩:=h
 show wt8 K _ [some (.ref a),some (oV n),none] H
 have hlen:xs.length=rs.length:=by have:=hd.length;simpa using this
 unfold wt8
 refine qk5 (zb0 (zb5 (xv9 rfl ?_)))
 refine yo2 hq (fun i σ H'=>H'=H/\(∃ w,σ=[some (.ref a),some (oV n),w])/\∀ r∈rs.take i,decide (some r.name=n)=false) ⟨rfl,⟨_,rfl⟩,by simp⟩ (fun hl i σ H' _ p=>p.1▸hl) (fun ht i σ H' _ p=>p.1▸ht) ?_ ?_
 ·rintro i x σ H' hx ⟨rfl,⟨w,rfl⟩,hn⟩
  obtain⟨d,hd1,hd2⟩:=hd.get' hx
  rw[List.getElem?_map] at hd1
  obtain⟨r,hr,rfl⟩:=Option.map_eq_some_iff.mp hd1
  obtain⟨b,sv,bv,rfl,hb,hsv,hbv⟩:=qy9 hd2
  refine J0 (zq6 (yo4 (zb3 (zb3 (xv9 rfl (zv2 (W6 hb rfl (xv9 rfl (zr6 ⟨_,rfl,?_⟩)))))))))
  by_cases e:some r.name=n
  ·rw[decide_eq_true e,if_pos rfl]
   refine⟨_,rfl,?_⟩
   exact h2 r _ (qr3 hr hn (decide_eq_true e)) hd2
  ·rw[decide_eq_false e,if_neg Bool.false_ne_true]
   exact yo3 ⟨rfl,⟨_,rfl⟩,xh8 hr hn (decide_eq_false e)⟩
 ·rintro σ H' ⟨rfl,⟨w,rfl⟩,hn⟩
  show Q .non H'
  refine h1 ?_
  unfold qb1
  rw[find?_eq_none]
  intro r hr
  rw[hlen,take_length] at hn
  simp[hn r hr]
end
variable{rk:Str->Nat}{rs:List Row}{k:Nat}
section
open PyProof.Rows
def Z3(K:Fg):Sp:=fun vs H Q _=>∃ v n rs,vs=[v,oV n]/\Rws K H v rs/\Q (oV (M8 rs n)) H
def wx5(K:Fg):TS :=
 (C1 (E3 (D8 (qf9 K) [] E0 (A1 (A2 0) #[3,1])) (B6 2))
 (L6 (tIf (G0 (tOp yb8 (A2 2) (tC .non))) (tC .non) #[91,2])))
theorem yk1(h:Z3 K vs H Q E):wx5 K {nx:=fun _ H'=>Q .non H',rt:=Q} (E2 ["book","name","row"] vs) H:=by
 obtain⟨v,n,rs,rfl,hR,q⟩:=h
 show wx5 K _ [some v,some (oV n),none] H
 refine⟨_,rfl,_,rfl,v,n,rs,rfl,hR,fun e=>?_,fun r u e hu=>?_⟩
 ·refine⟨_,rfl,rfl,_,rfl,?_⟩
  show Q .non H
  have:M8 rs n=none:=by unfold M8;rw[e];rfl
  rw[this] at q;exact q
 ·obtain⟨b,sv,bv,rfl,hb,_,_⟩:=qy9 hu
  refine⟨_,rfl,rfl,_,rfl,?_⟩
  show(if decide (V.ref b=V.non)=true then _ else _)
  rw[decide_eq_false (by simp)];refine qd5 ?_
  refine⟨_,rfl,W6 hb rfl ?_⟩
  have:M8 rs n=some r.sort:=by unfold M8;rw[e];rfl
  rw[this] at q;exact q
def qr4(K:Fg):Sp:=fun vs H Q _=>∃ v n rs,vs=[v,oV n]/\Rws K H v rs/\Q (oV (R7 rs n)) H
def wx6(K:Fg):TS :=
 (C1 (E3 (D8 (qf9 K) [] E0 (A1 (A2 0) #[3,1])) (B6 2))
 (C1 (S3 (tOr (G0 (tOp yb8 (A2 2) (tC .non))) (G0 (tOp (xh0 K) #[91,2] (tC (.str "frame")))))
 (L6 (tC .non)) Q5)
 (L6 (tOp (L5 K) (A2 2) #[2,2]))))
theorem yk2(h:qr4 K vs H Q E):wx6 K {nx:=fun _ H'=>Q .non H',rt:=Q} (E2 ["book","name","row"] vs) H:=by
 obtain⟨v,n,rs,rfl,hR,q⟩:=h
 show wx6 K _ [some v,some (oV n),none] H
 refine⟨_,rfl,_,rfl,v,n,rs,rfl,hR,fun e=>?_,fun r u e hu=>?_⟩
 ·refine⟨_,rfl,rfl,_,rfl,?_⟩
  show Q .non H
  have:R7 rs n=none:=by unfold R7;rw[e];rfl
  rw[this] at q;exact q
 ·obtain⟨b,sv,bv,rfl,hb,_,_⟩:=qy9 hu
  refine⟨_,rfl,rfl,_,rfl,?_⟩
  show(if decide (V.ref b=V.non)=true then _ else _)
  rw[decide_eq_false (by simp)];refine qd5 ?_
  refine⟨_,rfl,W6 hb rfl (zc4 ⟨_,rfl,?_⟩)⟩
  by_cases hs:r.sort=#[53]
  ·rw[decide_eq_true hs,Bool.not_true];refine qd5 ?_
   refine⟨_,rfl,W6 hb rfl ?_⟩
   have:R7 rs n=some r.host:=by unfold R7;rw[e];show(if r.sort=#[53] then some r.host else none)=_;rw[if_pos hs]
   rw[this] at q;exact q
  ·rw[decide_eq_false hs,Bool.not_false];refine qt5 ?_
   show Q .non H
   have:R7 rs n=none:=by unfold R7;rw[e];show(if r.sort=#[53] then some r.host else none)=_;rw[if_neg hs]
   rw[this] at q;exact q
def qg0(K:Fg):Sp:=fun vs H Q _=>∃ v n rs,vs=[v,oV n]/\Rws K H v rs/\Q (oV (N1 rs n)) H
def wq5(K:Fg):TS :=
 (C1 (qr1 (qy5 K (A2 0)) (B6 2)
 (S3 (xf5 (G0 (tOp (qd0 K) #[91,2] (tC (.str "frame")))) (G0 (tOp (qd0 K) (tOp (L5 K) (A2 2) #[2,2]) (A2 1))))
 (L6 #[70,2]) Q5))
 (L6 (tC .non)))
theorem yd2(h:qg0 K vs H Q E):wq5 K {nx:=fun _ H'=>Q .non H',rt:=Q} (E2 ["book","name","row"] vs) H:=by
 obtain⟨v,n,rs,rfl,⟨a,xs,rfl,hq,hd⟩,q⟩:=h
 show wq5 K _ [some (.ref a),some (oV n),none] H
 have hlen:xs.length=rs.length:=by have:=hd.length;simpa using this
 refine⟨_,rfl,yo2 hq (fun i σ H'=>H'=H/\(∃ w,σ=[some (.ref a),some (oV n),w])/\∀ r∈rs.take i,(decide (r.sort=#[53]) && decide (some r.host=n))=false) ⟨rfl,⟨_,rfl⟩,by simp⟩ (fun hl i σ H' _ p=>p.1▸hl) (fun ht i σ H' _ p=>p.1▸ht) ?_ ?_⟩
 ·rintro i x σ H' hx ⟨rfl,⟨w,rfl⟩,hn⟩
  obtain⟨d,hd1,hd2⟩:=hd.get' hx
  rw[List.getElem?_map] at hd1
  obtain⟨r,hr,rfl⟩:=Option.map_eq_some_iff.mp hd1
  obtain⟨b,sv,bv,rfl,hb,hsv,hbv⟩:=qy9 hd2
  refine⟨_,rfl,W6 hb rfl (yo6 ⟨_,rfl,?_⟩)⟩
  by_cases hs:r.sort=#[53]
  ·rw[decide_eq_true hs];refine qt5 ?_
   refine⟨_,rfl,W6 hb rfl ⟨_,rfl,zr6 ⟨_,rfl,?_⟩⟩⟩
   by_cases e:some r.host=n
   ·rw[decide_eq_true e];refine qt5 ?_
    refine⟨_,rfl,W6 hb rfl ?_⟩
    have:N1 rs n=some r.name:=by
     unfold N1
     rw[qr3 hr hn (by rw[decide_eq_true hs,decide_eq_true e];rfl)];rfl
    rw[this] at q;exact q
   ·rw[decide_eq_false e];refine qd5 ?_
    exact⟨rfl,⟨_,rfl⟩,xh8 hr hn (by rw[decide_eq_false e,Bool.and_false])⟩
  ·rw[decide_eq_false hs];refine qd5 ?_
   k_go
   exact⟨rfl,⟨_,rfl⟩,xh8 hr hn (by rw[decide_eq_false hs,Bool.false_and])⟩
 ·rintro σ H' ⟨rfl,⟨w,rfl⟩,hn⟩
  show Q .non H'
  have:N1 rs n=none:=by
   unfold N1
   rw[find?_eq_none.mpr]
   ·rfl
   ·intro r hr
    rw[hlen,take_length] at hn
    rw[hn r hr];exact Bool.false_ne_true
  rw[this] at q;exact q
def ups(rs:List Row):Nat->Option Str->List Str
 | 0,_=>[]
 | k+1,n=>match N1 rs n with
   | none=>[]
   | some y=>y::ups rs k (some y)
def wt9(rs:List Row)(rk:Str->Nat):Prop:=∀ x y,N1 rs (some x)=some y->rk y<rk x
theorem xh9{rs:List Row}{rk:Str->Nat}(f:wt9 rs rk):∀ (k:Nat) (x:Str),rk x<=k->ups rs k (some x)=ups rs (rk x) (some x)
 | 0, x, h => by have:rk x=0:=by omega
                 rw[this]
 | k + 1,x,h=>by
   cases e:N1 rs (some x) with
   | none =>
     have e1:ups rs (k+1) (some x)=[]:=by rw[ups,e]
     rw[e1]
     cases e2:rk x with
     | zero=>rfl
     | succ m=>rw[ups,e]
   | some y =>
     have hy:=f x y e
     have e1:ups rs (k+1) (some x)=y::ups rs k (some y):=by rw[ups,e]
     rw[e1,xh9 f k y #[0]]
     cases e2:rk x with
     | zero=>omega
     | succ m =>
       have e3:ups rs (m+1) (some x)=y::ups rs m (some y):=by rw[ups,e]
       rw[e3,xh9 f m y #[0]]
theorem zd6(f:wt9 rs rk)(e:N1 rs (some x)=some y):ups rs (rk x) (some x)=y::ups rs (rk y) (some y):=by
 have hy:=f x y e
 cases e2:rk x with
 | zero=>omega
 | succ m =>
   have e3:ups rs (m+1) (some x)=y::ups rs m (some y):=by rw[ups,e]
   rw[e3,xh9 f m y #[0]]
theorem zm7{x:Option Str}(e:N1 rs x=none):ups rs k x=[]:=by
 cases k with
 | zero=>rfl
 | succ m=>rw[ups,e]
def wc2(K:Fg):Sp:=fun vs H Q _=>∃ v n g rs rk,vs=[v,.str n,.str g]/\Rws K H v rs/\wt9 rs rk/\Q #[90,g∈ups rs (rk n) (some n)] H
def wx7(K:Fg):TS :=
 (C1 (E3 (D8 (qg0 K) [] E0 (A1 (A2 0) #[3,1])) (B6 3))
 (C1 (wb5 (G0 (tOp wl8 (A2 3) (tC .non)))
 (C1 (S3 (G0 (tOp (qd0 K) (A2 3) (A2 2)))
 (L6 (tC (.bl true))) Q5)
 (E3 (D8 (qg0 K) [] E0 (A1 (A2 0) #[3,3])) (B6 3))))
 (L6 (tC (.bl false)))))
def zm8(rs:List Row)(rk:Str->Nat):Option Str->List Str
 | none=>[]
 | some y=>y::ups rs (rk y) (some y)
theorem yd4(f:wt9 rs rk)(x:Str):ups rs (rk x) (some x)=zm8 rs rk (N1 rs (some x)):=by
 cases e:N1 rs (some x) with
 | none=>rw[zm7 e];rfl
 | some y=>rw[zd6 f e];rfl
theorem yk3(h:wc2 K vs H Q E):wx7 K {nx:=fun _ H'=>Q .non H',rt:=Q} (E2 ["book","name","frame","above"] vs) H:=by
 obtain⟨v,n,g,rs,rk,rfl,hR,f,q⟩:=h
 show wx7 K _ [some v,some (.str n),some (.str g),none] H
 refine⟨_,rfl,_,rfl,v,some n,rs,rfl,hR,?_⟩
 refine ya6 (fun σ H'=>H'=H/\∃ x,σ=[some v,some (.str n),some (.str g),some (oV x)]/\(g∈ups rs (rk n) (some n)↔g∈zm8 rs rk x))
  (fun σ _=>match σ with | [_,_,_,some (.str y)]=>rk y+1|_=>0) ⟨rfl,N1 rs (some n),rfl,by rw[yd4 f]⟩ ?_ ?_
 ·rintro σ H' ⟨rfl,x,rfl,hx⟩
  cases x with
  | none =>
    refine⟨_,rfl,rfl,_,rfl,?_⟩
    show Q (.bl false) H'
    have:¬g∈ups rs (rk n) (some n):=fun z=>by have:=hx.mp z;simp[zm8] at this
    rw[decide_eq_false this] at q;exact q
  | some y =>
    refine⟨_,rfl,rfl,_,rfl,?_⟩
    show(if(!decide (V.str y=V.non))=true then _ else _)
    rw[decide_eq_false (by simp),Bool.not_false];refine qt5 ?_
    refine⟨_,rfl,_,rfl,yo6 ⟨_,rfl,?_⟩⟩
    by_cases e:y=g
    ·rw[decide_eq_true e];refine qt5 ?_
     show Q (.bl true) H'
     have:g∈ups rs (rk n) (some n):=hx.mpr (by subst e;simp[zm8])
     rw[decide_eq_true this] at q;exact q
    ·rw[decide_eq_false e];refine qd5 ?_
     refine⟨_,rfl,_,rfl,v,some y,rs,rfl,hR,?_⟩
     refine⟨⟨rfl,N1 rs (some y),rfl,?_⟩,?_⟩
     ·rw[hx]
      show g∈y::ups rs (rk y) (some y)↔_
      rw[yd4 f,mem_cons]
      exact⟨fun z=>z.resolve_left fun z=>e z.symm,Or.inr⟩
     ·show(match [some v,some (V.str n),some (V.str g),some (oV (N1 rs (some y)))] with | [_,_,_,some (.str y)]=>rk y+1|_=>0)<rk y+1
      cases e2:N1 rs (some y) with
      | none=>exact Nat.succ_pos _
      | some z=>have:=f y z e2;show rk z+1<rk y+1;omega
 ·rintro σ H' Q1 Q2 hQ ⟨v1,e1,e2,k,e3,q1⟩
  exact⟨v1,e1,e2,k,e3,hQ _ _ q1⟩
end
variable{i:Int}{c:Nat}{H1 H2 H0:Hp}{p d a:Addr}{o:HO}{ns:List Int}{D:qd3}{tb:TS}{σ:St}{te:TE}{ds:List PyData}
section
variable{K:Fg}{vs:List V}{H:Hp}{Q:VK}{E:XK}
theorem B7(xs:List Str):(B4 xs).length=xs.length:=length_map _
def ch(c:Nat):Str:=⟨#[c]⟩
def Lt:Str := "abcdefghijklmnopqrstuvwxyz"
theorem zw7:∀ j:Nat,j<26->Lt.cps.toList[j]?=some (97+j):=by decide +kernel
theorem zw8:Lt.length=26:=by decide +kernel
theorem Ad8(h0:0<=i)(h1:i<26):atI Lt.cps.toList i=some (97+i.toNat):=by
 have e:i=((i.toNat:Nat):Int):=by omega
 have q:atI Lt.cps.toList ((i.toNat:Nat):Int)=some (97+i.toNat):=Y0 (zw7 _ #[0])
 rw[<-e] at q
 exact q
theorem xw8:∀ bs:List Nat,(PySem.Txt.join ("":Str) (bs.map ch)).cps.toList=bs:=by
 intro bs
 have e:PySem.Txt.join ("":Str) (bs.map ch)=Str.join ("":Str) (bs.map ch):=PySem.StrLaws.glued_eq_join _ _
 rw[e]
 induction bs with
 | nil=>rfl
 | cons b r ih =>
   cases r with
   | nil=>rfl
   | cons c r =>
     show((ch b++("":Str)++Str.join ("":Str) ((c::r).map ch)).cps).toList=_
     have ih:=ih (PySem.StrLaws.glued_eq_join _ _)
     show((ch b).cps++("":Str).cps++(Str.join ("":Str) ((c::r).map ch)).cps).toList=_
     rw[Array.toList_append,Array.toList_append,ih]
     rfl
theorem xi0{n:Int}(h:1<=n):(PySem.Txt.mul (ch c) n).cps.toList=List.replicate n.toNat c:=by
 unfold PySem.Txt.mul
 rw[if_neg #[0]]
 have f:∀ (k:Nat) (acc:Array Nat),((List.replicate k #[c]).foldl (·++·) acc).toList=acc.toList++List.replicate k c:=by
  intro k
  induction k with
  | zero=>intro acc;simp
  | succ k ih=>intro acc;rw[replicate_succ,foldl_cons,ih];simp[replicate_succ]
 by_cases h1:n=1
 ·subst h1;rfl
 ·have e:(n == 1 || (ch c).length == 0)=false:=by
   have:(n == 1)=false:=by simpa using h1
   rw[this];rfl
  rw[e,if_neg Bool.false_ne_true]
  have:=f n.toNat #[]
  show(List.foldl (fun x1 x2=>x1++x2) #[] (List.replicate n.toNat #[c])).toList=_
  simpa using this
theorem E5{n:Nat}(h:n<=100000):n<=sizeLine:=by rw[sizeLine_eq];omega
theorem A7.tr(a:A7 H H1)(b:A7 H1 H2):A7 H H2:=fun c o e=>b c o (a c o e)
theorem A7.put(s:A7 H H1)(h:H p=none)(o:HO):A7 H (upd H1 p o):=fun b u e=>by
 have nb:b≠p:=fun z=>by rw[z,h] at e;cases e
 rw[B8 nb];exact s b u e
theorem xi1{xs ys:List V}(h:H d=some (.lst xs)):S4 H (upd H d (.lst ys)) :=
 ⟨fun b zs e=>by rw[B8 (fun z=>by rw[z,h] at e;cases e)];exact e,fun b o zs e=>by rw[B8 (fun z=>by rw[z,h] at e;cases e)];exact e⟩
theorem qp3{b:Addr}(h:H a=some o)(g:H b=none):a≠b:=fun e=>by rw[e,g] at h;cases h
theorem T0(xs:List Str):(B4 xs).all qy1=true:=by unfold B4;rw[all_map];exact all_eq_true.mpr fun _ _=>rfl
theorem V3(x:Str):∀ xs:List Str,inV (.str x) (B4 xs)=decide (x∈xs)
 | []=>by simp[B4,inV]
 | y::ys=>by
   have ih:=V3 x ys
   unfold inV at ih ⊢
   show(eqV (.str y) (.str x) || (B4 ys).any fun z=>eqV z (.str x))=_
   rw[ih]
   by_cases e:x=y
   ·subst e;simp[eqV]
   ·have e':¬y=x:=fun z=>e z.symm
    simp[eqV,e,e']
def qd7(ns:List Int):List V:=ns.map V.int
theorem qm9(ns:List Int):(qd7 ns).length=ns.length:=length_map _
theorem zd7(ns:List Int)(x:Int):qd7 ns++[V.int x]=qd7 (ns++[x]):=by simp[qd7]
theorem qe3(a b:Str):(a++b).length=a.length+b.length:=PySem.Str.length_append a b
theorem yd5(ns:List Int)(i:Nat)(x:Int):(qd7 ns).set i (.int x)=qd7 (ns.set i x):=by unfold qd7;rw[map_set]
theorem yp2{i:Nat}(h:i<ns.length):(qd7 ns)[i]?=some (.int ns[i]):=by unfold qd7;rw[List.getElem?_map,List.getElem?_eq_getElem h];rfl
theorem yd6{n:Nat}(h:1<=n):ixN n (-1)=some (n-1):=by
 unfold ixN
 rw[if_neg #[10],if_pos #[0]]
 congr 1
 omega
theorem yp3{xs:List V}(h:1<=xs.length)(e:xs[xs.length-1]?=some v):atI xs (-1)=some v:=by
 unfold atI
 rw[yd6 h];exact e
theorem Ad9{n:Nat}(h:1<=n):ixN n 0=some 0:=by
 unfold ixN
 rw[if_pos #[10],if_pos #[0]];rfl
theorem zd8{g:TG}{xs:List V}(hq:SqL K H0 a xs\/SqT K H0 a xs)(s0:A7 H0 H)(Pv:Nat->St->Hp->Prop)(h0:Pv 0 σ H)(hk:∀ i σ H',Pv i σ H'->A7 H0 H')(hs:∀ i x σ H,xs[i]?=some x->Pv i σ H->g x σ H fun σ2 H2=>tb {D with nx:=PAt Pv (i+1),ct:=PAt Pv (i+1),bk:=D.nx} σ2 H2)(hd:∀ σ H,Pv xs.length σ H->D.nx σ H) :
 ∃ b,V.ref a=.ref b/\#[34]:=by
 rcases hq with hq|hq
 ·exact⟨a,rfl,.inl ⟨⟨xs,s0.sqL hq⟩,xg0 Pv h0 (fun i σ H' _ p=>(hk i σ H' p).sqL hq) hs hd⟩⟩
 ·exact⟨a,rfl,.inr ⟨⟨xs,s0.sqT hq⟩,xu8 Pv h0 (fun i σ H' _ p=>(hk i σ H' p).sqT hq) hs hd⟩⟩
abbrev WlN(tb:TS)(D:qd3)(Pv:St->Hp->Prop)(μ:St->Hp->Nat)(k:Nat)(σ:St)(H1:Hp):Prop :=
 ∃ N:St->Hp->Prop,(∀ σ' H',N σ' H'->∃ m',m'<k/\m'=μ σ' H'/\Pv σ' H')/\tb {D with nx:=N,ct:=N,bk:=D.nx} σ H1
theorem yw5{c:TT}(Pv:St->Hp->Prop)(μ:St->Hp->Nat)(h0:Pv σ H)(hs:∀ σ H,Pv σ H->c σ H fun b H1=>if b=true then WlN tb D Pv μ (μ σ H) σ H1 else D.nx σ H1):wb5 c tb D σ H:=by
 refine⟨fun m σ H=>m=μ σ H/\Pv σ H,⟨_,rfl,h0⟩,?_⟩
 rintro m σ H ⟨rfl,p⟩
 exact hs σ H p
theorem wx8{g:TG}{tt:TT}{σ':St}{xs:List V}(hq:SqL K H0 a xs\/SqT K H0 a xs)(s0:A7 H0 H)(Pv:Nat->List V->Hp->Prop)(h0:Pv 0 [] H)(hlen:∀ i ys H,i<=xs.length->Pv i ys H->ys.length<=sizeLine)(hk:∀ i ys H',Pv i ys H'->A7 H0 H')(hs:∀ i x ys H,xs[i]?=some x->Pv i ys H->g x σ' H fun σ2 H2=>tt σ2 H2 fun b H3=>if b=true then te σ2 H3 fun y H4=>PAt Pv (i+1) (ys++[y]) H4 else PAt Pv (i+1) ys H3)(hd:∀ ys H,Pv xs.length ys H->∀ p,H p=none->Q (.ref p) #[54,ys]) :
 ∃ b,V.ref a=.ref b/\#[58]:=by
 rcases hq with hq|hq
 ·exact xr4 (s0.sqL hq) Pv h0 hlen (fun i ys H' _ p=>(hk i ys H' p).sqL hq) hs hd
 ·refine⟨a,rfl,.inr ⟨⟨xs,s0.sqT hq⟩,wt3 (n:=xs.length) (fun i x=>xs[i]?=some x) Pv h0 hlen (fun i ys H hi p=>?_) (fun i ys H x H' hi p y=>?_) (fun ys H p=>?_) (fun i x ys H _ hx p=>hs i x ys H hx p) hd⟩⟩
  ·exact⟨xs,xs[i],(hk i ys H p).sqT hq,by simp[hi]⟩
  ·exact⟨y.1,y.2 xs ((hk i ys H p).sqT hq)⟩
  ·exact⟨xs,(hk _ ys H p).sqT hq,Nat.le_refl _⟩
theorem V4{xs:List Str}{i:Nat}{x:V}(h:(B4 xs)[i]?=some x):∃ y,xs[i]?=some y/\x=.str y:=by
 unfold B4 at h
 rw[List.getElem?_map] at h
 obtain⟨y,hy,e⟩:=Option.map_eq_some_iff.mp h
 exact⟨y,hy,e.symm⟩
theorem wi5(xs:List Str)(x:Str):B4 xs++[V.str x]=B4 (xs++[x]):=by simp[B4]
theorem Dvs.one{d:PyData}(h:Dv K H d v):Dvs K H [d] [v]:=C0 h I9
def zd9(ns:List Int):List PyData:=ns.map .int
theorem xi2:∀ {ns:List Int} {vs:List V},Dvs K H (zd9 ns) vs↔vs=qd7 ns
 | [],_=>by show Dvs K H [] _↔_=[];rw[Dvs]
 | x::xs,vs=>by
   show Dvs K H (.int x::zd9 xs) vs↔vs=V.int x::qd7 xs
   rw[Dvs]
   constructor
   ·rintro⟨v,r,rfl,h1,h2⟩
    rw[P1.mp h1,xi2.mp h2]
   ·rintro rfl
    exact⟨_,_,rfl,P1.mpr rfl,xi2.mpr rfl⟩
theorem zr7{e:Addr}(h1:Dv K H (.list ds) (.ref p))(h2:H e=some (.lst []))(h:Q (.bl (!ds.isEmpty)) H):xh0 K (.ref p) (.ref e) H Q:=by
 refine Ad1 h1 (e:=.list []) (qp2.mpr ⟨e,[],rfl,SqL.of h2,I9⟩) ?_ ?_
 ·exact Nat.le_trans (Nat.min_le_right _ _) #[10]
 ·cases ds <;> exact h
theorem none_of(s:A7 H H')(h:H' p=none):H p=none:=by
 cases e:H p with
 | none=>rfl
 | some o=>have:=s _ _ e;rw[h] at this;cases this
inductive Tr where
 | tx (s:Str)
 | nd (n:Str) (ps:List Tr)
mutual
def Tr.da:Tr->PyData
 | .tx s=>.str s
 | .nd n ps=>.tuple [.str n,.tuple (Tr.das ps)]
def Tr.das:List Tr->List PyData
 | []=>[]
 | t::ts=>t.da::Tr.das ts
end
theorem Y1:∀ ts:List Tr,Tr.das ts=ts.map Tr.da
 | []=>by rw[Tr.das];rfl
 | t::ts=>by rw[Tr.das,Y1 ts];rfl
mutual
theorem ze0:∀ t:Tr,fix t.da=true
 | .tx s=>by rw[Tr.da,fix]
 | .nd n ps=>by rw[Tr.da,fix,Q8,fix,Q8,fix,Q8,Y2 ps];rfl
theorem Y2:∀ ts:List Tr,Q8 (Tr.das ts)=true
 | []=>by rw[Tr.das,Q8]
 | t::ts=>by rw[Tr.das,Q8,ze0 t,Y2 ts];rfl
end
def Tr.isTx:Tr->Bool
 | .tx _=>true
 | .nd _ _=>false
mutual
def pre(pl:List Int):Tr->List (List Int×Tr)
 | .tx s=>[(pl,.tx s)]
 | .nd n ps=>(pl,.nd n ps)::Ae0 pl 0 ps
def Ae0(pl:List Int)(k:Nat):List Tr->List (List Int×Tr)
 | []=>[]
 | t::ts=>pre (pl++[(k:Int)]) t++Ae0 pl (k+1) ts
end
theorem yd7:∀ ns:List Int,Q8 (zd9 ns)=true
 | []=>by show Q8 []=true;rw[Q8]
 | x::xs=>by show Q8 (.int x::zd9 xs)=true;rw[Q8,yd7 xs,fix];rfl
theorem Q6{α:Type}{f:α->PyData}(h:∀ x,fix (f x)=true):∀ l:List α,Q8 (l.map f)=true
 | []=>by show Q8 []=true;rw[Q8]
 | x::l=>by show Q8 (f x::l.map f)=true;rw[Q8,h,Q6 h l];rfl
variable{n:Str}
theorem ze1{ps:List Tr}(h:Dv K H (Tr.nd n ps).da v):∃ a b us,v=.ref a/\SqT K H a [.str n,.ref b]/\SqT K H b us/\Dvs K H (Tr.das ps) us:=by
 rw[Tr.da] at h
 obtain⟨a,xs,rfl,ha,h⟩:=D7.mp h
 rw[Dvs] at h;obtain⟨v1,r1,rfl,e1,h⟩:=h
 rw[Dvs] at h;obtain⟨v2,r2,rfl,e2,h⟩:=h
 rw[Dvs] at h;subst h
 rw[G2.mp e1] at ha
 obtain⟨b,ys,rfl,hb,h⟩:=D7.mp e2
 exact⟨a,b,ys,rfl,ha,hb,h⟩
theorem Ae1{s:Str}(h:Dv K H (Tr.tx s).da v):v=.str s:=by rw[Tr.da] at h;exact G2.mp h
variable{us:List V}
theorem yp4{ts:List Tr}(h:Dvs K H (Tr.das ts) us){i:Nat}{t:Tr}(e:ts[i]?=some t):∃ u,us[i]?=some u/\Dv K H t.da u :=
 h.get (by rw[Y1,List.getElem?_map,e];rfl)
theorem qu1{ts:List Tr}(h:Dvs K H (Tr.das ts) us):us.length=ts.length:=by have:=h.length;rw[Y1,length_map] at this;exact this
theorem ze2{t:Tr}(h:Dv K H t.da v)(q:Q (.bl t.isTx) H):yv0 K [v,.ty "str"] H Q:=by
 cases t with
 | tx s=>rw[Ae1 h];exact Ad2 (.str _) (b:=true) rfl q
 | nd n ps=>obtain⟨a,b,us,rfl,ha,_⟩:=ze1 h;exact zw3 ha (b:=false) rfl q
def wc3(K:Fg):Sp:=fun vs H Q _=>∃ (t:Tr) (v:V),vs=[v]/\Dv K H t.da v/\Q (.bl t.isTx) H
def wl9(K:Fg):TS :=
 (L6 (tCB (yv0 K) (A1 (A2 0) (A1 (tC (.ty "str")) A9))))
theorem yk4(h:wc3 K vs H Q E):wl9 K {nx:=fun _ H'=>Q .non H',rt:=Q} (E2 ["part"] vs) H:=by
 obtain⟨t,v,rfl,hd,q⟩:=h
 show wl9 K _ [some v] H
 unfold wl9
 lk
 exact ze2 hd q
theorem yp5{ps:List Tr}{r t:Addr}(h1:SqT K H r [.str n,.ref t])(h2:SqT K H t us)(h3:Dvs K H (Tr.das ps) us):Dv K H (Tr.nd n ps).da (.ref r):=by
 rw[Tr.da]
 exact D7.mpr ⟨r,_,rfl,h1,C0 #[76] (C0 (D7.mpr ⟨t,us,rfl,h2,h3⟩) I9)⟩
mutual
def hgt:Tr->Nat
 | .tx _=>0
 | .nd _ ps=>1+Z4 ps
def Z4:List Tr->Nat
 | []=>0
 | t::ts=>max (hgt t) (Z4 ts)
end
theorem qr5:∀ a b:List Tr,Z4 (a++b)=max (Z4 a) (Z4 b)
 | [],b=>by rw[nil_append,Z4];omega
 | t::a,b=>by rw[cons_append,Z4,Z4,qr5 a b];omega
structure Cz(K:Fg)(k_Branch:Addr)(k_Reader:Addr):Prop where
 pg_Branch:PySem.W.plainGet K k_Branch Str.empty=true
 hd_Branch:PySem.W.hasDictIn K k_Branch=true
 po_Branch:PySem.W.plainOver K k_Branch=true
 sa_Branch:PySem.W.findIn K (.ref k_Branch) "__setattr__"=some #[89]
 ns_Branch:PySem.W.nsIn K mainGlobals "Branch"=some #[5,k_Branch]
 na_Branch_name:PySem.W.findIn K (.ref k_Branch) "name"=some none
 na_Branch_place:PySem.W.findIn K (.ref k_Branch) "place"=some none
 na_Branch_parts:PySem.W.findIn K (.ref k_Branch) "parts"=some none
 na_Branch_waiting:PySem.W.findIn K (.ref k_Branch) "waiting"=some none
 pg_Reader:PySem.W.plainGet K k_Reader Str.empty=true
 hd_Reader:PySem.W.hasDictIn K k_Reader=true
 po_Reader:PySem.W.plainOver K k_Reader=true
 sa_Reader:PySem.W.findIn K #[45] "__setattr__"=some #[89]
 ns_Reader:PySem.W.nsIn K mainGlobals "Reader"=some #[5,k_Reader]
 na_Reader_book:PySem.W.findIn K #[45] "book"=some none
 na_Reader_branches:PySem.W.findIn K #[45] "branches"=some none
 na_Reader_mends:PySem.W.findIn K #[45] "mends"=some none
 na_Reader_laid:PySem.W.findIn K #[45] "laid"=some none
variable{k_Branch k_Reader:Addr}
theorem Cz.cl_Branch(z:Cz K k_Branch k_Reader):Cls K k_Branch:=⟨z.pg_Branch,z.hd_Branch,z.po_Branch,z.sa_Branch⟩
theorem Cz.cl_Reader(z:Cz K k_Branch k_Reader):Cls K k_Reader:=⟨z.pg_Reader,z.hd_Reader,z.po_Reader,z.sa_Reader⟩
structure Brn where
 n:Str
 pl:List Int
 ps:List Tr
 ws:List Str
structure BA where
 o:Addr
 x:Addr
 p:Addr
 q:Addr
 w:Addr
def BA.fp(a:BA):List Addr:=[a.o,a.q,a.w]
def bF(a:BA)(b:Brn):List (Str×V):=[("name",.str b.n),("place",.ref a.p),("parts",.ref a.q),("waiting",.ref a.w)]
structure BrO(K:Fg)(H:Hp)(kB:Addr)(a:BA)(b:Brn):Prop where
 o:H a.o=some (.ins kB a.x (bF a b))
 p:SqT K H a.p (qd7 b.pl)
 q:∃ us,H a.q=some (.lst us)/\Dvs K H (Tr.das b.ps) us
 w:H a.w=some #[16,b.ws]
structure Mnd where
 s:Int
 e:Int
 t:Str
 r:Str
def Mnd.da(m:Mnd):PyData:=.tuple [.int m.s,.int m.e,.str m.t,.str m.r]
structure Lad where
 s:Int
 g:Str
 pl:List Int
 a:Int
def Lad.da(m:Lad):PyData:=.tuple [.int m.s,.str m.g,.tuple (zd9 m.pl),.int m.a]
theorem Mnd.fix(m:Mnd):L2.fix m.da=true:=by unfold Mnd.da;simp[L2.fix,Q8]
theorem Lad.fix(m:Lad):L2.fix m.da=true:=by unfold Lad.da;simp[L2.fix,Q8,yd7]
structure Rst where
 bs:List Brn
 ms:List Mnd
 ls:List Lad
structure RAd where
 x:Addr
 L:Addr
 M:Addr
 A:Addr
 as:List BA
def fpA(as:List BA):List Addr:=as.flatMap BA.fp
def RAd.fp(r:Addr)(a:RAd):List Addr:=r::a.L::a.M::a.A::fpA a.as
inductive qk6(K:Fg)(H:Hp)(kB:Addr):List BA->List Brn->Prop
 | nil:qk6 K H kB [] []
 | cons {a:BA} {b:Brn} {as:List BA} {bs:List Brn}:BrO K H kB a b->qk6 K H kB as bs->qk6 K H kB (a::as) (b::bs)
structure RdO(K:Fg)(H:Hp)(kR kB r:Addr)(bv:V)(a:RAd)(st:Rst):Prop where
 kr:PySem.W.nsIn K mainGlobals "Reader"=some #[5,kR]
 kb:PySem.W.nsIn K mainGlobals "Branch"=some #[5,kB]
 o:H r=some (.ins kR a.x [("book",bv),("branches",.ref a.L),("mends",.ref a.M),("laid",.ref a.A)])
 l:H a.L=some (.lst (a.as.map fun z=>V.ref z.o))
 b:qk6 K H kB a.as st.bs
 m:∃ us,H a.M=some (.lst us)/\Dvs K H (st.ms.map Mnd.da) us
 d:∃ us,H a.A=some (.lst us)/\Dvs K H (st.ls.map Lad.da) us
 nd:(RAd.fp r a).Nodup
def xi3(H:Hp)(p:Addr):Prop:=(∃ xs,H p=some (.lst xs))\/∃ C dx fs,H p=some (.ins C dx fs)
variable{b:Brn}{kB:Addr}
section
variable{kR kB r:Addr}{bv:V}{a a':RAd}{st st':Rst}{H':Hp}{ps:List Addr}
theorem wi6(bt:But ps H H')(hm:∀ p∈ps,xi3 H p):S4 H H':=by
 have no:∀ c o,H c=some o->(∀ xs,o≠.lst xs)->(∀ C dx fs,o≠.ins C dx fs)->c∉ps:=fun c o e h1 h2 hc=>by
  rcases hm c hc with⟨xs,e2⟩|⟨C,dx,fs,e2⟩
  ·rw[e] at e2;cases e2;exact h1 xs rfl
  ·rw[e] at e2;cases e2;exact h2 C dx fs rfl
 exact⟨fun c xs e=>bt c _ e (no c _ e (fun _ z=>by cases z) fun _ _ _ z=>by cases z),fun c o xs e=>bt c _ e (no c _ e (fun _ z=>by cases z) fun _ _ _ z=>by cases z)⟩
theorem BrO.but{a:BA}(h:BrO K H kB a b)(bt:But ps H H')(tk:S4 H H')(hd:∀ x∈a.fp,x∉ps):BrO K H' kB a b:=by
 obtain⟨us,h1,h2⟩:=h.q
 exact⟨bt _ _ h.o (hd _ (by simp[BA.fp])),tk.sqT h.p,⟨us,bt _ _ h1 (hd _ (by simp[BA.fp])),Dvs.tupK tk _ _ (Y2 _) h2⟩,bt _ _ h.w (hd _ (by simp[BA.fp]))⟩
theorem qk6.but{as:List BA}{bs:List Brn}(h:qk6 K H kB as bs)(bt:But ps H H')(tk:S4 H H')(hd:∀ x∈fpA as,x∉ps):qk6 K H' kB as bs:=by
 induction h with
 | nil=>exact .nil
 | cons h1 h2 ih=>exact .cons (h1.but bt tk fun x hx=>hd x (by unfold fpA;rw[flatMap_cons];exact mem_append_left _ hx)) (ih fun x hx=>hd x (by unfold fpA;rw[flatMap_cons];exact mem_append_right _ hx))
theorem qk6.app{as as2:List BA}{bs bs2:List Brn}(h:qk6 K H kB as bs)(h2:qk6 K H kB as2 bs2):qk6 K H kB (as++as2) (bs++bs2):=by
 induction h with
 | nil=>exact h2
 | cons h1 _ ih=>exact .cons h1 ih
theorem qk6.len{as:List BA}{bs:List Brn}(h:qk6 K H kB as bs):as.length=bs.length:=by
 induction h with
 | nil=>rfl
 | cons _ _ ih=>simp[ih]
theorem qk6.snoc{as:List BA}{bs:List Brn}(h:qk6 K H kB as (bs++[b])):∃ as' a,as=as'++[a]/\qk6 K H kB as' bs/\BrO K H kB a b:=by
 induction bs generalizing as with
 | nil=>cases h with|cons h1 h2=>cases h2;exact⟨[],_,rfl,.nil,h1⟩
 | cons c bs ih =>
   cases h with
   | cons h1 h2 =>
     obtain⟨as',a,rfl,h3,h4⟩:=ih h2
     exact⟨_::as',a,rfl,.cons h1 h3,h4⟩
theorem qk6.mut{as:List BA}{bs:List Brn}(h:qk6 K H kB as bs):∀ p∈fpA as,xi3 H p:=by
 induction h with
 | nil=>intro p hp;cases hp
 | cons h1 _ ih =>
   intro p hp
   unfold fpA at hp
   rw[flatMap_cons] at hp
   rcases mem_append.mp hp with hp|hp
   ·simp only[BA.fp,mem_cons,not_mem_nil,or_false] at hp
    rcases hp with rfl|rfl|rfl
    ·exact .inr ⟨_,_,_,h1.o⟩
    ·obtain⟨us,h2,_⟩:=h1.q;exact .inl ⟨_,h2⟩
    ·exact .inl ⟨_,h1.w⟩
   ·exact ih p hp
theorem RdO.mut(h:RdO K H kR kB r bv a st):∀ p∈RAd.fp r a,xi3 H p:=by
 intro p hp
 simp only[RAd.fp,mem_cons] at hp
 rcases hp with rfl|rfl|rfl|rfl|hp
 ·exact .inr ⟨_,_,_,h.o⟩
 ·exact .inl ⟨_,h.l⟩
 ·obtain⟨us,h1,_⟩:=h.m;exact .inl ⟨_,h1⟩
 ·obtain⟨us,h1,_⟩:=h.d;exact .inl ⟨_,h1⟩
 ·exact h.b.mut p hp
structure Rup(K:Fg)(kR kB r:Addr)(bv:V)(H:Hp)(a:RAd)(H':Hp)(a':RAd)(st':Rst):Prop where
 ok:RdO K H' kR kB r bv a' st'
 bt:But (RAd.fp r a) H H'
 fr:∀ x∈RAd.fp r a',x∈RAd.fp r a\/H x=none
theorem Rup.tr{a2:RAd}{st2:Rst}(h1:Rup K kR kB r bv H a H' a' st')(h2:Rup K kR kB r bv H' a' H2 a2 st2)(hd:∀ x,H' x=none->H x=none):Rup K kR kB r bv H a H2 a2 st2 :=
 ⟨h2.ok,fun c o e n=>h2.bt c o (h1.bt c o e n) fun hc=>(h1.fr c hc).elim n fun z=>(by rw[z] at e;cases e),
  fun x hx=>(h2.fr x hx).elim (h1.fr x) fun z=>.inr (hd x z)⟩
theorem Rup.tupK(h:Rup K kR kB r bv H a H' a' st')(h0:RdO K H kR kB r bv a st):S4 H H':=wi6 h.bt h0.mut
theorem RdO.same(h:RdO K H kR kB r bv a st)(s:A7 H H'):RdO K H' kR kB r bv a st:=by
 obtain⟨us,m1,m2⟩:=h.m
 obtain⟨vs,d1,d2⟩:=h.d
 exact⟨h.kr,h.kb,s _ _ h.o,s _ _ h.l,h.b.but (ps:=[]) (fun c o e _=>s c o e) s.tupK (fun _ _ z=>by cases z),⟨us,s _ _ m1,Dvs.same s _ _ m2⟩,⟨vs,s _ _ d1,Dvs.same s _ _ d2⟩,h.nd⟩
end
theorem N7{k k':Addr}(h:PySem.W.nsIn K mainGlobals x=some #[5,k])(h':PySem.W.nsIn K mainGlobals x=some #[5,k']):k=k':=by rw[h] at h';cases h';rfl
theorem zw9(v:V):qm8 ("name":Str) v []=[(("name":Str),v)]:=rfl
theorem zx0(n v:V):qm8 ("place":Str) v [(("name":Str),n)]=[(("name":Str),n),(("place":Str),v)]:=by
 show(if(("name":Str)) = "place" then _ else _)=_
 rw[if_neg #[10]];rfl
theorem zx1(n p v:V):qm8 ("parts":Str) v [(("name":Str),n),(("place":Str),p)]=[(("name":Str),n),(("place":Str),p),(("parts":Str),v)]:=by
 show(if(("name":Str)) = "parts" then _ else _::(if(("place":Str)) = "parts" then _ else _))=_
 rw[if_neg #[10],if_neg #[10]];rfl
theorem zx2(n p q v:V):qm8 ("waiting":Str) v [(("name":Str),n),(("place":Str),p),(("parts":Str),q)]=[(("name":Str),n),(("place":Str),p),(("parts":Str),q),(("waiting":Str),v)]:=by
 show(if(("name":Str)) = "waiting" then _ else _::(if(("place":Str)) = "waiting" then _ else _::(if(("parts":Str)) = "waiting" then _ else _)))=_
 rw[if_neg #[10],if_neg #[10],if_neg #[10]];rfl
variable{u:HO}
theorem C6{o q:Addr}(h:upd H o u q=none):q≠o/\H q=none:=by
 by_cases e:q=o
 ·subst e;rw[A6] at h;cases h
 ·rw[B8 e] at h;exact⟨e,h⟩
abbrev wu0(K:Fg):TS :=
 (C1 (wh0 K (A2 0) (A2 2) "place")
 (C1 (wh0 K (A2 0) (W1 A9) "parts")
 (wh0 K (A2 0) (W1 A9) "waiting")))
def V6(K:Fg):Sp:=fun vs H Q _=>∃ (kB o x p:Addr) (n:Str) (pl:List Int),vs=[.ref o,.str n,.ref p]/\PySem.W.nsIn K mainGlobals "Branch"=some #[5,kB]/\H o=some (.ins kB x [])/\SqT K H p (qd7 pl)/\∀ (q w:Addr) (H':Hp),H q=none->H w=none->q≠w->But [o] H H'->BrO K H' kB ⟨o,x,p,q,w⟩ ⟨n,pl,[],[]⟩->(∀ z,H' z=none->H z=none)->Q .non H'
def qe4(K:Fg):TS :=
 (C1 (wh0 K (A2 0) (A2 1) "name")
 (wu0 K))
theorem wx9(cz:Cz K k_Branch k_Reader)(h:V6 K vs H Q E):qe4 K {nx:=fun _ H'=>Q .non H',rt:=Q} (E2 ["self","name","place"] vs) H:=by
 obtain⟨kB,o,x,p,n,pl,rfl,hkB,ho,hp,q⟩:=h
 obtain rfl:=N7 cz.ns_Branch hkB
 show qe4 K _ [some (.ref o),some (.str n),some (.ref p)] H
 unfold qe4
 have c:=cz.cl_Branch
 refine qk5 (ql8 ?_)
 lk
 refine⟨o,_,x,_,rfl,ho,c,cz.na_Branch_name,by simp,?_⟩
 rw[zw9]
 show C1 (wh0 K (A2 0) (A2 2) "place") _ _ _ _
 refine qk5 (ql8 ?_)
 lk
 refine⟨o,_,x,_,rfl,A6,c,cz.na_Branch_place,by simp,?_⟩
 rw[zx0]
 show C1 (wh0 K (A2 0) (W1 A9) "parts") _ _ _ _
 refine qk5 (ql8 ?_)
 lk
 refine⟨E5 (by z_go),fun q1 hq1=>?_⟩
 lk
 obtain⟨n1,hq2⟩:=C6 hq1
 obtain⟨_,hq⟩:=C6 hq2
 refine⟨o,_,x,_,rfl,by rw[B8 (Ne.symm n1),A6],c,cz.na_Branch_parts,by simp,?_⟩
 rw[zx1]
 show wh0 K (A2 0) (W1 A9) "waiting" _ _ _
 refine ql8 ?_
 lk
 refine⟨E5 (by z_go),fun w1 hw1=>?_⟩
 lk
 obtain⟨n2,hw2⟩:=C6 hw1
 obtain⟨n3,hw3⟩:=C6 hw2
 obtain⟨_,hw4⟩:=C6 hw3
 obtain⟨_,hw⟩:=C6 hw4
 refine⟨o,_,x,_,rfl,by rw[B8 (Ne.symm n2),A6],c,cz.na_Branch_waiting,by simp,?_⟩
 rw[zx2]
 have bt:∀ z u,H z=some u->z≠o->(upd (upd (upd (upd (upd (upd H o (.ins k_Branch x [(("name":Str),.str n)])) o (.ins k_Branch x [(("name":Str),.str n),(("place":Str),.ref p)])) q1 (.lst [])) o (.ins k_Branch x [(("name":Str),.str n),(("place":Str),.ref p),(("parts":Str),.ref q1)])) w1 (.lst [])) o (.ins k_Branch x [(("name":Str),.str n),(("place":Str),.ref p),(("parts":Str),.ref q1),(("waiting":Str),.ref w1)])) z=some u:=fun z u e no=>by
  have a1:z≠q1:=fun y=>by rw[y,hq] at e;cases e
  have a2:z≠w1:=fun y=>by rw[y,hw] at e;cases e
  rw[B8 no,B8 a2,B8 no,B8 a1,B8 no,B8 no];exact e
 have b1:But [o] H _:=fun z u e nz=>bt z u e (by simpa using nz)
 refine q q1 w1 _ hq hw (Ne.symm n3) b1 ⟨A6,(wi6 b1 fun z hz=>?_).sqT hp,⟨[],by rw[B8 n1,B8 (Ne.symm n3),B8 n1,A6],by rw[Tr.das];exact I9⟩,by rw[B8 n2,A6];rfl⟩ fun z hz=>?_
 ·rw[mem_singleton.mp hz];exact .inr ⟨_,_,_,ho⟩
 ·obtain⟨a1,hz⟩:=C6 hz
  obtain⟨_,hz⟩:=C6 hz
  obtain⟨_,hz⟩:=C6 hz
  obtain⟨_,hz⟩:=C6 hz
  obtain⟨_,hz⟩:=C6 hz
  exact(C6 hz).2
theorem Q9{xs:List α}{v:α}{n:Nat}(hn:xs.length=n+1)(e:xs[n]?=some v):atI xs (-1)=some v:=by
 unfold atI ixN
 rw[if_neg #[10],if_pos #[0]]
 show xs[((xs.length:Int) + -1).toNat]?=some v
 rw[show((xs.length:Int) + -1).toNat=n by omega];exact e
variable{st':Rst}
section
variable{kR kB r:Addr}{bv:V}{a:RAd}{st:Rst}
theorem RdO.apart(h:RdO K H kR kB r bv a st):r≠a.L/\r≠a.M/\r≠a.A/\a.L≠a.M/\a.L≠a.A/\a.M≠a.A/\r∉fpA a.as/\a.L∉fpA a.as/\a.M∉fpA a.as/\a.A∉fpA a.as/\(fpA a.as).Nodup:=by
 have:=h.nd
 simp only[RAd.fp,nodup_cons,mem_cons,not_or] at this
 obtain⟨⟨a1,a2,a3,a4⟩,⟨b1,b2,b3⟩,⟨c1,c2⟩,d1,e1⟩:=this
 exact⟨a1,a2,a3,b1,b2,c1,a4,b3,c2,d1,e1⟩
theorem But.upd1:But [p] H (upd H p o):=fun z u e n=>by rw[B8 (by simpa using n)];exact e
theorem N8(h:xi3 H p):S4 H (upd H p o):=wi6 (ps:=[p]) But.upd1 fun z hz=>by rw[mem_singleton.mp hz];exact h
theorem RdO.setM{ms:List Mnd}(h:RdO K H kR kB r bv a st)(hd:Dvs K H (ms.map Mnd.da) us):RdO K (upd H a.M (.lst us)) kR kB r bv a {st with ms:=ms}:=by
 obtain⟨a1,a2,a3,b1,b2,c1,d1,d2,d3,d4,e1⟩:=h.apart
 obtain⟨us0,m1,_⟩:=h.m
 obtain⟨vs,l1,l2⟩:=h.d
 have tk:S4 H (upd H a.M (.lst us)):=N8 (.inl ⟨_,m1⟩)
 exact⟨h.kr,h.kb,by rw[B8 a2];exact h.o,by rw[B8 b1];exact h.l,h.b.but But.upd1 tk fun x hx z=>d3 (by rw[mem_singleton.mp z] at hx;exact hx),⟨us,A6,Dvs.tupK tk _ _ (Q6 Mnd.fix ms) hd⟩,⟨vs,by rw[B8 (Ne.symm c1)];exact l1,Dvs.tupK tk _ _ (Q6 Lad.fix _) l2⟩,h.nd⟩
theorem RdO.setA{ls:List Lad}(h:RdO K H kR kB r bv a st)(hd:Dvs K H (ls.map Lad.da) us):RdO K (upd H a.A (.lst us)) kR kB r bv a {st with ls:=ls}:=by
 obtain⟨a1,a2,a3,b1,b2,c1,d1,d2,d3,d4,e1⟩:=h.apart
 obtain⟨us0,m1,m2⟩:=h.m
 obtain⟨vs,l1,_⟩:=h.d
 have tk:S4 H (upd H a.A (.lst us)):=N8 (.inl ⟨_,l1⟩)
 exact⟨h.kr,h.kb,by rw[B8 a3];exact h.o,by rw[B8 b2];exact h.l,h.b.but But.upd1 tk fun x hx z=>d4 (by rw[mem_singleton.mp z] at hx;exact hx),⟨us0,by rw[B8 c1];exact m1,Dvs.tupK tk _ _ (Q6 Mnd.fix _) m2⟩,⟨us,A6,Dvs.tupK tk _ _ (Q6 Lad.fix ls) hd⟩,h.nd⟩
def C8(H H':Hp):Prop:=∀ z,H' z=none->H z=none
theorem A7.grow(s:A7 H H'):C8 H H':=fun z hz=>by
 cases e:H z with
 | none=>rfl
 | some u=>rw[s z u e] at hz;cases hz
theorem C8.upd:C8 H (upd H p o):=fun z hz=>(C6 hz).2
theorem C8.tr(g1:C8 H H1)(g2:C8 H1 H2):C8 H H2:=fun z hz=>g1 z (g2 z hz)
theorem Rup.keep(ok:RdO K H' kR kB r bv a st')(bt:But (RAd.fp r a) H H'):Rup K kR kB r bv H a H' a st':=⟨ok,bt,fun x hx=>.inl hx⟩
end
def M0(K:Fg):Sp:=fun vs H Q _=>∃ (kR kB r:Addr) (bv:V) (a:RAd) (st:Rst) (i:Int) (g rule:Str),vs=[.ref r,.int i,.str g,.str rule]/\RdO K H kR kB r bv a st/\st.ms.length<=9000000/\g.length<=1000000/\∀ H',Rup K kR kB r bv H a H' a {st with ms:=st.ms++[⟨i,i+g.length, "",rule⟩]}->C8 H H'->Q .non H'
def qe5(K:Fg):TS :=
 (E9 (tBM K "list" J9 (T6 K (A2 0) "mends") (A1 (T7 (A1 (A2 1) (A1 (tOp (J6 K) (A2 1) (tCB (N6 K) #[3,2])) (A1 (tC (.str "")) #[3,3])))) A9)))
theorem wy0(cz:Cz K k_Branch k_Reader)(h:M0 K vs H Q E):qe5 K {nx:=fun _ H'=>Q .non H',rt:=Q} (E2 ["self","start","signs","rule"] vs) H:=by
 obtain⟨kR,kB,r,bv,a,st,i,g,rule,rfl,h,hl,hg,q⟩:=h
 obtain rfl:=N7 cz.ns_Reader h.kr
 show qe5 K _ [some (.ref r),some (.int i),some (.str g),some (.str rule)] H
 unfold qe5
 obtain⟨us,m1,m2⟩:=h.m
 have hul:us.length=st.ms.length:=by have:=m2.length;rw[length_map] at this;exact this
 walk_at"27"
 refine⟨r,_,a.x,_,_,rfl,h.o,cz.cl_Reader,cz.na_Reader_mends,rfl,?_⟩
 walk_at"32"
 lk
 refine .inr (.inl ⟨g,rfl,by rw[sizeLine_eq];omega,?_⟩)
 walk_at"6"
 have s1:=A7.new hp #[112]
 have e1:(upd H p #[112]) p=some #[112]:=A6
 generalize upd H p #[112]=H1 at *
 have h1:=h.same s1
 lk
 refine L4 (s1 _ _ m1) #[42] ?_
 refine q _ (.keep (h1.setM ?_) fun c o e n=>?_) (C8.tr (A7.grow s1) C8.upd)
 ·rw[map_append]
  refine Dvs.append (Dvs.same s1 _ _ m2) (Dvs.one (D7.mpr ⟨p,_,rfl,SqT.of e1,C0 (P1.mpr rfl) (C0 (P1.mpr rfl) (C0 #[76] (C0 #[76] I9)))⟩))
 ·rw[B8 (fun z=>n (by rw[z];simp[RAd.fp]))];exact s1 c o e
section
variable{kR kB r:Addr}{bv:V}{a:RAd}{st:Rst}
theorem R8(as bs:List BA):fpA (as++bs)=fpA as++fpA bs:=by unfold fpA;rw[flatMap_append]
theorem RdO.dom(h:RdO K H kR kB r bv a st):∀ p∈RAd.fp r a,H p≠none:=fun p hp e=>by
 rcases h.mut p hp with⟨xs,e2⟩|⟨C,dx,fs,e2⟩ <;> rw[e] at e2 <;> cases e2
theorem RdO.push{H4:Hp}{x:BA}{b:Brn}(h:RdO K H kR kB r bv a st)(s:A7 H H4)(hb:BrO K H4 kB x b)(hn:∀ z∈x.fp,H z=none)(hd:x.fp.Nodup) :
 RdO K (upd H4 a.L (.lst ((a.as++[x]).map fun z=>V.ref z.o))) kR kB r bv {a with as:=a.as++[x]} {st with bs:=st.bs++[b]}:=by
 have h4:=h.same s
 obtain⟨a1,a2,a3,b1,b2,c1,d1,d2,d3,d4,e1⟩:=h.apart
 obtain⟨us,m1,m2⟩:=h4.m
 obtain⟨vs,l1,l2⟩:=h4.d
 have tk:S4 H4 (upd H4 a.L (.lst ((a.as++[x]).map fun z=>V.ref z.o))):=N8 (.inl ⟨_,h4.l⟩)
 have nx:∀ z∈RAd.fp r a,z∉x.fp:=fun z hz hx=>h.dom z hz (hn z hx)
 have nL:∀ z∈x.fp,z≠a.L:=fun z hz e=>nx a.L (by simp[RAd.fp]) (e▸hz)
 refine⟨h.kr,h.kb,by rw[B8 a1];exact h4.o,A6,(h4.b.but But.upd1 tk fun z hz w=>d2 (by rw[mem_singleton.mp w] at hz;exact hz)).app (.cons (hb.but But.upd1 tk fun z hz w=>nL z hz (mem_singleton.mp w)) .nil),⟨us,by rw[B8 (Ne.symm b1)];exact m1,Dvs.tupK tk _ _ (Q6 Mnd.fix _) m2⟩,⟨vs,by rw[B8 (Ne.symm b2)];exact l1,Dvs.tupK tk _ _ (Q6 Lad.fix _) l2⟩,?_⟩
 have e:RAd.fp r {a with as:=a.as++[x]}=RAd.fp r a++x.fp:=by
  unfold RAd.fp
  show r::a.L::a.M::a.A::fpA (a.as++[x])=_
  rw[R8]
  show _=r::a.L::a.M::a.A::(fpA a.as++x.fp)
  have:fpA [x]=x.fp:=by unfold fpA;rw[flatMap_cons,flatMap_nil,append_nil]
  rw[this]
 rw[e,nodup_append]
 exact⟨h.nd,hd,fun p hp q hq e=>nx p hp (e▸hq)⟩
end
abbrev wq6(K:Fg)(k_Branch:Addr):TS :=
 (E9 (tBM K "list" J9 #[100] (A1 (yb1 k_Branch (V6 K) [] E0 (A1 (A2 1) (A1 (tOp (qy7 K) (T6 K (A2 2) "place") (T7 (A1 (tCB (N6 K) (A1 (T6 K (A2 2) "parts") A9)) A9))) A9))) A9)))
def U0(K:Fg):Sp:=fun vs H Q _=>∃ (kR kB r:Addr) (bv:V) (a:RAd) (st:Rst) (n:Str) (bs:List Brn) (b0:Brn),vs=[.ref r,.str n]/\RdO K H kR kB r bv a st/\st.bs=bs++[b0]/\bs.length<=1000/\b0.pl.length<=1000/\b0.ps.length<=9000000/\∀ a' H',Rup K kR kB r bv H a H' a' {st with bs:=st.bs++[⟨n,b0.pl++[(b0.ps.length:Int)],[],[]⟩]}->C8 H H'->Q .non H'
def qa1(K:Fg)(k_Branch:Addr):TS :=
 (C1 (E3 (tOp (L5 K) #[100] #[12]) (B6 2))
 (wq6 K k_Branch))
theorem wu3(cz:Cz K k_Branch k_Reader)(h:U0 K vs H Q E):qa1 K k_Branch {nx:=fun _ H'=>Q .non H',rt:=Q} (E2 ["self","name","above"] vs) H:=by
 obtain⟨kR,kB,r,bv,a,st,n,bs,b0,rfl,h,eb,hl,hp,hz,q⟩:=h
 walk_at"5"
 show qa1 K _ _ [some (.ref r),some (.str n),none] H
 unfold qa1
 have hb:=h.b
 rw[eb] at hb
 obtain⟨as',x,ea,hb1,hx⟩:=hb.snoc
 obtain⟨us,q1,q2⟩:=hx.q
 have hul:=qu1 q2
 have hal:=hb1.len
 have hLl:(a.as.map fun z=>V.ref z.o).length=as'.length+1:=by rw[ea];simp
 walk_at"3"
 walk_at"17"
 refine M9 #[52,h.l] (v:=.ref x.o) (Q9 hLl (by rw[ea];simp)) ?_
 walk_at"3"
 lk
 refine⟨.inl ⟨rfl,_,SqL.of h.l⟩,?_⟩
 lk
 refine xw6 ?_
 walk_at"27"
 refine⟨x.o,_,x.x,_,_,rfl,hx.o,cz.cl_Branch,cz.na_Branch_place,rfl,?_⟩
 walk_at"27"
 walk_at"15"
 refine Q4 (.inl #[52,q1]) ?_
 rw[hul]
 lk
 refine⟨E5 (by z_go),fun p1 h1=>?_⟩
 have s1:=A7.new h1 (.tup [.int b0.ps.length])
 refine wq4 (s1.sqT hx.p) (SqT.of A6) (by rw[qm9];exact E5 (by show _+1<=_;omega)) fun p2 H2 s2 hp2=>?_
 rw[show qd7 b0.pl++[V.int b0.ps.length]=qd7 (b0.pl++[(b0.ps.length:Int)]) by simp[qd7]] at hp2
 have s12:=A7.tr s1 s2
 lk
 intro o dx ho hdx ne
 have s3:A7 H2 #[31]:=fun z u e=>by rw[B8 (fun y=>by rw[y,ho] at e;cases e),B8 (fun y=>by rw[y,hdx] at e;cases e)];exact e
 have g3:C8 H2 #[31]:=C8.tr C8.upd C8.upd
 have e3:#[31] o=some (.ins k_Branch dx []):=A6
 generalize upd (upd H2 dx (.own o)) o (.ins k_Branch dx [])=H3 at *
 refine⟨k_Branch,o,dx,p2,n,_,rfl,cz.ns_Branch,e3,s3.sqT hp2,fun qq ww H4 hq hw hqw bt hB g4=>⟨rfl,?_⟩⟩
 have s4:A7 H2 H4:=fun z u e=>bt z u (s3 z u e) (by simp;intro y;rw[y,ho] at e;cases e)
 have s14:=A7.tr s12 s4
 lk
 refine L4 (s14 _ _ h.l) (by rw[hLl,sizeLine_eq];omega) ?_
 have nH:∀ z,H2 z=none->H z=none:=A7.grow s12
 have fq:∀ z∈BA.fp ⟨o,dx,p2,qq,ww⟩,H z=none:=fun z hz=>by
  simp only[BA.fp,mem_cons,not_mem_nil,or_false] at hz
  rcases hz with rfl|rfl|rfl
  ·exact nH _ ho
  ·exact nH _ (g3 _ hq)
  ·exact nH _ (g3 _ hw)
 have nd:(BA.fp ⟨o,dx,p2,qq,ww⟩).Nodup:=by
  have n1:o≠qq:=fun y=>by rw[<-y,e3] at hq;cases hq
  have n2:o≠ww:=fun y=>by rw[<-y,e3] at hw;cases hw
  simp[BA.fp,n1,n2,hqw]
 have hp:=h.push s14 hB fq nd
 rw[map_append] at hp
 refine q _ _ ⟨hp,fun c u e nc=>?_,fun z hz=>?_⟩ (C8.tr (C8.tr (C8.tr (A7.grow s12) g3) g4) C8.upd)
 ·rw[B8 (fun y=>nc (by rw[y];simp[RAd.fp]))];exact s14 c u e
 ·have:z∈RAd.fp r a\/z∈BA.fp ⟨o,dx,p2,qq,ww⟩:=by
   simp only[RAd.fp,R8,mem_cons,mem_append] at hz ⊢
   rcases hz with h|h|h|h|h|h
   ·exact .inl (.inl h)
   ·exact .inl (.inr (.inl h))
   ·exact .inl #[96,.inl h]
   ·exact .inl #[96,.inr (.inl h)]
   ·exact .inl #[96,.inr (.inr h)]
   ·exact .inr (by simpa [fpA] using h)
  exact this.imp id fun h=>fq z h
def X3(K:Fg):Sp:=fun vs H Q _=>∃ (a:Addr) (ns:List Int) (k:Int),vs=[.ref a,.int k]/\SqL K H a (ns.map V.int)/\0<=k/\∀ n:Int,Q (.int n) H
def qg6(K:Fg):TS :=
 (C1 (S3 (G0 (tOp xv7 (A2 1) (tCB (N6 K) #[3,0])))
 (L6 (tOp (L5 K) (A2 0) (A2 1))) Q5)
 (L6 #[2,0]))
theorem xd4(h:X3 K vs H Q E):qg6 K {nx:=fun _ H'=>Q .non H',rt:=Q} (E2 ["_law_script","_law_k"] vs) H:=by
 obtain⟨a,ns,k,rfl,hS,h0,q⟩:=h
 show qg6 K _ [some (.ref a),some (.int k)] H
 unfold qg6
 lk
 refine Q4 (.inl hS) ?_
 lk
 rw[length_map]
 by_cases hk:k<(ns.length:Int)
 ·rw[decide_eq_true hk];refine qt5 ?_
  have hk':k.toNat<ns.length:=by omega
  lk
  refine M9 hS (v:=.int ns[k.toNat]) ?_ (q _)
  have ek:k=((k.toNat:Nat):Int):=by omega
  have e:atI (ns.map V.int) ((k.toNat:Nat):Int)=some (.int ns[k.toNat]):=Y0 (by rw[List.getElem?_map,List.getElem?_eq_getElem hk'] <;> rfl)
  rw[<-ek] at e
  exact e
 ·rw[decide_eq_false hk];refine qd5 ?_
  exact q 0
end
theorem yp6{α:Type}[BEq α][LawfulBEq α]:∀ {l m:List α},l.Nodup->(∀ x∈l,x∈m)->l.length<=m.length
 | [],_,_,_=>Nat.zero_le _
 | x::l,m,hn,hs=>by
   rw[nodup_cons] at hn
   have hm:=hs x (by simp)
   have h2:∀ y∈l,y∈m.erase x:=fun y hy=>(mem_erase_of_ne (fun e=>hn.1 (by rw[<-e];exact hy))).mpr (hs y (by simp[hy]))
   have:=yp6 hn.2 h2
   have e:=length_erase_of_mem hm
   have hp:=length_pos_of_mem hm
   rw[length_cons];omega
def X6(K:Fg):Sp:=fun vs H Q _=>∃ c k:Int,vs=[.int c,.int k]/\0<=k/\k<=1000/\∀ n:Int,0<=n->Q (.int n) H
def qp4(K:Fg):TS :=
 (C1 (E3 (tOp (rI ya7 fun i j=>.int (i / j)) (A2 0) #[2,2]) (B6 2))
 (C1 (S3 (G0 (tOp (qd0 K) (tOp #[15] (A2 0) #[2,2]) #[2,0]))
 (L6 (tOp #[15] (tOp (rI (fun _ j=>0<=j) fun i j=>.int (i / 2 ^ j.toNat)) (A2 2) (tOp qy3 #[2,64] (A2 1))) (tOp (rI yz0 fun i j=>.int (i*2 ^ j.toNat)) #[2,1] #[2,64]))) Q5)
 (C1 (E3 (tOp (J6 K) (tOp #[15] (A2 2) #[2,2147483647]) (tOp qy3 #[2,48271] #[92,1])) (B6 3))
 (C1 (E3 (tOp #[15] (tOp (J6 K) (tOp qy3 (A2 3) (A2 3)) (tOp qy3 #[2,69621] (A2 1))) #[2,2147483647]) (B6 3))
 (L6 (tOp #[15] (tOp (J6 K) (tOp (J6 K) (tOp qy3 (A2 3) (A2 3)) (tOp qy3 #[2,16807] (A2 1))) #[2,1]) #[2,2147483629]))))))
theorem xn8(h:X6 K vs H Q E):qp4 K {nx:=fun _ H'=>Q .non H',rt:=Q} (E2 ["_law_cell","_law_k","_law_half","_law_number"] vs) H:=by
 obtain⟨c,k,rfl,hk0,hk1,q⟩:=h
 show qp4 K _ [some (.int c),some (.int k),none,none] H
 unfold qp4
 lk
 by_cases hc:c % 2=0
 ·rw[decide_eq_true hc];refine qt5 ?_
  lk
  refine wh7 #[114] ?_
  refine zr3 #[0] ?_
  lk
  refine zr4 ⟨by decide,by decide,by decide⟩ ?_
  refine zb8 #[10] ?_
  exact q _ (Int.emod_nonneg _ #[10])
 ·rw[decide_eq_false hc];refine qd5 ?_
  lk
  refine wh7 #[114] ?_
  lk
  have a0:=Int.emod_nonneg (c / 2) (show(2147483647:Int)≠0 by decide)
  have a1:=Int.emod_lt_of_pos (c / 2) (show(0:Int)<2147483647 by decide)
  generalize hm:c / 2 % 2147483647+48271*(k+1)=m at *
  refine wh7 (.inl ⟨by omega,by omega⟩) ?_
  lk
  refine wh7 #[114] ?_
  lk
  have b0:=Int.emod_nonneg (m*m+69621*k) (show(2147483647:Int)≠0 by decide)
  have b1:=Int.emod_lt_of_pos (m*m+69621*k) (show(0:Int)<2147483647 by decide)
  generalize hm2:(m*m+69621*k) % 2147483647=m2 at *
  refine wh7 (.inl ⟨by omega,by omega⟩) ?_
  lk
  refine wh7 #[114] ?_
  lk
  exact q _ (Int.emod_nonneg _ #[10])
def Sg(ns:List Int):Prop:=(∀ x∈ns,0<=x/\x<26)/\1<=ns.length/\ns.length<=8
def T1(K:Fg):Sp:=fun vs H Q _=>∃ n:Int,vs=[.int n]/\∀ (p:Addr) (ns:List Int) (H':Hp),A7 H H'->H p=none->H' p=some (.lst (qd7 ns))->Sg ns->Q (.ref p) H'
def qg7(K:Fg):TS :=
 (C1 #[121,1]
 (C1 (E3 (tOp (J6 K) #[2,1] (tOp #[15] (A2 0) #[2,8])) (B6 2))
 (C1 (E3 (tOp (rI ya7 fun i j=>.int (i / j)) (A2 0) #[2,8]) (B6 0))
 (C1 (qr1 (xq4 #[3,2]) (B6 3)
 (C1 (E9 (tBM K "list" J9 (A2 1) (A1 (tOp #[15] (A2 0) #[2,26]) A9)))
 (E3 (tOp (rI ya7 fun i j=>.int (i / j)) (A2 0) #[2,26]) (B6 0))))
 (L6 (A2 1))))))
theorem xd5(h:T1 K vs H Q E):qg7 K {nx:=fun _ H'=>Q .non H',rt:=Q} (E2 ["_law_number","_law_signs","_law_width","_law_j"] vs) H:=by
 obtain⟨n,rfl,q⟩:=h
 show qg7 K _ [some (.int n),none,none,none] H
 unfold qg7
 lk
 refine⟨E5 (by z_go),fun d hd=>?_⟩
 lk
 have a0:=Int.emod_nonneg n (show(8:Int)≠0 by decide)
 have a1:=Int.emod_lt_of_pos n (show(0:Int)<8 by decide)
 generalize hm:(1:Int)+n % 8=m at *
 refine yb9 #[0] #[0] (fun i σ H'=>∃ (y:Int) (a:Option V) (ns:List Int),σ=[some (.int y),some (.ref d),some (.int m),a]/\A7 H H'/\H' d=some (.lst (qd7 ns))/\ns.length=i/\∀ x∈ns,0<=x/\x<26) ⟨_,none,[],rfl,A7.new hd _,A6,rfl,by simp⟩ ?_ ?_
 ·rintro i σ H' hi ⟨y,a,ns,rfl,s1,h1,hl,hns⟩
  lk
  refine⟨.inl ⟨rfl,_,SqL.of h1⟩,?_⟩
  lk
  refine L4 h1 (by rw[qm9,sizeLine_eq];omega) ?_
  lk
  refine⟨_,_,ns++[y % 26],rfl,A7.put s1 hd _,by rw[<-zd7];exact A6,by simp[hl],fun x hx=>?_⟩
  rcases mem_append.mp hx with h|h
  ·exact hns x h
  ·rw[mem_singleton.mp h];exact⟨Int.emod_nonneg _ #[10],Int.emod_lt_of_pos _ #[10]⟩
 ·rintro σ H' ⟨y,a,ns,rfl,s1,h1,hl,hns⟩
  lk
  exact q d ns H' s1 hd h1 ⟨hns,by omega,by omega⟩
def xw9(K:Fg):TS :=
 (C1 (E3 (tBM K "str" (zq5 K) (tC (.str "")) (A1 (qu0 [some 1,none] (qy5 K (A2 4)) (B6 1) tTT (tOp (L5 K) (A2 0) (A2 1))) A9)) (B6 5))
 (C1 (E3 (qu0 [some 2,none] (zl6 (A2 1)) (B6 1) (G0 (tOp (wq3 K true) (tOp qy3 (A2 1) #[2,8]) (A2 0))) (tOp qy3 (A2 1) #[2,8])) (B6 6))
 (E9 (tBM K "list" J9 (A2 2) (A1 (tOp (L5 K) (W1 (A1 (A2 5) (A1 #[70,6] A9))) (tCB za9 (A1 (tOp (wq3 K false) (A2 5) (tOp (J6 K) (A2 2) (W1 (A1 (tC (.str "bars")) (A1 (tC (.str "shuts")) A9))))) A9))) A9)))))
def xx0(K:Fg):TS :=
 (C1 (S3 (G0 (tOp (qd0 K) (tOp #[15] (A2 0) #[2,4]) #[2,3]))
 (C1 (E3 (tSl (wg2 K) (D8 (T1 K) [] E0 (A1 (tOp (J6 K) #[2,7] (tOp qy3 #[2,8] (D8 (X6 K) [] E0 (A1 (A2 0) (A1 #[2,2] A9))))) A9)) X9 (U8 (tOp (J6 K) (tOp #[15] (A2 3) #[2,8]) #[2,1]))) (B6 4))
 (E3 (tOp #[15] (tOp (J6 K) #[70,4] (tCB za9 (A1 (tOp xn6 (A2 3) #[2,7]) A9))) #[2,26]) (yh3 (A2 4) #[2,0] xr7))) Q5)
 (xw9 K))
structure Nms(names:List Str):Prop where
 nd:names.Nodup
 ne:∀ x∈names,x≠("":Str)
 le:∀ x∈names,x.length<=8
 lt:∀ x∈names,∀ c∈x.cps.toList,97<=c/\c<=122
theorem zm9(c:Nat):PySem.Txt.mul (ch c) 8≠("":Str):=fun e=>by
 have h1:(PySem.Txt.mul (ch c) 8).cps.toList=List.replicate 8 c:=xi0 #[10]
 rw[e] at h1
 cases h1
theorem ze3{d:Nat}(e:PySem.Txt.mul (ch c) 8=PySem.Txt.mul (ch d) 8):c=d:=by
 have h1:(PySem.Txt.mul (ch c) 8).cps.toList=List.replicate 8 c:=xi0 #[10]
 have h2:(PySem.Txt.mul (ch d) 8).cps.toList=List.replicate 8 d:=xi0 #[10]
 rw[e,h2] at h1
 injection h1 with h1
 exact h1.symm
def qn3(names:List Str)(cs:List Nat):List Str:=(cs.map fun c=>PySem.Txt.mul (ch c) 8).filter fun x=>!decide (x∈names)
theorem ze4:Lt.cps.toList.Nodup:=by decide +kernel
theorem wo1{α β:Type}{f:α->β}(hf:∀ x y,f x=f y->x=y):∀ {l:List α},l.Nodup->(l.map f).Nodup
 | [],_=>by simp
 | x::l,h=>by
   rw[nodup_cons] at h
   rw[map_cons,nodup_cons]
   refine⟨fun hm=>?_,wo1 hf h.2⟩
   obtain⟨y,hy,e⟩:=mem_map.mp hm
   exact h.1 (by rw[<-hf _ _ e];exact hy)
variable{names:List Str}
theorem yw6(h:names.length<26):qn3 names Lt.cps.toList≠[]:=fun e=>by
 unfold qn3 at e
 rw[filter_eq_nil_iff] at e
 have hs:∀ x∈Lt.cps.toList.map (fun c=>PySem.Txt.mul (ch c) 8),x∈names:=fun x hx=>by
  have:=e x hx
  simpa using this
 have:=yp6 (wo1 (fun _ _=>ze3) ze4) hs
 rw[length_map] at this
 have l26:Lt.cps.toList.length=26:=by decide +kernel
 omega
def wrd(ns:List Int):Str:=PySem.Txt.join ("":Str) (ns.map fun x=>ch (97+x.toNat))
theorem zx3(h:1<=ns.length):wrd ns≠("":Str):=fun e=>by
 have e2:(wrd ns).cps.toList=ns.map fun x=>97+x.toNat:=by
  unfold wrd
  have:=xw8 (ns.map fun x=>97+x.toNat)
  rw[map_map] at this
  exact this
 rw[e] at e2
 cases ns with
 | nil=>simp at h
 | cons x l=>cases e2
theorem zx4:∀ e∈Lt.cps.toList,97<=e/\e<=122:=by decide +kernel
theorem zx5(hS:Sg ns):∀ c∈(wrd ns).cps.toList,97<=c/\c<=122:=by
 have e2:(wrd ns).cps.toList=ns.map fun x=>97+x.toNat:=by
  unfold wrd
  have:=xw8 (ns.map fun x=>97+x.toNat)
  rw[map_map] at this
  exact this
 rw[e2]
 intro c hc
 obtain⟨x,hx,rfl⟩:=mem_map.mp hc
 have:=hS.1 x hx
 exact⟨by omega,by omega⟩
theorem ze5(c:Nat):(PySem.Txt.mul (ch c) 8).length=8:=by
 show(PySem.Txt.mul (ch c) 8).cps.size=8
 rw[<-Array.length_toList,xi0 #[10]];rfl
theorem zn0:(wrd ns).length=ns.length:=by
 show(wrd ns).cps.size=_
 rw[<-Array.length_toList]
 unfold wrd
 have:=xw8 (ns.map fun x=>97+x.toNat)
 rw[map_map] at this
 rw[show(PySem.Txt.join ("":Str) (ns.map fun x=>ch (97+x.toNat))).cps.toList=_ from this,length_map]
variable{a5 a6:Option V}
theorem xc2{c:Int}(s0:A7 H0 H)(hd0:H0 d=none)(hd:H d=some #[16,names])(hp:H p=some (.lst (qd7 ns)))(hS:Sg ns)(hN:Nms names)(hl:names.length<12)(q:∀ (x:Str) (b1 b2:Option V) (H':Hp),A7 H0 H'->H' d=some #[16,names++[x]]->Nms (names++[x])->D.nx [some (.int c),some (.str Lt),some (.ref d),some (.int k),some (.ref p),b1,b2] H') :
 xw9 K D [some (.int c),some (.str Lt),some (.ref d),some (.int k),some (.ref p),a5,a6] H:=by
 unfold xw9
 lk
 refine⟨rfl,?_⟩
 lk
 refine xr4 (xs:=qd7 ns) #[52,hp] (fun i ys H'=>H'=H/\ys=B4 ((ns.take i).map fun x=>ch (97+x.toNat))) ⟨rfl,rfl⟩ ?_ ?_ ?_ ?_
 ·rintro i ys H' hi ⟨rfl,rfl⟩
  rw[B7,length_map,length_take]
  have:=hS.2.2
  exact E5 #[0]
 ·rintro i ys H' hi ⟨rfl,rfl⟩
  exact SqL.of hp
 ·rintro i x ys H' hx ⟨rfl,rfl⟩
  unfold qd7 at hx
  rw[List.getElem?_map] at hx
  obtain⟨y,hy,rfl⟩:=Option.map_eq_some_iff.mp hx
  obtain⟨y0,y1⟩:=hS.1 y (mem_of_getElem? hy)
  lk
  refine zr0 (E5 (by rw[zw8];decide)) (Ad8 y0 y1) ?_
  refine⟨rfl,?_⟩
  rw[take_add_one,hy]
  simp[B4,ch]
 ·rintro ys H' ⟨rfl,rfl⟩ l hl'
  rw[qm9,take_length]
  lk
  refine⟨"",l,ns.map fun x=>ch (97+x.toNat),rfl,rfl,.inl #[52,A6],?_,?_⟩
  ·rw[map_map,show("":Str).length=0 from rfl,Nat.mul_zero,Nat.add_zero]
   have:(ns.map ((fun x=>x.length)∘fun x=>ch (97+x.toNat))).sum=ns.length:=by
    clear hp hS hl' q hd
    induction ns with
    | nil=>rfl
    | cons x l ih=>rw[map_cons,sum_cons,ih,length_cons];show 1+_=_;omega
   rw[this]
   have:=hS.2.2
   omega
  have e1:PySem.Txt.join ("":Str) (ns.map fun x=>ch (97+x.toNat))=wrd ns:=rfl
  rw[e1]
  lk
  have hd1:(upd H' l #[16,ns.map fun x=>ch (97+x.toNat)]) d=some #[16,names]:=by rw[B8 (qp3 hd hl')];exact hd
  have s1:A7 H0 (upd H' l #[16,ns.map fun x=>ch (97+x.toNat)]):=A7.tr s0 #[78,hl']
  generalize upd H' l #[16,ns.map fun x=>ch (97+x.toNat)]=H1 at *
  refine yc6 (z:=Lt) (fun i ys H'=>H'=H1/\ys=B4 (qn3 names (Lt.cps.toList.take i))) ⟨rfl,rfl⟩ ?_ ?_ ?_
  ·rintro i ys H' hi ⟨rfl,rfl⟩
   rw[B7]
   have h1:(qn3 names (Lt.cps.toList.take i)).length<=26:=by
    unfold qn3
    refine Nat.le_trans (length_filter_le _ _) ?_
    rw[length_map,length_take]
    have l26:Lt.cps.toList.length=26:=by decide +kernel
    omega
   exact E5 #[0]
  ·rintro i e ys H' he ⟨rfl,rfl⟩
   have hsp:qn3 names (Lt.cps.toList.take (i+1))=qn3 names (Lt.cps.toList.take i)++(if PySem.Txt.mul (ch e) 8∈names then[] else[PySem.Txt.mul (ch e) 8]):=by
    unfold qn3
    rw[take_add_one,he,map_append,filter_append]
    congr 1
    by_cases hm:PySem.Txt.mul (ch e) 8∈names <;> simp[hm]
   lk
   refine zb7 #[10] #[10] (show(1:Nat)<=1000 by decide) ?_
   lk
   refine .inl (xw2 (.inl #[52,hd1]) rfl (T0 _) ?_)
   rw[V3]
   lk
   by_cases hm:PySem.Txt.mul (ch e) 8∈names
   ·rw[show(⟨#[e]⟩:Str)=ch e from rfl,decide_eq_true hm]
    k_go
    refine⟨rfl,?_⟩
    rw[hsp,if_pos hm,append_nil]
   ·rw[show(⟨#[e]⟩:Str)=ch e from rfl,decide_eq_false hm]
    x_go
    lk
    refine zb7 #[10] #[10] (show(1:Nat)<=1000 by decide) ?_
    refine⟨rfl,?_⟩
    rw[hsp,if_neg hm];simp[B4]
  rintro ys H' ⟨rfl,rfl⟩ t ht
  have hls:Lt.cps.toList.take Lt.cps.size=Lt.cps.toList:=take_of_length_le (by rw[Array.length_toList];exact Nat.le_refl _)
  rw[hls]
  have hne:=yw6 (names:=names) #[0]
  obtain⟨x0,xr,hx0⟩:∃ x r,qn3 names Lt.cps.toList=x::r:=by
   cases h:qn3 names Lt.cps.toList with
   | nil=>exact absurd h hne
   | cons x r=>exact⟨x,r,rfl⟩
  have hx0m:x0∈qn3 names Lt.cps.toList:=by rw[hx0];simp
  unfold qn3 at hx0m
  rw[mem_filter] at hx0m
  have hx0n:x0∉names:=by simpa using hx0m.2
  have hx0e:x0≠("":Str):=by
   obtain⟨e,_,he⟩:=mem_map.mp hx0m.1
   rw[<-he];exact zm9 e
  have hx0l:x0.length<=8:=by
   obtain⟨e,_,he⟩:=mem_map.mp hx0m.1
   rw[<-he,ze5];exact Nat.le_refl _
  have hx0t:∀ c∈x0.cps.toList,97<=c/\c<=122:=by
   obtain⟨e,he1,he⟩:=mem_map.mp hx0m.1
   intro c hc
   rw[<-he,xi0 #[10]] at hc
   rw[(mem_replicate.mp hc).2]
   exact zx4 e he1
  rw[hx0]
  lk
  have hd2:(upd H' t #[16,x0::xr]) d=some #[16,names]:=by rw[B8 (qp3 hd1 ht)];exact hd1
  refine⟨.inl ⟨rfl,_,SqL.of hd2⟩,?_⟩
  lk
  refine M9 #[52,A6] (v:=.str x0) (Y0 (j:=0) rfl) ?_
  lk
  refine⟨E5 (by z_go),fun t2 ht2=>?_⟩
  lk
  refine⟨E5 (by z_go),fun t3 ht3=>?_⟩
  lk
  have n32:t3≠t2:=fun e=>by rw[e,A6] at ht3;cases ht3
  have hd3:(upd (upd (upd H' t #[16,x0::xr]) t2 (.lst [.str (wrd ns),.str x0])) t3 (.lst [.str "bars",.str "shuts"])) d=some #[16,names]:=by
   rw[B8 (qp3 (by rw[B8 (qp3 hd2 ht2)];exact hd2) ht3),B8 (qp3 hd2 ht2)];exact hd2
  refine xr6 hd3 A6 (by rw[B7];exact E5 #[86]) fun t4 ht4=>?_
  have ex:B4 names++[V.str "bars",V.str "shuts"]=B4 (names++[("bars":Str),("shuts":Str)]):=by simp[B4]
  refine .inl (xw1 (.inl #[52,A6]) rfl (by rw[ex];exact T0 _) ?_)
  rw[ex,V3]
  lk
  have n42:t2≠t4:=fun e=>by rw[<-e,B8 n32.symm,A6] at ht4;cases ht4
  have hd4:#[25] d=some #[16,names]:=by
   rw[B8 (qp3 hd3 ht4)];exact hd3
  have hq2:#[25] t2=some (.lst [.str (wrd ns),.str x0]):=by
   rw[B8 n42,B8 n32.symm];exact A6
  have s4:A7 H0 #[25] :=
   A7.tr s1 (A7.tr #[78,ht] (A7.tr #[78,ht2] (A7.tr #[78,ht3] #[78,ht4])))
  generalize #[25]=H4 at *
  have app:∀ x:Str,x∉names->x≠("":Str)->x.length<=8->(∀ c∈x.cps.toList,97<=c/\c<=122)->Nms (names++[x]):=fun x hx hxe hxl hxt=>⟨by
   rw[nodup_append];refine⟨hN.nd,by simp,?_⟩
   intro a ha b hb e
   rw[mem_singleton.mp hb] at e
   exact hx (e▸ha),fun y hy=>by
   rcases mem_append.mp hy with h|h
   ·exact hN.ne y h
   ·rw[mem_singleton.mp h];exact hxe,fun y hy=>by
   rcases mem_append.mp hy with h|h
   ·exact hN.le y h
   ·rw[mem_singleton.mp h];exact hxl,fun y hy=>by
   rcases mem_append.mp hy with h|h
   ·exact hN.lt y h
   ·rw[mem_singleton.mp h];exact hxt⟩
  have fin:∀ x:Str,x∉names->x≠("":Str)->x.length<=8->(∀ c∈x.cps.toList,97<=c/\c<=122)->J9 (.ref d) [.str x] H4 (fun _ H1=>D.nx [some (.int c),some (.str Lt),some (.ref d),some (.int k),some (.ref p),some (.str (wrd ns)),some (.ref t)] H1):=fun x hx hxe hxl hxt=>by
   refine L4 hd4 (by rw[B7,sizeLine_eq];omega) ?_
   exact q x _ _ _ (A7.put s4 hd0 _) (by rw[show B4 (names++[x])=B4 names++[V.str x] by simp[B4]];exact A6) (app x hx hxe hxl hxt)
  by_cases hm:wrd ns∈names++[("bars":Str),("shuts":Str)]
  ·rw[decide_eq_true hm]
   refine .inr ⟨true,rfl,?_⟩
   refine M9 #[52,hq2] (v:=.str x0) (Y0 (j:=1) rfl) ?_
   lk
   exact fin x0 hx0n hx0e hx0l hx0t
  ·rw[decide_eq_false hm]
   refine .inr ⟨false,rfl,?_⟩
   refine M9 #[52,hq2] (v:=.str (wrd ns)) (Y0 (j:=0) rfl) ?_
   lk
   exact fin _ (fun h=>hm (mem_append_left _ h)) (zx3 hS.2.1) (by rw[zn0];exact hS.2.2) (zx5 hS)
theorem Sg.set(h:Sg ns)(i:Nat){x:Int}(h0:0<=x)(h1:x<26):Sg (ns.set i x):=by
 refine⟨fun y hy=>?_,by rw[length_set];exact h.2.1,by rw[length_set];exact h.2.2⟩
 rcases mem_or_eq_of_mem_set hy with h' | h'
 ·exact h.1 y h'
 ·rw[h'];exact⟨h0,h1⟩
theorem xc3{c:Int}(s0:A7 H0 H)(hd0:H0 d=none)(hd:H d=some #[16,names])(hp:H p=some (.lst (qd7 ns)))(hS:Sg ns)(hN:Nms names)(hl:names.length<12)(q:∀ (x:Str) (b0 b1 b2:Option V) (H':Hp),A7 H0 H'->H' d=some #[16,names++[x]]->Nms (names++[x])->D.nx [some (.int c),some (.str Lt),some (.ref d),some (.int k),b0,b1,b2] H') :
 xx0 K D [some (.int c),some (.str Lt),some (.ref d),some (.int k),some (.ref p),a5,a6] H:=by
 unfold xx0
 lk
 by_cases h4:c % 4=3
 ·rw[decide_eq_true h4];refine qt5 ?_
  lk
  refine⟨c,2,rfl,by decide,by decide,fun m hm=>?_⟩
  refine wh7 #[114] ?_
  lk
  refine⟨_,rfl,fun p1 ns1 H1 s1 hp1 h1 hS1=>?_⟩
  lk
  refine .inr (.inr ⟨p1,_,rfl,SqL.of h1,fun p2 hp2=>?_⟩)
  obtain⟨u,hu⟩:∃ u:Nat,(k:Int) % 8+1=(u:Int)/\1<=u:=⟨((k:Int) % 8+1).toNat,by omega,by omega⟩
  have ec:qg4 (qd7 ns1) none (some ((k:Int) % 8+1))=qd7 (ns1.take u):=by
   unfold qg4
   rw[hu.1,HT.qp0]
   show((qd7 ns1).drop 0).take (min u (qd7 ns1).length-0)=_
   rw[drop_zero,Nat.sub_zero]
   unfold qd7
   rw[map_take,length_map]
   by_cases hh:u<=ns1.length
   ·rw[Nat.min_eq_left hh]
   ·rw[Nat.min_eq_right #[0],take_of_length_le (by rw[length_map];exact Nat.le_refl _),take_of_length_le (by rw[length_map];omega)]
  rw[ec]
  have hS2:Sg (ns1.take u):=⟨fun x hx=>hS1.1 x (mem_of_mem_take hx),by rw[length_take];have:=hS1.2.1;omega,by rw[length_take];have:=hS1.2.2;omega⟩
  generalize ns1.take u=ns2 at *
  have hd2:(upd H1 p2 (.lst (qd7 ns2))) d=some #[16,names]:=by rw[B8 (qp3 (s1 _ _ hd) hp2)];exact s1 _ _ hd
  have npd:p2≠d:=(qp3 (s1 _ _ hd) hp2).symm
  lk
  refine M9 #[52,A6] (v:=.int (ns2[0]'hS2.2.1)) (Y0 (j:=0) (yp2 hS2.2.1)) ?_
  lk
  refine .inr ⟨_,rfl,?_⟩
  lk
  refine .inl (xh3 A6 (j:=0) (Ad9 (by rw[qm9];exact hS2.2.1)) ?_)
  rw[yd5]
  refine xc2 (H0:=H0) ?_ hd0 ?_ A6 (hS2.set 0 (Int.emod_nonneg _ #[10]) (Int.emod_lt_of_pos _ #[10])) hN hl fun x b1 b2 H'=>q x _ b1 b2 H'
  ·exact A7.put (A7.tr s0 (A7.tr s1 #[78,hp2])) (A7.free s0 (A7.free s1 hp2)) _
  ·rw[B8 npd.symm];exact hd2
 ·rw[decide_eq_false h4];refine qd5 ?_
  lk
  exact xc2 s0 hd0 hd hp hS hN hl fun x b1 b2 H'=>q x _ b1 b2 H'
def ql9(K:Fg):Sp:=fun vs H Q _=>∃ c:Int,vs=[.int c]/\∀ (d:Addr) (names:List Str) (H':Hp),A7 H H'->H d=none->H' d=some #[16,names]->names.length=12->Nms names->Q (.ref d) H'
def qp5(K:Fg):TS :=
 (C1 (E3 (tC (.str "abcdefghijklmnopqrstuvwxyz")) (B6 1))
 (C1 #[121,2]
 (C1 (qr1 (xq4 (A1 #[2,12] A9)) (B6 3)
 (C1 (E3 (D8 (T1 K) [] E0 (A1 (tOp #[15] (tOp (rI (fun _ j=>0<=j) fun i j=>.int (i / 2 ^ j.toNat)) (tOp (rI ya7 fun i j=>.int (i / j)) (A2 0) #[2,2]) (tOp qy3 #[2,41] (A2 3))) (tOp (rI yz0 fun i j=>.int (i*2 ^ j.toNat)) #[2,1] #[2,41])) A9)) (B6 4))
 (C1 (S3 (G0 (tOp (qd0 K) (tOp #[15] (A2 0) #[2,2]) #[2,1]))
 (C1 (E3 (D8 (T1 K) [] E0 (A1 (D8 (X6 K) [] E0 (A1 (A2 0) (A1 #[2,1] A9))) A9)) (B6 4))
 (E3 (tOp #[15] (tOp (J6 K) #[33,4] (A2 3)) #[2,26]) (yh3 (A2 4) #[12] xr7))) Q5)
 (xx0 K))))
 (L6 (A2 2)))))
theorem xn9(h:ql9 K vs H Q E):qp5 K {nx:=fun _ H'=>Q .non H',rt:=Q} (E2 ["_law_cell","_law_letters_here","_law_names_here","_law_k","_law_signs","_law_name","_law_spare"] vs) H:=by
 obtain⟨c,rfl,q⟩:=h
 show qp5 K _ [some (.int c),none,none,none,none,none,none] H
 unfold qp5
 lk
 refine⟨E5 (by z_go),fun d hd=>?_⟩
 lk
 refine yb9 #[10] #[10] (fun i σ H'=>∃ (a3 a4 a5 a6:Option V) (names:List Str),σ=[some (.int c),some (.str Lt),some (.ref d),a3,a4,a5,a6]/\A7 H H'/\H' d=some #[16,names]/\names.length=i/\Nms names) ⟨none,none,none,none,[],rfl,A7.new hd _,A6,rfl,⟨by simp,by simp,by simp,by simp⟩⟩ ?_ ?_
 ·rintro i σ H' hi ⟨a3,a4,a5,a6,names,rfl,s1,h1,hl,hN⟩
  lk
  refine wh7 #[114] ?_
  refine zr3 #[0] ?_
  lk
  refine zr4 ⟨by decide,by decide,by decide⟩ ?_
  refine zb8 #[10] ?_
  lk
  refine⟨_,rfl,fun p ns H2 s2 hp hp2 hS=>?_⟩
  lk
  have fin:∀ (x:Str) (b0 b1 b2:Option V) (H':Hp),A7 H H'->H' d=some #[16,names++[x]]->Nms (names++[x])->(fun σ H'=>∃ (a3 a4 a5 a6:Option V) (names:List Str),σ=[some (.int c),some (.str Lt),some (.ref d),a3,a4,a5,a6]/\A7 H H'/\H' d=some #[16,names]/\names.length=i+1/\Nms names) [some (.int c),some (.str Lt),some (.ref d),some (.int i),b0,b1,b2] H' :=
   fun x b0 b1 b2 H' s h n=>⟨_,_,_,_,_,rfl,s,h,by simp[hl],n⟩
  by_cases h2:c % 2=1
  ·rw[decide_eq_true h2];refine qt5 ?_
   lk
   refine⟨c,1,rfl,by decide,by decide,fun m hm=>?_⟩
   lk
   refine⟨_,rfl,fun p1 ns1 H3 s3 hp1 h3 hS1=>?_⟩
   have hd3:=s3 _ _ (s2 _ _ h1)
   have npd:p1≠d:=(qp3 (s2 _ _ h1) hp1).symm
   walk_at"17"
   refine M9 #[52,h3] (yp3 (by rw[qm9];exact hS1.2.1) (by rw[qm9];exact yp2 (by have:=hS1.2.1;omega))) ?_
   walk_at"17"
   refine .inl (xh3 h3 (yd6 (by rw[qm9];exact hS1.2.1)) ?_)
   rw[yd5]
   refine xc3 (H0:=H) ?_ hd ?_ A6 (hS1.set _ (Int.emod_nonneg _ #[10]) (Int.emod_lt_of_pos _ #[10])) hN #[0] fin
   ·exact A7.put (A7.tr s1 (A7.tr s2 s3)) (A7.free s1 (A7.free s2 hp1)) _
   ·rw[B8 npd.symm];exact hd3
  ·rw[decide_eq_false h2];refine qd5 ?_
   lk
   exact xc3 (H0:=H) (A7.tr s1 s2) hd (s2 _ _ h1) hp2 hS hN #[0] fin
 ·rintro σ H' ⟨a3,a4,a5,a6,names,rfl,s1,h1,hl,hN⟩
  lk
  exact q d names H' s1 hd h1 hl hN
def gd(l:List Str)(i:Nat):Str:=l.getD i ("":Str)
def xi6(x:Str):Prop:=x=("bare":Str)\/x=("plain":Str)\/x=("anew":Str)\/x=("room":Str)\/x=#[53]
theorem qk7{l:List Str}{i:Nat}(h:i<l.length):l[i]?=some (gd l i):=by
 unfold gd;rw[getD_eq_getElem?_getD];simp[h]
theorem zx6{l:List Str}{i:Nat}(h:i<l.length):gd l i∈l:=mem_of_getElem? (qk7 h)
variable{j:Nat}
theorem ze6(hn:names.Nodup){i:Nat}(hi:i<names.length)(hj:j<names.length)(e:gd names i=gd names j):i=j:=by
 have e1:gd names i=names[i]:=by have:=qk7 hi;rw[List.getElem?_eq_getElem hi] at this;exact(Option.some.inj this).symm
 have e2:gd names j=names[j]:=by have:=qk7 hj;rw[List.getElem?_eq_getElem hj] at this;exact(Option.some.inj this).symm
 have h1:=hn.idxOf_getElem i hi
 have h2:=hn.idxOf_getElem j hj
 rw[<-e1,e,e2,h2] at h1
 exact h1.symm
theorem qn4{xs:List Str}{i:Nat}(h:i<xs.length):atI (B4 xs) ((i:Nat):Int)=some (.str (gd xs i)):=Y0 (by unfold B4;rw[List.getElem?_map,qk7 h];rfl)
def yd9(js:List Nat):List V:=js.map fun(j:Nat)=>.int (j:Int)
def Ae2(x:Str):Prop:=x=("plain":Str)\/x=#[53]
instance (x:Str):Decidable (Ae2 x):=inferInstanceAs (Decidable (_\/_))
theorem ye0:∀ xs:List Str,Q8 (sDa xs)=true
 | []=>by show Q8 []=true;rw[Q8]
 | x::xs=>by show Q8 (.str x::sDa xs)=true;rw[Q8,ye0 xs,fix];rfl
theorem zn1(r:Row):fix r.da=true:=by
 unfold Row.da
 simp[fix,Q8,ye0]
theorem ye1:∀ rs:List Row,Q8 (rs.map Row.da)=true
 | []=>by show Q8 []=true;rw[Q8]
 | r::rs=>by show Q8 (r.da::rs.map Row.da)=true;rw[Q8,zn1,ye1 rs];rfl
structure Boo(rs:List Row):Prop where
 l1:1<=rs.length
 l2:rs.length<=12
 nd:(rs.map (·.name)).Nodup
 ne:∀ r∈rs,r.name≠("":Str)
 rk:∃ rk:Str->Nat,(∀ r∈rs,rk r.name<12)/\∀ r∈rs,r.sort=#[53]->(∃ r'∈rs,r'.name=r.host/\Ae2 r'.sort)/\rk r.name<rk r.host
 noh:∀ r∈rs,r.sort≠#[53]->r.host=("":Str)
 uq:∀ r∈rs,∀ r'∈rs,r.sort=#[53]->r'.sort=#[53]->r.host=r'.host->r.name=r'.name
 srt:∀ r∈rs,xi6 r.sort
 nosh:∀ r∈rs,∀ x∈r.shuts,∀ f∈rs,f.sort=#[53]->f.host≠x
theorem Rws.same(h:Rws K H v rs)(s:A7 H H'):Rws K H' v rs:=by
 obtain⟨a,vs,rfl,hq,hd⟩:=h
 exact⟨a,vs,rfl,hq.imp s.sqL s.sqT,Dvs.same s _ _ hd⟩
variable{r:Row}
theorem wi7(h:qb1 rs (some n)=some r):r∈rs/\r.name=n:=by
 refine⟨mem_of_find?_eq_some h,?_⟩
 have:=find?_some h
 simpa using this
theorem xx1(h:∃ r∈rs,r.name=n):∃ r,qb1 rs (some n)=some r/\r∈rs/\r.name=n:=by
 cases e:qb1 rs (some n) with
 | none =>
   obtain⟨r,hr,hn⟩:=h
   have:=find?_eq_none.mp e r hr
   simp[hn] at this
 | some r=>exact⟨r,rfl,wi7 e⟩
theorem zx7(nd:(rs.map (·.name)).Nodup){r':Row}(h:r∈rs)(h':r'∈rs)(e:r.name=r'.name):r=r':=by
 induction rs with
 | nil=>cases h
 | cons x l ih =>
   rw[map_cons,nodup_cons] at nd
   rcases mem_cons.mp h with h|h
   ·rcases mem_cons.mp h' with h' | h'
    ·rw[h,h']
    ·exact absurd (mem_map.mpr ⟨r',h',by rw[<-e,h]⟩) nd.1
   ·rcases mem_cons.mp h' with h' | h'
    ·exact absurd (mem_map.mpr ⟨r,h,by rw[e,h']⟩) nd.1
    ·exact ih nd.2 h h'
theorem yw7(nd:(rs.map (·.name)).Nodup)(h:r∈rs):qb1 rs (some r.name)=some r:=by
 obtain⟨r',e,h',en⟩:=xx1 ⟨r,h,rfl⟩
 rw[e,zx7 nd h' h en]
def L0(rs:List Row)(n:Str):Bool:=match qb1 rs (some n) with|none=>false|some r=>decide (r.sort∈[("room":Str),#[53]])
def O4(rs:List Row)(ns:List Str):List Str:=ns.foldl (fun acc n=>if L0 rs n then[] else acc++[n]) []
theorem wm0(rs:List Row)(ns:List Str)(n:Str):O4 rs (ns++[n])=if L0 rs n then[] else O4 rs ns++[n]:=by
 unfold O4;rw[foldl_append];rfl
theorem qz0(rs:List Row):∀ (k:Nat) (ns:List Str),ns.length=k->(O4 rs ns).length<=k
 | 0,ns,h=>by rw[length_eq_zero_iff.mp h];exact Nat.le_refl _
 | k+1,ns,h=>by
   have hp:ns≠[]:=fun e=>by rw[e] at h;cases h
   rw[<-dropLast_concat_getLast hp,wm0]
   have:=qz0 rs k ns.dropLast (by rw[length_dropLast];omega)
   split
   ·exact Nat.zero_le _
   ·rw[length_append,length_singleton];omega
theorem xx2(h:Dv K H r.da v):∃ b ps pb,v=.ref b/\SqT K H b [.str r.name,.str r.sort,.str r.host,.ref ps,.ref pb]/\SqT K H ps (B4 r.shuts)/\SqT K H pb (B4 r.bars):=by
 obtain⟨b,sv,bv,rfl,hb,h1,h2⟩:=qy9 h
 obtain⟨ps,vs,rfl,q1,d1⟩:=D7.mp h1
 obtain⟨pb,ws,rfl,q2,d2⟩:=D7.mp h2
 rw[Z9.mp d1] at q1
 rw[Z9.mp d2] at q2
 exact⟨b,ps,pb,rfl,hb,q1,q2⟩
def V7(ys:List Str):Str:=gd ys (ys.length-1)
def qg8(rs:List Row):Nat->Option Str->List Str
 | 0,_=>[]
 | k+1,n=>match R7 rs n with
   | none=>[]
   | some y=>y::qg8 rs k (some y)
def zx8(rs:List Row)(rk:Str->Nat):Prop:=∀ x y,R7 rs (some x)=some y->rk x<rk y/\rk y<12
theorem Boo.rise(B:Boo rs):∃ rk,zx8 rs rk:=by
 obtain⟨rk,h1,h2⟩:=B.rk
 refine⟨rk,fun x y e=>?_⟩
 unfold R7 at e
 cases er:qb1 rs (some x) with
 | none=>rw[er] at e;cases e
 | some r =>
   rw[er] at e
   obtain⟨hr,hn⟩:=wi7 er
   by_cases hf:r.sort=#[53]
   ·have e:some r.host=some y:=by simpa [hf] using e
    injection e with e
    obtain⟨⟨r',hr',en,_⟩,h⟩:=h2 r hr hf
    subst e hn
    exact⟨h,by rw[<-en];exact h1 r' hr'⟩
   ·simp[hf] at e
theorem xi7{rs:List Row}{rk:Str->Nat}(f:zx8 rs rk):∀ (k m:Nat) (x:Str),12-rk x<=k->k<=m->qg8 rs m (some x)=qg8 rs k (some x)
 | k, 0, x, h, hm => by have:k=0:=by omega
                        rw[this]
 | k,m+1,x,h,hm=>by
   cases e:R7 rs (some x) with
   | none =>
     have e1:∀ k,qg8 rs k (some x)=[]:=fun k=>by cases k with|zero=>rfl|succ k=>rw[qg8,e]
     rw[e1,e1]
   | some y =>
     obtain⟨hy,hy2⟩:=f x y e
     cases k with
     | zero=>omega
     | succ k =>
       rw[qg8,e,qg8,e]
       show y::qg8 rs m (some y)=y::qg8 rs k (some y)
       rw[xi7 f k m y #[0] #[0]]
def M6(rs:List Row)(x:Str):List Str:=qg8 rs 12 (some x)
theorem qk8(rs:List Row):∀ (k:Nat) (n:Option Str),(qg8 rs k n).length<=k
 | 0,_=>Nat.le_refl _
 | k+1,n=>by
   rw[qg8]
   split
   ·exact Nat.zero_le _
   ·rw[length_cons];have:=qk8 rs k;exact Nat.succ_le_succ (this _)
theorem xi8(e:R7 rs (some x)=none):M6 rs x=[]:=by
 unfold M6;rw[qg8,e]
theorem xi9(f:zx8 rs rk)(e:R7 rs (some x)=some y):M6 rs x=y::M6 rs y:=by
 unfold M6
 rw[qg8,e]
 show y::qg8 rs 11 (some y)=y::qg8 rs 12 (some y)
 obtain⟨h1,h2⟩:=f x y e
 rw[xi7 f 11 12 y #[0] #[0]]
def P5(K:Fg):Sp:=fun vs H Q _=>∃ (a:Addr) (ys:List Str),vs=[.ref a]/\(SqL K H a (B4 ys)\/SqT K H a (B4 ys))/\Q (.str (V7 ys)) H
def qa2(K:Fg):TS :=
 (L6 (tIf (G0 (tOp xn6 (tCB (N6 K) #[3,0]) #[2,0])) #[33,0] (tC (.str ""))))
theorem wu4(h:P5 K vs H Q E):qa2 K {nx:=fun _ H'=>Q .non H',rt:=Q} (E2 ["names"] vs) H:=by
 obtain⟨a,ys,rfl,hq,q⟩:=h
 show qa2 K _ [some (.ref a)] H
 unfold qa2
 lk
 refine Q4 hq ?_
 rw[B7]
 lk
 by_cases h0:(0:Int)<(ys.length:Int)
 ·rw[decide_eq_true h0]
  x_go
  walk_at"17"
  have e1:(B4 ys)[(B4 ys).length-1]?=some (.str (V7 ys)):=by
   rw[B7];unfold B4 V7;rw[List.getElem?_map,qk7 #[0]];rfl
  have e2:=yp3 (by rw[B7];omega) e1
  rcases hq with hq|hq
  ·exact M9 hq e2 q
  ·exact W6 hq e2 q
 ·rw[decide_eq_false h0]
  k_go
  lk
  have:ys=[]:=length_eq_zero_iff.mp #[0]
  subst this
  exact q
def X4(K:Fg):Sp:=fun vs H Q _=>∃ (v:V) (x:Str) (rs:List Row),vs=[v,.str x]/\Rws K H v rs/\Boo rs/\∀ (p:Addr) (H':Hp),A7 H H'->SqT K H' p (B4 (M6 rs x))->Q (.ref p) H'
def qg9(K:Fg):TS :=
 (C1 #[121,2]
 (C1 (E3 (D8 (qr4 K) [] E0 (A1 (A2 0) #[3,1])) (B6 3))
 (C1 (wb5 (G0 (tOp wl8 (A2 3) (tC .non)))
 (C1 (E9 (tBM K "list" J9 (A2 2) #[3,3]))
 (E3 (D8 (qr4 K) [] E0 (A1 (A2 0) #[3,3])) (B6 3))))
 (L6 (tCB (ql7 K) #[3,2])))))
theorem xd6(h:X4 K vs H Q E):qg9 K {nx:=fun _ H'=>Q .non H',rt:=Q} (E2 ["book","name","hosts","host"] vs) H:=by
 obtain⟨v,x,rs,rfl,hR,B,q⟩:=h
 show qg9 K _ [some v,some (.str x),none,none] H
 unfold qg9
 obtain⟨rk,f⟩:=B.rise
 lk
 refine⟨E5 (by z_go),fun d hd=>?_⟩
 lk
 refine⟨v,some x,rs,rfl,hR.same #[78,hd],?_⟩
 lk
 refine ya6 (fun σ H'=>∃ (n:Option Str) (ys:List Str),σ=[some v,some (.str x),some (.ref d),some (oV n)]/\A7 H H'/\H' d=some #[16,ys]/\M6 rs x=ys++(match n with|none=>[]|some y=>y::M6 rs y)/\ys.length<=12/\∀ y,n=some y->∃ x,R7 rs (some x)=some y)
  (fun σ _=>match σ with | [_,_,_,some (.str y)]=>13-rk y|_=>0) ?_ ?_ ?_
 ·refine⟨R7 rs (some x),[],rfl,A7.new hd _,A6,?_,Nat.zero_le _,fun y e=>⟨x,e⟩⟩
  cases e:R7 rs (some x) with
  | none=>rw[xi8 e];rfl
  | some y=>rw[xi9 f e];rfl
 ·rintro σ H' ⟨n,ys,rfl,s1,h1,eh,hl,hn⟩
  have hlen:(M6 rs x).length<=12:=qk8 rs 12 _
  cases n with
  | none =>
    refine⟨_,rfl,rfl,_,rfl,?_⟩
    show(if(!decide (V.non=V.non))=true then _ else _)
    rw[decide_eq_true rfl,Bool.not_true];refine qd5 ?_
    lk
    refine⟨d,_,rfl,.inl ⟨SqL.of h1,fun p hp=>?_⟩⟩
    have:M6 rs x=ys:=by rw[eh];exact append_nil _
    exact q p _ (A7.tr s1 #[78,hp]) (by rw[this];exact SqT.of A6)
  | some y =>
    refine⟨_,rfl,rfl,_,rfl,?_⟩
    show(if(!decide (V.str y=V.non))=true then _ else _)
    rw[decide_eq_false (by simp),Bool.not_false];refine qt5 ?_
    have hl2:ys.length+1<=12:=by
     rw[eh,length_append] at hlen
     simp at hlen;omega
    lk
    refine⟨.inl ⟨rfl,_,SqL.of h1⟩,?_⟩
    lk
    refine L4 h1 (by rw[B7,sizeLine_eq];omega) ?_
    rw[show(oV (some y))=V.str y from rfl,wi5]
    lk
    refine⟨v,some y,rs,rfl,hR.same (A7.put s1 hd _),?_⟩
    lk
    refine⟨⟨R7 rs (some y),ys++[y],rfl,A7.put s1 hd _,A6,?_,by rw[length_append,length_singleton];omega,fun z e=>⟨y,e⟩⟩,?_⟩
    ·rw[eh,append_assoc]
     congr 1
     cases e:R7 rs (some y) with
     | none=>show y::M6 rs y=_;rw[xi8 e];rfl
     | some z=>show y::M6 rs y=_;rw[xi9 f e];rfl
    ·show(match [some v,some (V.str x),some (V.ref d),some (oV (R7 rs (some y)))] with | [_,_,_,some (.str y)]=>13-rk y|_=>0)<13-rk y
     obtain⟨w,hw⟩:=hn y rfl
     have:=(f _ _ hw).2
     cases e2:R7 rs (some y) with
     | none=>show 0<13-rk y;omega
     | some z=>have:=f y z e2;show 13-rk z<13-rk y;omega
 ·rintro σ H' Q1 Q2 hQ ⟨v1,e1,e2,k,e3,q1⟩
  exact⟨v1,e1,e2,k,e3,hQ _ _ q1⟩
def qp6(K:Fg):Sp:=fun vs H Q _=>∃ (v:V) (a:Addr) (ys:List Str) (rs:List Row),vs=[v,.ref a]/\Rws K H v rs/\Boo rs/\(SqL K H a (B4 ys)\/SqT K H a (B4 ys))/\(20<ys.length+(M6 rs (V7 ys)).length->∀ H',A7 H H'->Q .non H')/\(¬20<ys.length+(M6 rs (V7 ys)).length->∀ (p:Addr) (H':Hp),A7 H H'->SqT K H' p (B4 (M6 rs (V7 ys)))->Q (.ref p) H')
def qu2(K:Fg):TS :=
 (C1 (E3 (D8 (X4 K) [] E0 (A1 (A2 0) (A1 (D8 (P5 K) [] E0 #[3,1]) A9))) (B6 2))
 (L6 (tIf (G0 (tOp xn6 (tOp (J6 K) #[110] (tCB (N6 K) #[3,2])) #[2,20])) (tC .non) (A2 2))))
theorem xx3(h:qp6 K vs H Q E):qu2 K {nx:=fun _ H'=>Q .non H',rt:=Q} (E2 ["book","names","hosts"] vs) H:=by
 obtain⟨v,a,ys,rs,rfl,hR,B,hq,q1,q2⟩:=h
 show qu2 K _ [some v,some (.ref a),none] H
 unfold qu2
 lk
 refine⟨a,ys,rfl,hq,?_⟩
 lk
 refine⟨v,_,rs,rfl,hR,B,fun p H1 s1 hp=>?_⟩
 lk
 refine Q4 (hq.imp s1.sqL s1.sqT) ?_
 rw[B7]
 lk
 refine Q4 (.inr hp) ?_
 rw[B7]
 lk
 by_cases h:20<ys.length+(M6 rs (V7 ys)).length
 ·rw[decide_eq_true #[0]]
  x_go
  lk
  exact q1 h _ s1
 ·rw[decide_eq_false #[0]]
  k_go
  lk
  exact q2 h p _ s1 hp
variable{ys:List Str}
theorem wu5(k:Nat):qg4 (B4 ys) none (some ((k:Nat):Int))=B4 (ys.take k):=by
 unfold qg4
 rw[HT.qp0]
 show((B4 ys).drop 0).take (min k (B4 ys).length-0)=_
 rw[drop_zero,Nat.sub_zero]
 unfold B4
 rw[map_take,length_map]
 by_cases hh:k<=ys.length
 ·rw[Nat.min_eq_left hh]
 ·rw[Nat.min_eq_right #[0],take_of_length_le (by rw[length_map];exact Nat.le_refl _),take_of_length_le (by rw[length_map];omega)]
theorem wy4(e:N1 rs (some x)=some y):∃ r∈rs,r.name=y/\r.sort=#[53]/\r.host=x:=by
 unfold N1 at e
 obtain⟨r,hr,rfl⟩:=Option.map_eq_some_iff.mp e
 have hm:=mem_of_find?_eq_some hr
 have hp:=find?_some hr
 rw[Bool.and_eq_true,decide_eq_true_eq,decide_eq_true_eq] at hp
 exact⟨r,hm,rfl,hp.1,Option.some.inj hp.2⟩
def bel(rs:List Row)(rk:Str->Nat)(y x:Str):Bool:=decide (x∈ups rs (rk y) (some y))
def clo(rs:List Row)(rk:Str->Nat)(ys:List Str)(x:Str):Nat->Option Nat
 | 0=>none
 | k+1=>if gd ys k=x then some k else if L0 rs (gd ys k) && !(bel rs rk (gd ys k) x) then none else clo rs rk ys x k
def nV:Option Nat->V
 | some k=>.int (k:Int)
 | none=>.non
theorem zn2(xs:List Str):inV .non (B4 xs)=false:=by
 induction xs with
 | nil=>rfl
 | cons x l ih =>
   unfold inV at ih ⊢
   show(eqV (.str x) .non || (B4 l).any fun z=>eqV z .non)=false
   rw[ih];rfl
def qf7(K:Fg):Sp:=fun vs H Q _=>∃ v n rs,vs=[v,.str n]/\Rws K H v rs/\Q (.bl (L0 rs n)) H
def wm1(K:Fg)(c_WALL_SORTS:Addr):TS :=
 (L6 (tOp (wq3 K false) (D8 (Z3 K) [] E0 (A1 (A2 0) #[3,1])) (tC (.ref c_WALL_SORTS))))
theorem yk5{c_WALL_SORTS:Addr}(q_WALL_SORTS:∀ H:Hp,SqT K H c_WALL_SORTS [.str "room",.str "frame"])(h:qf7 K vs H Q E):wm1 K c_WALL_SORTS {nx:=fun _ H'=>Q .non H',rt:=Q} (E2 ["book","name"] vs) H:=by
 obtain⟨v,n,rs,rfl,hR,q⟩:=h
 show wm1 K c_WALL_SORTS _ [some v,some (.str n)] H
 unfold wm1
 lk
 refine⟨v,some n,rs,rfl,hR,?_⟩
 lk
 have hw:L0 rs n=inV (oV (M8 rs (some n))) (B4 [("room":Str),#[53]]):=by
  unfold L0 M8
  cases qb1 rs (some n) with
  | none=>exact(zn2 _).symm
  | some r=>exact(V3 _ _).symm
 refine .inl (xw1 (xs:=B4 [("room":Str),#[53]]) (.inr (q_WALL_SORTS H)) ?_ (T0 _) ?_)
 ·cases M8 rs (some n) <;> rfl
 ·rw[<-hw];exact q
def qr6(K:Fg):Sp:=fun vs H Q _=>∃ (v:V) (a:Addr) (ys:List Str) (x:Str) (rs:List Row) (rk:Str->Nat),vs=[v,.ref a,.str x]/\Rws K H v rs/\wt9 rs rk/\(SqL K H a (B4 ys)\/SqT K H a (B4 ys))/\ys.length<=1000/\Q (nV (clo rs rk ys x ys.length)) H
def wm2(K:Fg):TS :=
 (C1 (qr1 (zc9 (A1 (tOp (rI0 fun i j=>.int (i-j)) #[110] #[2,1]) (A1 #[12] (A1 #[12] A9)))) (B6 3)
 (C1 (S3 (G0 (tOp (qd0 K) (tOp (L5 K) (A2 1) (A2 3)) (A2 2)))
 (L6 (A2 3)) Q5)
 (S3 (xf5 (tB (D8 (qf7 K) [] E0 (A1 (A2 0) (A1 (tOp (L5 K) (A2 1) (A2 3)) A9)))) (zi7 (tB (D8 (wc2 K) [] E0 (A1 (A2 0) (A1 (tOp (L5 K) (A2 1) (A2 3)) #[3,2]))))))
 (L6 (tC .non)) Q5)))
 (L6 (tC .non)))
theorem yk6(h:qr6 K vs H Q E):wm2 K {nx:=fun _ H'=>Q .non H',rt:=Q} (E2 ["book","names","name","number"] vs) H:=by
 obtain⟨v,a,ys,x,rs,rk,rfl,hR,f,hq,hl,q⟩:=h
 show wm2 K _ [some v,some (.ref a),some (.str x),none] H
 unfold wm2
 lk
 refine Q4 hq ?_
 rw[B7]
 walk_at"17"
 walk_at"17"
 lk
 refine zd1 #[0] (fun i σ H'=>H'=H/\(∃ w,σ=[some v,some (.ref a),some (.str x),w])/\clo rs rk ys x ys.length=clo rs rk ys x (ys.length-i)) ⟨rfl,⟨_,rfl⟩,rfl⟩ ?_ ?_
 ·rintro i σ H' hi ⟨rfl,⟨w,rfl⟩,hc⟩
  obtain⟨k,hk⟩:∃ k:Nat,ys.length-i=k+1:=⟨ys.length-i-1,by omega⟩
  have ek:(ys.length:Int)-1-(i:Int)=((k:Nat):Int):=by omega
  have hk2:ys.length-(i+1)=k:=by omega
  have ix:∀ Q':VK,Q' (.str (gd ys k)) H'->L5 K (.ref a) (.int ((k:Nat):Int)) H' Q':=fun Q' h=>by
   rcases hq with hq|hq
   ·exact M9 hq (qn4 #[0]) h
   ·exact W6 hq (qn4 #[0]) h
  rw[hk,clo] at hc
  rw[ek]
  lk
  refine ix _ ?_
  lk
  by_cases e:gd ys k=x
  ·rw[decide_eq_true e]
   x_go
   lk
   rw[hc,if_pos e] at q
   exact q
  ·rw [decide_eq_false e]
   k_go
   rw[if_neg e] at hc
   lk
   refine ix _ ?_
   lk
   refine⟨v,_,rs,rfl,hR,?_⟩
   lk
   cases hw:L0 rs (gd ys k) with
   | false =>
     rw[hw,Bool.false_and,if_neg Bool.false_ne_true] at hc
     k_go
     k_go
     lk
     exact⟨rfl,⟨_,rfl⟩,by rw[hk2];exact hc⟩
   | true =>
     rw[hw,Bool.true_and] at hc
     x_go
     lk
     refine ix _ ?_
     lk
     refine⟨v,_,x,rs,rk,rfl,hR,f,?_⟩
     show ∃ k_1,V.bl (bel rs rk (gd ys k) x)=V.bl k_1/\_
     lk
     cases hb:bel rs rk (gd ys k) x with
     | true =>
       rw[hb,Bool.not_true,if_neg Bool.false_ne_true] at hc
       rw[Bool.not_true]
       k_go
       lk
       exact⟨rfl,⟨_,rfl⟩,by rw[hk2];exact hc⟩
     | false =>
       rw[hb,Bool.not_false,if_pos rfl] at hc
       rw[Bool.not_false]
       x_go
       lk
       rw[hc] at q
       exact q
 ·rintro σ H' ⟨rfl,⟨w,rfl⟩,hc⟩
  lk
  rw[Nat.sub_self] at hc
  rw[hc] at q
  exact q
def qm0(rs:List Row)(x:Str):List Str:=match qb1 rs (some x) with|none=>[]|some r=>r.shuts
def wc4(rs:List Row)(x:Str):List Str:=match qb1 rs (some x) with|none=>[]|some r=>r.bars
def kpt(ys sh:List Str):Nat->Nat->Nat
 | k,0=>k
 | k,m+1=>if gd ys k∈sh then k else kpt ys sh (k+1) m
theorem ze7(ys sh:List Str):∀ m k,kpt ys sh k m<=k+m
 | 0,k=>Nat.le_refl _
 | m+1,k=>by
   rw[kpt]
   split
   ·omega
   ·have:=ze7 ys sh m (k+1);omega
def xc4(rs:List Row)(ys:List Str)(x:Str):Nat:=kpt ys (qm0 rs x) (ys.length-(O4 rs ys).length) (O4 rs ys).length
def qn5(rs:List Row)(ys:List Str)(x:Str):Nat×List Str:=if M6 rs (V7 ys)=[] then(xc4 rs ys x,[x]) else(ys.length,M6 rs (V7 ys)++[x])
def wu6(rs:List Row)(rk:Str->Nat)(ys:List Str)(rec:Str->Nat×List Str)(x:Str):Nat×List Str :=
 match N1 rs (some x) with
 | none=>qn5 rs ys x
 | some y=>match clo rs rk ys y ys.length with
   | some k=>(k+1,[x])
   | none=>((rec y).1,(rec y).2++[x])
def N0(rs:List Row)(rk:Str->Nat)(ys:List Str):Nat->Str->Nat×List Str
 | 0=>wu6 rs rk ys fun _=>(0,[])
 | n+1=>wu6 rs rk ys (N0 rs rk ys n)
theorem wy5{rs:List Row}{rk:Str->Nat}{ys:List Str}{x:Str}:∀ {m k:Nat},clo rs rk ys x m=some k->k<m
 | 0,k,h=>by cases h
 | m+1,k,h=>by
   rw[clo] at h
   split at h
   ·injection h with h;omega
   ·split at h
    ·cases h
    ·have:=wy5 h;omega
theorem qz1 {rs:List Row} (B:Boo rs):∀ (m:Nat) (n:Option Str),∀ z∈qg8 rs m n,∃ r∈rs,r.name=z
 | 0,_,z,h=>by cases h
 | m + 1,n,z,h=>by
   rw[qg8] at h
   split at h
   ·cases h
   ·rename_i y e
    rcases mem_cons.mp h with h|h
    ·subst h
     unfold R7 at e
     cases er:qb1 rs n with
     | none=>rw[er] at e;cases e
     | some r =>
       rw[er] at e
       have hr:r∈rs:=mem_of_find?_eq_some er
       by_cases hf:r.sort=#[53]
       ·have e:some r.host=some z:=by simpa [hf] using e
        injection e with e
        obtain⟨rk,_,h2⟩:=B.rk
        obtain⟨⟨r',hr',en,_⟩,_⟩:=h2 r hr hf
        exact⟨r',hr',by rw[en,e]⟩
       ·simp[hf] at e
    ·exact qz1 B m _ z h
structure Wok(rs:List Row)(ys:List Str)(n:Nat)(w:Nat×List Str):Prop where
 k:w.1<=ys.length
 m:∀ z∈w.2,∃ r∈rs,r.name=z
 l:w.2.length<=13+n
theorem ze8(rs:List Row)(ys:List Str)(x:Str):xc4 rs ys x<=ys.length:=by
 have:=ze7 ys (qm0 rs x) (O4 rs ys).length (ys.length-(O4 rs ys).length)
 have:=qz0 rs ys.length ys rfl
 unfold xc4
 omega
theorem ze9(B:Boo rs)(hx:∃ r∈rs,r.name=x)(n:Nat):Wok rs ys n (qn5 rs ys x):=by
 unfold qn5
 split
 ·exact⟨ze8 rs ys x,fun z hz=>by rw[mem_singleton.mp hz];exact hx,by simp;omega⟩
 ·refine⟨Nat.le_refl _,fun z hz=>?_,?_⟩
  ·rcases mem_append.mp hz with h|h
   ·exact qz1 B 12 _ z h
   ·rw[mem_singleton.mp h];exact hx
  ·show(M6 rs (V7 ys)++[x]).length<=_
   rw[length_append,length_singleton]
   have:(M6 rs (V7 ys)).length<=12:=qk8 rs 12 _
   omega
theorem wm3 {rs:List Row} (B:Boo rs) {rk:Str->Nat} (f:wt9 rs rk) {ys:List Str}:∀ (n:Nat) (x:Str),(∃ r∈rs,r.name=x)->rk x<=n->Wok rs ys n (N0 rs rk ys n x)
 | n, x, hx,hn=>by
   have go:∀ rec:Str->Nat×List Str,(∀ y,N1 rs (some x)=some y->∃ m,n=m+1/\Wok rs ys m (rec y))->Wok rs ys n (wu6 rs rk ys rec x):=by
    intro rec hrec
    unfold wu6
    cases e:N1 rs (some x) with
    | none=>exact ze9 B hx n
    | some y =>
      dsimp only
      cases ec:clo rs rk ys y ys.length with
      | some k =>
        have:=wy5 ec
        exact⟨by show k+1<=_;omega,fun z hz=>by rw[mem_singleton.mp hz];exact hx,by simp;omega⟩
      | none =>
        obtain⟨m,rfl,w⟩:=hrec y e
        refine⟨w.k,fun z hz=>?_,?_⟩
        ·rcases mem_append.mp hz with h|h
         ·exact w.m z h
         ·rw[mem_singleton.mp h];exact hx
        ·show((rec y).2++[x]).length<=_
         rw[length_append,length_singleton];have:=w.l;omega
   cases n with
   | zero=>exact go _ fun y e=>absurd (f x y e) #[0]
   | succ m=>exact go _ fun y e=>⟨m,rfl,wm3 B f m y (let ⟨r,h1,h2,_⟩:=wy4 e;⟨r,h1,h2⟩) (by have:=f x y e;omega)⟩
def bar(rs:List Row):List Str->List Str->Bool
 | _,[]=>false
 | there,x::xs=>(O4 rs there).any (fun y=>decide (y∈wc4 rs x)) || bar rs (there++[x]) xs
def xj0(rs:List Row)(rk:Str->Nat)(ys:List Str)(x:Str):PyData :=
 if bar rs (ys.take (N0 rs rk ys 13 x).1) (N0 rs rk ys 13 x).2=true then .tuple [.str "drop",.str "barred"]
 else if 20<(N0 rs rk ys 13 x).1+(N0 rs rk ys 13 x).2.length then .tuple [.str "drop",.str "deep"]
 else .tuple [.str "open",.int (N0 rs rk ys 13 x).1,.tuple (sDa (N0 rs rk ys 13 x).2)]
def qk9(K:Fg):Sp:=fun vs H Q _=>∃ v a ys rs,vs=[v,.ref a]/\Rws K H v rs/\SqT K H a (B4 ys)/\ys.length<=1000/\∀ p H',A7 H H'->SqT K H' p (B4 (O4 rs ys))->Q (.ref p) H'
def wm4(K:Fg):TS :=
 (C1 (E3 #[2,0] (B6 2))
 (C1 (qr1 (xw4 K #[3,1]) (yt1 K 2 (we5 (B6 3) (we5 (B6 4) yt0)))
 (S3 (tB (D8 (qf7 K) [] E0 (A1 (A2 0) #[3,4])))
 (E3 (tOp (qy7 K) (A2 3) #[2,1]) (B6 2)) Q5))
 (L6 (tCB (ql7 K) (A1 (tSl (yj7 K) (A2 1) (U8 (A2 2)) X9) A9)))))
theorem yk7(h:qk9 K vs H Q E):wm4 K {nx:=fun _ H'=>Q .non H',rt:=Q} (E2 ["book","names","start","number","name"] vs) H:=by
 obtain⟨v,a,ys,rs,rfl,hR,hq,hl,q⟩:=h
 show wm4 K _ [some v,some (.ref a),none,none,none] H
 unfold wm4
 lk
 refine xs4 hq (fun i σ H'=>A7 H H'/\∃ (st:Nat) (a3 a4:Option V),σ=[some v,some (.ref a),some (.int st),a3,a4]/\st<=i/\O4 rs (ys.take i)=(ys.take i).drop st) ⟨A7.refl _,0,none,none,rfl,Nat.le_refl _,rfl⟩ (fun i σ H' p=>p.1.sqT hq) ?_ ?_
 ·rintro i x σ H' p hx ⟨s1,st,a3,a4,rfl,hst,hnr⟩ hp
  obtain⟨y,hy,rfl⟩:=V4 hx
  have il:=(List.getElem?_eq_some_iff.mp hy).1
  have etk:ys.take (i+1)=ys.take i++[y]:=by rw[take_add_one,hy];rfl
  have s2:A7 H (upd H' p (.tup [.int (i:Int),.str y])):=A7.tr s1 #[78,hp]
  refine⟨p,_,rfl,SqT.of A6,rfl,_,_,rfl,J0 ⟨_,_,rfl,J0 ⟨rfl,?_⟩⟩⟩
  lk
  refine⟨v,y,rs,rfl,hR.same s2,?_⟩
  lk
  cases hw:L0 rs y with
  | true =>
    x_go
    lk
    refine .inl (xw0 ?_)
    lk
    refine⟨s2,i+1,_,_,rfl,Nat.le_refl _,?_⟩
    rw[etk,wm0,if_pos hw,drop_eq_nil_of_le (by rw[length_append,length_take,length_singleton];omega)]
  | false =>
    k_go
    lk
    refine⟨s2,st,_,_,rfl,by omega,?_⟩
    rw[etk,wm0,if_neg (by rw[hw];exact Bool.false_ne_true),hnr,drop_append_of_le_length (by rw[length_take];omega)]
 ·rintro σ H' ⟨s1,st,a3,a4,rfl,hst,hnr⟩
  rw[B7,take_length] at hnr
  lk
  refine yc7 (s1.sqT hq) fun p H2 s2 hp=>?_
  have e:qg4 (B4 ys) (some (st:Int)) none=B4 (O4 rs ys):=by
   unfold qg4
   rw[HT.qp0]
   show((B4 ys).drop (min st (B4 ys).length)).take ((B4 ys).length-min st (B4 ys).length)=_
   rw[B7] at hst ⊢
   rw[Nat.min_eq_left hst,take_of_length_le (by rw[length_drop,B7];exact Nat.le_refl _),hnr]
   unfold B4
   rw[map_drop]
  rw[e] at hp
  lk
  refine⟨p,_,rfl,.inr ⟨hp,?_⟩⟩
  exact q p H2 (A7.tr s1 s2) hp
def X5(K:Fg):Sp:=fun vs H Q _=>∃ (a b:Addr) (ys zs:List Str),vs=[.ref a,.ref b]/\SqT K H a (B4 ys)/\SqT K H b (B4 zs)/\ys.length<=1000/\∀ H',A7 H H'->Q (.bl (ys.any fun y=>decide (y∈zs))) H'
def qh0(K:Fg):TS :=
 (L6 (tCB (zc8 K) (A1 (qu0 [some 1,none] (qy5 K (A2 0)) (B6 1) tTT (tOp (wq3 K false) (A2 1) (A2 0))) A9)))
theorem xd7(h:X5 K vs H Q E):qh0 K {nx:=fun _ H'=>Q .non H',rt:=Q} (E2 ["names","others"] vs) H:=by
 obtain⟨a,b,ys,zs,rfl,ha,hb,hl,q⟩:=h
 show qh0 K _ [some (.ref a),some (.ref b)] H
 unfold qh0
 lk
 refine wx8 (H0:=H) (.inr ha) (A7.refl _) (fun i us H'=>H'=H/\us=((ys.take i).map fun y=>decide (y∈zs)).map V.bl) ⟨rfl,rfl⟩ ?_ (fun i us H' p=>p.1▸A7.refl _) ?_ ?_
 ·rintro i us H' hi ⟨_,rfl⟩
  rw[length_map,length_map,length_take];exact E5 #[0]
 ·rintro i x us H' hx ⟨rfl,rfl⟩
  obtain⟨y,hy,rfl⟩:=V4 hx
  lk
  refine .inl (xw1 (.inr hb) rfl (T0 _) ?_)
  rw[V3]
  refine⟨rfl,?_⟩
  rw[take_add_one,hy]
  simp
 ·rintro us H' ⟨rfl,rfl⟩ p hp
  rw[B7,take_length]
  lk
  refine Ad6 #[52,A6] ?_
  rw[any_map]
  exact q _ #[78,hp]
def qa3(K:Fg):Sp:=fun vs H Q _=>∃ v a ys x rs,vs=[v,.ref a,.str x]/\Rws K H v rs/\SqT K H a (B4 ys)/\ys.length<=1000/\(∃ r∈rs,Row.name r=x)/\∀ H',A7 H H'->Q (.int (xc4 rs ys x)) H'
def qe6(K:Fg):TS :=
 (C1 (E3 (tOp (L5 K) (D8 (qf9 K) [] E0 (A1 (A2 0) #[3,2])) #[2,3]) (B6 3))
 (C1 (E3 (tOp (rI0 fun i j=>.int (i-j)) #[110] (tCB (N6 K) (A1 (D8 (qk9 K) [] E0 (A1 (A2 0) #[3,1])) A9))) (B6 4))
 (C1 (qr1 (yy9 (A1 (A2 4) (A1 #[110] A9))) (B6 5)
 (S3 (G0 (tOp (wq3 K false) (tOp (L5 K) (A2 1) (A2 5)) (A2 3)))
 (L6 (A2 5)) Q5))
 (L6 #[110]))))
theorem wy7(h:qa3 K vs H Q E):qe6 K {nx:=fun _ H'=>Q .non H',rt:=Q} (E2 ["book","names","name","shuts","first_near","number"] vs) H:=by
 obtain⟨v,a,ys,x,rs,rfl,hR,hq,hl,hx,q⟩:=h
 show qe6 K _ [some v,some (.ref a),some (.str x),none,none,none] H
 unfold qe6
 obtain⟨r,er,mr,nr⟩:=xx1 hx
 have hsh:qm0 rs x=r.shuts:=by unfold qm0;rw[er]
 lk
 refine⟨v,some x,rs,rfl,hR,fun e=>(by rw[er] at e;cases e),fun r2 u e hu=>?_⟩
 rw[er] at e
 injection e with e
 subst e
 obtain⟨b,ps,pb,rfl,hb,h1,h2⟩:=xx2 hu
 lk
 refine W6 hb rfl ?_
 lk
 refine Q4 (.inr hq) ?_
 rw[B7]
 lk
 refine⟨v,a,ys,rs,rfl,hR,hq,hl,fun p H1 s1 hp=>?_⟩
 have nl:=qz0 rs ys.length ys rfl
 lk
 refine Q4 (.inr hp) ?_
 rw[B7]
 lk
 refine Q4 (.inr (s1.sqT hq)) ?_
 rw[B7]
 have e1:(ys.length:Int)-((O4 rs ys).length:Int)=((ys.length-(O4 rs ys).length:Nat):Int):=by omega
 rw[e1]
 refine zb1 #[0] #[0] #[0] (fun i σ H'=>H'=H1/\(∃ w,σ=[some v,some (.ref a),some (.str x),some (.ref ps),some (.int ((ys.length-(O4 rs ys).length:Nat):Int)),w])/\xc4 rs ys x=kpt ys r.shuts (ys.length-(O4 rs ys).length+i) ((O4 rs ys).length-i)) ⟨rfl,⟨_,rfl⟩,by unfold xc4;rw[hsh];rfl⟩ ?_ ?_
 ·rintro i σ H' hi ⟨rfl,⟨w,rfl⟩,hk⟩
  obtain⟨m,hm⟩:∃ m:Nat,(O4 rs ys).length-i=m+1:=⟨(O4 rs ys).length-i-1,by omega⟩
  have e2:((ys.length-(O4 rs ys).length:Nat):Int)+(i:Int)=((ys.length-(O4 rs ys).length+i:Nat):Int):=by omega
  rw[hm,kpt] at hk
  rw[e2]
  lk
  refine W6 (s1.sqT hq) (qn4 #[0]) ?_
  lk
  refine .inl (xw1 (.inr (s1.sqT h1)) rfl (T0 _) ?_)
  rw[V3]
  lk
  by_cases hs:gd ys (ys.length-(O4 rs ys).length+i)∈r.shuts
  ·rw[decide_eq_true hs]
   x_go
   lk
   rw[if_pos hs] at hk
   rw[hk] at q
   exact q _ s1
  ·rw[decide_eq_false hs]
   k_go
   lk
   rw[if_neg hs] at hk
   exact⟨rfl,⟨_,rfl⟩,by rw[hk,show(O4 rs ys).length-(i+1)=m by omega];rfl⟩
 ·rintro σ H' ⟨rfl,⟨w,rfl⟩,hk⟩
  lk
  refine Q4 (.inr (s1.sqT hq)) ?_
  rw[B7]
  have e3:(((ys.length:Int)-((ys.length-(O4 rs ys).length:Nat):Int))).toNat=(O4 rs ys).length:=by omega
  rw[e3,Nat.sub_self,kpt,show ys.length-(O4 rs ys).length+(O4 rs ys).length=ys.length by omega] at hk
  rw[hk] at q
  exact q _ s1
def qp7(K:Fg):Sp:=fun vs H Q _=>∃ v a b ks ps rs,vs=[v,.ref a,.ref b]/\Rws K H v rs/\SqT K H a (B4 ks)/\SqT K H b (B4 ps)/\ks.length<=100/\ps.length<=100/\(∀ z∈ps,∃ r∈rs,Row.name r=z)/\∀ H',A7 H H'->Q (.bl (bar rs ks ps)) H'
def qu3(K:Fg):TS :=
 (C1 (qr1 (xw4 K #[3,2]) (yt1 K 2 (we5 (B6 3) (we5 (B6 4) yt0)))
 (C1 (E3 (D8 (qk9 K) [] E0 (A1 (A2 0) (A1 (tOp (qy7 K) (A2 1) (tSl (yj7 K) (A2 2) X9 (U8 (A2 3)))) A9))) (B6 5))
 (S3 (tB (D8 (X5 K) [] E0 (A1 (A2 5) (A1 (tOp (L5 K) (D8 (qf9 K) [] E0 (A1 (A2 0) #[3,4])) #[2,4]) A9))))
 (L6 (tC (.bl true))) Q5)))
 (L6 (tC (.bl false))))
theorem xx4(h:qp7 K vs H Q E):qu3 K {nx:=fun _ H'=>Q .non H',rt:=Q} (E2 ["book","kept","put","number","name","near"] vs) H:=by
 obtain⟨v,a,b,ks,ps,rs,rfl,hR,ha,hb,hlk,hlp,hps,q⟩:=h
 show qu3 K _ [some v,some (.ref a),some (.ref b),none,none,none] H
 unfold qu3
 lk
 refine xs4 hb (fun i σ H'=>A7 H H'/\∃ (a3 a4 a5:Option V),σ=[some v,some (.ref a),some (.ref b),a3,a4,a5]/\bar rs ks ps=bar rs (ks++ps.take i) (ps.drop i)) ⟨A7.refl _,none,none,none,rfl,by simp⟩ (fun i σ H' p=>p.1.sqT hb) ?_ ?_
 ·rintro i x σ H' p hx ⟨s1,a3,a4,a5,rfl,hbr⟩ hp
  obtain⟨y,hy,rfl⟩:=V4 hx
  have il:=(List.getElem?_eq_some_iff.mp hy).1
  have etk:ps.take (i+1)=ps.take i++[y]:=by rw[take_add_one,hy];rfl
  have edr:ps.drop i=y::ps.drop (i+1):=by
   obtain⟨hil,he⟩:=List.getElem?_eq_some_iff.mp hy
   rw[drop_eq_getElem_cons hil,he]
  rw[edr,bar] at hbr
  have s2:A7 H (upd H' p (.tup [.int (i:Int),.str y])):=A7.tr s1 #[78,hp]
  obtain⟨r,er,mr,nr⟩:=xx1 (hps y (mem_of_getElem? hy))
  have hba:wc4 rs y=r.bars:=by unfold wc4;rw[er]
  refine⟨p,_,rfl,SqT.of A6,rfl,_,_,rfl,J0 ⟨_,_,rfl,J0 ⟨rfl,?_⟩⟩⟩
  lk
  refine yc7 (s2.sqT hb) fun p3 H3 s3 hp3=>?_
  rw[wu5] at hp3
  have s23:=A7.tr s2 s3
  refine wq4 (s23.sqT ha) hp3 (by rw[B7,B7,length_take];exact E5 #[0]) fun p4 H4 s4 hp4=>?_
  have e4:B4 ks++B4 (ps.take i)=B4 (ks++ps.take i):=by simp[B4]
  rw[e4] at hp4
  have s24:=A7.tr s23 s4
  lk
  refine⟨v,p4,ks++ps.take i,rs,rfl,hR.same s24,hp4,by rw[length_append,length_take];omega,fun p5 H5 s5 hp5=>?_⟩
  have s25:=A7.tr s24 s5
  have nl:=qz0 rs _ (ks++ps.take i) rfl
  rw[length_append,length_take] at nl
  lk
  refine⟨v,some y,rs,rfl,hR.same s25,fun e=>(by rw[er] at e;cases e),fun r2 u e hu=>?_⟩
  rw[er] at e
  injection e with e
  subst e
  obtain⟨b6,p6,p7,rfl,hb6,_,h7⟩:=xx2 hu
  lk
  refine W6 hb6 rfl ?_
  lk
  refine⟨p5,p7,O4 rs (ks++ps.take i),r.bars,rfl,hp5,h7,by omega,fun H8 s8=>?_⟩
  have s28:=A7.tr s25 s8
  lk
  rw[hba] at hbr
  cases hc:(O4 rs (ks++ps.take i)).any (fun z=>decide (z∈r.bars)) with
  | true =>
    x_go
    lk
    rw[hc,Bool.true_or] at hbr
    rw[hbr] at q
    exact q _ s28
  | false =>
    k_go
    lk
    rw[hc,Bool.false_or] at hbr
    exact⟨s28,_,_,_,rfl,by rw[hbr,etk,append_assoc]⟩
 ·rintro σ H' ⟨s1,a3,a4,a5,rfl,hbr⟩
  lk
  rw[B7,drop_length,bar] at hbr
  rw[hbr] at q
  exact q _ s1
def W8(K:Fg):Sp:=fun vs H Q _=>∃ v a ys x rs,vs=[v,.ref a,.str x]/\Rws K H v rs/\Boo rs/\SqT K H a (B4 ys)/\ys.length<=1000/\(∃ r∈rs,Row.name r=x)/\∀ p p2 H',A7 H H'->SqT K H' p [.int (qn5 rs ys x).1,.ref p2]->SqT K H' p2 (B4 (qn5 rs ys x).2)->Q (.ref p) H'
def Y3(K:Fg):TS :=
 (C1 (E3 (D8 (X4 K) [] E0 (A1 (A2 0) (A1 (D8 (P5 K) [] E0 #[3,1]) A9))) (B6 3))
 (C1 (S3 (G0 (tOp xn6 (tCB (N6 K) #[3,3]) #[2,0]))
 (L6 (T7 (A1 #[110] (A1 (tOp (qy7 K) (A2 3) (T7 #[3,2])) A9)))) Q5)
 (L6 (T7 (A1 (D8 (qa3 K) [] E0 (A1 (A2 0) (A1 (A2 1) #[3,2]))) (A1 (T7 #[3,2]) A9))))))
theorem wq9(h:W8 K vs H Q E):Y3 K {nx:=fun _ H'=>Q .non H',rt:=Q} (E2 ["book","names","name","hosts"] vs) H:=by
 obtain⟨v,a,ys,x,rs,rfl,hR,B,hq,hl,hx,q⟩:=h
 show Y3 K _ [some v,some (.ref a),some (.str x),none] H
 unfold Y3
 lk
 refine⟨a,ys,rfl,.inr hq,?_⟩
 lk
 refine⟨v,_,rs,rfl,hR,B,fun p H1 s1 hp=>?_⟩
 have hlen:(M6 rs (V7 ys)).length<=12:=qk8 rs 12 _
 lk
 refine Q4 (.inr hp) ?_
 rw[B7]
 lk
 by_cases h0:M6 rs (V7 ys)=[]
 ·rw[decide_eq_false (by rw[h0];simp)]
  k_go
  have eg:qn5 rs ys x=(xc4 rs ys x,[x]):=by unfold qn5;rw[if_pos h0]
  lk
  refine⟨v,a,ys,x,rs,rfl,hR.same s1,s1.sqT hq,hl,hx,fun H2 s2=>?_⟩
  lk
  refine⟨E5 (by z_go),fun p3 hp3=>?_⟩
  lk
  refine⟨E5 (by z_go),fun p4 hp4=>?_⟩
  rw[eg] at q
  exact q p4 p3 _ (A7.tr s1 (A7.tr s2 (A7.tr #[78,hp3] #[78,hp4]))) (SqT.of A6) (#[78,hp4].sqT (SqT.of A6))
 ·rw[decide_eq_true (by have:=length_pos_iff.mpr h0;omega)]
  x_go
  have eg:qn5 rs ys x=(ys.length,M6 rs (V7 ys)++[x]):=by unfold qn5;rw[if_neg h0]
  lk
  refine Q4 (.inr (s1.sqT hq)) ?_
  rw[B7]
  lk
  refine⟨E5 (by z_go),fun p3 hp3=>?_⟩
  refine wq4 (#[78,hp3].sqT hp) (SqT.of A6) (by rw[B7];exact E5 #[86]) fun p4 H4 s4 hp4=>?_
  rw[wi5] at hp4
  lk
  refine⟨E5 (by z_go),fun p5 hp5=>?_⟩
  rw[eg] at q
  exact q p5 p4 _ (A7.tr s1 (A7.tr #[78,hp3] (A7.tr s4 #[78,hp5]))) (SqT.of A6) (#[78,hp5].sqT hp4)
def qr7(n:Nat)(K:Fg):Sp:=fun vs H Q _=>∃ v a ys x rs rk,vs=[v,.ref a,.str x]/\Rws K H v rs/\Boo rs/\wt9 rs rk/\SqT K H a (B4 ys)/\ys.length<=1000/\(∃ r∈rs,Row.name r=x)/\rk x<=n/\n<=50/\∀ p p2 H',A7 H H'->SqT K H' p [.int (N0 rs rk ys n x).1,.ref p2]->SqT K H' p2 (B4 (N0 rs rk ys n x).2)->Q (.ref p) H'
def xs7(K:Fg):Sp:=qr7 13 K
def qn0(K:Fg):Nat->Sp
 | 0=>fun _ _ _ _=>False
 | n+1=>qr7 n K
def wi8(K:Fg)(spr:Sp):TS :=
 (C1 (E3 (D8 (qg0 K) [] E0 (A1 (A2 0) #[3,2])) (B6 3))
 (C1 (S3 (G0 (tOp yb8 (A2 3) (tC .non)))
 (L6 (D8 (W8 K) [] E0 (A1 (A2 0) (A1 (A2 1) #[3,2])))) Q5)
 (C1 (E3 (D8 (qr6 K) [] E0 (A1 (A2 0) (A1 (A2 1) #[3,3]))) (B6 4))
 (C1 (S3 (G0 (tOp wl8 (A2 4) (tC .non)))
 (L6 (T7 (A1 (tOp (qy7 K) (A2 4) #[2,1]) (A1 (T7 #[3,2]) A9)))) Q5)
 (C1 (E3 (D8 spr [] E0 (A1 (A2 0) (A1 (A2 1) #[3,3]))) (B6 5))
 (L6 (T7 (A1 #[70,5] (A1 (tOp (qy7 K) #[91,5] (T7 #[3,2])) A9)))))))))
theorem xs8(n:Nat)(h:qr7 n K vs H Q E):wi8 K (qn0 K n) {nx:=fun _ H'=>Q .non H',rt:=Q} (E2 ["book","names","name","frame","number","plan"] vs) H:=by
 obtain⟨v,a,ys,x,rs,rk,rfl,hR,B,f,hq,hl,hx,hn,hn50,q⟩:=h
 show wi8 K _ _ [some v,some (.ref a),some (.str x),none,none,none] H
 unfold wi8
 have ew:∃ rec,N0 rs rk ys n x=wu6 rs rk ys rec x/\∀ m,n=m+1->rec=N0 rs rk ys m:=by
  cases n with
  | zero=>exact⟨_,rfl,fun m h=>by cases h⟩
  | succ m=>exact⟨_,rfl,fun k h=>by injection h with h;rw[h]⟩
 obtain⟨rec,ew,hrec⟩:=ew
 rw[ew] at q
 unfold wu6 at q
 lk
 refine⟨v,some x,rs,rfl,hR,?_⟩
 lk
 cases ef:N1 rs (some x) with
 | none =>
   rw[ef] at q
   dsimp only at q
   rw[decide_eq_true (show oV none=V.non from rfl)]
   x_go
   lk
   exact⟨v,a,ys,x,rs,rfl,hR,B,hq,hl,hx,q⟩
 | some y =>
   rw[ef] at q
   dsimp only at q
   have hyx:=f x y ef
   obtain⟨ry,my,ny,_⟩:=wy4 ef
   rw[decide_eq_false (show ¬oV (some y)=V.non by simp[oV])]
   k_go
   lk
   refine⟨v,a,ys,y,rs,rk,rfl,hR,f,.inr hq,hl,?_⟩
   lk
   cases ec:clo rs rk ys y ys.length with
   | some k =>
     rw[ec] at q
     dsimp only at q
     rw[decide_eq_false (show ¬nV (some k)=V.non by simp[nV]),Bool.not_false]
     x_go
     lk
     refine .inl (xw0 ?_)
     lk
     refine⟨E5 (by z_go),fun p3 hp3=>?_⟩
     lk
     refine⟨E5 (by z_go),fun p4 hp4=>?_⟩
     exact q p4 p3 _ (A7.tr #[78,hp3] #[78,hp4]) (SqT.of A6) (#[78,hp4].sqT (SqT.of A6))
   | none =>
     rw[ec] at q
     dsimp only at q
     rw[decide_eq_true (show nV none=V.non from rfl),Bool.not_true]
     k_go
     obtain⟨m,rfl⟩:∃ m,n=m+1:=⟨n-1,by omega⟩
     rw[hrec m rfl] at q
     have wk:=wm3 B f (ys:=ys) m y ⟨ry,my,ny⟩ #[0]
     lk
     refine⟨v,a,ys,y,rs,rk,rfl,hR,B,f,hq,hl,⟨ry,my,ny⟩,by omega,by omega,fun p p2 H1 s1 hp hp2=>?_⟩
     lk
     refine W6 hp rfl ?_
     lk
     refine W6 hp rfl ?_
     lk
     refine⟨E5 (by z_go),fun p3 hp3=>?_⟩
     refine wq4 (#[78,hp3].sqT hp2) (SqT.of A6) (by rw[B7];exact E5 (by have:=wk.l;simp;omega)) fun p4 H4 s4 hp4=>?_
     rw[wi5] at hp4
     lk
     refine⟨E5 (by z_go),fun p5 hp5=>?_⟩
     exact q p5 p4 _ (A7.tr s1 (A7.tr #[78,hp3] (A7.tr s4 #[78,hp5]))) (SqT.of A6) (#[78,hp5].sqT hp4)
def wc5(K:Fg):Sp:=fun vs H Q _=>∃ v a ys x rs rk,vs=[v,.ref a,.str x]/\Rws K H v rs/\Boo rs/\wt9 rs rk/\SqT K H a (B4 ys)/\ys.length<=50/\(∃ r∈rs,Row.name r=x)/\rk x<=13/\∀ p H',A7 H H'->Dv K H' (xj0 rs rk ys x) (.ref p)->Q (.ref p) H'
def wm5(K:Fg):TS :=
 (C1 (E3 (D8 (xs7 K) [] E0 (A1 (A2 0) (A1 (A2 1) #[3,2]))) (B6 3))
 (C1 (E3 (tCB (ql7 K) (A1 (tSl (yj7 K) (A2 1) X9 (U8 #[70,3])) A9)) (B6 4))
 (C1 (E3 #[91,3] (B6 5))
 (C1 (S3 (tB (D8 (qp7 K) [] E0 (A1 (A2 0) (A1 (A2 4) #[3,5]))))
 (L6 (T7 (A1 (tC (.str "drop")) (A1 (tC (.str "barred")) A9)))) Q5)
 (C1 (S3 (G0 (tOp xn6 (tOp (qy7 K) (tCB (N6 K) #[3,4]) (tCB (N6 K) #[3,5])) #[2,20]))
 (L6 (T7 (A1 (tC (.str "drop")) (A1 (tC (.str "deep")) A9)))) Q5)
 (L6 (T7 (A1 (tC (.str "open")) (A1 (tCB (N6 K) #[3,4]) #[3,5])))))))))
theorem yk8(h:wc5 K vs H Q E):wm5 K {nx:=fun _ H'=>Q .non H',rt:=Q} (E2 ["book","names","name","plan","kept","put"] vs) H:=by
 obtain⟨v,a,ys,x,rs,rk,rfl,hR,B,f,hq,hl,hx,hn,q⟩:=h
 show wm5 K _ [some v,some (.ref a),some (.str x),none,none,none] H
 unfold wm5
 have wk:=wm3 B f (ys:=ys) 13 x hx hn
 lk
 refine⟨v,a,ys,x,rs,rk,rfl,hR,B,f,hq,by omega,hx,hn,by decide,fun p p2 H1 s1 hp hp2=>?_⟩
 have wkk:=wk.k
 have wkl:=wk.l
 have il:(ys.take (N0 rs rk ys 13 x).1).length=(N0 rs rk ys 13 x).1:=by rw[length_take];omega
 unfold xj0 at q
 generalize N0 rs rk ys 13 x=W at *
 lk
 refine W6 hp rfl ?_
 lk
 refine yc7 (s1.sqT hq) fun p3 H3 s3 hp3=>?_
 rw[wu5] at hp3
 lk
 refine⟨p3,_,rfl,.inr ⟨hp3,?_⟩⟩
 lk
 refine W6 (s3.sqT hp) rfl ?_
 lk
 refine⟨v,p3,p2,_,_,rs,rfl,hR.same (A7.tr s1 s3),hp3,s3.sqT hp2,by omega,by omega,wk.m,fun H4 s4=>?_⟩
 have s14:=A7.tr s1 (A7.tr s3 s4)
 lk
 cases hb:bar rs (ys.take W.1) W.2 with
 | true =>
   rw[hb,if_pos rfl] at q
   x_go
   lk
   refine⟨E5 (by z_go),fun p5 hp5=>?_⟩
   exact q p5 _ (A7.tr s14 #[78,hp5]) (D7.mpr ⟨p5,_,rfl,SqT.of A6,C0 #[76] (C0 #[76] I9)⟩)
 | false =>
   rw[hb,if_neg Bool.false_ne_true] at q
   k_go
   lk
   refine Q4 (.inr (s4.sqT hp3)) ?_
   rw[B7,il]
   lk
   refine Q4 (.inr ((A7.tr s3 s4).sqT hp2)) ?_
   rw[B7]
   refine .inl (xw0 ?_)
   lk
   by_cases h20:20<W.1+W.2.length
   ·rw[if_pos h20] at q
    rw[decide_eq_true #[0]]
    x_go
    lk
    refine⟨E5 (by z_go),fun p5 hp5=>?_⟩
    exact q p5 _ (A7.tr s14 #[78,hp5]) (D7.mpr ⟨p5,_,rfl,SqT.of A6,C0 #[76] (C0 #[76] I9)⟩)
   ·rw[if_neg h20] at q
    rw[decide_eq_false #[0]]
    k_go
    lk
    refine Q4 (.inr (s4.sqT hp3)) ?_
    rw[B7,il]
    lk
    refine⟨E5 (by z_go),fun p5 hp5=>?_⟩
    have s5:=A7.new hp5 (.tup [.str "open",.int (W.1:Int),.ref p2])
    exact q p5 _ (A7.tr s14 s5) (D7.mpr ⟨p5,_,rfl,SqT.of A6,C0 #[76] (C0 (P1.mpr rfl) (C0 (D7.mpr ⟨p2,_,rfl,(A7.tr (A7.tr s3 s4) s5).sqT hp2,Z9.mpr rfl⟩) I9))⟩)
namespace TX
open PySem PySem.StrLaws PySem.Builtin PySem.Builtin.Str
def rep(Y Z:List Nat):Nat->List Nat->List Nat
 | _,[]=>[]
 | k+1,_::l=>rep Y Z k l
 | 0,c::l=>if Y.isPrefixOf (c::l)=true then Z++rep Y Z (Y.length-1) l else c::rep Y Z 0 l
theorem ye6(Y Z:List Nat):∀ (k:Nat) (l:List Nat),rep Y Z k l=rep Y Z 0 (l.drop k)
 | 0,l=>by simp
 | k+1,[]=>by simp[rep]
 | k+1,_::l=>by rw[rep,ye6 Y Z k l];simp
theorem rep_yes{Y Z l:List Nat}(h0:1<=Y.length)(h:Y <+: l):rep Y Z 0 l=Z++rep Y Z 0 (l.drop Y.length):=by
 cases l with
 | nil=>rw[prefix_nil] at h;subst h;simp at h0
 | cons c l =>
   rw[rep,if_pos (isPrefixOf_iff_prefix.mpr h),ye6]
   congr 2
   cases Y with
   | nil=>simp at h0
   | cons y Y=>simp
theorem rep_no{Y Z l:List Nat}{c:Nat}(h:¬Y <+: c::l):rep Y Z 0 (c::l)=c::rep Y Z 0 l:=by
 rw[rep,if_neg (by rw[isPrefixOf_iff_prefix];exact h)]
theorem ye7{Y Z:List Nat}:∀ (l:List Nat),(∀ j,j<l.length->¬Y <+: l.drop j)->rep Y Z 0 l=l
 | [],_=>rfl
 | c::l,h=>by
   rw[rep_no (h 0 (by simp)),ye7 l fun j hj=>by have:=h (j+1) (by simpa using hj);simpa using this]
theorem zf0{Y Z:List Nat}(h0:1<=Y.length):∀ (d:Nat) (l:List Nat),(∀ j,j<d->¬Y <+: l.drop j)->Y <+: l.drop d->rep Y Z 0 l=l.take d++Z++rep Y Z 0 (l.drop (d+Y.length))
 | 0,l,_,h=>by simpa using rep_yes h0 (by simpa using h)
 | d+1,[],_,h=>by rw[drop_nil,prefix_nil] at h;subst h;simp at h0
 | d+1,c::l,hn,h=>by
   rw[rep_no (hn 0 #[0]),zf0 h0 d l (fun j hj=>by have:=hn (j+1) #[0];simpa using this) (by simpa using h)]
   have e:d+1+Y.length=(d+Y.length)+1:=by omega
   rw[e]
   simp
theorem yk9{x y:Str}(h0:1<=y.length)(k:Nat):At x y x.length k↔y.cps.toList <+: x.cps.toList.drop k:=by
 have hn:x.cps.toList.length=x.length:=by simp[Str.length]
 have hy:y.cps.toList.length=y.length:=by simp[Str.length]
 unfold At
 rw[subAt_eq,beq_iff_eq,prefix_iff_eq_take,hy]
 constructor
 ·rintro⟨_,h⟩;exact h.symm
 ·intro h
  refine⟨?_,h.symm⟩
  have:=congrArg List.length h
  rw[length_take,length_drop,hy,hn] at this
  omega
theorem zf1(sep a y:Str)(r:List Str):Str.join sep (a::y::r)=a++sep++Str.join sep (y::r):=by
 rfl
theorem xs9{x y z:Str}(h0:1<=y.length):∀ (cuts:List Nat) (a f:Nat),ChainG x y x.length a cuts f->(∀ k,f<=k->¬At x y x.length k) ->
 (Str.join z (partsFrom x y.length a cuts)).cps.toList=rep y.cps.toList z.cps.toList 0 (x.cps.toList.drop a)
 | [],a,f,h,hn=>by
   have e:f=a:=h
   subst e
   have hx:x.cps.toList.length=x.length:=by simp[Str.length]
   rw[ye7 _ fun j hj hp=>hn (f+j) #[0] ((yk9 h0 _).mpr (by rw[<-drop_drop];exact hp))]
   show(strSub x f x.length).cps.toList=_
   rw[strSub_toList,take_of_length_le (by rw[length_drop,hx];exact Nat.le_refl _)]
 | c::r,a,f,h,hn=>by
   obtain⟨h1,h2,h3,h4⟩:=h
   have hy:y.cps.toList.length=y.length:=by simp[Str.length]
   have hp:y.cps.toList <+: (x.cps.toList.drop a).drop (c-a):=by
    rw[drop_drop,show a+(c-a)=c by omega]
    exact(yk9 h0 c).mp h2
   rw[zf0 (by rw[hy];exact h0) (c-a) _ (fun j hj hq=>h3 (a+j) #[0] #[0] ((yk9 h0 _).mpr (by rw[<-drop_drop];exact hq))) hp]
   rw[drop_drop,hy,show a+(c-a+y.length)=c+y.length by omega,<-xs9 h0 r (c+y.length) f h4 hn]
   obtain⟨p,q,e⟩:=partsFrom_ne x y.length (c+y.length) r
   show(Str.join z (strSub x a c::partsFrom x y.length (c+y.length) r)).cps.toList=_
   rw[e,zf1]
   simp only[Str.cps_append,Array.toList_append,strSub_toList]
theorem replace_rep(x y z:Str)(h0:1<=y.length):(Txt.replace x y z).cps.toList=rep y.cps.toList z.cps.toList 0 x.cps.toList:=by
 obtain⟨f,h1,h2⟩:=occ_tight x y h0
 have hy:(y.length == 0)=false:=by simp;omega
 have key:=xs9 (z:=z) h0 _ 0 f h1 h2
 rw[drop_zero] at key
 unfold Txt.replace
 rw[hy,Bool.false_and,Bool.or_false]
 cases ho:occurrences x y 0 x.length (x.length+1) with
 | nil =>
   rw[if_pos (by simp),<-key,ho]
   show _=(strSub x 0 x.length).cps.toList
   rw[sub_whole]
 | cons c r =>
   rw[if_neg (by simp),glued_eq_join,partsBetween_eq,<-ho,key]
abbrev El:List Nat:=[38,108,59]
abbrev Ea:List Nat:=[38,97,59]
def told:Nat->List Nat->List Nat
 | _,[]=>[]
 | k+1,_::l=>told k l
 | 0,c::l=>if El.isPrefixOf (c::l)=true then 60::told 2 l else if Ea.isPrefixOf (c::l)=true then 38::told 2 l else c::told 0 l
theorem wy8:∀ (k:Nat) (l:List Nat),told k l=told 0 (l.drop k)
 | 0,l=>by simp
 | k+1,[]=>by simp[told]
 | k+1,_::l=>by rw[told,wy8 k l];simp
theorem zx9{l:List Nat}:told 0 (38::108::59::l)=60::told 0 l:=by
 rw[told,if_pos (by simp[List.isPrefixOf]),wy8];rfl
theorem zy0{l:List Nat}:told 0 (38::97::59::l)=38::told 0 l:=by
 rw[told,if_neg (by simp[List.isPrefixOf]),if_pos (by simp[List.isPrefixOf]),wy8];rfl
theorem told_n{c:Nat}{l:List Nat}(h1:¬El <+: c::l)(h2:¬Ea <+: c::l):told 0 (c::l)=c::told 0 l:=by
 rw[told,if_neg (by rw[isPrefixOf_iff_prefix];exact h1),if_neg (by rw[isPrefixOf_iff_prefix];exact h2)]
theorem yw8{a b c:Nat}{l:List Nat}:[a,b,c] <+: l↔∃ r,l=a::b::c::r:=by
 constructor
 ·rintro⟨r,e⟩;exact⟨r,e.symm⟩
 ·rintro⟨r,rfl⟩;exact⟨r,rfl⟩
theorem ne_pre{a b c d:Nat}{l:List Nat}(h:d≠a):¬[a,b,c] <+: d::l:=by
 rw[yw8];rintro⟨r,e⟩;injection e with e _;exact h e
theorem ye8{c:Nat}{l r:List Nat}(hc:c≠60)(h:rep El [60] 0 l=c::r):∃ l',l=c::l'/\r=rep El [60] 0 l':=by
 cases l with
 | nil=>cases h
 | cons d l =>
   by_cases hp:El <+: d::l
   ·rw[rep_yes (by simp) hp] at h
    injection h with e _
    exact absurd e.symm hc
   ·rw[rep_no hp] at h
    injection h with e1 e2
    subst e1
    exact⟨l,rfl,e2.symm⟩
theorem two_reps:∀ (n:Nat) (l:List Nat),l.length<=n->rep Ea [38] 0 (rep El [60] 0 l)=told 0 l
 | _,[],_=>rfl
 | 0,_::_,h=>by simp at h
 | n + 1,c::l,h=>by
   have h:l.length<=n:=by simpa using h
   by_cases h1:El <+: c::l
   ·obtain⟨r,e⟩:=yw8.mp h1
    rw[e] at h1 ⊢
    have hr:r.length<=n:=by
     injection e with _ e
     rw[e] at h
     simp at h;omega
    rw[rep_yes (by simp) h1,zx9]
    show rep Ea [38] 0 (60::rep El [60] 0 r)=_
    rw[rep_no (ne_pre #[10]),two_reps n r hr]
   ·rw[rep_no h1]
    by_cases h2:Ea <+: c::l
    ·obtain⟨r,e⟩:=yw8.mp h2
     have hr:r.length<=n:=by
      injection e with _ e
      rw[e] at h
      simp at h;omega
     injection e with ec e
     subst ec e
     rw[zy0,rep_no (Y:=El) (Z:=[60]) (c:=97) (l:=59::r) (ne_pre #[10]),rep_no (Y:=El) (Z:=[60]) (c:=59) (l:=r) (ne_pre #[10]),rep_yes (Y:=Ea) (Z:=[38]) (by simp) (yw8.mpr ⟨_,rfl⟩)]
     show 38::rep Ea [38] 0 (rep El [60] 0 r)=_
     rw[two_reps n r hr]
    ·rw[told_n h1 h2,rep_no fun hp=>?_,two_reps n l h]
     obtain⟨r,e⟩:=yw8.mp hp
     injection e with ec e
     obtain⟨l',rfl,e2⟩:=ye8 #[10] e
     obtain⟨l'',rfl,e3⟩:=ye8 #[10] e2.symm
     subst ec
     exact h2 (yw8.mpr ⟨l'',rfl⟩)
end TX
namespace TX
open PySem
def letter(c:Nat):Bool:=decide (97<=c) && decide (c<=122)
def nm(d:List Nat):Option Nat:=if 1<=(d.takeWhile letter).length/\(d.takeWhile letter).length<=8/\d[(d.takeWhile letter).length]?=some 62 then some (d.takeWhile letter).length else none
def nst(l:List Nat)(k:Nat):Nat:=if l[k+1]?=some 47 then k+2 else k+1
def tagAt(l:List Nat)(k:Nat):Option (Nat×Nat):=if l[k]?=some 60 then(nm (l.drop (nst l k))).map fun n=>(nst l k,nst l k+n+1) else none
theorem nst_gt(l:List Nat)(k:Nat):k<nst l k:=by unfold nst;split <;> omega
theorem zf2{p:Nat->Bool}:∀ (d:List Nat) (n:Nat),(∀ i,i<n->∃ c,d[i]?=some c/\p c=true)->(∀ c,d[n]?=some c->p c=false)->(d.takeWhile p).length=n
 | [],0,_,_=>rfl
 | [],n+1,h,_=>by obtain⟨c,e,_⟩:=h 0 #[0];simp at e
 | c::d,0,_,h=>by rw[takeWhile_cons,h c rfl];rfl
 | c::d,n+1,h,h2=>by
   obtain⟨c',e,hc⟩:=h 0 #[0]
   have:c=c':=by simpa using e
   subst this
   rw[takeWhile_cons,hc]
   simp only[if_true,length_cons]
   rw[zf2 d n (fun i hi=>by have:=h (i+1) #[0];simpa using this) (fun c e=>h2 c (by simpa using e))]
theorem zf3{p:Nat->Bool}:∀ (d:List Nat) (i:Nat),i<(d.takeWhile p).length->∃ c,d[i]?=some c/\p c=true
 | [],i,h=>by simp at h
 | c::d,0,h=>by
   rw[takeWhile_cons] at h
   cases hc:p c with
   | true=>exact⟨c,rfl,hc⟩
   | false=>rw[hc] at h;simp at h
 | c::d,i+1,h=>by
   rw[takeWhile_cons] at h
   cases hc:p c with
   | true=>rw[hc] at h;simp at h;obtain⟨c',e,h'⟩:=zf3 d i h;exact⟨c',by simpa using e,h'⟩
   | false=>rw[hc] at h;simp at h
theorem yl0:letter 62=false:=by decide
theorem nm_iff{d:List Nat}{n:Nat}:nm d=some n↔1<=n/\n<=8/\(∀ i,i<n->∃ c,d[i]?=some c/\letter c=true)/\d[n]?=some 62:=by
 constructor
 ·intro h
  unfold nm at h
  split at h
  ·rename_i hc
   have e:(d.takeWhile letter).length=n:=by simpa using h
   rw[e] at hc
   exact⟨hc.1,hc.2.1,fun i hi=>zf3 d i (by rw[e];exact hi),hc.2.2⟩
  ·cases h
 ·rintro⟨h1,h2,h3,h4⟩
  have e:(d.takeWhile letter).length=n:=zf2 d n h3 fun c e=>by rw[h4] at e;cases e;exact yl0
  unfold nm
  rw[e,if_pos ⟨h1,h2,h4⟩]
theorem tagAt_gt{l:List Nat}{k f e:Nat}(h:tagAt l k=some (f,e)):k<e/\e<=l.length/\f=nst l k/\f<e-1/\l[k]?=some 60/\nm (l.drop f)=some (e-1-f):=by
 unfold tagAt at h
 split at h
 ·rename_i h60
  obtain⟨n,hn,e1⟩:=Option.map_eq_some_iff.mp h
  injection e1 with ef ee
  subst ef ee
  obtain⟨h1,h2,h3,h4⟩:=nm_iff.mp hn
  have:=nst_gt l k
  rw[List.getElem?_drop] at h4
  have:=(List.getElem?_eq_some_iff.mp h4).1
  exact⟨by omega,by omega,rfl,by omega,h60,by rw[hn];congr 1;omega⟩
 ·cases h
def ofL(xs:List Nat):Str:=⟨xs.toArray⟩
def runD(l:List Nat)(a b:Nat):PyData:=.tuple [.str "run",.int a,.int b,.str (ofL (told 0 ((l.drop a).take (b-a))))]
def tagD(l:List Nat)(k f e:Nat):PyData:=.tuple [.str (if f=k+1 then "open" else "close"),.int k,.int e,.str (ofL ((l.drop f).take (e-1-f)))]
def runs(l:List Nat)(a b:Nat):List PyData:=if a<b then[runD l a b] else[]
def cutAt(l:List Nat):Nat->Nat->Nat->List PyData
 | 0,_,s=>runs l s l.length
 | n+1,k,s=>if l.length<=k then runs l s l.length else match tagAt l k with
   | none=>cutAt l n (k+1) s
   | some (f,e)=>runs l s k++tagD l k f e::cutAt l n e e
def toks(l:List Nat)(k s:Nat):List PyData:=cutAt l (l.length-k) k s
theorem wc6(l:List Nat):∀ (n m k s:Nat),l.length-k<=n->n<=m->cutAt l m k s=cutAt l n k s
 | 0,0,_,_,_,_=>rfl
 | 0,m+1,k,s,h,_=>by show(if l.length<=k then _ else _)=runs l s l.length;rw[if_pos #[0]]
 | n+1,0,_,_,_,h=>by omega
 | n+1,m+1,k,s,h,hm=>by
   rw[cutAt,cutAt]
   split
   ·rfl
   ·cases ht:tagAt l k with
    | none=>exact wc6 l n m (k+1) s #[0] #[0]
    | some fe =>
      obtain⟨f,e⟩:=fe
      have:=(tagAt_gt ht).1
      show _++_::cutAt l m e e=_++_::cutAt l n e e
      rw[wc6 l n m e e #[0] #[0]]
theorem toks_end{l:List Nat}{k s:Nat}(h:l.length<=k):toks l k s=runs l s l.length:=by
 unfold toks
 rw[show l.length-k=0 by omega];rfl
theorem toks_none{l:List Nat}{k s:Nat}(h:k<l.length)(ht:tagAt l k=none):toks l k s=toks l (k+1) s:=by
 unfold toks
 obtain⟨n,hn⟩:∃ n,l.length-k=n+1:=⟨l.length-k-1,by omega⟩
 rw[hn,cutAt,if_neg #[0],ht]
 exact(wc6 l _ _ _ _ #[0] #[0])
theorem toks_some{l:List Nat}{k s f e:Nat}(ht:tagAt l k=some (f,e)):toks l k s=runs l s k++tagD l k f e::toks l e e:=by
 obtain⟨h1,h2,_⟩:=tagAt_gt ht
 unfold toks
 obtain⟨n,hn⟩:∃ n,l.length-k=n+1:=⟨l.length-k-1,by omega⟩
 rw[hn,cutAt,if_neg #[0],ht]
 show _++_::cutAt l n e e=_
 rw[wc6 l (l.length-e) n e e #[0] #[0]]
theorem toks_skip{l:List Nat}{s:Nat}:∀ (d k:Nat),k+d<=l.length->(∀ j,k<=j->j<k+d->l[j]?≠some 60)->toks l k s=toks l (k+d) s
 | 0,k,_,_=>rfl
 | d+1,k,h,hn=>by
   rw[toks_none #[0] (by unfold tagAt;rw[if_neg (hn k #[6] #[0])]),toks_skip d (k+1) #[0] fun j h1 h2=>hn j #[0] #[0]]
   congr 1;omega
end TX
theorem A7.refl(H:Hp):A7 H H:=fun _ _ e=>e
theorem W9(x y:Str):x=y↔x.cps.toList=y.cps.toList:=⟨fun e=>by rw[e],fun e=>PySem.Str.ext' (Array.toList_inj.mp e)⟩
variable{z:Str}
theorem wm6{a b:Int}{i:Nat}(ha:a=(i:Int))(hb:b=(j:Int)):(qi9 z (some a) (some b)).cps.toList=#[48,i].take (j-i):=by
 subst ha hb
 unfold qi9
 rw[HT.qp0,HT.qp0]
 show#[48,min i z.cps.toList.length].take _=_
 by_cases hi:i<=z.cps.toList.length
 ·rw[Nat.min_eq_left hi]
  by_cases hj:j<=z.cps.toList.length
  ·rw[Nat.min_eq_left hj]
  ·rw[Nat.min_eq_right #[0],take_of_length_le (by rw[length_drop];exact Nat.le_refl _),take_of_length_le (by rw[length_drop];omega)]
 ·rw[Nat.min_eq_right (Nat.le_of_lt (Nat.lt_of_not_le hi)),drop_eq_nil_of_le #[6],drop_eq_nil_of_le (Nat.le_of_lt (Nat.lt_of_not_le hi))]
  simp
theorem xf0(Y Z:List Nat):∀ (k:Nat) (l:List Nat),(TX.rep Y Z k l).length<=l.length*(Z.length+1)
 | _,[]=>by simp[TX.rep]
 | k+1,_::l=>by
   rw[TX.rep,length_cons,Nat.succ_mul]
   exact Nat.le_trans (xf0 Y Z k l) (Nat.le_add_right _ _)
 | 0,c::l=>by
   have h1:=xf0 Y Z (Y.length-1) l
   have h2:=xf0 Y Z 0 l
   rw[TX.rep,length_cons,Nat.succ_mul]
   split
   ·rw[length_append];omega
   ·rw[length_cons];omega
theorem ye9(x y z:Str)(h0:1<=y.length):(PySem.Txt.replace x y z).length<=x.length*(z.length+1):=by
 have e:=TX.replace_rep x y z h0
 have h:=xf0 y.cps.toList z.cps.toList 0 x.cps.toList
 rw[<-e,Array.length_toList,Array.length_toList,Array.length_toList] at h
 exact h
def yf0(l:List Nat)(i:Nat):Bool:=decide (l[i]?=some 60) || (decide (l[i]?=some 38) && (!decide ((l.drop (i+1)).take 2=[108,59]) && !decide ((l.drop (i+1)).take 2=[97,59])))
def qg1(l:List Nat)(i:Nat):List Nat:=(List.range i).filter (yf0 l)
theorem yl1(l:List Nat)(i:Nat):qg1 l (i+1)=if yf0 l i=true then qg1 l i++[i] else qg1 l i:=by
 unfold qg1
 rw[range_succ,filter_append]
 by_cases h:yf0 l i=true
 ·rw[if_pos h];simp[h]
 ·rw[if_neg h];simp[h]
theorem wy9(l:List Nat)(i:Nat):(qg1 l i).length<=i:=by
 unfold qg1
 exact Nat.le_trans (length_filter_le _ _) (Nat.le_of_eq (length_range))
variable{l:List Nat}
theorem wz0{i:Nat}(h:l[i]?=some c):l.drop i=c::l.drop (i+1):=by
 obtain⟨hi,e⟩:=List.getElem?_eq_some_iff.mp h
 rw[drop_eq_getElem_cons hi,e]
theorem zn3{i:Nat}{a b:Int}(h:z.cps.toList[i]?=some c)(ha:a=(i:Int))(hb:b=((i+3:Nat):Int)) :
 (decide ((⟨#[c]⟩:Str)∈(["<","&"]:List Str)) && !decide (qi9 z (some a) (some b)∈(["&l;","&a;"]:List Str)))=yf0 z.cps.toList i:=by
 have e:=wm6 (z:=z) ha hb
 rw[show i+3-i=3 by omega,wz0 h,take_succ_cons] at e
 have e1:(⟨#[c]⟩:Str) = "<"↔c=60:=by
  rw[W9];show[c]=[60]↔_;simp
 have e2:(⟨#[c]⟩:Str) = "&"↔c=38:=by
  rw[W9];show[c]=[38]↔_;simp
 have e3:qi9 z (some a) (some b) = "&l;"↔c=38/\#[48,i+1].take 2=[108,59]:=by
  rw[W9,e];show c::_=[38,108,59]↔_;simp
 have e4:qi9 z (some a) (some b) = "&a;"↔c=38/\#[48,i+1].take 2=[97,59]:=by
  rw[W9,e];show c::_=[38,97,59]↔_;simp
 unfold yf0
 rw[h]
 simp only[mem_cons,not_mem_nil,or_false,e1,e2,e3,e4,Option.some.injEq]
 by_cases h1:c=60
 ·subst h1;simp
 ·by_cases h2:c=38
  ·subst h2;simp
  ·simp[h1,h2]
def wc7(K:Fg):Sp:=fun vs H Q _=>∃ z:Str,vs=[.str z]/\z.length<=100000/\∀ w:Str,w.cps.toList=TX.told 0 z.cps.toList->Q (.str w) H
def wm7(K:Fg):TS :=
 (L6 (xr8 (xr8 (A2 0) ("&l;":Str) ("<":Str)) ("&a;":Str) ("&":Str)))
theorem yl2(h:wc7 K vs H Q E):wm7 K {nx:=fun _ H'=>Q .non H',rt:=Q} (E2 ["run"] vs) H:=by
 obtain⟨z,rfl,hz,q⟩:=h
 show wm7 K _ [some (.str z)] H
 unfold wm7
 lk
 refine⟨z,rfl,by omega,?_⟩
 have l1:=ye9 z "&l;" "<" #[10]
 rw[show("<":Str).length=1 from rfl] at l1
 refine⟨_,rfl,by omega,?_⟩
 refine q _ ?_
 rw[TX.replace_rep _ _ _ #[10],TX.replace_rep _ _ _ #[10]]
 exact TX.two_reps _ _ #[6]
def qp8(K:Fg):Sp:=fun vs H Q _=>∃ z:Str,vs=[.str z]/\z.length<=100000/\∀ (p:Addr) (H':Hp),A7 H H'->H p=none->H' p=some (.lst (yd9 (qg1 z.cps.toList z.cps.toList.length)))->Q (.ref p) H'
def qu4(K:Fg)(c_TOLD_FOR:Addr)(c_ESCAPED:Addr):TS :=
 (L6 (qu0 [some 0,none,none] (yj4 #[3,0]) (yt1 K 2 (we5 (B6 1) (we5 (B6 2) yt0))) (xf5 (G0 (tOp (wq3 K false) (A2 2) (tC (.ref c_ESCAPED)))) (G0 (tOp (wq3 K true) (tSl (wg2 K) (A2 0) (U8 (A2 1)) (U8 (tOp (J6 K) (A2 1) #[2,3]))) (tC (.ref c_TOLD_FOR))))) (A2 1)))
variable{c_ESCAPED:Addr}
theorem xx5{c_TOLD_FOR:Addr}(q_TOLD_FOR:∀ H:Hp,SqT K H c_TOLD_FOR [.str "&l;",.str "&a;"])(q_ESCAPED:∀ H:Hp,SqT K H c_ESCAPED [.str "<",.str "&"])(h:qp8 K vs H Q E):qu4 K c_TOLD_FOR c_ESCAPED {nx:=fun _ H'=>Q .non H',rt:=Q} (E2 ["run"] vs) H:=by
 obtain⟨z,rfl,hz,q⟩:=h
 show qu4 K _ _ _ [some (.str z)] H
 unfold qu4
 lk
 have hl:z.cps.toList.length=z.cps.size:=Array.length_toList
 have hz':z.cps.size<=100000:=hz
 refine yj5 (fun i ys H'=>A7 H H'/\ys=yd9 (qg1 z.cps.toList i)) ⟨A7.refl H,rfl⟩ ?_ ?_ ?_
 ·rintro i ys H' hi ⟨_,rfl⟩
  have:=wy9 z.cps.toList i
  rw[yd9,length_map]
  exact E5 #[0]
 ·rintro i c p ys H' hc hp ⟨hs,rfl⟩
  refine⟨p,_,rfl,SqT.of A6,rfl,_,_,rfl,J0 ⟨_,_,rfl,J0 ⟨rfl,?_⟩⟩⟩
  have hs2:A7 H (upd H' p (.tup [.int i,.str ⟨#[c]⟩])):=A7.tr hs #[78,hp]
  lk
  refine .inl (xw1 (xs:=B4 ["<","&"]) (.inr (q_ESCAPED _)) rfl (T0 _) ?_)
  rw[V3]
  lk
  have key:=zn3 hc (a:=(i:Int)) (b:=(i:Int)+3) rfl #[0]
  simp only[PAt]
  rw[yl1]
  by_cases h1:(⟨#[c]⟩:Str)∈(["<","&"]:List Str)
  ·rw[decide_eq_true h1];refine qt5 ?_
   rw[decide_eq_true h1,Bool.true_and] at key
   lk
   refine xr9 (E5 hz) ?_
   lk
   refine .inl (xw2 (xs:=B4 ["&l;","&a;"]) (.inr (q_TOLD_FOR _)) rfl (T0 _) ?_)
   rw[V3,key]
   lk
   by_cases h2:yf0 z.cps.toList i=true
   ·rw[h2];refine qt5 ?_
    rw[if_pos rfl]
    lk
    exact⟨hs2,by simp[yd9]⟩
   ·rw[Bool.eq_false_iff.mpr h2];refine qd5 ?_
    rw[if_neg Bool.false_ne_true]
    exact⟨hs2,rfl⟩
  ·rw[decide_eq_false h1];refine qd5 ?_
   rw[decide_eq_false h1,Bool.false_and] at key
   rw[<-key]
   k_go
   rw[if_neg Bool.false_ne_true]
   exact⟨hs2,rfl⟩
 ·rintro ys H' ⟨hs,rfl⟩ p hp
  refine q p _ (A7.tr hs #[78,hp]) ?_ ?_
  ·cases e:H p with
   | none=>rfl
   | some u=>rw[hs _ _ e] at hp;cases hp
  ·rw[hl];exact A6
section
open PySem.StrLaws PySem.Builtin.Str
theorem xf1{n:Nat}(h:i=(k:Int)):fromIndex n i=k:=by
 subst h;unfold fromIndex
 rw[if_neg #[0]];omega
theorem yl3(x:Str)(c hi i:Nat)(hh:hi<=x.length):At x ⟨#[c]⟩ hi i↔i<hi/\x.cps.toList[i]?=some c:=by
 have h:=subAt_one x c i
 have e:(⟨#[c]⟩:Str).length=1:=rfl
 unfold At
 rw[e] at h ⊢
 constructor
 ·rintro⟨a,b⟩;exact⟨by omega,h.mp ⟨by omega,b⟩⟩
 ·rintro⟨a,b⟩;exact⟨by omega,(h.mpr b).2⟩
theorem zn4{lo n a:Nat}{pre post:List Nat}(e:List.range' lo n=pre++a::post):lo<=a/\a<lo+n/\∀ k,lo<=k->k<a->k∈pre:=by
 have h:=range'_split_from e
 have:a∈List.range' lo n:=by rw[e];simp
 have:=mem_range'_1.mp this
 exact⟨h.1,this.2,h.2⟩
theorem zf4(x:Str)(c lo hi:Nat)(hh:hi<=x.length) :
 (occurrences x ⟨#[c]⟩ lo hi 1=[]/\∀ i,lo<=i->i<hi->x.cps.toList[i]?≠some c) \/
 ∃ i r,occurrences x ⟨#[c]⟩ lo hi 1=i::r/\lo<=i/\i<hi/\x.cps.toList[i]?=some c/\∀ k,lo<=k->k<i->x.cps.toList[k]?≠some c:=by
 have go:=occ_first x ⟨#[c]⟩ hi 1 (Nat.le_refl 1) (List.range' lo (hi+1-lo)) lo (fun i hi'=>(mem_range'_1.mp hi').1)
 rw[occ_eq]
 rcases go with⟨e,hn⟩|⟨pre,a,post,e,h0,ha,hn⟩
 ·refine .inl ⟨by rw[e],fun i h1 h2 hc=>?_⟩
  exact hn i (mem_range'_1.mpr ⟨h1,by omega⟩) ((yl3 x c hi i hh).mpr ⟨h2,hc⟩)
 ·obtain⟨s1,s2,s3⟩:=zn4 e
  obtain⟨a1,a2⟩:=(yl3 x c hi a hh).mp ha
  generalize (forIn (List.range' lo (hi+1-lo)) ((#[]:Array Nat),lo) (occBody x ⟨#[c]⟩ hi 1)).run.fst=arr at h0 ⊢
  have g0:arr.toList[0]?=some a:=by rw[<-h0];simp
  refine .inr ⟨a,arr.toList.tail,?_,s1,a1,a2,fun k k1 k2 hc=>hn k (s3 k k1 k2) ((yl3 x c hi k hh).mpr ⟨by omega,hc⟩)⟩
  cases hL:arr.toList with
  | nil=>rw[hL] at g0;cases g0
  | cons b t=>rw[hL] at g0;simp at g0;rw[g0];rfl
theorem zf5{j:Int}{f g:Nat}(hi:i=(f:Int))(hj:j=(g:Int)) :
 (xs0 z ⟨#[c]⟩ i j=-1/\∀ k,f<=k->k<g->z.cps.toList[k]?≠some c) \/
 ∃ k:Nat,xs0 z ⟨#[c]⟩ i j=(k:Int)/\f<=k/\k<g/\z.cps.toList[k]?=some c/\∀ m,f<=m->m<k->z.cps.toList[m]?≠some c:=by
 walk_at"20"
 unfold xs0
 rw[xf1 hi,xf1 hj]
 rcases zf4 z c f (min g z.length) (Nat.min_le_right _ _) with⟨e,hn⟩|⟨k,r,e,h1,h2,h3,h4⟩
 ·rw[e]
  refine .inl ⟨rfl,fun k k1 k2 hc=>?_⟩
  have:=(List.getElem?_eq_some_iff.mp hc).1
  exact hn k k1 #[0] hc
 ·rw[e];exact .inr ⟨k,rfl,h1,by omega,h3,h4⟩
theorem zf6{f:Nat}(hi:i=(f:Int)) :
 (PySem.Txt.find3 z ⟨#[c]⟩ i=-1/\∀ k,f<=k->z.cps.toList[k]?≠some c) \/
 ∃ k:Nat,PySem.Txt.find3 z ⟨#[c]⟩ i=(k:Int)/\f<=k/\z.cps.toList[k]?=some c/\∀ m,f<=m->m<k->z.cps.toList[m]?≠some c:=by
 walk_at"20"
 unfold PySem.Txt.find3
 rw[xf1 hi]
 rcases zf4 z c f z.length #[6] with⟨e,hn⟩|⟨k,r,e,h1,h2,h3,h4⟩
 ·rw[e]
  refine .inl ⟨rfl,fun k k1 hc=>?_⟩
  have:=(List.getElem?_eq_some_iff.mp hc).1
  exact hn k k1 #[0] hc
 ·rw[e];exact .inr ⟨k,rfl,h1,h3,h4⟩
theorem yw9(hi:i=(k:Int))(h:z.cps.toList[k]?=some 60):PySem.Txt.startswith3 z "</" i=decide (z.cps.toList[k+1]?=some 47):=by
 walk_at"20"
 unfold PySem.Txt.startswith3
 rw[xf1 hi,subAt_eq]
 show(decide (k+2<=z.length) && (#[48,k].take 2 == [60,47]))=_
 rw[wz0 h]
 have hk:=(List.getElem?_eq_some_iff.mp h).1
 cases h2:z.cps.toList[k+1]? with
 | none =>
   have:z.cps.toList.length<=k+1:=List.getElem?_eq_none_iff.mp h2
   rw[decide_eq_false #[0]];rfl
 | some c =>
   have:=(List.getElem?_eq_some_iff.mp h2).1
   rw[decide_eq_true #[0],wz0 h2]
   by_cases e:c=47 <;> simp[e]
def R0(K:Fg):Sp:=fun vs H Q _=>∃ z:Str,vs=[.str z]/\z.length<=100000/\∀ H',A7 H H'->Q (.bl (decide (1<=z.length) && (decide (z.length<=8) && z.cps.toList.all TX.letter))) H'
def R9(K:Fg):TS :=
 (L6 (ym7 (xu9 yj2 yj2 #[2,1] (tCB (N6 K) #[3,0]) #[2,8]) (tCB (zc7 K) (A1 (qu0 [none] (zl6 (A2 0)) (B6 0) tTT (xu9 yj2 yj2 (tC (.str "a")) (A2 0) (tC (.str "z")))) A9))))
theorem wc8(h:R0 K vs H Q E):R9 K {nx:=fun _ H'=>Q .non H',rt:=Q} (E2 ["word"] vs) H:=by
 obtain⟨z,rfl,hz,q⟩:=h
 show R9 K _ [some (.str z)] H
 unfold R9
 lk
 refine wh8 (E5 hz) ?_
 lk
 by_cases h1:(1:Int)<=z.length
 ·rw [decide_eq_true h1]
  x_go
  rw[decide_eq_true (by omega:1<=z.length),Bool.true_and] at q
  lk
  by_cases h2:(z.length:Int)<=8
  ·rw[decide_eq_true h2]
   x_go
   rw[decide_eq_true (by omega:z.length<=8),Bool.true_and] at q
   lk
   have hl:z.cps.toList.length=z.cps.size:=Array.length_toList
   refine yc6 (fun i ys H'=>H'=H/\ys=((z.cps.toList.take i).map TX.letter).map V.bl) ⟨rfl,rfl⟩ ?_ ?_ ?_
   ·rintro i ys H' hi ⟨_,rfl⟩
    rw[length_map,length_map,length_take]
    exact E5 (by have:z.cps.size<=100000:=hz;omega)
   ·rintro i c ys H' hc ⟨rfl,rfl⟩
    have tk:z.cps.toList.take (i+1)=z.cps.toList.take i++[c]:=by rw[take_add_one,hc];rfl
    lk
    refine zq9 ?_
    have e1:(!decide ((⟨#[c]⟩:Str).cps.toList<("a":Str).cps.toList))=decide (97<=c):=by
     show(!decide ([c] < [97]))=_
     rw[lt_cons_cons,lt_nil_nil,Bool.and_false,Bool.or_false]
     by_cases h:97<=c
     ·rw[decide_eq_true h,decide_eq_false #[0]];rfl
     ·rw[decide_eq_false h,decide_eq_true #[0]];rfl
    have e2:(!decide (("z":Str).cps.toList<(⟨#[c]⟩:Str).cps.toList))=decide (c<=122):=by
     show(!decide ([122] < [c]))=_
     rw[lt_cons_cons,lt_nil_nil,Bool.and_false,Bool.or_false]
     by_cases h:c<=122
     ·rw[decide_eq_true h,decide_eq_false #[0]];rfl
     ·rw[decide_eq_false h,decide_eq_true #[0]];rfl
    rw[e1]
    refine⟨_,rfl,?_⟩
    by_cases hc1:97<=c
    ·rw[decide_eq_true hc1];refine qt5 ?_
     lk
     refine zq9 ?_
     rw[e2]
     exact⟨rfl,by rw[tk];simp[TX.letter,hc1]⟩
    ·rw[decide_eq_false hc1];refine qd5 ?_
     exact⟨rfl,by rw[tk];simp[TX.letter,hc1]⟩
   ·rintro ys H' ⟨rfl,rfl⟩ p hp
    lk
    refine Ad5 #[52,A6] ?_
    rw[<-hl,take_length]
    have e:(z.cps.toList.map TX.letter).all id=z.cps.toList.all TX.letter:=by rw[all_map];rfl
    rw[e]
    exact q _ #[78,hp]
  ·rw[decide_eq_false h2]
   k_go
   rw[decide_eq_false (by omega:¬z.length<=8),Bool.false_and] at q
   exact q _ (A7.refl H)
 ·rw[decide_eq_false h1]
  k_go
  refine⟨false,rfl,qd5 ?_⟩
  rw[decide_eq_false (by omega:¬1<=z.length),Bool.false_and] at q
  exact q _ (A7.refl H)
def qd8(K:Fg):Sp:=fun vs H Q _=>∃ (z:Str) (k:Nat),vs=[.str z,.int k]/\z.cps.toList[k]?=some 60/\Q (.int (TX.nst z.cps.toList k)) H
def qp9(K:Fg):TS :=
 (L6 (tIf (tB (tBM K "str" yo7 (A2 0) (A1 (tC (.str "</")) #[3,1]))) (tOp (J6 K) (A2 1) #[2,2]) #[92,1]))
theorem xo3(h:qd8 K vs H Q E):qp9 K {nx:=fun _ H'=>Q .non H',rt:=Q} (E2 ["text","start"] vs) H:=by
 obtain⟨z,k,rfl,h60,q⟩:=h
 show qp9 K _ [some (.str z),some (.int k)] H
 unfold qp9
 lk
 refine⟨rfl,?_⟩
 lk
 refine⟨z, "</",k,rfl,rfl,?_⟩
 rw[yw9 rfl h60]
 lk
 unfold TX.nst at q
 by_cases h:z.cps.toList[k+1]?=some 47
 ·rw[decide_eq_true h];refine qt5 ?_
  rw[if_pos h] at q
  lk
  exact q
 ·rw[decide_eq_false h];refine qd5 ?_
  rw[if_neg h] at q
  lk
  exact q
def qu5(K:Fg):Sp:=fun vs H Q _=>∃ (z:Str) (k:Nat),vs=[.str z,.int k]/\z.length<=100000/\z.cps.toList[k]?=some 60/\(TX.tagAt z.cps.toList k=none->∀ H',A7 H H'->Q .non H') /\
 ∀ (f e:Nat),TX.tagAt z.cps.toList k=some (f,e)->∀ H',A7 H H'->Q (.int e) H'
def wc9(K:Fg):TS :=
 (C1 (E3 (D8 (qd8 K) [] E0 (A1 (A2 0) #[3,1])) (B6 2))
 (C1 (E3 (tBM K "str" zc5 (A2 0) (A1 (tC (.str ">")) (A1 (A2 2) (A1 (tOp (J6 K) (tOp (J6 K) (A2 2) #[2,8]) #[2,1]) A9)))) (B6 3))
 (C1 (S3 (tOr (G0 (tOp xv7 (A2 3) #[2,0])) (zi7 (tB (D8 (R0 K) [] E0 (A1 (tSl (wg2 K) (A2 0) (U8 (A2 2)) (U8 (A2 3))) A9)))))
 (L6 (tC .non)) Q5)
 (L6 #[92,3]))))
theorem yf2(h:qu5 K vs H Q E):wc9 K {nx:=fun _ H'=>Q .non H',rt:=Q} (E2 ["text","start","first","end"] vs) H:=by
 obtain⟨z,k,rfl,hz,h60,q1,q2⟩:=h
 show wc9 K _ [some (.str z),some (.int k),none,none] H
 unfold wc9
 walk_at"20"
 lk
 refine⟨z,k,rfl,h60,?_⟩
 lk
 refine⟨rfl,?_⟩
 lk
 refine⟨z, ">",_,_,rfl,rfl,?_⟩
 have tg:TX.tagAt z.cps.toList k=(TX.nm #[48,TX.nst z.cps.toList k]).map fun n=>(TX.nst z.cps.toList k,TX.nst z.cps.toList k+n+1):=by unfold TX.tagAt;rw[if_pos h60]
 generalize TX.nst z.cps.toList k=f at *
 have e0:(">":Str)=⟨#[62]⟩:=rfl
 rw[e0]
 rcases zf5 (z:=z) (c:=62) (i:=(f:Int)) (j:=(f:Int)+8+1) (f:=f) (g:=f+9) rfl #[0] with⟨e,hn⟩|⟨r,e,r1,r2,r3,r4⟩
 ·rw[e]
  lk
  refine qt5 (qt5 ?_)
  lk
  refine q1 ?_ _ (A7.refl H)
  rw[tg]
  cases hm:TX.nm #[48,f] with
  | none=>rfl
  | some n =>
    obtain⟨n1,n2,n3,n4⟩:=TX.nm_iff.mp hm
    rw[List.getElem?_drop] at n4
    exact absurd n4 (hn (f+n) #[0] #[0])
 ·rw [e]
  lk
  rw[decide_eq_false (by omega:¬((r:Nat):Int)<0)];refine qd5 ?_
  lk
  refine xr9 (E5 hz) ?_
  have ct:=wm6 (z:=z) (a:=(f:Int)) (b:=(r:Int)) (i:=f) (j:=r) rfl rfl
  generalize qi9 z (some (f:Int)) (some (r:Int))=nmz at *
  have rl:=(List.getElem?_eq_some_iff.mp r3).1
  have ln:nmz.length=r-f:=by
   have h1:=congrArg List.length ct
   rw[Array.length_toList,length_take,length_drop] at h1
   show nmz.cps.size=_
   omega
  lk
  refine⟨nmz,rfl,by omega,fun H' s'=>?_⟩
  lk
  have get:∀ i,i<r-f->nmz.cps.toList[i]?=#[48,f][i]?:=fun i hi=>by rw[ct,List.getElem?_take_of_lt hi]
  by_cases hb:(decide (1<=nmz.length) && (decide (nmz.length<=8) && nmz.cps.toList.all TX.letter))=true
  ·rw[hb,Bool.not_true];refine qd5 ?_
   lk
   simp only[Bool.and_eq_true,decide_eq_true_eq,all_eq_true] at hb
   have hm:TX.nm #[48,f]=some (r-f):=TX.nm_iff.mpr ⟨by omega,by omega,fun i hi=>by
    have hi2:i<nmz.cps.toList.length:=by rw[Array.length_toList];show i<nmz.length;omega
    refine⟨nmz.cps.toList[i],by rw[<-get i hi,List.getElem?_eq_getElem hi2],hb.2.2 _ (List.getElem_mem hi2)⟩,by rw[List.getElem?_drop,show f+(r-f)=r by omega];exact r3⟩
   have:=q2 f (r+1) (by rw[tg,hm];show some (f,f+(r-f)+1)=_;rw[show f+(r-f)+1=r+1 by omega]) H' s'
   exact this
  ·rw [Bool.eq_false_iff.mpr hb,Bool.not_false];refine qt5 ?_
   lk
   refine q1 ?_ _ s'
   rw[tg]
   cases hm:TX.nm #[48,f] with
   | none=>rfl
   | some n =>
     exfalso
     apply hb
     obtain⟨n1,n2,n3,n4⟩:=TX.nm_iff.mp hm
     rw[List.getElem?_drop] at n4
     have hr:r=f+n:=by
      rcases Nat.lt_trichotomy r (f+n) with h|h|h
      ·obtain⟨c,hc,hlc⟩:=n3 (r-f) #[0]
       rw[List.getElem?_drop,show f+(r-f)=r by omega,r3] at hc
       cases hc
       exact absurd hlc #[10]
      ·exact h
      ·exact absurd n4 (r4 (f+n) #[0] h)
     simp only[Bool.and_eq_true,decide_eq_true_eq,all_eq_true]
     refine⟨by omega,by omega,fun c hc=>?_⟩
     obtain⟨i,hi,e⟩:=List.getElem_of_mem hc
     have hi2:i<r-f:=by rw[Array.length_toList] at hi;have:i<nmz.length:=hi;omega
     obtain⟨c',hc',hl'⟩:=n3 i #[0]
     rw[<-get i hi2,List.getElem?_eq_getElem hi,e] at hc'
     cases hc'
     exact hl'
def qh1(K:Fg):Sp:=fun vs H Q _=>∃ (z:Str) (k f e:Nat),vs=[.str z,.int k,.int e]/\z.length<=100000/\TX.tagAt z.cps.toList k=some (f,e) /\
 ∀ t,H t=none->Q (.ref t) (upd H t #[75])
def qm1(K:Fg):TS :=
 (C1 (E3 (D8 (qd8 K) [] E0 (A1 (A2 0) #[3,1])) (B6 3))
 (C1 (E3 (tIf (G0 (tOp (qd0 K) (A2 3) #[92,1])) (tC (.str "open")) (tC (.str "close"))) (B6 4))
 (L6 (T7 (A1 (A2 4) (A1 (A2 1) (A1 (A2 2) (A1 (tSl (wg2 K) (A2 0) (U8 (A2 3)) (U8 (tOp (rI0 fun i j=>.int (i-j)) (A2 2) #[2,1]))) A9))))))))
theorem xj3(h:qh1 K vs H Q E):qm1 K {nx:=fun _ H'=>Q .non H',rt:=Q} (E2 ["text","start","stop","first","kind"] vs) H:=by
 obtain⟨z,k,f,e,rfl,hz,ht,q⟩:=h
 show qm1 K _ [some (.str z),some (.int k),some (.int e),none,none] H
 unfold qm1
 obtain⟨g1,g2,g3,g4,g5,g6⟩:=TX.tagAt_gt ht
 lk
 refine⟨z,k,rfl,g5,?_⟩
 rw[<-g3]
 lk
 have ct:=wm6 (z:=z) (a:=(f:Int)) (b:=(e:Int)-1) (i:=f) (j:=e-1) rfl #[0]
 have ec:qi9 z (some (f:Int)) (some ((e:Int)-1))=TX.ofL (#[48,f].take (e-1-f)):=(W9 _ _).mpr ct
 by_cases hf:f=k+1
 ·rw[if_pos hf] at q
  rw[decide_eq_true (by omega:(f:Int)=(k:Int)+1)];refine qt5 ?_
  lk
  refine xr9 (E5 hz) ?_
  rw[ec]
  lk
  exact⟨E5 (by z_go),q⟩
 ·rw[if_neg hf] at q
  rw[decide_eq_false (by omega:¬(f:Int)=(k:Int)+1)];refine qd5 ?_
  lk
  refine xr9 (E5 hz) ?_
  rw[ec]
  lk
  exact⟨E5 (by z_go),q⟩
def T3(K:Fg):Sp:=fun vs H Q _=>∃ (z:Str) (a e:Nat),vs=[.str z,.int a,.int e]/\a<=e/\e<=z.length/\z.length<=100000/\(a=e->∀ p,H p=none->Q (.ref p) (upd H p (.lst []))) /\
 (a<e->∀ (w:Str) (t p:Addr) (H':Hp),w.cps.toList=TX.told 0 (#[48,a].take (e-a))->A7 H H'->H p=none->H' p=some (.lst [.ref t])->H' t=some (.tup [.str "run",.int a,.int e,.str w])->Q (.ref p) H')
def qh2(K:Fg):TS :=
 (C1 (S3 (G0 (tOp (qd0 K) (A2 1) (A2 2)))
 (L6 (W1 A9)) Q5)
 (L6 (W1 (A1 (T7 (A1 (tC (.str "run")) (A1 (A2 1) (A1 (A2 2) (A1 (D8 (wc7 K) [] E0 (A1 (tSl (wg2 K) (A2 0) (U8 (A2 1)) (U8 (A2 2))) A9)) A9))))) A9))))
theorem xd9(h:T3 K vs H Q E):qh2 K {nx:=fun _ H'=>Q .non H',rt:=Q} (E2 ["text","start","stop"] vs) H:=by
 obtain⟨z,a,e,rfl,hae,hez,hz,q1,q2⟩:=h
 show qh2 K _ [some (.str z),some (.int a),some (.int e)] H
 unfold qh2
 lk
 by_cases h:a=e
 ·rw[decide_eq_true (by rw[h])];refine qt5 ?_
  lk
  exact⟨E5 (by z_go),q1 h⟩
 ·rw[decide_eq_false (by intro h';exact h #[0])];refine qd5 ?_
  lk
  refine xr9 (E5 hz) ?_
  lk
  have ct:=wm6 (z:=z) (a:=(a:Int)) (b:=(e:Int)) (i:=a) (j:=e) rfl rfl
  walk_at"20"
  refine⟨_,rfl,?_,fun w hw=>?_⟩
  ·have h1:=congrArg List.length ct
   rw[Array.length_toList,length_take,length_drop] at h1
   show(qi9 z (some (a:Int)) (some (e:Int))).cps.size<=_
   omega
  ·rw[ct] at hw
   lk
   refine⟨E5 (by z_go),fun t ht=>?_⟩
   walk_at"6"
   have hp0:H p=none:=by
    cases e:H p with
    | none=>rfl
    | some u=>rw[A7.new ht _ _ _ e] at hp;cases hp
   have ntp:t≠p:=fun e=>by rw[<-e,A6] at hp;cases hp
   exact q2 #[0] w t p _ hw (A7.tr #[78,ht] #[78,hp]) hp0 A6 (by rw[B8 ntp];exact A6)
end
variable{e q s P' T' W' P W:Nat}{w rule t g kind:Str}{l1 l2 cl:List Brn}{m1 m2:List BA}{b' bb:Brn}{x':BA}{ps:List Addr}{f:List Str->List Str}{ws A B:List Str}{st:Rst}{bv:V}{kR:Addr}
section
variable{K:Fg}{vs:List V}{H:Hp}{Q:VK}{E:XK}
theorem zf7(Pv:St->Hp->Prop)(μ:St->Hp->Nat)(h0:Pv σ H)(i:Nat)(hs:∀ σ H,Pv σ H->∃ k:Int,σ[i]?=some (some (.int k))/\(0<=k->tb {D with nx:=fun σ' H'=>Pv σ' H'/\μ σ' H'<μ σ H,ct:=fun σ' H'=>Pv σ' H'/\μ σ' H'<μ σ H,bk:=D.nx} σ H)/\(¬0<=k->D.nx σ H)) :
 wb5 (G0 (tOp zk3 (A2 i) #[2,0])) tb D σ H:=by
 refine⟨fun m σ H=>m=μ σ H/\Pv σ H,⟨_,rfl,h0⟩,?_⟩
 rintro m σ H ⟨rfl,p⟩
 obtain⟨k,e,h1,h2⟩:=hs σ H p
 refine⟨_,e,zq8 (zq7 ?_)⟩
 by_cases hk:0<=k
 ·rw[decide_eq_true hk]
  exact⟨_,fun σ' H' ⟨p',l⟩=>⟨_,l,rfl,p'⟩,h1 hk⟩
 ·rw[decide_eq_false hk]
  exact h2 hk
theorem wi9:∀ xs ys:List PyData,Q8 (xs++ys)=(Q8 xs && Q8 ys)
 | [],ys=>by simp[Q8]
 | x::xs,ys=>by rw[cons_append,Q8,Q8,wi9 xs ys,Bool.and_assoc]
theorem yp7(l:List Nat)(a e:Nat):Q8 (TX.runs l a e)=true:=by
 unfold TX.runs;split
 ·simp[Q8,fix,TX.runD]
 ·simp[Q8]
theorem xx7(l:List Nat)(k f e:Nat):fix (TX.tagD l k f e)=true:=by simp[Q8,fix,TX.tagD]
theorem yf3(l:List Nat)(a e:Nat):(TX.runs l a e).length<=1:=by unfold TX.runs;split <;> simp
theorem zy1{t:Addr}{a:Nat}(hw:w.cps.toList=TX.told 0 (#[48,a].take (e-a)))(ht:H t=some (.tup [.str "run",.int a,.int e,.str w])):Dv K H (TX.runD z.cps.toList a e) (.ref t):=by
 have ew:w=TX.ofL (TX.told 0 (#[48,a].take (e-a))):=(W9 _ _).mpr (by rw[hw];rfl)
 rw[<-show TX.runD z.cps.toList a e=_ from rfl]
 unfold TX.runD
 rw[<-ew]
 exact D7.mpr ⟨t,_,rfl,SqT.of ht,C0 #[76] (C0 (P1.mpr rfl) (C0 (P1.mpr rfl) (C0 #[76] I9)))⟩
theorem xj4{a:Nat}(hae:a<=e)(hez:e<=z.length)(hz:z.length<=100000)(q:∀ (p:Addr) (zs:List V) (H1:Hp),A7 H H1->H p=none->H1 p=some (.lst zs)->Dvs K H1 (TX.runs z.cps.toList a e) zs->Q (.ref p) H1):T3 K [.str z,.int a,.int e] H Q E:=by
 refine⟨z,a,e,rfl,hae,hez,hz,fun h p hp=>?_,fun h w t p H' hw hs hp h1 ht=>?_⟩
 ·refine q p [] _ #[78,hp] hp A6 ?_
  unfold TX.runs;rw[if_neg #[0]];exact I9
 ·refine q p [.ref t] H' hs hp h1 ?_
  unfold TX.runs;rw[if_pos h]
  exact C0 (zy1 hw ht) I9
theorem yx0(hq:q<=l.length)(hn:∀ k,q<=k->l[k]?≠some 60):TX.toks l q s=TX.runs l s l.length:=by
 rw[TX.toks_skip (l.length-q) q #[0] (fun j h1 _=>hn j h1),TX.toks_end #[0]]
theorem zn5(hqk:q<=k)(hk:l[k]?=some 60)(hn:∀ m,q<=m->m<k->l[m]?≠some 60):TX.toks l q s=TX.toks l k s:=by
 have:=(List.getElem?_eq_some_iff.mp hk).1
 rw[TX.toks_skip (k-q) q #[0] (fun j h1 h2=>hn j h1 #[0]),show q+(k-q)=k by omega]
def TX.glue(l:List Nat):Nat->List (Nat×Nat×Nat)->List PyData
 | s,[]=>TX.runs l s l.length
 | s,t::ts=>TX.runs l s t.1++TX.tagD l t.1 t.2.1 t.2.2::TX.glue l t.2.2 ts
def TX.Ch(l:List Nat):Nat->List (Nat×Nat×Nat)->Prop
 | _,[]=>True
 | q,t::ts=>q<=t.1/\t.1<t.2.2/\t.2.2<=l.length/\TX.Ch l t.2.2 ts
def TX.tg(l:List Nat)(t:Nat×Nat×Nat):PyData:=TX.tagD l t.1 t.2.1 t.2.2
theorem xx8{r:Nat}:∀ {ts:List (Nat×Nat×Nat)},q<=r->TX.Ch l r ts->TX.Ch l q ts
 | [],_,_=>trivial
 | t::ts,h,g=>⟨Nat.le_trans h g.1,g.2⟩
theorem yp8{l:List Nat}:∀ ts:List (Nat×Nat×Nat),Q8 (ts.map (TX.tg l))=true
 | []=>rfl
 | t::ts=>by rw[map_cons,Q8,yp8 ts];exact Bool.and_eq_true_iff.mpr ⟨xx7 _ _ _ _,rfl⟩
def Ae3(z:Str)(q:Nat)(st:Int)(ts:List (Nat×Nat×Nat)):Prop :=
 (st=-1/\TX.Ch z.cps.toList q ts/\∀ s,TX.toks z.cps.toList q s=TX.glue z.cps.toList s ts) \/
 ∃ k:Nat,st=(k:Int)/\ts.length<=k/\z.cps.toList[k]?=some 60/\∀ ts',TX.Ch z.cps.toList k ts'->(∀ s,TX.toks z.cps.toList k s=TX.glue z.cps.toList s ts')->TX.Ch z.cps.toList q (ts++ts')/\∀ s,TX.toks z.cps.toList q s=TX.glue z.cps.toList s (ts++ts')
theorem wz2{r:Nat}{ts:List (Nat×Nat×Nat)}(hi:i=(r:Int))(hr:r<=z.cps.toList.length)(hl:ts.length<=r)(h:∀ ts',TX.Ch z.cps.toList r ts'->(∀ s,TX.toks z.cps.toList r s=TX.glue z.cps.toList s ts')->TX.Ch z.cps.toList q (ts++ts')/\∀ s,TX.toks z.cps.toList q s=TX.glue z.cps.toList s (ts++ts')) :
 Ae3 z q (PySem.Txt.find3 z "<" i) ts/\∀ k:Nat,PySem.Txt.find3 z "<" i=(k:Int)->r<=k:=by
 have e0:("<":Str)=⟨#[60]⟩:=rfl
 rw[e0]
 rcases zf6 (z:=z) (c:=60) hi with⟨e,hn⟩|⟨k,e,h1,h2,h3⟩
 ·rw[e]
  have g:=h [] trivial fun s=>yx0 hr hn
  rw[append_nil] at g
  exact⟨.inl ⟨rfl,g.1,g.2⟩,fun k hk=>by omega⟩
 ·rw[e]
  exact⟨.inr ⟨k,rfl,by omega,h2,fun ts' c g=>h ts' (xx8 h1 c) fun s=>by rw[zn5 h1 h2 h3];exact g s⟩,fun m hm=>by omega⟩
def qq0(K:Fg):Sp:=fun vs H Q _=>∃ (z:Str) (q:Nat),vs=[.str z,.int q]/\q<=z.length/\z.length<=100000/\∀ (p:Addr) (us:List V) (H':Hp) (ts:List (Nat×Nat×Nat)),A7 H H'->H p=none->H' p=some (.lst us)->Dvs K H' (ts.map (TX.tg z.cps.toList)) us->TX.Ch z.cps.toList q ts->(∀ s,TX.toks z.cps.toList q s=TX.glue z.cps.toList s ts)->Q (.ref p) H'
def qu6(K:Fg):TS :=
 (C1 #[121,2]
 (C1 (E3 (tBM K "str" xw3 (A2 0) (A1 (tC (.str "<")) #[3,1])) (B6 3))
 (C1 (wb5 (G0 (tOp zk3 (A2 3) #[2,0]))
 (C1 (E3 (D8 (qu5 K) [] E0 (A1 (A2 0) #[3,3])) (B6 4))
 (S3 (G0 (tOp yb8 (A2 4) (tC .non)))
 (E3 (tBM K "str" xw3 (A2 0) (A1 (tC (.str "<")) (A1 #[92,3] A9))) (B6 3)) (C1 (E9 (tBM K "list" J9 (A2 2) (A1 (D8 (qh1 K) [] E0 (A1 (A2 0) (A1 (A2 3) #[3,4]))) A9)))
 (E3 (tBM K "str" xw3 (A2 0) (A1 (tC (.str "<")) #[3,4])) (B6 3))))))
 (L6 (A2 2)))))
theorem xx9(h:qq0 K vs H Q E):qu6 K {nx:=fun _ H'=>Q .non H',rt:=Q} (E2 ["text","searched","tags","start","stop"] vs) H:=by
 obtain⟨z,q0,rfl,hq,hz,q⟩:=h
 show qu6 K _ [some (.str z),some (.int q0),none,none,none] H
 unfold qu6
 walk_at"20"
 lk
 refine⟨E5 (by z_go),fun d hd=>?_⟩
 lk
 refine⟨rfl,?_⟩
 lk
 refine⟨z, "<",_,rfl,rfl,?_⟩
 lk
 refine zf7 (fun σ H'=>∃ (st:Int) (a:Option V) (us:List V) (ts:List (Nat×Nat×Nat)),σ=[some (.str z),some (.int q0),some (.ref d),some (.int st),a]/\A7 H H'/\H' d=some (.lst us)/\Dvs K H' (ts.map (TX.tg z.cps.toList)) us/\Ae3 z q0 st ts)
  (fun σ _=>match σ with | [_,_,_,some (.int st),_]=>(if st<0 then 0 else z.length+1-st.toNat)|_=>0) ?_ 3 ?_
 ·exact⟨_,none,[],[],rfl,A7.new hd _,A6,I9,(wz2 rfl #[0] (Nat.zero_le _) fun ts' c g=>⟨c,g⟩).1⟩
 rintro σ H1 ⟨st,a,us,ts,rfl,s1,hd1,dv1,at1⟩
 have hul:us.length=ts.length:=by rw[dv1.length,length_map]
 refine⟨st,rfl,fun h0=>?_,fun h0=>?_⟩
 ·rcases at1 with⟨e,_⟩|⟨k,rfl,htk,h60,hts⟩
  ·omega
  have hkl:=(List.getElem?_eq_some_iff.mp h60).1
  lk
  refine⟨z,k,rfl,hz,h60,fun ht H2 s2=>?_,fun f e ht H2 s2=>?_⟩
  ·lk
   x_go
   lk
   refine⟨rfl,?_⟩
   lk
   refine⟨z, "<",_,rfl,rfl,?_⟩
   obtain⟨fa,fb⟩:=wz2 (z:=z) (q:=q0) (r:=k+1) (i:=(k:Int)+1) (ts:=ts) #[0] #[0] #[0] fun ts' c g=>hts ts' (xx8 #[0] c) fun s=>by rw[TX.toks_none #[0] ht];exact g s
   lk
   refine⟨⟨_,_,us,ts,rfl,A7.tr s1 s2,s2 _ _ hd1,Dvs.same s2 _ _ dv1,fa⟩,?_⟩
   show(if PySem.Txt.find3 z "<" ((k:Int)+1)<0 then 0 else z.length+1-(PySem.Txt.find3 z "<" ((k:Int)+1)).toNat)<(if(k:Int)<0 then 0 else z.length+1-((k:Int)).toNat)
   rw[if_neg (by omega:¬(k:Int)<0)]
   rcases fa with⟨e,_⟩|⟨k2,e,_⟩
   ·rw[e,if_pos #[10]];omega
   ·have:=fb k2 e
    rw[e,if_neg #[0]];omega
  ·obtain⟨g1,g2,g3,g4,g5,g6⟩:=TX.tagAt_gt ht
   have gk:=TX.nst_gt z.cps.toList k
   lk
   have hn0:decide (V.int (e:Int)=V.non)=false:=by simp
   rw[hn0];refine qd5 ?_
   lk
   have hd2:=s2 _ _ hd1
   refine⟨.inl ⟨rfl,_,SqL.of hd2⟩,?_⟩
   lk
   refine⟨z,k,f,e,rfl,hz,ht,fun t ht4=>?_⟩
   have ntd:t≠d:=fun z=>by rw[z,hd2] at ht4;cases ht4
   lk
   refine L4 (by rw[B8 ntd.symm];exact hd2) #[42] ?_
   have hd5:(upd H2 t #[75]) d=some (.lst us):=by rw[B8 ntd.symm];exact hd2
   have tk6:=xi1 (ys:=us++[V.ref t]) hd5
   have dvb:=Dvs.tupK tk6 _ _ (yp8 ts) (Dvs.same #[78,ht4] _ _ (Dvs.same s2 _ _ dv1))
   have dvt:Dv K (upd (upd H2 t #[75]) d (.lst (us++[V.ref t]))) (TX.tg z.cps.toList (k,f,e)) (.ref t) :=
    D7.mpr ⟨t,_,rfl,SqT.of (by rw[B8 ntd];exact A6),C0 #[76] (C0 (P1.mpr rfl) (C0 (P1.mpr rfl) (C0 #[76] I9)))⟩
   lk
   refine⟨rfl,?_⟩
   lk
   refine⟨z, "<",_,rfl,rfl,?_⟩
   obtain⟨fa,fb⟩:=wz2 (z:=z) (q:=q0) (r:=e) (i:=(e:Int)) (ts:=ts++[(k,f,e)]) rfl g2 (by rw[length_append,length_singleton];omega) fun ts' c g=>by
    have:=hts ((k,f,e)::ts') ⟨Nat.le_refl _,g1,g2,c⟩ fun s=>by rw[TX.toks_some ht,g e];rfl
    rw[append_assoc];exact this
   lk
   refine⟨⟨_,_,us++[V.ref t],ts++[(k,f,e)],rfl,fun c u eq=>?_,A6,by rw[map_append];exact Dvs.append dvb (C0 dvt I9),fa⟩,?_⟩
   ·have nc:c≠d:=fun z=>by rw[z,hd] at eq;cases eq
    rw[B8 nc]
    exact A7.new ht4 _ c u (s2 c u (s1 c u eq))
   ·show(if PySem.Txt.find3 z "<" (e:Int)<0 then 0 else z.length+1-(PySem.Txt.find3 z "<" (e:Int)).toNat)<(if(k:Int)<0 then 0 else z.length+1-((k:Int)).toNat)
    rw[if_neg (by omega:¬(k:Int)<0)]
    rcases fa with⟨e',_⟩|⟨k2,e',_⟩
    ·rw[e',if_pos #[10]];omega
    ·have:=fb k2 e'
     rw[e',if_neg #[0]];omega
 ·rcases at1 with⟨e,hc,hts⟩|⟨k,rfl,_⟩
  ·lk
   exact q d us H1 ts s1 hd hd1 dv1 hc hts
  ·omega
def Y4(K:Fg):Sp:=fun vs H Q _=>∃ (z:Str) (s q:Nat),vs=[.str z,.int s,.int q]/\s<=q/\q<=z.length/\z.length<=100000/\∀ (p:Addr) (us:List V) (H':Hp) (acc:List PyData) (s':Nat),A7 H H'->H p=none->H' p=some (.lst us)->Dvs K H' acc us->Q8 acc=true->s<=s'->s'<=z.length->acc.length<=s'->acc++TX.runs z.cps.toList s' z.cps.toList.length=TX.toks z.cps.toList q s->(acc=[]/\s'=s\/∃ acc0 k f,acc=acc0++[TX.tagD z.cps.toList k f s'])->Q (.ref p) H'
def qa4(K:Fg):TS :=
 (C1 #[121,3]
 (C1 (qr1 (qy5 K (D8 (qq0 K) [] E0 (A1 (A2 0) #[3,2]))) (B6 4)
 (C1 (E9 (tBM K "list" wc0 (A2 3) (A1 (D8 (T3 K) [] E0 (A1 (A2 0) (A1 (A2 1) (A1 #[91,4] A9)))) A9)))
 (C1 (E9 (tBM K "list" J9 (A2 3) #[3,4]))
 (E3 (tOp (L5 K) (A2 4) #[2,2]) (B6 1)))))
 (L6 (A2 3))))
theorem wu8(h:Y4 K vs H Q E):qa4 K {nx:=fun _ H'=>Q .non H',rt:=Q} (E2 ["text","settled","searched","tokens","tag"] vs) H:=by
 obtain⟨z,s0,q0,rfl,hsq,hq,hz,q⟩:=h
 show qa4 K _ [some (.str z),some (.int s0),some (.int q0),none,none] H
 unfold qa4
 walk_at"20"
 lk
 refine⟨E5 (by z_go),fun d hd=>?_⟩
 lk
 refine⟨z,q0,rfl,hq,hz,fun p1 uts H1 ts s1 hp1 h1 dvt hch hts=>?_⟩
 have hd1:H1 d=some (.lst []):=s1 _ _ A6
 have npd:p1≠d:=fun e=>by rw[e,A6] at hp1;cases hp1
 have sH:A7 H H1:=A7.tr #[78,hd] s1
 have utl:uts.length=ts.length:=by rw[dvt.length,length_map]
 refine qr2 (xs:=uts) #[52,h1] (fun i σ H'=>∃ (s':Nat) (a:Option V) (us:List V) (acc:List PyData),σ=[some (.str z),some (.int s'),some (.int q0),some (.ref d),a]/\But [d] H1 H'/\S4 H1 H'/\H' d=some (.lst us)/\Dvs K H' acc us/\Q8 acc=true/\s0<=s'/\s'<=z.length/\acc.length<=s'/\TX.Ch z.cps.toList s' (ts.drop i)/\acc++TX.glue z.cps.toList s' (ts.drop i)=TX.toks z.cps.toList q0 s0/\(acc=[]/\s'=s0\/∃ acc0 k f,acc=acc0++[TX.tagD z.cps.toList k f s'])) ?_ ?_ ?_ ?_
 ·exact⟨s0,none,[],[],rfl,But.refl _ _,S4.refl _,hd1,I9,rfl,Nat.le_refl _,by omega,Nat.zero_le _,xx8 hsq hch,(hts s0).symm,.inl ⟨rfl,rfl⟩⟩
 ·rintro i σ H' hi ⟨s',a,us,acc,rfl,bt,_⟩
  exact SqL.of (bt _ _ h1 (by simpa using npd))
 ·rintro i x σ H' hx ⟨s',a,us,acc,rfl,bt,tk,hd',dva,fx,g1,g2,g3,g4,g5,g6⟩
  obtain⟨dd,e1,dvx⟩:=Dvs.get' dvt hx
  rw[List.getElem?_map] at e1
  obtain⟨⟨k,f,e⟩,hti,rfl⟩:∃ t,ts[i]?=some t/\TX.tg z.cps.toList t=dd:=by
   cases h:ts[i]? with
   | none=>rw[h] at e1;cases e1
   | some t=>rw[h] at e1;exact⟨t,rfl,by simpa using e1⟩
  have edrop:ts.drop i=(k,f,e)::ts.drop (i+1):=by
   obtain⟨hil,he⟩:=List.getElem?_eq_some_iff.mp hti
   rw[drop_eq_getElem_cons hil,he]
  rw[edrop] at g4 g5
  obtain⟨c1,c2,c3,c4⟩:=g4
  have c1:s'<=k:=c1
  have c2:k<e:=c2
  have c3:e<=z.cps.toList.length:=c3
  have dvx2:=dvx
  obtain⟨t,vs4,rfl,qt,dv4⟩:=D7.mp (show Dv K H1 (.tuple [.str (if f=k+1 then "open" else "close"),.int k,.int e,.str (TX.ofL (#[48,f].take (e-1-f)))]) x from dvx)
  walk_at"29"
  have w2:=P1.mp w2
  have w3:=P1.mp w3
  subst w2 w3
  lk
  refine⟨.inl ⟨rfl,_,SqL.of hd'⟩,?_⟩
  lk
  refine W6 (tk.sqT qt) (Y0 (j:=1) rfl) ?_
  lk
  refine xj4 c1 #[0] hz fun p zs H3 s3 hp h3 dv3=>?_
  have hd3:=s3 _ _ hd'
  have rl:=yf3 z.cps.toList s' k
  have zl:zs.length=(TX.runs z.cps.toList s' k).length:=dv3.length
  have ul:=dva.length
  lk
  refine⟨d,p,us,zs,rfl,rfl,hd3,h3,E5 #[0],?_⟩
  have tk4:=xi1 (ys:=us++zs) hd3
  have dvb:Dvs K (upd H3 d (.lst (us++zs))) (acc++TX.runs z.cps.toList s' k) (us++zs):=Dvs.append (Dvs.tupK tk4 _ _ fx (Dvs.same s3 _ _ dva)) (Dvs.tupK tk4 _ _ (yp7 _ _ _) dv3)
  lk
  refine⟨.inl ⟨rfl,_,SqL.of A6⟩,?_⟩
  lk
  refine L4 A6 (by rw[length_append,sizeLine_eq];omega) ?_
  have tk5:=xi1 (H:=upd H3 d (.lst (us++zs))) (ys:=us++zs++[V.ref t]) A6
  have fx2:Q8 (acc++TX.runs z.cps.toList s' k)=true:=by rw[wi9,fx,yp7];rfl
  have tkA:S4 H1 (upd (upd H3 d (.lst (us++zs))) d (.lst (us++zs++[V.ref t]))):=tk.trans (s3.tupK.trans (tk4.trans tk5))
  lk
  refine W6 (tkA.sqT qt) (Y0 (j:=2) rfl) ?_
  lk
  refine⟨e,_,us++zs++[V.ref t],acc++TX.runs z.cps.toList s' k++[TX.tagD z.cps.toList k f e],rfl,?_,tkA,A6,Dvs.append (Dvs.tupK tk5 _ _ fx2 dvb) (C0 (Dv.tupK tkA _ _ (xx7 _ _ _ _) dvx2) I9),by rw[wi9,fx2];simp[Q8,xx7],by omega,by omega,?_,c4,by rw[<-g5,TX.glue];simp,.inr ⟨_,_,_,rfl⟩⟩
  ·intro c u eq hc
   have nc:c≠d:=by simpa using hc
   rw[B8 nc,B8 nc]
   exact s3 _ _ (bt c u eq hc)
  ·by_cases hsk:s'<k
   ·simp only[length_append,length_singleton];omega
   ·have:(TX.runs z.cps.toList s' k).length=0:=by unfold TX.runs;rw[if_neg hsk];rfl
    simp only[length_append,length_singleton];omega
 ·rintro σ H' ⟨s',a,us,acc,rfl,bt,tk,hd',dva,fx,g1,g2,g3,g4,g5,g6⟩
  lk
  have e0:ts.drop uts.length=[]:=drop_eq_nil_of_le #[0]
  rw[e0] at g5
  refine q d us H' acc s' (fun c u eq=>?_) hd hd' dva fx g1 g2 g3 g5 g6
  have nc:c≠d:=fun z=>by rw[z,hd] at eq;cases eq
  exact bt c u (sH c u eq) (by simpa using nc)
def qq1(K:Fg):Sp:=fun vs H Q _=>∃ z:Str,vs=[.str z]/\z.length<=100000/\∀ (p:Addr) (us:List V) (H':Hp),A7 H H'->H p=none->H' p=some (.lst us)->Dvs K H' #[27] us->Q (.ref p) H'
def qu7(K:Fg):TS :=
 (C1 (E3 (D8 (Y4 K) [] E0 (A1 (A2 0) (A1 #[2,0] (A1 #[2,0] A9)))) (B6 1))
 (C1 (E3 (tIf (G0 (tOp xn6 #[110] #[2,0])) (tOp (L5 K) #[33,1] #[2,2]) #[2,0]) (B6 2))
 (L6 (tOp (J6 K) (A2 1) (D8 (T3 K) [] E0 (A1 (A2 0) (A1 (A2 2) (A1 (tCB (N6 K) #[3,0]) A9))))))))
theorem xy0(h:qq1 K vs H Q E):qu7 K {nx:=fun _ H'=>Q .non H',rt:=Q} (E2 ["text","tokens","settled"] vs) H:=by
 obtain⟨z,rfl,hz,q⟩:=h
 show qu7 K _ [some (.str z),none,none] H
 unfold qu7
 walk_at"20"
 lk
 refine⟨z,0,0,rfl,Nat.le_refl _,Nat.zero_le _,hz,fun p1 us H1 acc s' s1 hp1 h1 dva fx g1 g2 g3 g5 g6=>?_⟩
 have ul:=dva.length
 lk
 refine Q4 (.inl #[52,h1]) ?_
 lk
 have last:∀ Q':VK,Q' (.int s') H1->(if decide ((0:Int)<us.length)=true then tOp (L5 K) #[33,1] #[2,2] [some (.str z),some (.ref p1),none] H1 Q' else tC (.int 0) [some (.str z),some (.ref p1),none] H1 Q'):=by
  intro Q' hQ
  rcases g6 with⟨rfl,rfl⟩|⟨acc0,k,f,rfl⟩
  ·have:us=[]:=length_eq_zero_iff.mp (by rw[ul];rfl)
   subst this
   rw[decide_eq_false (by simp)];refine qd5 ?_
   lk
   exact hQ
  ·have hlen:0<us.length:=by rw[ul,length_append,length_singleton];omega
   obtain⟨us0,x,rfl⟩:∃ us0 x,us=us0++[x]:=⟨us.dropLast,us.getLast (ne_nil_of_length_pos hlen),(dropLast_concat_getLast _).symm⟩
   rw[decide_eq_true #[0]];refine qt5 ?_
   have l0:us0.length=acc0.length:=by
    rw[length_append,length_append,length_singleton,length_singleton] at ul;omega
   obtain⟨d',e1,dvx⟩:=Dvs.get' (i:=us0.length) (v:=x) dva (by simp)
   rw[l0] at e1
   have e1:TX.tagD z.cps.toList k f s'=d':=by simpa using e1
   subst e1
   obtain⟨t,vs4,rfl,qt,dv4⟩:=D7.mp (show Dv K H1 (.tuple [.str (if f=k+1 then "open" else "close"),.int k,.int s',.str (TX.ofL (#[48,f].take (s'-1-f)))]) x from dvx)
   walk_at"29"
   have w3:=P1.mp w3
   subst w3
   walk_at"17"
   refine M9 #[52,h1] (yz9 _ _) ?_
   lk
   refine W6 qt (Y0 (j:=2) rfl) ?_
   exact hQ
 refine last _ ?_
 lk
 refine wh8 (E5 hz) ?_
 lk
 refine xj4 g2 #[6] hz fun p2 zs H2 s2 hp2 h2 dv2=>?_
 have rl:=yf3 z.cps.toList s' z.length
 have zl:zs.length=(TX.runs z.cps.toList s' z.length).length:=dv2.length
 lk
 refine xr6 (s2 _ _ h1) h2 #[42] fun p hp=>?_
 have sA:A7 H2 (upd H2 p (.lst (us++zs))):=A7.new hp _
 refine q p (us++zs) _ (A7.tr s1 (A7.tr s2 sA)) (A7.free (A7.tr s1 s2) hp) A6 ?_
 rw[<-g5,hl]
 exact Dvs.same sA _ _ (Dvs.append (Dvs.same s2 _ _ dva) dv2)
def esc:List Nat->List Nat
 | []=>[]
 | c::l=>(if c=60 then TX.El else if c=38 then TX.Ea else[c])++esc l
theorem xf2(y:Nat)(Z:List Nat):∀ l:List Nat,TX.rep [y] Z 0 l=l.flatMap fun c=>if c=y then Z else[c]
 | []=>rfl
 | c::l=>by
   by_cases h:c=y
   ·subst h
    rw[TX.rep_yes (Y:=[c]) (l:=c::l) (by simp) ⟨l,rfl⟩]
    show Z++TX.rep [c] Z 0 l=_
    rw[xf2 c Z l]
    simp
   ·rw[TX.rep_no (by rintro⟨r,e⟩;injection e with e _;exact h e.symm),xf2 y Z l]
    simp[h]
theorem zn6(l:List Nat):TX.rep [60] TX.El 0 (TX.rep [38] TX.Ea 0 l)=esc l:=by
 rw[xf2,xf2]
 induction l with
 | nil=>rfl
 | cons c l ih =>
   rw[flatMap_cons,flatMap_append,ih,esc]
   congr 1
   by_cases h1:c=38
   ·subst h1;rfl
   ·by_cases h2:c=60
    ·subst h2;rfl
    ·simp[h1,h2]
def yx1(z:Str):Str:=⟨(esc z.cps.toList).toArray⟩
theorem zn7(h:w.cps.toList=esc z.cps.toList):w=yx1 z:=by rw[W9,h];unfold yx1;simp
def opn(n:Str):Str := "<"++n ++ ">"
def cls(n:Str):Str := "</"++n ++ ">"
def qm2(K:Fg):Sp:=fun vs H Q _=>∃ n:Str,vs=[.str n]/\n.length<=4000/\Q (.str (opn n)) H
def qq2(K:Fg):TS :=
 (L6 (tFs ("<":Str) (">":Str) (A2 0)))
theorem xo6(h:qm2 K vs H Q E):qq2 K {nx:=fun _ H'=>Q .non H',rt:=Q} (E2 ["name"] vs) H:=by
 obtain⟨n,rfl,hn,q⟩:=h
 show qq2 K _ [some (.str n)] H
 unfold qq2
 lk
 exact⟨.str n,rfl,n,rfl,by omega,q⟩
def qm3(K:Fg):Sp:=fun vs H Q _=>∃ n:Str,vs=[.str n]/\n.length<=4000/\Q (.str (cls n)) H
def qq3(K:Fg):TS :=
 (L6 (tFs ("</":Str) (">":Str) (A2 0)))
theorem xo7(h:qm3 K vs H Q E):qq3 K {nx:=fun _ H'=>Q .non H',rt:=Q} (E2 ["name"] vs) H:=by
 obtain⟨n,rfl,hn,q⟩:=h
 show qq3 K _ [some (.str n)] H
 unfold qq3
 lk
 exact⟨.str n,rfl,n,rfl,by omega,q⟩
def wd0(K:Fg):Sp:=fun vs H Q _=>∃ z:Str,vs=[.str z]/\z.length<=30000/\Q (.str (yx1 z)) H
def wm8(K:Fg):TS :=
 (L6 (xr8 (xr8 (A2 0) ("&":Str) ("&a;":Str)) ("<":Str) ("&l;":Str)))
theorem yl4(h:wd0 K vs H Q E):wm8 K {nx:=fun _ H'=>Q .non H',rt:=Q} (E2 ["text"] vs) H:=by
 obtain⟨z,rfl,hz,q⟩:=h
 show wm8 K _ [some (.str z)] H
 unfold wm8
 lk
 refine⟨z,rfl,by omega,?_⟩
 have l1:=ye9 z "&" "&a;" #[10]
 rw[show("&a;":Str).length=3 from rfl] at l1
 refine⟨_,rfl,by omega,?_⟩
 rw[zn7 (z:=z) (w:=PySem.Txt.replace (PySem.Txt.replace z "&" "&a;") "<" "&l;") (by rw[TX.replace_rep _ _ _ #[10],TX.replace_rep _ _ _ #[10]];exact zn6 _)]
 exact q
section
variable{kR kB r:Addr}{bv:V}{a:RAd}{st:Rst}{H':Hp}
theorem Q7(x:BA)(as:List BA):fpA (x::as)=x.fp++fpA as:=by unfold fpA;rw[flatMap_cons]
theorem qk6.split{x:BA}(h:qk6 K H kB (m1++x::m2) (l1++b::l2))(hl:m1.length=l1.length):qk6 K H kB m1 l1/\BrO K H kB x b/\qk6 K H kB m2 l2:=by
 induction m1 generalizing l1 with
 | nil =>
   cases l1 with
   | nil=>cases h with|cons h1 h2=>exact⟨.nil,h1,h2⟩
   | cons=>simp at hl
 | cons y m1 ih =>
   cases l1 with
   | nil=>simp at hl
   | cons c l1 =>
     cases h with
     | cons h1 h2 =>
       obtain⟨h3,h4,h5⟩:=ih h2 (by simpa using hl)
       exact⟨.cons h1 h3,h4,h5⟩
theorem RdO.swap{x:BA}{b:Brn}(h:RdO K H kR kB r bv a st)(ea:a.as=m1++x::m2)(eb:st.bs=l1++b::l2)(hl:m1.length=l1.length)(bt:But x.fp H H')(hB:BrO K H' kB x' b')(hf:∀ z∈x'.fp,z∈x.fp\/H z=none)(hd:x'.fp.Nodup)(ho:x'.o=x.o) :
 RdO K H' kR kB r bv {a with as:=m1++x'::m2} {st with bs:=l1++b'::l2}:=by
 have hb:=h.b
 rw[ea,eb] at hb
 obtain⟨k1,k2,k3⟩:=hb.split hl
 have tk:S4 H H':=wi6 bt fun p hp=>h.mut p (by
  simp only[RAd.fp,mem_cons,ea,R8,Q7,mem_append];exact .inr #[96,.inr (.inr (.inl hp))])
 obtain⟨a1,a2,a3,b1,b2,c1,d1,d2,d3,d4,e1⟩:=h.apart
 obtain⟨us,u1,u2⟩:=h.m
 obtain⟨vs,v1,v2⟩:=h.d
 rw[ea,R8,Q7] at d1 d2 d3 d4 e1
 have nf:∀ z,z∉fpA m1++(x.fp++fpA m2)->z∉x.fp:=fun z h1 h2=>h1 #[57,mem_append_left _ h2]
 rw[nodup_append,nodup_append] at e1
 obtain⟨e2,⟨e3,e4,e5⟩,e6⟩:=e1
 have f1:∀ z∈fpA m1,z∉x.fp:=fun z hz hx=>e6 z hz z (mem_append_left _ hx) rfl
 have f2:∀ z∈fpA m2,z∉x.fp:=fun z hz hx=>e5 z hx z hz rfl
 have old:∀ z∈RAd.fp r a,H z≠none:=h.dom
 have ins:∀ z,z∈r::a.L::a.M::a.A::(fpA m1++(x.fp++fpA m2))->H z≠none:=fun z hz=>old z (by unfold RAd.fp;rw[ea,R8,Q7];exact hz)
 have nx:∀ z,z∈r::a.L::a.M::a.A::(fpA m1++(x.fp++fpA m2))->z∉x.fp->z∉x'.fp:=fun z hz h1 h2=>(hf z h2).elim h1 (ins z hz)
 refine⟨h.kr,h.kb,bt _ _ h.o (nf _ d1),?_,(k1.but bt tk f1).app (.cons hB (k3.but bt tk f2)),⟨us,bt _ _ u1 (nf _ d3),Dvs.tupK tk _ _ (Q6 Mnd.fix _) u2⟩,⟨vs,bt _ _ v1 (nf _ d4),Dvs.tupK tk _ _ (Q6 Lad.fix _) v2⟩,?_⟩
 ·have:=bt _ _ h.l (nf _ d2)
  show H' a.L=_
  rw[this,ea]
  simp[ho]
 ·show(r::a.L::a.M::a.A::fpA (m1++x'::m2)).Nodup
  rw[R8,Q7]
  have g:∀ z,z∈r::a.L::a.M::a.A::(fpA m1++(x.fp++fpA m2))->z∉fpA m1++(x.fp++fpA m2)->z∉fpA m1++(x'.fp++fpA m2):=fun z hz h1 h2=>by
   rcases mem_append.mp h2 with h3|h3
   ·exact h1 (mem_append_left _ h3)
   ·rcases mem_append.mp h3 with h4|h4
    ·exact nx z hz (nf z h1) h4
    ·exact h1 #[57,mem_append_right _ h4]
  simp only[nodup_cons,mem_cons,not_or]
  refine⟨⟨a1,a2,a3,g _ (by simp) d1⟩,⟨b1,b2,g _ (by simp) d2⟩,⟨c1,g _ (by simp) d3⟩,g _ (by simp) d4,?_⟩
  rw[nodup_append,nodup_append]
  refine⟨e2,⟨hd,e4,fun p hp q hq e=>?_⟩,fun p hp q hq e=>?_⟩
  ·subst e
   exact nx p (by simp[hq]) (f2 p hq) hp
  ·subst e
   rcases mem_append.mp hq with h4|h4
   ·exact nx p (by simp[hp]) (f1 p hp) h4
   ·exact e6 p hp p #[57,h4] rfl
theorem zf8{x:BA}{z:Addr}(ea:a.as=m1++x::m2)(hz:z∈x.fp):z∈RAd.fp r a:=by
 simp only[RAd.fp,mem_cons,ea,R8,Q7,mem_append];exact .inr #[96,.inr (.inr (.inl hz))]
theorem Rup.swap{x:BA}(h:RdO K H kR kB r bv a st)(ea:a.as=m1++x::m2)(eb:st.bs=l1++b::l2)(hl:m1.length=l1.length)(bt:But x.fp H H')(hB:BrO K H' kB x' b')(hf:∀ z∈x'.fp,z∈x.fp\/H z=none)(hd:x'.fp.Nodup)(ho:x'.o=x.o) :
 Rup K kR kB r bv H a H' {a with as:=m1++x'::m2} {st with bs:=l1++b'::l2}:=by
 refine⟨h.swap ea eb hl bt hB hf hd ho,fun c o e n=>bt c o e fun hc=>n (zf8 ea hc),fun z hz=>?_⟩
 simp only[RAd.fp,R8,Q7,mem_cons,mem_append] at hz
 rcases hz with h1|h1|h1|h1|h1|h1|h1
 ·exact .inl (by simp[RAd.fp,h1])
 ·exact .inl (by simp[RAd.fp,h1])
 ·exact .inl (by simp[RAd.fp,h1])
 ·exact .inl (by simp[RAd.fp,h1])
 ·exact .inl (by simp[RAd.fp,ea,R8,h1])
 ·exact(hf z h1).imp (fun h=>zf8 ea h) id
 ·exact .inl (by simp[RAd.fp,ea,R8,Q7,h1])
theorem RdO.pop{x:BA}{b:Brn}(h:RdO K H kR kB r bv a st)(ea:a.as=m1++[x])(eb:st.bs=l1++[b])(hl:m1.length=l1.length) :
 RdO K (upd H a.L (.lst (m1.map fun z=>V.ref z.o))) kR kB r bv {a with as:=m1} {st with bs:=l1}/\BrO K (upd H a.L (.lst (m1.map fun z=>V.ref z.o))) kB x b:=by
 have hb:=h.b
 rw[ea,eb] at hb
 obtain⟨k1,k2,_⟩:=hb.split hl
 obtain⟨a1,a2,a3,b1,b2,c1,d1,d2,d3,d4,e1⟩:=h.apart
 obtain⟨us,u1,u2⟩:=h.m
 obtain⟨vs,v1,v2⟩:=h.d
 have tk:S4 H (upd H a.L (.lst (m1.map fun z=>V.ref z.o))):=N8 (.inl ⟨_,h.l⟩)
 rw[ea,R8,Q7] at d1 d2 d3 d4 e1
 have nL:∀ z∈fpA m1,z∉[a.L]:=fun z hz e=>d2 (by rw[mem_singleton.mp e] at hz;exact mem_append_left _ hz)
 have nL2:∀ z∈x.fp,z∉[a.L]:=fun z hz e=>d2 (by rw[mem_singleton.mp e] at hz;exact mem_append_right _ (mem_append_left _ hz))
 refine⟨⟨h.kr,h.kb,by rw[B8 a1];exact h.o,A6,k1.but But.upd1 tk nL,⟨us,by rw[B8 (Ne.symm b1)];exact u1,Dvs.tupK tk _ _ (Q6 Mnd.fix _) u2⟩,⟨vs,by rw[B8 (Ne.symm b2)];exact v1,Dvs.tupK tk _ _ (Q6 Lad.fix _) v2⟩,?_⟩,k2.but But.upd1 tk nL2⟩
 have:=h.nd
 unfold RAd.fp at this ⊢
 rw[ea,R8] at this
 exact this.sublist (by
  refine List.Sublist.cons_cons _ (List.Sublist.cons_cons _ (List.Sublist.cons_cons _ (List.Sublist.cons_cons _ ?_)))
  exact sublist_append_left _ _)
theorem RdO.as_split{b:Brn}(h:RdO K H kR kB r bv a st)(eb:st.bs=l1++b::l2):∃ m1 x m2,a.as=m1++x::m2/\m1.length=l1.length/\BrO K H kB x b:=by
 have hb:=h.b
 rw[eb] at hb
 have hn:=hb.len
 rw[length_append,length_cons] at hn
 have e:a.as=a.as.take l1.length++a.as[l1.length]'#[0]::a.as.drop (l1.length+1):=by
  rw[List.getElem_cons_drop,take_append_drop]
 have hl:(a.as.take l1.length).length=l1.length:=by rw[length_take];omega
 rw[e] at hb
 exact⟨_,_,_,e,hl,(hb.split hl).2.1⟩
def BkO(K:Fg)(H:Hp)(v:V)(rs:List Row):Prop:=∃ p vs,v=.ref p/\SqT K H p vs/\Dvs K H (rs.map Row.da) vs
theorem BkO.rws(h:BkO K H v rs):Rws K H v rs:=by
 obtain⟨p,vs,rfl,h1,h2⟩:=h
 exact⟨p,vs,rfl,.inr h1,h2⟩
theorem BkO.tupK(h:BkO K H v rs)(tk:S4 H H'):BkO K H' v rs:=by
 obtain⟨p,vs,rfl,h1,h2⟩:=h
 exact⟨p,vs,rfl,tk.sqT h1,Dvs.tupK tk _ _ (ye1 rs) h2⟩
theorem BkO.same(h:BkO K H v rs)(s:A7 H H'):BkO K H' v rs:=h.tupK s.tupK
end
theorem zy2(v:V):qm8 ("book":Str) v []=[(("book":Str),v)]:=rfl
theorem zy3(n v:V):qm8 ("branches":Str) v [(("book":Str),n)]=[(("book":Str),n),(("branches":Str),v)]:=by
 show(if(("book":Str)) = "branches" then _ else _)=_
 rw[if_neg #[10]];rfl
theorem zy4(n p v:V):qm8 ("mends":Str) v [(("book":Str),n),(("branches":Str),p)]=[(("book":Str),n),(("branches":Str),p),(("mends":Str),v)]:=by
 show(if(("book":Str)) = "mends" then _ else _::(if(("branches":Str)) = "mends" then _ else _))=_
 rw[if_neg #[10],if_neg #[10]];rfl
theorem zy5(n p q v:V):qm8 ("laid":Str) v [(("book":Str),n),(("branches":Str),p),(("mends":Str),q)]=[(("book":Str),n),(("branches":Str),p),(("mends":Str),q),(("laid":Str),v)]:=by
 show(if(("book":Str)) = "laid" then _ else _::(if(("branches":Str)) = "laid" then _ else _::(if(("mends":Str)) = "laid" then _ else _)))=_
 rw[if_neg #[10],if_neg #[10],if_neg #[10]];rfl
theorem BrO.upd{p:Addr}{o:HO}{a:BA}(h:BrO K H kB a b)(hp:xi3 H p\/H p=none)(hn:p∉a.fp):BrO K (upd H p o) kB a b :=
 h.but But.upd1 (hp.elim N8 fun e=>(A7.new e o).tupK) fun z hz e=>hn (by rw[mem_singleton.mp e] at hz;exact hz)
theorem E1{q:Addr}(h:H q=some u)(n:q≠p):upd H p o q=some u:=by rw[B8 n];exact h
theorem Y5{q:Addr}(h:H p=none)(e:H q=some u):q≠p:=fun z=>by rw[z,h] at e;cases e
theorem xj7(b:But ps H H')(hp:p∈ps\/H p=none):But ps H (upd H' p o):=fun z u e n=>by
 rw[B8 (fun y=>hp.elim (fun h=>n (by rw[y];exact h)) fun h=>by rw[y,h] at e;cases e)];exact b z u e n
abbrev qu8(K:Fg)(k_Branch:Addr):TS :=
 (C1 (wh0 K (A2 0) (W1 (A1 (yb1 k_Branch (V6 K) [] E0 (A1 (tC (.str "")) (A1 (T7 A9) A9))) A9)) "branches")
 (C1 (wh0 K (A2 0) (W1 A9) "mends")
 (wh0 K (A2 0) (W1 A9) "laid")))
def qa5(K:Fg):Sp:=fun vs H Q _=>∃ (kR r x:Addr) (bv:V),vs=[.ref r,bv]/\PySem.W.nsIn K mainGlobals "Reader"=some #[5,kR]/\H r=some (.ins kR x [])/\∀ (kB:Addr) (a:RAd) (H':Hp),RdO K H' kR kB r bv a ⟨[⟨"",[],[],[]⟩],[],[]⟩->But [r] H H'->(∀ z∈RAd.fp r a,z=r\/H z=none)->C8 H H'->Q .non H'
def qe7(K:Fg)(k_Branch:Addr):TS :=
 (C1 (wh0 K (A2 0) (A2 1) "book")
 (qu8 K k_Branch))
theorem wz3(cz:Cz K k_Branch k_Reader)(h:qa5 K vs H Q E):qe7 K k_Branch {nx:=fun _ H'=>Q .non H',rt:=Q} (E2 ["self","book"] vs) H:=by
 obtain⟨kR,r,x,bv,rfl,hkR,hr,q⟩:=h
 obtain rfl:=N7 cz.ns_Reader hkR
 show qe7 K _ _ [some (.ref r),some bv] H
 unfold qe7
 have c:=cz.cl_Reader
 refine qk5 (ql8 ?_)
 lk
 refine⟨r,_,x,_,rfl,hr,c,cz.na_Reader_book,by simp,?_⟩
 rw[zy2]
 have bt1:But [r] H (upd H r (.ins k_Reader x [#[67]])):=But.upd1
 have g1:C8 H (upd H r (.ins k_Reader x [#[67]])):=C8.upd
 have e1:(upd H r (.ins k_Reader x [#[67]])) r=_:=A6
 generalize upd H r (.ins k_Reader x [#[67]])=H1 at *
 show qu8 K _ _ _ _
 refine qk5 (ql8 ?_)
 lk
 refine xw6 ?_
 walk_at"6"
 have e2:=E1 (o:=.tup []) e1 (Y5 hp e1)
 have bt2:But [r] H (upd H1 p (.tup [])):=xj7 bt1 (.inr (g1 _ hp))
 have g2:C8 H (upd H1 p (.tup [])):=C8.tr g1 C8.upd
 have ep:SqT K (upd H1 p (.tup [])) p []:=SqT.of A6
 generalize upd H1 p (.tup [])=H2 at *
 lk
 intro o dx ho hdx ne
 have nor:r≠o:=Y5 ho e2
 have e3:#[31] r=_:=E1 (E1 e2 (Y5 hdx e2)) nor
 have bt3:But [r] H #[31]:=xj7 (xj7 bt2 (.inr (g2 _ hdx))) (.inr (g2 _ ho))
 have g3:C8 H #[31]:=C8.tr g2 (C8.tr C8.upd C8.upd)
 have s3:A7 H2 #[31]:=fun z u e=>E1 (E1 e (Y5 hdx e)) (Y5 ho e)
 have eo:#[31] o=some (.ins k_Branch dx []):=A6
 generalize upd (upd H2 dx (.own o)) o (.ins k_Branch dx [])=H3 at *
 refine⟨k_Branch,o,dx,p, "",[],rfl,cz.ns_Branch,eo,s3.sqT ep,fun qq ww H4 hq hw hqw bt hB g4=>⟨rfl,?_⟩⟩
 have e4:H4 r=_:=bt _ _ e3 (by simp[nor])
 have bt4:But [r] H H4:=fun z u e n=>bt z u (bt3 z u e n) (by simp;intro y;rw[y] at e;have:=g2 _ ho;rw[e] at this;cases this)
 have g4':C8 H H4:=C8.tr g3 g4
 have nrq:r≠qq:=Y5 hq e3
 have nrw:r≠ww:=Y5 hw e3
 have noq:o≠qq:=Y5 hq eo
 have now:o≠ww:=Y5 hw eo
 have fp:BA.fp ⟨o,dx,p,qq,ww⟩=[o,qq,ww]:=rfl
 lk
 refine⟨E5 (by z_go),fun L hL=>?_⟩
 lk
 have nL:L∉BA.fp ⟨o,dx,p,qq,ww⟩:=fun hz=>by
  rcases(qk6.cons hB .nil).mut L (by rw[Q7];exact mem_append_left _ hz) with⟨xs,e⟩|⟨C,d,fs,e⟩ <;> rw[hL] at e <;> cases e
 have hB5:=hB.upd (o:=.lst [.ref o]) (.inr hL) nL
 have e5:=E1 (o:=.lst [.ref o]) e4 (Y5 hL e4)
 have eL5:(upd H4 L (.lst [.ref o])) L=_:=A6
 have bt5:But [r] H (upd H4 L (.lst [.ref o])):=xj7 bt4 (.inr (g4' _ hL))
 have g5:C8 H (upd H4 L (.lst [.ref o])):=C8.tr g4' C8.upd
 have hLr:r≠L:=Y5 hL e4
 have hL0:=g4' _ hL
 generalize upd H4 L (.lst [.ref o])=H5 at *
 refine⟨r,_,x,_,rfl,e5,c,cz.na_Reader_branches,by simp,?_⟩
 rw[zy3]
 have nr:r∉BA.fp ⟨o,dx,p,qq,ww⟩:=by rw[fp];simp[nor,nrq,nrw]
 have hB6:=hB5.upd (o:=.ins k_Reader x [#[67],#[47]]) (.inl (.inr ⟨_,_,_,e5⟩)) nr
 have e6:(upd H5 r (.ins k_Reader x [#[67],#[47]])) r=_:=A6
 have eL6:=E1 (o:=.ins k_Reader x [#[67],#[47]]) eL5 (Ne.symm hLr)
 have bt6:But [r] H (upd H5 r (.ins k_Reader x [#[67],#[47]])):=xj7 bt5 (.inl (by simp))
 have g6:C8 H (upd H5 r (.ins k_Reader x [#[67],#[47]])):=C8.tr g5 C8.upd
 generalize upd H5 r (.ins k_Reader x [#[67],#[47]])=H6 at *
 show C1 (wh0 K (A2 0) (W1 A9) "mends") _ _ _ _
 refine qk5 (ql8 ?_)
 lk
 refine⟨E5 (by z_go),fun M hM=>?_⟩
 lk
 have nM:M∉BA.fp ⟨o,dx,p,qq,ww⟩:=fun hz=>by
  rcases(qk6.cons hB6 .nil).mut M (by rw[Q7];exact mem_append_left _ hz) with⟨xs,e⟩|⟨C,d,fs,e⟩ <;> rw[hM] at e <;> cases e
 have hB7:=hB6.upd (o:=.lst []) (.inr hM) nM
 have hMr:r≠M:=Y5 hM e6
 have hML:L≠M:=Y5 hM eL6
 have hM0:=g6 _ hM
 refine⟨r,_,x,_,rfl,E1 e6 hMr,c,cz.na_Reader_mends,by simp,?_⟩
 rw[zy4]
 have e8:#[98] r=_:=A6
 have eL8:=E1 (o:=.ins k_Reader x [#[67],#[47],(("mends":Str),.ref M)]) (E1 (o:=.lst []) eL6 hML) (Ne.symm hLr)
 have eM8:=E1 (o:=.ins k_Reader x [#[67],#[47],(("mends":Str),.ref M)]) (A6 (H:=H6) (a:=M) (o:=.lst [])) (Ne.symm hMr)
 have hB8:=hB7.upd (o:=.ins k_Reader x [#[67],#[47],(("mends":Str),.ref M)]) (.inl (.inr ⟨_,_,_,E1 e6 hMr⟩)) nr
 have bt8:But [r] H #[98]:=xj7 (xj7 bt6 (.inr hM0)) (.inl (by simp))
 have g8:C8 H #[98]:=C8.tr g6 (C8.tr C8.upd C8.upd)
 generalize upd (upd H6 M (.lst [])) r (.ins k_Reader x [#[67],#[47],(("mends":Str),.ref M)])=H8 at *
 show wh0 K (A2 0) (W1 A9) "laid" _ _ _
 refine ql8 ?_
 lk
 refine⟨E5 (by z_go),fun A hA=>?_⟩
 lk
 have nA:A∉BA.fp ⟨o,dx,p,qq,ww⟩:=fun hz=>by
  rcases(qk6.cons hB8 .nil).mut A (by rw[Q7];exact mem_append_left _ hz) with⟨xs,e⟩|⟨C,d,fs,e⟩ <;> rw[hA] at e <;> cases e
 have hB9:=hB8.upd (o:=.lst []) (.inr hA) nA
 have hAr:r≠A:=Y5 hA e8
 have hAL:L≠A:=Y5 hA eL8
 have hAM:M≠A:=Y5 hA eM8
 have hA0:=g8 _ hA
 refine⟨r,_,x,_,rfl,E1 e8 hAr,c,cz.na_Reader_laid,by simp,?_⟩
 rw[zy5]
 have hB10:=hB9.upd (o:=.ins k_Reader x [#[67],#[47],(("mends":Str),.ref M),(("laid":Str),.ref A)]) (.inl (.inr ⟨_,_,_,E1 e8 hAr⟩)) nr
 refine q k_Branch ⟨x,L,M,A,[⟨o,dx,p,qq,ww⟩]⟩ _ ⟨cz.ns_Reader,cz.ns_Branch,A6,E1 (E1 eL8 hAL) (Ne.symm hLr),.cons hB10 .nil,⟨[],E1 (E1 eM8 hAM) (Ne.symm hMr),I9⟩,⟨[],E1 A6 (Ne.symm hAr),I9⟩,?_⟩ (xj7 (xj7 bt8 (.inr hA0)) (.inl (by simp))) ?_ (C8.tr g8 (C8.tr C8.upd C8.upd))
 ·show(r::L::M::A::fpA [⟨o,dx,p,qq,ww⟩]).Nodup
  have ef:fpA [⟨o,dx,p,qq,ww⟩]=[o,qq,ww]:=rfl
  rw[fp] at nL nM nA
  simp only[mem_cons,not_mem_nil,or_false,not_or] at nL nM nA
  rw[ef]
  simp[hLr,hMr,hAr,nor,nrq,nrw,hML,hAL,hAM,nL.1,nL.2.1,nL.2.2,nM.1,nM.2.1,nM.2.2,nA.1,nA.2.1,nA.2.2,noq,now,hqw]
 ·intro z hz
  have hz':z∈r::L::M::A::[o,qq,ww]:=hz
  simp only[mem_cons,not_mem_nil,or_false] at hz'
  rcases hz' with h1|h1|h1|h1|h1|h1|h1
  ·exact .inl h1
  ·exact .inr (h1▸hL0)
  ·exact .inr (h1▸hM0)
  ·exact .inr (h1▸hA0)
  ·exact .inr (h1▸g2 _ ho)
  ·exact .inr (h1▸g3 _ hq)
  ·exact .inr (h1▸g3 _ hw)
theorem qz3{xs:List V}{m:Int}(h:0<=m):qg4 xs (some m) none=xs.drop m.toNat:=by
 unfold qg4
 have e:HT.sIx xs.length 0 (some m)=min m.toNat xs.length:=by
  show(if m<0 then _ else min m.toNat xs.length)=_
  rw[if_neg #[0]]
 show(xs.drop (HT.sIx xs.length 0 (some m))).take (xs.length-HT.sIx xs.length 0 (some m))=_
 rw[e]
 by_cases hl:m.toNat<=xs.length
 ·rw[Nat.min_eq_left hl,take_of_length_le (by rw[length_drop];exact Nat.le_refl _)]
 ·rw[Nat.min_eq_right #[0],drop_length,drop_eq_nil_of_le #[0],take_nil]
theorem Z5{l:List α}{i:Nat}{x:α}(h:l[i]?=some x):l.take (i+1)=l.take i++[x]:=by rw[take_succ,h];rfl
theorem zf9{x:α}{xs:List α}:atI (x::xs) 0=some x:=by
 have:atI (x::xs) ((0:Nat):Int)=some x:=Y0 rfl
 exact this
section
variable{kB:Addr}
theorem qk6.get{as:List BA}{bs:List Brn}{i:Nat}{x:BA}(h:qk6 K H kB as bs)(e:as[i]?=some x):∃ b,bs[i]?=some b/\BrO K H kB x b:=by
 induction h generalizing i with
 | nil=>simp at e
 | cons h1 _ ih =>
   cases i with
   | zero=>simp at e;subst e;exact⟨_,rfl,h1⟩
   | succ i=>exact ih (by simpa using e)
end
def qa6(K:Fg):Sp:=fun vs H Q _=>∃ (kR kB r:Addr) (bv:V) (a:RAd) (st:Rst) (b0:Brn) (bs:List Brn),vs=[.ref r]/\RdO K H kR kB r bv a st/\st.bs=b0::bs/\∀ (v:V) (H':Hp),A7 H H'->Dv K H' (Tr.nd "" b0.ps).da v->Q v H'
def qe8(K:Fg):TS :=
 (L6 (T7 (A1 (tC (.str "")) (A1 (tCB (ql7 K) (A1 (T6 K (tOp (L5 K) #[100] #[2,0]) "parts") A9)) A9))))
theorem wz4(cz:Cz K k_Branch k_Reader)(h:qa6 K vs H Q E):qe8 K {nx:=fun _ H'=>Q .non H',rt:=Q} (E2 ["self"] vs) H:=by
 obtain⟨kR,kB,r,bv,a,st,b0,bs,rfl,h,eb,q⟩:=h
 walk_at"5"
 show qe8 K _ [some (.ref r)] H
 unfold qe8
 obtain⟨m1,x,m2,ea,hm,hx⟩:=h.as_split (l1:=[]) eb
 obtain rfl:=eq_nil_of_length_eq_zero hm
 obtain⟨us,q1,q2⟩:=hx.q
 lk
 refine G9 ?_
 walk_at"3"
 lk
 refine M9 #[52,h.l] (v:=.ref x.o) (by rw[ea];exact zf9) ?_
 walk_at"15"
 refine⟨_,_,rfl,.inl ⟨SqL.of q1,fun l hl=>?_⟩⟩
 walk_at"6"
 have s1:=A7.new hl (.tup us)
 have s2:=A7.new hp (.tup [.str "",.ref l])
 refine q _ _ (A7.tr s1 s2) (yp5 (SqT.of A6) (s2.sqT (SqT.of A6)) (Dvs.same (A7.tr s1 s2) _ _ q2))
def E7(K:Fg):Sp:=fun vs H Q _=>∃ (kR kB r:Addr) (bv:V) (a:RAd) (st:Rst) (b0:Brn) (bs:List Brn),vs=[.ref r]/\RdO K H kR kB r bv a st/\st.bs=b0::bs/\bs.length<=1000/\∀ (p:Addr) (H':Hp),A7 H H'->SqT K H' p (B4 (bs.map Brn.n))->Q (.ref p) H'
def S0(K:Fg):TS :=
 (L6 (tCB (ql7 K) (A1 (qu0 [none] (qy5 K (tSl (wg2 K) #[100] (U8 #[2,1]) X9)) (B6 0) tTT (T6 K (A2 0) "name")) A9)))
theorem wd1(cz:Cz K k_Branch k_Reader)(h:E7 K vs H Q E):S0 K {nx:=fun _ H'=>Q .non H',rt:=Q} (E2 ["self"] vs) H:=by
 obtain⟨kR,kB,r,bv,a,st,b0,bs,rfl,h,eb,hl,q⟩:=h
 walk_at"5"
 show S0 K _ [some (.ref r)] H
 unfold S0
 obtain⟨m1,x,m2,ea,hm,hx⟩:=h.as_split (l1:=[]) eb
 obtain rfl:=eq_nil_of_length_eq_zero hm
 have hb:=h.b
 rw[ea,eb] at hb
 obtain⟨_,_,hb2⟩:=hb.split (m1:=[]) (l1:=[]) rfl
 have hbl:=hb2.len
 walk_at"3"
 lk
 refine xc1 #[52,h.l] fun p hp=>?_
 have ecut:qg4 (a.as.map fun z=>V.ref z.o) (some 1) none=m2.map fun z=>V.ref z.o:=by
  rw[qz3 #[10],ea];rfl
 rw[ecut]
 have s1:=A7.new hp (.lst (m2.map fun z=>V.ref z.o))
 have e1:#[54,m2.map fun z=>V.ref z.o] p=_:=A6
 generalize upd H p (.lst (m2.map fun z=>V.ref z.o))=H1 at *
 refine yc0 (.inl #[52,e1]) (fun i ys H'=>H'=H1/\ys=B4 ((bs.take i).map Brn.n)) ⟨rfl,rfl⟩ ?_ ?_ ?_ ?_ ?_
 ·rintro i ys H' hi ⟨_,rfl⟩
  rw[B7,length_map,length_take]
  exact E5 #[0]
 ·rintro _ i ys H' _ ⟨rfl,_⟩;exact SqL.of e1
 ·rintro hq i ys H' _ ⟨rfl,_⟩;exact hq
 ·rintro i v ys H' hi ⟨rfl,rfl⟩
  rw[List.getElem?_map] at hi
  obtain⟨z,hz,rfl⟩:=Option.map_eq_some_iff.mp hi
  obtain⟨c,hc,hB⟩:=hb2.get hz
  refine J0 ?_
  walk_at"27"
  refine⟨z.o,_,z.x,_,_,rfl,s1 _ _ hB.o,cz.cl_Branch,cz.na_Branch_name,rfl,?_⟩
  refine⟨rfl,?_⟩
  rw[wi5,Z5 hc,map_append];rfl
 ·rintro ys H' ⟨rfl,rfl⟩ l hl2
  have en:bs.take (m2.map fun z=>V.ref z.o).length=bs:=by rw[length_map,hbl];exact take_length
  rw[en]
  have s2:=A7.new hl2 #[16,bs.map Brn.n]
  lk
  refine⟨_,_,rfl,.inl ⟨SqL.of A6,fun w hw=>?_⟩⟩
  lk
  exact q _ _ (A7.tr (A7.tr s1 s2) #[78,hw]) (SqT.of A6)
abbrev qr8(K:Fg):TS :=
 (E9 (tBM K "list" J9 (T6 K (tOp (L5 K) #[100] #[12]) "parts") (A1 (T7 (A1 (T6 K (A2 1) "name") (A1 (tCB (ql7 K) (A1 (T6 K (A2 1) "parts") A9)) A9))) A9)))
def P6(K:Fg):Sp:=fun vs H Q _=>∃ (kR kB r:Addr) (bv:V) (a:RAd) (st:Rst) (bs:List Brn) (b1 b2:Brn),vs=[.ref r]/\RdO K H kR kB r bv a st/\st.bs=bs++[b1,b2]/\b1.ps.length<=9000000/\∀ a' H',Rup K kR kB r bv H a H' a' {st with bs:=bs++[{b1 with ps:=b1.ps++[Tr.nd b2.n b2.ps]}]}->C8 H H'->Q .non H'
def qa7(K:Fg):TS :=
 (C1 (E3 (yb3 K "list" yb5 #[100]) (B6 1))
 (qr8 K))
theorem wv1(cz:Cz K k_Branch k_Reader)(h:P6 K vs H Q E):qa7 K {nx:=fun _ H'=>Q .non H',rt:=Q} (E2 ["self","branch"] vs) H:=by
 obtain⟨kR,kB,r,bv,a,st,bs,b1,b2,rfl,h,eb,hl,q⟩:=h
 walk_at"5"
 show qa7 K _ [some (.ref r),none] H
 unfold qa7
 have eb2:st.bs=(bs++[b1])++b2::[]:=by rw[eb];simp
 obtain⟨m,y,m3,ea,hm,hy⟩:=h.as_split eb2
 have hn:=h.b.len
 rw[ea,eb2] at hn
 simp only[length_append,length_cons,length_nil] at hn hm
 obtain rfl:m3=[]:=eq_nil_of_length_eq_zero #[0]
 have hm':m.length=(bs++[b1]).length:=by simp[hm]
 obtain⟨h1,hy1⟩:=h.pop ea eb2 hm'
 have bt1:But (RAd.fp r a) H (upd H a.L (.lst (m.map fun z=>V.ref z.o))):=fun z u e n=>E1 e fun y=>n (by rw[y];simp[RAd.fp])
 have hL:=h.l
 rw[ea,map_append] at hL
 have g1:C8 H (upd H a.L (.lst (m.map fun z=>V.ref z.o))):=C8.upd
 have fy:∀ z∈y.fp,z∉fpA m:=fun z hz hx=>by
  have:=h.apart.2.2.2.2.2.2.2.2.2.2
  rw[ea,R8,nodup_append] at this
  exact this.2.2 z hx z (by rw[Q7];exact mem_append_left _ hz) rfl
 have fr1:∀ z∈RAd.fp r {a with as:=m},z∈RAd.fp r a:=fun z hz=>by
  simp only[RAd.fp,mem_cons,ea,R8,mem_append] at hz ⊢
  rcases hz with h|h|h|h|h
  ·exact .inl h
  ·exact .inr (.inl h)
  ·exact .inr (.inr (.inl h))
  ·exact .inr #[96,.inl h]
  ·exact .inr #[96,.inr (.inl h)]
 walk_at"3"
 lk
 refine⟨.inl ⟨rfl,_,SqL.of hL⟩,?_⟩
 refine xs1 hL ?_
 generalize upd H a.L (.lst (m.map fun z=>V.ref z.o))=H1 at *
 lk
 show qr8 K _ _ _
 have e1:({st with bs:=bs++[b1]}:Rst).bs=bs++b1::[]:=rfl
 obtain⟨m1,x,m2,ea2,hm2,hx⟩:=h1.as_split e1
 have ea2':m=m1++x::m2:=ea2
 obtain rfl:m2=[]:=eq_nil_of_length_eq_zero (by have:=congrArg List.length ea2';simp at this;omega)
 obtain⟨us,q1,q2⟩:=hx.q
 obtain⟨ws,p1,p2⟩:=hy1.q
 have hul:=qu1 q2
 have h1l:H1 a.L=_:=h1.l
 have h1o:H1 r=_:=h1.o
 walk_at"27"
 refine G9 ?_
 lk
 refine⟨r,_,a.x,_,_,rfl,h1o,cz.cl_Reader,cz.na_Reader_branches,rfl,?_⟩
 walk_at"17"
 refine M9 #[52,h1l] (v:=.ref x.o) (Q9 (n:=m1.length) (by show(m.map _).length=_;rw[ea2'];simp) (by show(m.map _)[_]?=_;rw[ea2'];simp)) ?_
 walk_at"15"
 refine⟨.inl ⟨rfl,_,SqL.of q1⟩,?_⟩
 walk_at"27"
 refine⟨y.o,_,y.x,_,_,rfl,hy1.o,cz.cl_Branch,cz.na_Branch_name,rfl,?_⟩
 walk_at"27"
 refine⟨y.o,_,y.x,_,_,rfl,hy1.o,cz.cl_Branch,cz.na_Branch_parts,rfl,?_⟩
 lk
 refine⟨_,_,rfl,.inl ⟨SqL.of p1,fun l hl=>?_⟩⟩
 walk_at"6"
 have s2:=A7.new hl (.tup ws)
 have s3:=A7.new hp (.tup [.str b2.n,.ref l])
 have s23:=A7.tr s2 s3
 have dt:Dv K _ (Tr.nd b2.n b2.ps).da (.ref p):=yp5 (SqT.of (A6 (H:=upd H1 l (.tup ws)) (a:=p) (o:=.tup [.str b2.n,.ref l]))) (s3.sqT (SqT.of A6)) (Dvs.same s23 _ _ p2)
 generalize upd (upd H1 l (.tup ws)) p (.tup [.str b2.n,.ref l])=H2 at *
 lk
 refine L4 (s23 _ _ q1) (by rw[hul,sizeLine_eq];omega) ?_
 have h2:=h1.same s23
 have xq:x.q∈x.fp:=by simp[BA.fp]
 have bt3:But x.fp H2 (upd H2 x.q (.lst (us++[.ref p]))):=fun z u e n=>E1 e fun y=>n (by rw[y];exact xq)
 have xnd:x.fp.Nodup:=by
  have:=h1.apart.2.2.2.2.2.2.2.2.2.2
  rw[show({a with as:=m}:RAd).as=m from rfl,ea2',R8,Q7,nodup_append,nodup_append] at this
  exact this.2.1.1
 have hx2:=(hx.but (ps:=[]) (fun z u e _=>s23 z u e) s23.tupK fun _ _ z=>by cases z)
 have tk3:S4 H2 (upd H2 x.q (.lst (us++[.ref p]))):=N8 (.inl ⟨_,s23 _ _ q1⟩)
 have no:x.o≠x.q:=by simp[BA.fp] at xnd;exact xnd.1.1
 have nw:x.w≠x.q:=by simp[BA.fp] at xnd;exact Ne.symm xnd.2
 have hB:BrO K (upd H2 x.q (.lst (us++[.ref p]))) k_Branch x {b1 with ps:=b1.ps++[Tr.nd b2.n b2.ps]} :=
  ⟨E1 hx2.o no,tk3.sqT hx2.p,⟨_,A6,by
   show Dvs K _ (Tr.das (b1.ps++[Tr.nd b2.n b2.ps])) _
   rw[Y1,map_append,<-Y1]
   exact Dvs.append (Dvs.tupK tk3 _ _ (Y2 _) (Dvs.same s23 _ _ q2)) (Dvs.one (Dv.tupK tk3 _ _ (ze0 _) dt))⟩,E1 hx2.w nw⟩
 have u:=Rup.swap h2 ea2 e1 hm2 bt3 hB (fun z hz=>.inl hz) xnd rfl
 refine q _ _ ⟨u.ok,fun c o e n=>?_,fun z hz=>?_⟩ (C8.tr (C8.tr g1 (A7.grow s23)) C8.upd)
 ·exact bt3 c o (s23 _ _ (bt1 c o e n)) fun hc=>n (fr1 c (zf8 ea2 hc))
 ·exact(u.fr z hz).imp (fr1 z) fun h=>g1 z (A7.grow s23 z h)
theorem yl5 {n:Option Str} (h:Q #[90,n=some x] H):qd0 K (oV n) (.str x) H Q:=by
 cases n with
 | none => refine yc1 rfl ?_;have e:(decide (oV none=V.str x))=decide (none=some x):=by simp[oV]
           rw[e];exact h
 | some y => refine yc1 rfl ?_;have e:(decide (oV (some y)=V.str x))=decide (some y=some x):=by simp[oV]
             rw[e];exact h
section
variable{kR kB r:Addr}{bv:V}{a:RAd}{st:Rst}
theorem Rup.mend{e:Int}(h:RdO K H kR kB r bv a st)(s1:A7 H H1)(e1:SqT K H1 p [.int i,.int e,.str t,.str rule])(m2:Dvs K H (st.ms.map Mnd.da) us) :
 Rup K kR kB r bv H a (upd H1 a.M (.lst (us++[.ref p]))) a {st with ms:=st.ms++[⟨i,e,t,rule⟩]}:=by
 refine .keep ((h.same s1).setM ?_) fun c o e n=>?_
 ·rw[map_append]
  exact Dvs.append (Dvs.same s1 _ _ m2) (Dvs.one (D7.mpr ⟨p,_,rfl,e1,C0 (P1.mpr rfl) (C0 (P1.mpr rfl) (C0 #[76] (C0 #[76] I9)))⟩))
 ·rw[B8 (fun z=>n (by rw[z];simp[RAd.fp]))];exact s1 c o e
theorem RdO.ms_len(m2:Dvs K H (st.ms.map Mnd.da) us):us.length=st.ms.length:=by have:=m2.length;rw[length_map] at this;exact this
end
def O6(K:Fg):Sp:=fun vs H Q _=>∃ (kR kB r:Addr) (bv:V) (a:RAd) (st:Rst) (n:Str) (i:Int) (rule:Str) (bs:List Brn) (b0:Brn),vs=[.ref r,.str n,.int i,.str rule]/\RdO K H kR kB r bv a st/\st.bs=bs++[b0]/\bs.length<=1000/\b0.pl.length<=1000/\b0.ps.length<=9000000/\st.ms.length<=9000000/\n.length<=4000/\∀ a' H',Rup K kR kB r bv H a H' a' {st with bs:=st.bs++[⟨n,b0.pl++[(b0.ps.length:Int)],[],[]⟩],ms:=st.ms++[⟨i,i,opn n,rule⟩]}->C8 H H'->Q .non H'
def Y6(K:Fg)(k_Reader:Addr):TS :=
 (C1 (E9 (tBM K "list" J9 (T6 K (A2 0) "mends") (A1 (T7 (A1 (A2 2) (A1 (A2 2) (A1 (D8 (qm2 K) [] E0 #[3,1]) #[3,3])))) A9)))
 (E9 (O1 k_Reader "enter" (U0 K) [] E0 (A2 0) #[3,1])))
theorem wr2(cz:Cz K k_Branch k_Reader)(h:O6 K vs H Q E):Y6 K k_Reader {nx:=fun _ H'=>Q .non H',rt:=Q} (E2 ["self","name","start","rule"] vs) H:=by
 obtain⟨kR,kB,r,bv,a,st,n,i,rule,bs,b0,rfl,h,eb,h1,h2,h3,h4,h5,q⟩:=h
 obtain rfl:=N7 cz.ns_Reader h.kr
 show Y6 K _ _ [some (.ref r),some (.str n),some (.int i),some (.str rule)] H
 unfold Y6
 obtain⟨us,m1,m2⟩:=h.m
 have hul:=RdO.ms_len m2
 walk_at"27"
 refine⟨r,_,a.x,_,_,rfl,h.o,cz.cl_Reader,cz.na_Reader_mends,rfl,?_⟩
 walk_at"32"
 lk
 refine⟨n,rfl,h5,?_⟩
 walk_at"6"
 lk
 have s1:=A7.new hp (.tup [.int i,.int i,.str (opn n),.str rule])
 refine L4 (s1 _ _ m1) (by rw[hul,sizeLine_eq];omega) ?_
 have u1:=Rup.mend h s1 (SqT.of A6) m2
 have g1:C8 H (upd (upd H p (.tup [.int i,.int i,.str (opn n),.str rule])) a.M (.lst (us++[.ref p]))):=C8.tr C8.upd C8.upd
 generalize upd (upd H p (.tup [.int i,.int i,.str (opn n),.str rule])) a.M (.lst (us++[.ref p]))=H1 at *
 walk_at"35"
 refine⟨r,_,_,rfl,u1.ok.o,rfl,?_⟩
 lk
 refine⟨k_Reader,kB,r,bv,a,_,n,bs,b0,rfl,u1.ok,eb,h1,h2,h3,fun a' H' u2 g2=>?_⟩
 exact q a' H' (u1.tr u2 g1) (C8.tr g1 g2)
def P7(K:Fg):Sp:=fun vs H Q _=>∃ (kR kB r:Addr) (bv:V) (a:RAd) (st:Rst) (b0:Brn) (bs:List Brn) (rs:List Row),vs=[.ref r]/\RdO K H kR kB r bv a st/\BkO K H bv rs/\st.bs=b0::bs/\bs.length<=1000/\∀ H':Hp,A7 H H'->Q #[90,M8 rs (some (V7 (bs.map Brn.n)))=some #[53]] H'
def R1(K:Fg)(k_Reader:Addr):TS :=
 (L6 (tOp (qd0 K) (D8 (Z3 K) [] E0 (A1 (T6 K (A2 0) "book") (A1 (D8 (P5 K) [] E0 (A1 #[55] A9)) A9))) (tC (.str "frame"))))
theorem qz5(cz:Cz K k_Branch k_Reader)(h:P7 K vs H Q E):R1 K k_Reader {nx:=fun _ H'=>Q .non H',rt:=Q} (E2 ["self"] vs) H:=by
 obtain⟨kR,kB,r,bv,a,st,b0,bs,rs,rfl,h,hk,eb,hl,q⟩:=h
 obtain rfl:=N7 cz.ns_Reader h.kr
 show R1 K _ _ [some (.ref r)] H
 unfold R1
 walk_at"14"
 walk_at"4"
 refine⟨k_Reader,kB,r,bv,a,st,b0,bs,rfl,h,eb,hl,fun p H1 s1 hp=>?_⟩
 lk
 refine⟨p,_,rfl,.inr hp,?_⟩
 lk
 refine⟨bv,some (V7 (bs.map Brn.n)),rs,rfl,(hk.same s1).rws,?_⟩
 lk
 refine yl5 ?_
 exact q _ s1
theorem xc5{f:α->Bool}:∀ {l zs:List α} {z:α},l.filter f=zs++[z]->∃ A B,l=A++z::B/\f z=true/\∀ c∈B,f c=false:=by
 intro l
 induction l with
 | nil=>intro zs z h;simp at h
 | cons x l ih =>
   intro zs z h
   by_cases hx:f x=true
   ·rw[filter_cons_of_pos hx] at h
    cases zs with
    | nil =>
      simp only[nil_append,List.cons.injEq] at h
      obtain⟨rfl,h⟩:=h
      exact⟨[],l,rfl,hx,fun c hc=>Bool.eq_false_iff.mpr (filter_eq_nil_iff.mp h c hc)⟩
    | cons y zs =>
      simp only[cons_append,List.cons.injEq] at h
      obtain⟨A,B,e,h1,h2⟩:=ih h.2
      exact⟨x::A,B,by rw[e];rfl,h1,h2⟩
   ·rw[filter_cons_of_neg hx] at h
    obtain⟨A,B,e,h1,h2⟩:=ih h
    exact⟨x::A,B,by rw[e];rfl,h1,h2⟩
theorem zr8{c:Bool}{p q:Prop}(hc:c=true)(h:p):if c=true then p else q:=by rw[if_pos hc];exact h
def LwP(rs:List Row)(l1:List Brn)(b:Brn)(l2:List Brn):Prop:=(L0 rs b.n=true/\∀ c∈l2,L0 rs c.n=false)\/(l1=[]/\∀ c∈b::l2,L0 rs c.n=false)
abbrev qh3(K:Fg):TS :=
 (L6 (tIf (G0 (tOp xn6 #[110] #[2,0])) #[33,1] (tOp (L5 K) #[100] #[2,0])))
def M7(K:Fg):Sp:=fun vs H Q _=>∃ (kR kB r:Addr) (bv:V) (a:RAd) (st:Rst) (rs:List Row),vs=[.ref r]/\RdO K H kR kB r bv a st/\BkO K H bv rs/\st.bs≠[]/\st.bs.length<=1000/\∀ (m1 m2:List BA) (x:BA) (l1 l2:List Brn) (b:Brn) (H':Hp),A7 H H'->a.as=m1++x::m2->st.bs=l1++b::l2->m1.length=l1.length->LwP rs l1 b l2->Q (.ref x.o) H'
def U1(K:Fg):TS :=
 (C1 (E3 (qu0 [some 0,none] (qy5 K #[100]) (B6 1) (tB (D8 (qf7 K) [] E0 (A1 (T6 K (A2 0) "book") (A1 (T6 K (A2 1) "name") A9)))) (A2 1)) (B6 1))
 (qh3 K))
theorem wg3(cz:Cz K k_Branch k_Reader)(h:M7 K vs H Q E):U1 K {nx:=fun _ H'=>Q .non H',rt:=Q} (E2 ["self","walls"] vs) H:=by
 obtain⟨kR,kB,r,bv,a,st,rs,rfl,h,hk,hne,hl,q⟩:=h
 walk_at"5"
 show U1 K _ [some (.ref r),none] H
 unfold U1
 have hb:=h.b
 have hbl:=hb.len
 let f:BA×Brn->Bool:=fun z=>L0 rs z.2.n
 have zl:(a.as.zip st.bs).length=st.bs.length:=by rw[length_zip,hbl,Nat.min_self]
 have zg:∀ i x,a.as[i]?=some x->∃ c,st.bs[i]?=some c/\BrO K H k_Branch x c/\(a.as.zip st.bs)[i]?=some (x,c):=fun i x e=>by
  obtain⟨c,h1,h2⟩:=hb.get e
  exact⟨c,h1,h2,List.getElem?_zip_eq_some.mpr ⟨e,h1⟩⟩
 walk_at"3"
 refine yc0 (.inl #[52,h.l]) (fun i ys H'=>H'=H/\ys=((((a.as.zip st.bs).take i).filter f).map fun z=>V.ref z.1.o)) ⟨rfl,rfl⟩ ?_ ?_ ?_ ?_ ?_
 ·rintro i ys H' hi ⟨_,rfl⟩
  rw[length_map]
  have:=length_filter_le f ((a.as.zip st.bs).take i)
  rw[length_take] at this
  exact E5 #[0]
 ·rintro _ i ys H' _ ⟨rfl,_⟩;exact SqL.of h.l
 ·rintro hq i ys H' _ ⟨rfl,_⟩;exact hq
 ·rintro i v ys H' hi ⟨rfl,rfl⟩
  rw[List.getElem?_map] at hi
  obtain⟨z,hz,rfl⟩:=Option.map_eq_some_iff.mp hi
  obtain⟨c,hc,hB,hzz⟩:=zg i z hz
  refine J0 ?_
  walk_at"14"
  walk_at"27"
  refine⟨z.o,_,z.x,_,_,rfl,hB.o,cz.cl_Branch,cz.na_Branch_name,rfl,?_⟩
  lk
  refine⟨bv,c.n,rs,rfl,hk.rws,?_⟩
  lk
  have et:((a.as.zip st.bs).take (i+1)).filter f=((a.as.zip st.bs).take i).filter f++(if L0 rs c.n=true then[(z,c)] else[]):=by
   rw[Z5 hzz,filter_append]
   congr 1
   by_cases hw:L0 rs c.n=true
   ·rw[if_pos hw,filter_cons_of_pos (by exact hw)];rfl
   ·rw[if_neg hw,filter_cons_of_neg (by exact hw)];rfl
  by_cases hw:L0 rs c.n=true
  ·rw[hw]
   x_go
   lk
   refine⟨rfl,?_⟩
   rw[et,if_pos hw,map_append];rfl
  ·rw[Bool.eq_false_iff.mpr hw]
   refine qd5 ⟨rfl,?_⟩
   rw[et,if_neg hw,append_nil]
 ·rintro ys H' ⟨rfl,rfl⟩ l hl2
  have en:(a.as.zip st.bs).take (a.as.map fun z=>V.ref z.o).length=a.as.zip st.bs:=by rw[length_map,hbl,<-zl];exact take_length
  rw[en]
  have s1:=A7.new hl2 (.lst (((a.as.zip st.bs).filter f).map fun z=>V.ref z.1.o))
  have e1:(upd H' l (.lst (((a.as.zip st.bs).filter f).map fun z=>V.ref z.1.o))) l=_:=A6
  generalize upd H' l (.lst (((a.as.zip st.bs).filter f).map fun z=>V.ref z.1.o))=H1 at *
  have am:(a.as.zip st.bs).map Prod.fst=a.as:=map_fst_zip #[0]
  have bm:(a.as.zip st.bs).map Prod.snd=st.bs:=map_snd_zip #[0]
  show qh3 K _ _ _
  lk
  refine Q4 (.inl #[52,e1]) ?_
  lk
  rcases eq_nil_or_concat ((a.as.zip st.bs).filter f) with hz|⟨zs,z,hz⟩
  ·rw[hz]
   k_go
   walk_at"27"
   refine⟨r,_,a.x,_,_,rfl,s1 _ _ h.o,cz.cl_Reader,cz.na_Reader_branches,rfl,?_⟩
   lk
   obtain⟨b0,bs,eb⟩:=exists_cons_of_ne_nil hne
   obtain⟨m1,x,m2,ea,hm,hx⟩:=h.as_split (l1:=[]) eb
   obtain rfl:=eq_nil_of_length_eq_zero hm
   refine M9 #[52,s1 _ _ h.l] (v:=.ref x.o) (by rw[ea];exact zf9) ?_
   refine q [] m2 x [] bs b0 _ s1 ea eb rfl (.inr ⟨rfl,fun c hc=>?_⟩)
   rw[<-eb,<-bm] at hc
   obtain⟨w,hw,rfl⟩:=mem_map.mp hc
   have:=filter_eq_nil_iff.mp hz w hw
   exact Bool.eq_false_iff.mpr this
  ·rw[concat_eq_append] at hz
   rw[hz] at e1 ⊢
   refine zr8 (by simp) ?_
   walk_at"17"
   refine M9 #[52,e1] (v:=.ref z.1.o) (Q9 (n:=zs.length) (by simp) (by simp)) ?_
   obtain⟨A,B,e2,e3,e4⟩:=xc5 hz
   refine q (A.map Prod.fst) (B.map Prod.fst) z.1 (A.map Prod.snd) (B.map Prod.snd) z.2 _ s1 (by rw[<-am,e2];simp) (by rw[<-bm,e2];simp) (by simp) (.inl ⟨e3,fun c hc=>?_⟩)
   obtain⟨w,hw,rfl⟩:=mem_map.mp hc
   exact e4 w hw
abbrev wn6(K:Fg):TS :=
 (S3 (G0 (tOp (qd0 K) (D8 (Z3 K) [] E0 (A1 (A2 0) #[3,3])) (tC (.str "anew"))))
 (E9 (tBM K "list" J9 (A2 2) #[3,3])) Q5)
abbrev qo7(K:Fg):TS :=
 (C1 (S3 (tB (D8 (qf7 K) [] E0 (A1 (A2 0) #[3,3])))
 yh2 Q5)
 (wn6 K))
def xo8(rs:List Row)(ns:List Str):List Str:=ns.filter fun n=>decide (M8 rs (some n)=some ("anew":Str))
def P8(rs:List Row)(ns:List Str):List Str:=xo8 rs (ns.takeWhile fun n=>!(L0 rs n))
theorem xj8(rs:List Row)(ns:List Str):(xo8 rs ns).length<=ns.length:=length_filter_le _ _
theorem xt0(rs:List Row)(ns:List Str)(n:Str):xo8 rs (ns++[n])=xo8 rs ns++(if M8 rs (some n)=some ("anew":Str) then[n] else[]):=by
 unfold xo8
 rw[filter_append]
 congr 1
 by_cases h:M8 rs (some n)=some ("anew":Str)
 ·rw[if_pos h,filter_cons_of_pos (by exact decide_eq_true h)];rfl
 ·rw[if_neg h,filter_cons_of_neg (by simpa using h)];rfl
theorem yp9{f:Str->Bool}:∀ {ns:List Str} {i:Nat} {y:Str},ns[i]?=some y->(∀ z∈ns.take i,f z=true)->f y=false->ns.takeWhile f=ns.take i
 | [],_,_,h,_,_=>by simp at h
 | x::ns,0,y,h,_,hy=>by simp at h;subst h;rw[takeWhile_cons,hy];rfl
 | x::ns,i+1,y,h,hz,hy=>by
   rw[takeWhile_cons,hz x (by simp),take_succ_cons]
   show x::ns.takeWhile f=_
   rw[yp9 (by simpa using h) (fun z hzz=>hz z (by simp[hzz])) hy]
theorem yx2{ns:List Str}{i:Nat}(hy:ns[i]?=some y)(hw:∀ z∈ns.take i,L0 rs z=false)(hwy:L0 rs y=true):P8 rs ns=xo8 rs (ns.take i):=by
 unfold P8
 rw[yp9 hy (fun z hz=>by rw[hw z hz];rfl) (by rw[hwy];rfl)]
theorem yf5{ns:List Str}(hw:∀ z∈ns,L0 rs z=false):P8 rs ns=xo8 rs ns:=by
 unfold P8
 congr 1
 induction ns with
 | nil=>rfl
 | cons x ns ih=>rw[takeWhile_cons,hw x (by simp)];show x::_=_;rw[ih fun z hz=>hw z (by simp[hz])]
def X0(K:Fg):Sp:=fun vs H Q _=>∃ (v:V) (c:Addr) (ns:List Str) (rs:List Row),vs=[v,.ref c]/\BkO K H v rs/\SqT K H c (B4 ns)/\ns.length<=1000/\∀ (p:Addr) (H':Hp),A7 H H'->H p=none->H' p=some #[16,P8 rs ns]->Q (.ref p) H'
def Y7(K:Fg):TS :=
 (C1 #[121,2]
 (C1 (qr1 (qy5 K (A2 1)) (B6 3)
 (qo7 K))
 (L6 (A2 2))))
theorem wr3(h:X0 K vs H Q E):Y7 K {nx:=fun _ H'=>Q .non H',rt:=Q} (E2 ["book","closed","waiting","name"] vs) H:=by
 obtain⟨v,c,ns,rs,rfl,hk,hc,hl,q⟩:=h
 show Y7 K _ [some v,some (.ref c),none,none] H
 unfold Y7
 walk_at"6"
 have s1:=A7.new hp (.lst [])
 lk
 refine zd8 (.inr hc) s1 (fun i σ H'=>∃ x,σ=[some v,some (.ref c),some (.ref p),x]/\A7 H H'/\H' p=some #[16,xo8 rs (ns.take i)]/\∀ y∈ns.take i,L0 rs y=false) ⟨none,rfl,s1,A6,fun y hy=>by cases hy⟩ ?_ ?_ ?_
 ·rintro i σ H' ⟨x,rfl,s,_⟩;exact s
 ·rintro i x σ H' hi ⟨x0,rfl,s,hpp,hw⟩
  obtain⟨y,hy,rfl⟩:=V4 hi
  refine J0 ?_
  show qo7 K _ _ _
  lk
  refine⟨v,y,rs,rfl,(hk.same s).rws,?_⟩
  lk
  by_cases hwy:L0 rs y=true
  ·rw[hwy]
   x_go
   lk
   have ew:P8 rs ns=xo8 rs (ns.take i):=yx2 hy hw hwy
   rw[<-ew] at hpp
   exact q p H' s hp hpp
  ·have hwf:=Bool.eq_false_iff.mpr hwy
   rw[hwf]
   k_go
   lk
   refine⟨v,some y,rs,rfl,(hk.same s).rws,?_⟩
   lk
   refine yl5 ?_
   lk
   have hw2:∀ z∈ns.take (i+1),L0 rs z=false:=fun z hz=>by
    rw[Z5 hy] at hz
    rcases mem_append.mp hz with hz|hz
    ·exact hw z hz
    ·rw[mem_singleton.mp hz];exact hwf
   have hwl:=xj8 rs (ns.take i)
   have:(ns.take i).length<=ns.length:=by rw[length_take];omega
   by_cases ha:M8 rs (some y)=some ("anew":Str)
   ·rw[decide_eq_true ha]
    x_go
    lk
    refine⟨.inl ⟨rfl,_,SqL.of hpp⟩,?_⟩
    lk
    refine L4 hpp (by rw[B7,sizeLine_eq];omega) ?_
    rw[wi5]
    refine⟨_,rfl,A7.put s hp _,?_,hw2⟩
    rw[A6,Z5 hy,xt0,if_pos ha]
   ·rw[decide_eq_false ha]
    k_go
    lk
    exact⟨_,rfl,s,by rw[Z5 hy,xt0,if_neg ha,append_nil];exact hpp,hw2⟩
 ·rintro σ H' ⟨x,rfl,s,hpp,hw⟩
  rw[B7,take_length] at *
  lk
  refine q p H' s hp ?_
  rw[yf5 hw];exact hpp
def N3:List Brn->List Tr
 | []=>[]
 | c::cs=>[Tr.nd c.n (c.ps++N3 cs)]
def clM(i:Int)(rule:Str)(c:Brn):Mnd:=⟨i,i,cls c.n,rule⟩
def yf6(rs:List Row)(bs:List Brn):Bool:=bs.any fun c=>L0 rs c.n
def yq0(rs:List Row)(f:List Str->List Str):List Brn->List Brn
 | []=>[]
 | c::t=>if yf6 rs t=true then c::yq0 rs f t else if L0 rs c.n=true then{c with ws:=f c.ws}::t else c::t
def Ae4(f:List Str->List Str):List Brn->List Brn
 | []=>[]
 | c::t=>{c with ws:=f c.ws}::t
def wUp(rs:List Row)(f:List Str->List Str)(bs:List Brn):List Brn:=if yf6 rs bs=true then yq0 rs f bs else Ae4 f bs
theorem yq1{bs:List Brn}(h:∀ c∈bs,L0 rs c.n=false):yf6 rs bs=false:=by
 unfold yf6
 rw[any_eq_false]
 intro c hc
 rw[h c hc];decide
theorem yf7(h:L0 rs b.n=true):yf6 rs (l1++b::l2)=true:=by
 unfold yf6
 rw[any_eq_true]
 exact⟨b,by simp,h⟩
theorem yf8{rs:List Row}{f:List Str->List Str}{b:Brn}{l2:List Brn}(h1:L0 rs b.n=true)(h2:∀ c∈l2,L0 rs c.n=false):∀ l1:List Brn,yq0 rs f (l1++b::l2)=l1++{b with ws:=f b.ws}::l2
 | []=>by
   show(if yf6 rs l2=true then _ else if L0 rs b.n=true then _ else _)=_
   rw[yq1 h2,if_neg #[10],if_pos h1];rfl
 | c::l1=>by
   show(if yf6 rs (l1++b::l2)=true then c::yq0 rs f (l1++b::l2) else _)=_
   rw[yf7 h1,if_pos rfl,yf8 h1 h2 l1];rfl
theorem qw9(h:LwP rs l1 b l2):wUp rs f (l1++b::l2)=l1++{b with ws:=f b.ws}::l2:=by
 unfold wUp
 rcases h with⟨h1,h2⟩|⟨rfl,h2⟩
 ·rw[yf7 h1,if_pos rfl,yf8 h1 h2]
 ·rw[nil_append,yq1 h2,if_neg #[10]];rfl
section
variable{kR kB r:Addr}{bv:V}{a:RAd}{st:Rst}
theorem RdO.xnd{x:BA}(h:RdO K H kR kB r bv a st)(ea:a.as=m1++x::m2):x.fp.Nodup:=by
 have:=h.apart.2.2.2.2.2.2.2.2.2.2
 rw[ea,R8,Q7,nodup_append,nodup_append] at this
 exact this.2.1.1
theorem RdO.up(h:RdO K H kR kB r bv a st)(s:A7 H H'):Rup K kR kB r bv H a H' a st:=.keep (h.same s) fun c o e _=>s c o e
theorem Rup.wait{x:BA}(h:RdO K H kR kB r bv a st)(ea:a.as=m1++x::m2)(eb:st.bs=l1++b::l2)(hl:m1.length=l1.length) :
 Rup K kR kB r bv H a (upd H x.w #[16,ws]) {a with as:=m1++x::m2} {st with bs:=l1++{b with ws:=ws}::l2}:=by
 have hb:=h.b
 rw[ea,eb] at hb
 have hx:=(hb.split hl).2.1
 have xnd:=h.xnd ea
 have no:x.o≠x.w:=by simp[BA.fp] at xnd;exact xnd.1.2
 have nq:x.q≠x.w:=by simp[BA.fp] at xnd;exact xnd.2
 have tk:S4 H (upd H x.w #[16,ws]):=N8 (.inl ⟨_,hx.w⟩)
 obtain⟨us,q1,q2⟩:=hx.q
 refine Rup.swap h ea eb hl (fun z u e n=>E1 e fun y=>n (by rw[y];simp[BA.fp])) ⟨E1 hx.o no,tk.sqT hx.p,⟨us,E1 q1 nq,Dvs.tupK tk _ _ (Y2 _) q2⟩,A6⟩ (fun z hz=>.inl hz) xnd rfl
end
abbrev qb2(K:Fg)(k_Reader:Addr):TS :=
 (C1 (E9 (tBM K "list" J9 (T6 K (A2 0) "mends") (A1 (T7 (A1 (A2 2) (A1 (A2 2) (A1 (D8 (qm3 K) [] E0 #[3,5]) #[3,3])))) A9)))
 (E9 (O1 k_Reader "leave" (P6 K) [] E0 (A2 0) A9)))
abbrev qb3(K:Fg)(k_Reader:Addr):TS :=
 (E9 (tBM K "list" wc0 (T6 K (O1 k_Reader "last_wall" (M7 K) [] E0 (A2 0) A9) "waiting") (A1 (D8 (X0 K) [] E0 (A1 (T6 K (A2 0) "book") #[3,4])) A9)))
abbrev qb4(K:Fg)(k_Reader:Addr):TS :=
 (C1 (qr1 (zd4 K #[3,4]) (B6 5)
 (qb2 K k_Reader))
 (qb3 K k_Reader))
def L3(K:Fg):Sp:=fun vs H Q _=>∃ (kR kB r:Addr) (bv:V) (a:RAd) (st:Rst) (rs:List Row) (pre cl:List Brn) (b:Brn) (i:Int) (rule:Str),vs=[.ref r,.int pre.length,.int i,.str rule]/\RdO K H kR kB r bv a st/\BkO K H bv rs/\st.bs=pre++b::cl/\st.bs.length<=900/\(∀ c∈st.bs,c.n.length<=4000/\c.ps.length<=9000000/\c.ws.length<=9000000)/\st.ms.length+cl.length<=9000000/\∀ a' H',Rup K kR kB r bv H a H' a' {st with bs:=wUp rs #[88] (pre++[{b with ps:=b.ps++N3 cl}]),ms:=st.ms++cl.reverse.map (clM i rule)}->C8 H H'->Q .non H'
def P9(K:Fg)(k_Reader:Addr):TS :=
 (C1 (E3 (tSl (yj7 K) #[55] (U8 (A2 1)) X9) (B6 4))
 (qb4 K k_Reader))
theorem qx0(cz:Cz K k_Branch k_Reader)(h:L3 K vs H Q E):P9 K k_Reader {nx:=fun _ H'=>Q .non H',rt:=Q} (E2 ["self","kept","start","rule","closed","name"] vs) H:=by
 obtain⟨kR,kB,r,bv,a,st,rs,pre,cl,b,i,rule,rfl,h,hk,eb,hl,hall,hms,q⟩:=h
 walk_at"5"
 show P9 K _ _ [some (.ref r),some (.int pre.length),some (.int i),some (.str rule),none,none] H
 unfold P9
 obtain⟨b0,bs0,eb0⟩:∃ b0 bs0,st.bs=b0::bs0:=by rw[eb];cases pre <;> exact⟨_,_,rfl⟩
 have hl0:bs0.length<=1000:=by rw[eb0] at hl;simp at hl;omega
 have hdrop:bs0.drop pre.length=cl:=by
  have e:(b0::bs0).drop (pre.length+1)=cl:=by
   rw[<-eb0,eb,show pre++b::cl=(pre++[b])++cl by simp]
   rw[drop_left' (by simp)]
  simpa using e
 walk_at"4"
 refine⟨k_Reader,k_Branch,r,bv,a,st,b0,bs0,rfl,h,eb0,hl0,fun p H1 s1 hp=>?_⟩
 lk
 refine yc7 hp fun c H2 s2 hc=>?_
 have ecut:qg4 (B4 (bs0.map Brn.n)) (some (pre.length:Int)) none=B4 (cl.map Brn.n):=by
  rw[qz3 #[0],Int.toNat_natCast,<-hdrop]
  simp[B4,map_drop]
 rw[ecut] at hc
 have s12:=A7.tr s1 s2
 have h2:=h.same s12
 have hk2:=hk.same s12
 show qb4 K _ _ _ _
 lk
 refine zm6 ?_
 lk
 have hcll:cl.length<=900:=by rw[eb] at hl;simp at hl;omega
 refine zd5 hc (fun j σ H'=>∃ x a' A y C,σ=[some (.ref r),some (.int pre.length),some (.int i),some (.str rule),some (.ref c),x]/\pre++b::cl=A++y::C/\C.length=j/\j<=cl.length/\Rup K k_Reader k_Branch r bv H2 a H' a' {st with bs:=A++[{y with ps:=y.ps++N3 C}],ms:=st.ms++C.reverse.map (clM i rule)}/\C8 H2 H') ?_ ?_ ?_ ?_
 ·obtain⟨A,y,e⟩:∃ A y,pre++b::cl=A++[y]:=by
   rcases eq_nil_or_concat (pre++b::cl) with e|⟨A,y,e⟩
   ·simp at e
   ·exact⟨A,y,by rw[e,concat_eq_append]⟩
  refine⟨none,a,A,y,[],rfl,e,rfl,Nat.zero_le _,?_,fun z hz=>hz⟩
  have:({st with bs:=A++[{y with ps:=y.ps++N3 []}],ms:=st.ms++[].reverse.map (clM i rule)}:Rst)=st:=by
   cases st
   simp only[N3,append_nil,reverse_nil,map_nil] at *
   rw[eb,e]
  rw[this]
  exact .keep h2 fun c o e _=>e
 ·rintro j σ H' ⟨x,a',A,y,C,rfl,_,_,_,u,_⟩
  exact(u.tupK h2).sqT hc
 ·rintro j v σ H' hv hj ⟨x0,a',A,y,C,rfl,e,eC,hjc,u,g⟩
  obtain⟨nm,hnm,rfl⟩:=V4 hv
  rw[B7,length_map] at hj
  rw[B7,length_map,List.getElem?_map] at hnm
  obtain⟨y2,hy2,rfl⟩:=Option.map_eq_some_iff.mp hnm
  have hlen:A.length=(pre++[b]).length+(cl.length-1-j):=by
   have:=congrArg List.length e
   simp only[length_append,length_cons,length_nil] at this ⊢
   omega
  have hyy:y2=y:=by
   have e1:(A++y::C)[A.length]?=some y:=by simp
   rw[<-e,show pre++b::cl=(pre++[b])++cl by simp,hlen,List.getElem?_append_right #[0],Nat.add_sub_cancel_left,hy2] at e1
   exact Option.some.inj e1
  subst hyy
  obtain⟨A',x,rfl⟩:∃ A' x,A=A'++[x]:=by
   rcases eq_nil_or_concat A with e1|⟨A',x,e1⟩
   ·subst e1;simp at hlen;omega
   ·exact⟨A',x,by rw[e1,concat_eq_append]⟩
  have inst:∀ z,z∈A'++x::y2::C->z∈st.bs:=fun z hz=>by rw[eb,e];simpa using hz
  have hx:=hall x (inst x (by simp))
  have hy:=hall y2 (inst y2 (by simp))
  obtain⟨us,m1,m2⟩:=u.ok.m
  have hul:=RdO.ms_len m2
  refine J0 ?_
  show qb2 K _ _ _ _
  walk_at"27"
  refine⟨r,_,a'.x,_,_,rfl,u.ok.o,cz.cl_Reader,cz.na_Reader_mends,rfl,?_⟩
  walk_at"32"
  lk
  refine⟨y2.n,rfl,hy.1,?_⟩
  lk
  refine⟨E5 (by z_go),fun w hw=>?_⟩
  lk
  have s3:=A7.new hw (.tup [.int i,.int i,.str (cls y2.n),.str rule])
  refine L4 (s3 _ _ m1) (by rw[hul,sizeLine_eq];simp;omega) ?_
  have u1:=Rup.mend u.ok s3 (SqT.of A6) m2
  have g1:C8 H' (upd (upd H' w (.tup [.int i,.int i,.str (cls y2.n),.str rule])) a'.M (.lst (us++[.ref w]))):=C8.tr C8.upd C8.upd
  generalize upd (upd H' w (.tup [.int i,.int i,.str (cls y2.n),.str rule])) a'.M (.lst (us++[.ref w]))=H3 at *
  walk_at"35"
  refine⟨r,_,_,rfl,u1.ok.o,rfl,?_⟩
  lk
  refine⟨k_Reader,k_Branch,r,bv,a',_,A',x,{y2 with ps:=y2.ps++N3 C},rfl,u1.ok,by simp,hx.2.1,fun a2 H4 u2 g2=>?_⟩
  refine⟨_,a2,A',x,y2::C,rfl,by rw[e];simp,by simp[eC],by omega,?_,C8.tr (C8.tr g g1) g2⟩
  have:=(u.tr u1 g).tr u2 (C8.tr g g1)
  rw[reverse_cons,map_append,<-append_assoc]
  exact this
 ·rintro σ H' ⟨x,a',A,y,C,rfl,e,eC,_,u,g⟩
  rw[B7,length_map] at eC
  obtain⟨e1,e2⟩:=append_inj e (by have:=congrArg List.length e;simp at this;omega)
  obtain⟨rfl,rfl⟩:=List.cons.inj e2
  subst e1
  have tk:=u.tupK h2
  have hk3:=hk2.tupK tk
  have hc3:=tk.sqT hc
  have hlen3:(pre++[{b with ps:=b.ps++N3 cl}]:List Brn).length<=900:=by rw[eb] at hl;simp at hl ⊢;omega
  show qb3 K _ _ _ _
  lk
  refine G9 ?_
  refine G4 ?_
  lk
  refine⟨r,_,_,rfl,u.ok.o,rfl,?_⟩
  lk
  refine⟨k_Reader,k_Branch,r,bv,a',_,rs,rfl,u.ok,hk3,by simp,by show(pre++[_]).length<=1000;omega,fun m1 m2 x2 l1 l2 b2 H4 s4 ea2 eb2 hm2 lw=>?_⟩
  have h4:=u.ok.same s4
  have hb4:=h4.b
  rw[ea2,eb2] at hb4
  have hx4:=(hb4.split hm2).2.1
  have hws:b2.ws.length<=9000000:=by
   have:b2∈(pre++[{b with ps:=b.ps++N3 cl}]:List Brn):=by
    have e3:(pre++[{b with ps:=b.ps++N3 cl}]:List Brn)=l1++b2::l2:=eb2
    rw[e3];simp
   rcases mem_append.mp this with h1|h1
   ·exact(hall b2 (by rw[eb];simp[h1])).2.2
   ·rw[mem_singleton.mp h1];exact(hall b (by rw[eb];simp)).2.2
  refine⟨x2.o,_,x2.x,_,_,rfl,hx4.o,cz.cl_Branch,cz.na_Branch_waiting,rfl,?_⟩
  lk
  refine⟨.inl ⟨rfl,_,SqL.of hx4.w⟩,?_⟩
  walk_at"27"
  refine⟨r,_,a'.x,_,_,rfl,h4.o,cz.cl_Reader,cz.na_Reader_book,rfl,?_⟩
  lk
  refine⟨bv,c,cl.map Brn.n,rs,rfl,hk3.same s4,s4.sqT hc3,by rw[length_map];omega,fun w H5 s5 hw0 hw=>?_⟩
  lk
  have hwl:=xj8 rs ((cl.map Brn.n).takeWhile fun n=>!(L0 rs n))
  have hwl2:(P8 rs (cl.map Brn.n)).length<=900:=by
   have h1:((cl.map Brn.n).takeWhile fun n=>!(L0 rs n)).length<=(cl.map Brn.n).length:=(takeWhile_sublist _).length_le
   rw[length_map] at h1
   unfold P8;omega
  refine wt6 (s5 _ _ hx4.w) hw (by rw[B7,B7,sizeLine_eq];omega) ?_
  have h5:=h4.same s5
  have uw:=Rup.wait (ws:=b2.ws++P8 rs (cl.map Brn.n)) h5 ea2 eb2 hm2
  have es:B4 b2.ws++B4 (P8 rs (cl.map Brn.n))=B4 (b2.ws++P8 rs (cl.map Brn.n)):=by simp[B4]
  rw[es]
  have uu:=((((h.up s12).tr u (A7.grow s12)).tr (u.ok.up s4) (C8.tr (A7.grow s12) g)).tr (h4.up s5) (C8.tr (C8.tr (A7.grow s12) g) (A7.grow s4))).tr uw (C8.tr (C8.tr (C8.tr (A7.grow s12) g) (A7.grow s4)) (A7.grow s5))
  refine q {a' with as:=m1++x2::m2} _ ?_ (C8.tr (C8.tr (C8.tr (C8.tr (A7.grow s12) g) (A7.grow s4)) (A7.grow s5)) C8.upd)
  have e3:(pre++[{b with ps:=b.ps++N3 cl}]:List Brn)=l1++b2::l2:=eb2
  rw[e3,qw9 lw]
  exact uu
def X1(K:Fg):Sp:=fun vs H Q _=>∃ (kR kB r:Addr) (bv:V) (a:RAd) (st:Rst) (rs:List Row) (cl:List Brn) (b:Brn) (i:Int),vs=[.ref r,.int i]/\RdO K H kR kB r bv a st/\BkO K H bv rs/\st.bs=b::cl/\st.bs.length<=900/\(∀ c∈st.bs,c.n.length<=4000/\c.ps.length<=9000000/\c.ws.length<=9000000)/\st.ms.length+cl.length<=9000000/\∀ a' H',Rup K kR kB r bv H a H' a' {st with bs:=wUp rs #[88] [{b with ps:=b.ps++N3 cl}],ms:=st.ms++cl.reverse.map (clM i "end")}->C8 H H'->Q .non H'
def Y8(K:Fg)(k_Reader:Addr):TS :=
 (E9 (O1 k_Reader "close_behind" (L3 K) [] E0 (A2 0) (A1 #[2,0] (A1 (A2 1) (A1 (tC (.str "end")) A9)))))
theorem wr4(cz:Cz K k_Branch k_Reader)(h:X1 K vs H Q E):Y8 K k_Reader {nx:=fun _ H'=>Q .non H',rt:=Q} (E2 ["self","size"] vs) H:=by
 obtain⟨kR,kB,r,bv,a,st,rs,cl,b,i,rfl,h,hk,eb,hl,hall,hms,q⟩:=h
 obtain rfl:=N7 cz.ns_Reader h.kr
 show Y8 K _ _ [some (.ref r),some (.int i)] H
 unfold Y8
 walk_at"4"
 exact⟨k_Reader,kB,r,bv,a,st,rs,[],cl,b,i, "end",rfl,h,hk,eb,hl,hall,hms,q⟩
def adP(ps:List Tr)(t:Str):List Tr:=match ps.getLast? with|some (.tx u)=>ps.dropLast++[.tx (u++t)]|_=>ps++[.tx t]
def adN(ps:List Tr):Nat:=match ps.getLast? with|some (.tx _)=>ps.length-1|_=>ps.length
def adA(ps:List Tr):Nat:=match ps.getLast? with|some (.tx u)=>u.length|_=>0
def B5(st:Rst):List Str:=st.bs.tail.map Brn.n
def S5:Brn:=⟨"",[],[],[]⟩
def S6(bs:List Brn):Brn:=bs.getLastD S5
def wv2(b:Brn)(n:Str):Brn:=⟨n,b.pl++[(b.ps.length:Int)],[],[]⟩
def P4(bs:List Brn)(n:Str):List Brn:=bs++[wv2 (S6 bs) n]
def wj0(st:Rst)(n:Str)(i:Int)(rule:Str):Rst:={st with bs:=P4 st.bs n,ms:=st.ms++[⟨i,i,opn n,rule⟩]}
def S7(st:Rst)(ns:List Str)(i:Int)(rule:Str):Rst:=ns.foldl (fun s n=>wj0 s n i rule) st
def qg2(st:Rst)(i:Int)(g rule:Str):Rst:={st with ms:=st.ms++[⟨i,i+g.length, "",rule⟩]}
def W3(rs:List Row)(st:Rst)(kept:Nat)(i:Int)(rule:Str):Rst:={st with bs:=wUp rs (·++P8 rs (#[65].map Brn.n)) (st.bs.take kept++[{(st.bs.getD kept S5) with ps:=(st.bs.getD kept S5).ps++N3 #[65]}]),ms:=st.ms++#[65].reverse.map (clM i rule)}
def lvB(bs:List Brn):List Brn:=bs.dropLast.dropLast++[{(S6 bs.dropLast) with ps:=(S6 bs.dropLast).ps++[Tr.nd (S6 bs).n (S6 bs).ps]}]
def lvS(st:Rst):Rst:={st with bs:=lvB st.bs}
def lwS(rs:List Row)(bs:List Brn):List Str:=match bs.reverse.find? fun c=>L0 rs c.n with|some b=>b.ws|none=>(bs.headD S5).ws
def qz6(rs:List Row)(ns:List Str)(n:Str):Bool:=decide (ns.length<20) && !((O4 rs ns).any fun y=>decide (y∈n::(qm0 rs n++wc4 rs n)))
def J8(rs:List Row)(i:Int)(st:Rst)(n:Str):Rst:=if qz6 rs (B5 st) n=true then wj0 st n i "anew" else st
def N9(rs:List Row)(i:Int)(st:Rst):Rst:=(lwS rs st.bs).foldl (J8 rs i) {st with bs:=wUp rs (fun _=>[]) st.bs}
def zn8(i:Int)(g:Str)(k:Nat):Mnd:=⟨i+k,i+k+1,if g.cps.toList[k]?=some 60 then "&l;" else "&a;","sign"⟩
def txS(st:Rst)(i:Int)(g t:Str):Rst:={st with bs:=st.bs.dropLast++[{(S6 st.bs) with ps:=adP (S6 st.bs).ps t}],ls:=st.ls++[⟨i,g,(S6 st.bs).pl++[(adN (S6 st.bs).ps:Int)],adA (S6 st.bs).ps⟩]}
def woL(ws:List Str)(n:Str):List Str:=(ws.reverse.erase n).reverse
def opS(rs:List Row)(rk:Str->Nat)(st:Rst)(i:Int)(g n:Str):Rst :=
 if M8 rs (some n)=none then qg2 st i g "strange" else
 if bar rs ((B5 st).take #[26].1) #[26].2=true then qg2 st i g "barred" else
 if 20<#[26].1+#[26].2.length then qg2 st i g "deep" else
 let s2:=S7 (W3 rs st #[26].1 i "shut") #[26].2.dropLast i "frame"
 if M8 rs (some n)=some ("bare":Str) then lvS {s2 with bs:=P4 s2.bs n} else{s2 with bs:=P4 s2.bs n}
def O5(rs:List Row)(rk:Str->Nat)(st:Rst)(i:Int)(g n:Str):Rst:=match clo rs rk (B5 st) n (B5 st).length with
 | some k=>lvS (W3 rs st (k+1) i "left")
 | none=>if n∈lwS rs st.bs then{(qg2 st i g "late") with bs:=wUp rs (fun ws=>woL ws n) st.bs} else qg2 st i g "stray"
def yl6(t:Str):Bool:=decide (PySem.Txt.stripChars t (" \n":Str)=("":Str))
def R3(rs:List Row)(st:Rst):List Str:=M6 rs (V7 (B5 st))
def wo2(st:Rst)(i:Int)(g:Str):Rst:={st with ms:=st.ms++#[71].map (zn8 i g)}
def qg5(rs:List Row)(st:Rst)(i:Int)(g t:Str):Rst :=
 if M8 rs (some (V7 (B5 st)))=some #[53]/\yl6 t=true then qg2 st i g "blank" else
 if 20<(B5 st).length+(R3 rs st).length then qg2 st i g "deep" else
 txS (wo2 (N9 rs i (S7 st (R3 rs st) i "host")) i g) i g t
def qo8(rs:List Row)(rk:Str->Nat)(st:Rst)(kind:Str)(i:Int)(g t:Str):Rst :=
 if kind=("open":Str) then opS rs rk st i g t else if kind=("close":Str) then O5 rs rk st i g t else qg5 rs st i g t
section
variable{rs:List Row}{bs l1 l2:List Brn}{b:Brn}
theorem qr9(l:List Brn)(b:Brn):S6 (l++[b])=b:=by unfold S6;simp
theorem wv3(rs:List Row)(h:bs≠[]):∃ l1 b l2,bs=l1++b::l2/\LwP rs l1 b l2:=by
 rcases eq_nil_or_concat (bs.filter fun c=>L0 rs c.n) with e|⟨zs,z,e⟩
 ·obtain⟨b,l2,rfl⟩:=exists_cons_of_ne_nil h
  exact⟨[],b,l2,rfl,.inr ⟨rfl,fun c hc=>Bool.eq_false_iff.mpr (filter_eq_nil_iff.mp e c hc)⟩⟩
 ·rw[concat_eq_append] at e
  obtain⟨A,B,e1,e2,e3⟩:=xc5 e
  exact⟨A,z,B,e1,.inl ⟨e2,e3⟩⟩
theorem ql0(h:LwP rs l1 b l2):lwS rs (l1++b::l2)=b.ws:=by
 unfold lwS
 rcases h with⟨h1,h2⟩|⟨rfl,h2⟩
 ·have:(l1++b::l2).reverse.find? (fun c=>L0 rs c.n)=some b:=by
   rw[reverse_append,reverse_cons,append_assoc,find?_append,find?_eq_none.mpr fun c hc=>by rw[h2 c (mem_reverse.mp hc)];decide]
   rw[Option.none_or,singleton_append,find?_cons,h1]
  rw[this]
 ·have:(([]:List Brn)++b::l2).reverse.find? (fun c=>L0 rs c.n)=none:=find?_eq_none.mpr fun c hc=>by
   rw[h2 c (by simpa [or_comm] using hc)];decide
  rw[this];rfl
theorem qm4{g:Brn->α}(hg:∀ b ws,g {b with ws:=ws}=g b)(bs:List Brn):(wUp rs f bs).map g=bs.map g:=by
 cases bs with
 | nil=>unfold wUp;split <;> rfl
 | cons c t =>
   obtain⟨l1,b,l2,e,h⟩:=wv3 rs (bs:=c::t) (by simp)
   rw[e,qw9 h]
   simp[hg]
theorem wd3(bs:List Brn):(wUp rs f bs).length=bs.length:=by
 have:=congrArg List.length (qm4 (rs:=rs) (f:=f) (g:=Brn.n) #[36] bs)
 simpa using this
theorem wd4(bs:List Brn):(wUp rs f bs).tail.map Brn.n=bs.tail.map Brn.n:=by
 rw[map_tail,map_tail,qm4 fun _ _=>rfl]
theorem xy1{x:Brn}(h:x∈wUp rs f bs):∃ b∈bs,x=b\/x={b with ws:=f b.ws}:=by
 cases bs with
 | nil=>unfold wUp at h;split at h <;> cases h
 | cons c t =>
   obtain⟨l1,b,l2,e,h2⟩:=wv3 rs (bs:=c::t) (by simp)
   rw[e,qw9 h2] at h
   rw[e]
   rcases mem_append.mp h with h|h
   ·exact⟨x,by simp[h],.inl rfl⟩
   ·rcases mem_cons.mp h with h|h
    ·exact⟨b,by simp,.inr h⟩
    ·exact⟨x,by simp[h],.inl rfl⟩
theorem wd5(h:bs≠[]):wUp rs f bs≠[]:=fun e=>h (by
 have:=wd3 (rs:=rs) (f:=f) bs
 rw[e] at this
 exact eq_nil_of_length_eq_zero this.symm)
structure BB(rs:List Row)(P W T:Nat)(c:Brn):Prop where
 n:c.n.length<=4000
 ps:c.ps.length<=P
 ws:c.ws.length<=W
 wr:∀ n∈c.ws,∃ r∈rs,Row.name r=n
 t:adA c.ps<=T
structure Bg(rs:List Row)(P W M D T:Nat)(st:Rst):Prop where
 c:∀ c∈st.bs,BB rs P W T c
 pl:st.bs.map (fun c=>c.pl.length)=List.range st.bs.length
 nr:∀ c∈st.bs.tail,∃ r∈rs,Row.name r=c.n
 ne:st.bs≠[]
 l:st.bs.length<=21
 m:st.ms.length<=M
 d:st.ls.length<=D
variable{P W M D T:Nat}{st:Rst}
theorem BB.mono{c:Brn}(h:BB rs P W T c)(h1:P<=P')(h2:W<=W')(h3:T<=T'):BB rs P' W' T' c:=⟨h.n,by have:=h.ps;omega,by have:=h.ws;omega,h.wr,by have:=h.t;omega⟩
theorem Bg.mono{M' D':Nat}(h:Bg rs P W M D T st)(h1:P<=P')(h2:W<=W')(h3:M<=M')(h4:D<=D')(h5:T<=T'):Bg rs P' W' M' D' T' st :=
 ⟨fun c hc=>(h.c c hc).mono h1 h2 h5,h.pl,h.nr,h.ne,h.l,by have:=h.m;omega,by have:=h.d;omega⟩
theorem Bg.nlen(h:Bg rs P W M D T st):(B5 st).length+1=st.bs.length:=by
 unfold B5
 rw[length_map,length_tail]
 have:0<st.bs.length:=length_pos_iff.mpr h.ne
 omega
theorem Bg.snoc(h:Bg rs P W M D T st):∃ l b,st.bs=l++[b]/\S6 st.bs=b/\b.pl.length=l.length/\BB rs P W T b:=by
 rcases eq_nil_or_concat st.bs with e|⟨l,b,e⟩
 ·exact absurd e h.ne
 ·rw[concat_eq_append] at e
  have hp:=h.pl
  rw[e,map_append,length_append,length_singleton,range_succ] at hp
  have:=(append_inj' hp rfl).2
  exact⟨l,b,e,by rw[e,qr9],by simpa using this,h.c b #[118]⟩
theorem Bg.drop(h:Bg rs P W M D T st):Bg rs P W (M+1) D T (qg2 st i g rule) :=
 ⟨h.c,h.pl,h.nr,h.ne,h.l,by show(st.ms++[_]).length<=_;have:=h.m;simp;omega,h.d⟩
theorem Bg.ent(h:Bg rs P W M D T st)(hl:st.bs.length<=20)(hn:n.length<=4000)(hr:∃ r∈rs,Row.name r=n):Bg rs P W M D T {st with bs:=P4 st.bs n}:=by
 obtain⟨l,b,e,e2,hp,hb⟩:=h.snoc
 refine⟨fun c hc=>?_,?_,fun c hc=>?_,by show _++[_]≠[];simp,by show(st.bs++[_]).length<=_;rw[length_append,length_singleton];omega,h.m,h.d⟩
 ·rcases mem_append.mp hc with hc|hc
  ·exact h.c c hc
  ·rw[mem_singleton.mp hc]
   exact⟨hn,Nat.zero_le _,Nat.zero_le _,fun n hn=>(by cases hn),Nat.zero_le _⟩
 ·show(st.bs++[wv2 (S6 st.bs) n]).map _=List.range (st.bs++[_]).length
  rw[map_append,h.pl,length_append,length_singleton,range_succ,e2]
  congr 1
  show[(b.pl++[_]).length]=_
  rw[length_append,hp,e,length_append];rfl
 ·have ht:(st.bs++[wv2 (S6 st.bs) n]).tail=st.bs.tail++[wv2 (S6 st.bs) n]:=tail_append_of_ne_nil h.ne
  have hc':c∈(st.bs++[wv2 (S6 st.bs) n]).tail:=hc
  rw[ht] at hc'
  rcases mem_append.mp hc' with hc|hc
  ·exact h.nr c hc
  ·rw[mem_singleton.mp hc];exact hr
theorem Bg.put(h:Bg rs P W M D T st)(hl:st.bs.length<=20)(hn:n.length<=4000)(hr:∃ r∈rs,Row.name r=n):Bg rs P W (M+1) D T (wj0 st n i rule):=by
 have:=h.ent hl hn hr
 exact⟨this.c,this.pl,this.nr,this.ne,this.l,by show(st.ms++[_]).length<=_;have:=h.m;simp;omega,h.d⟩
theorem qz7(st:Rst)(n:Str)(i:Int)(rule:Str):(wj0 st n i rule).bs.length=st.bs.length+1:=by show(st.bs++[_]).length=_;simp
theorem wm9:∀ (ns:List Str) (st:Rst) (i:Int) (rule:Str),(S7 st ns i rule).bs.length=st.bs.length+ns.length
 | [],st,i,rule=>rfl
 | n::ns,st,i,rule=>by
   show(S7 (wj0 st n i rule) ns i rule).bs.length=_
   rw[wm9 ns,qz7,length_cons];omega
theorem Bg.puts:∀ {ns:List Str} {M:Nat} {st:Rst} {i:Int} {rule:Str},Bg rs P W M D T st->st.bs.length+ns.length<=21->(∀ n∈ns,n.length<=4000/\∃ r∈rs,Row.name r=n)->Bg rs P W (M+ns.length) D T (S7 st ns i rule)
 | [],M,st,i,rule,h,_,_=>h
 | n::ns,M,st,i,rule,h,hl,hn=>by
   rw[length_cons] at hl
   have:=Bg.puts (ns:=ns) (i:=i) (rule:=rule) (h.put (n:=n) (i:=i) (rule:=rule) #[0] (hn n (by simp)).1 (hn n (by simp)).2) (by rw[qz7];omega) fun m hm=>hn m (by simp[hm])
   rw[length_cons,show M+(ns.length+1)=M+1+ns.length by omega]
   exact this
theorem Bg.wup(h:Bg rs P W M D T st)(hW:W<=W')(hf:∀ c∈st.bs,(f c.ws).length<=W'/\∀ n∈f c.ws,∃ r∈rs,Row.name r=n):Bg rs P W' M D T {st with bs:=wUp rs f st.bs}:=by
 refine⟨fun c hc=>?_,?_,?_,wd5 h.ne,by show(wUp rs f st.bs).length<=_;rw[wd3];exact h.l,h.m,h.d⟩
 ·obtain⟨b,hb,e⟩:=xy1 hc
  have hB:=h.c b hb
  rcases e with rfl|rfl
  ·exact hB.mono #[6] hW #[6]
  ·exact⟨hB.n,hB.ps,(hf b hb).1,(hf b hb).2,hB.t⟩
 ·show(wUp rs f st.bs).map _=List.range (wUp rs f st.bs).length
  rw[qm4 fun _ _=>rfl,wd3];exact h.pl
 ·intro c hc
  have h1:c.n∈(wUp rs f st.bs).tail.map Brn.n:=mem_map_of_mem hc
  rw[wd4] at h1
  obtain⟨b,hb,e⟩:=mem_map.mp h1
  rw[<-e];exact h.nr b hb
theorem zg0{ns:List Str}(h:n∈P8 rs ns):n∈ns:=(takeWhile_sublist _).mem (mem_filter.mp h).1
theorem yx3(cl:List Brn):(N3 cl).length<=1:=by cases cl <;> simp[N3]
theorem zg1{ps:List Tr}:adA (ps++N3 cl)<=adA ps:=by
 cases cl with
 | nil=>rw[N3,append_nil];exact Nat.le_refl _
 | cons c cl =>
   rw[N3]
   unfold adA
   rw[getLast?_concat]
   exact Nat.zero_le _
theorem zy6{ps:List Tr}{qs:List Tr}:adA (ps++[Tr.nd n qs])=0:=by
 unfold adA
 rw[getLast?_concat]
theorem zn9(ps:List Tr)(t:Str):(adP ps t).length<=ps.length+1:=by
 unfold adP
 split
 ·rw[length_append,length_dropLast,length_singleton];omega
 ·rw[length_append,length_singleton];omega
theorem zo0(ps:List Tr)(t:Str):adA (adP ps t)=adA ps+t.length:=by
 unfold adP
 cases h:ps.getLast? with
 | none =>
   have e:adA ps=0:=by unfold adA;rw[h]
   rw[e]
   unfold adA
   rw[getLast?_concat]
   show t.length=_
   omega
 | some x =>
   cases x with
   | tx u =>
     have e:adA ps=u.length:=by unfold adA;rw[h]
     rw[e]
     unfold adA
     rw[getLast?_concat]
     exact qe3 u t
   | nd n qs =>
     have e:adA ps=0:=by unfold adA;rw[h]
     rw[e]
     unfold adA
     rw[getLast?_concat]
     show t.length=_
     omega
theorem xy2{bs:List Brn}(h:k<bs.length):bs.getD k S5=bs[k]:=by simp[List.getD,h]
theorem wd6{kept:Nat}:(W3 rs st kept i rule).bs.length=(st.bs.take kept).length+1:=by
 show(wUp rs _ _).length=_
 rw[wd3];simp
theorem Bg.cls{kept:Nat}(h:Bg rs P W M D T st)(hk:kept<st.bs.length):Bg rs (P+1) (W+20) (M+20) D T (W3 rs st kept i rule):=by
 have hb:=h.c (st.bs[kept]) (List.getElem_mem hk)
 have hcl:#[65].length<=20:=by rw[length_drop];have:=h.l;omega
 have hnl:=yx3 #[65]
 have e0:st.bs.getD kept S5=st.bs[kept]:=xy2 hk
 have b1:Bg rs (P+1) W (M+20) D T {st with bs:=st.bs.take kept++[{(st.bs[kept]) with ps:=(st.bs[kept]).ps++N3 #[65]}],ms:=st.ms++#[65].reverse.map (clM i rule)}:=by
  refine⟨fun c hc=>?_,?_,fun c hc=>?_,by show _++[_]≠[];simp,?_,?_,h.d⟩
  ·rcases mem_append.mp hc with hc|hc
   ·exact(h.c c (mem_of_mem_take hc)).mono #[0] #[0] #[0]
   ·rw[mem_singleton.mp hc]
    refine⟨hb.n,?_,hb.ws,hb.wr,Nat.le_trans zg1 hb.t⟩
    show(_++_:List Tr).length<=_
    rw[length_append];have:=hb.ps;omega
  ·show(st.bs.take kept++[_]).map _=List.range (st.bs.take kept++[_]).length
   rw[map_append,map_singleton]
   show List.map (fun c=>c.pl.length) (st.bs.take kept)++[(st.bs[kept]).pl.length]=_
   rw[<-map_singleton (f:=fun c:Brn=>c.pl.length),<-map_append,<-Z5 (List.getElem?_eq_getElem hk),map_take,h.pl,take_range,length_append,length_take,length_singleton]
   congr 1
   omega
  ·have hc':c∈(st.bs.take kept++[{(st.bs[kept]) with ps:=(st.bs[kept]).ps++N3 #[65]}]).tail:=hc
   have h1:c.n∈((st.bs.take kept++[{(st.bs[kept]) with ps:=(st.bs[kept]).ps++N3 #[65]}]).tail).map Brn.n:=mem_map_of_mem hc'
   rw[map_tail,map_append,map_singleton] at h1
   have h2:c.n∈(List.map Brn.n (st.bs.take kept)++[(st.bs[kept]).n]).tail:=h1
   rw[<-map_singleton (f:=Brn.n),<-map_append,<-Z5 (List.getElem?_eq_getElem hk),<-map_tail] at h2
   obtain⟨b,hb,e⟩:=mem_map.mp h2
   rw[<-e]
   refine h.nr b ?_
   have h3:b∈(st.bs.tail).take kept:=by
    have:(st.bs.take (kept+1)).tail=st.bs.tail.take kept:=by cases st.bs <;> simp
    rw[<-this];exact hb
   exact mem_of_mem_take h3
  ·show(st.bs.take kept++[_]).length<=21
   rw[length_append,length_take,length_singleton];have:=h.l;omega
  ·show(st.ms++_).length<=_
   rw[length_append,length_map,length_reverse];have:=h.m;omega
 have:=b1.wup (f:=(·++P8 rs (#[65].map Brn.n))) (W':=W+20) #[0] (fun c hc=>?_)
 ·show Bg _ _ _ _ _ _ {st with bs:=_,ms:=_}
  rw[e0]
  exact this
 ·have hB:=b1.c c hc
  have hw1:(P8 rs (#[65].map Brn.n)).length<=20:=by
   have h1:=xj8 rs ((#[65].map Brn.n).takeWhile fun n=>!(L0 rs n))
   have h2:((#[65].map Brn.n).takeWhile fun n=>!(L0 rs n)).length<=(#[65].map Brn.n).length:=(takeWhile_sublist _).length_le
   rw[length_map] at h2
   unfold P8;omega
  refine⟨by show(c.ws++_).length<=_;rw[length_append];have:=hB.ws;omega,fun n hn=>?_⟩
  rcases mem_append.mp hn with hn|hn
  ·exact hB.wr n hn
  ·obtain⟨b,hb,e⟩:=mem_map.mp (zg0 hn)
   rw[<-e]
   refine h.nr b ?_
   have:st.bs.drop (kept+1)=st.bs.tail.drop kept:=by rw[<-drop_one,drop_drop];congr 1;omega
   rw[this] at hb
   exact mem_of_mem_drop hb
theorem qn6(l:List Brn)(b1 b2:Brn):lvB (l++[b1,b2])=l++[{b1 with ps:=b1.ps++[Tr.nd b2.n b2.ps]}]:=by
 unfold lvB
 have e:l++[b1,b2]=(l++[b1])++[b2]:=by simp
 rw[e,dropLast_concat,dropLast_concat,qr9,qr9]
theorem qn7{bs:List Brn}(h:2<=bs.length):∃ l b1 b2,bs=l++[b1,b2]:=by
 rcases eq_nil_or_concat bs with e|⟨l,b2,e⟩
 ·rw[e] at h;simp at h
 ·rw[concat_eq_append] at e
  rcases eq_nil_or_concat l with e1|⟨l',b1,e1⟩
  ·rw[e,e1] at h;simp at h
  ·rw[concat_eq_append] at e1
   exact⟨l',b1,b2,by rw[e,e1];simp⟩
theorem Bg.lv(h:Bg rs P W M D T st)(h2:2<=st.bs.length):Bg rs (P+1) W M D T (lvS st):=by
 obtain⟨l,b1,b2,e⟩:=qn7 h2
 have e1:(lvS st).bs=l++[{b1 with ps:=b1.ps++[Tr.nd b2.n b2.ps]}]:=by show lvB st.bs=_;rw[e,qn6]
 have hb:=h.c b1 #[118]
 have hpl:=h.pl
 rw[e] at hpl
 refine⟨fun c hc=>?_,?_,fun c hc=>?_,by rw[e1];simp,by rw[e1];have:=h.l;rw[e] at this;simp at this ⊢;omega,h.m,h.d⟩
 ·rw[e1] at hc
  rcases mem_append.mp hc with hc|hc
  ·exact(h.c c (by rw[e];simp[hc])).mono #[0] #[0] #[0]
  ·rw[mem_singleton.mp hc]
   refine⟨hb.n,?_,hb.ws,hb.wr,?_⟩
   ·show(b1.ps++[_]).length<=_;rw[length_append,length_singleton];have:=hb.ps;omega
   ·show adA (b1.ps++[_])<=_
    rw[zy6];exact Nat.zero_le _
 ·rw[e1,map_append]
  have e2:l++[b1,b2]=(l++[b1])++[b2]:=by simp
  rw[e2,map_append,length_append,length_singleton,range_succ] at hpl
  have:=(append_inj' hpl rfl).1
  rw[map_append] at this
  rw[show(l++[({b1 with ps:=b1.ps++[Tr.nd b2.n b2.ps]}:Brn)]).length=(l++[b1]).length by simp]
  exact this
 ·rw [e1] at hc
  have h1:c.n∈(l++[({b1 with ps:=b1.ps++[Tr.nd b2.n b2.ps]}:Brn)]).tail.map Brn.n:=mem_map_of_mem hc
  rw[map_tail,map_append] at h1
  have h2:c.n∈(l.map Brn.n++[b1.n]).tail:=h1
  have h3:c.n∈(st.bs.map Brn.n).tail:=by
   rw[e]
   cases l with
   | nil=>cases h2
   | cons x l =>
     have h4:c.n∈l.map Brn.n++[b1.n]:=h2
     show c.n∈(l++[b1,b2]).map Brn.n
     rw[map_append]
     rcases mem_append.mp h4 with h|h
     ·exact mem_append_left _ h
     ·exact mem_append_right _ (by rw[mem_singleton.mp h];simp)
  rw[<-map_tail] at h3
  obtain⟨b,hb,e4⟩:=mem_map.mp h3
  rw[<-e4];exact h.nr b hb
theorem Bg.tx(h:Bg rs P W M D T st):Bg rs (P+1) W M (D+1) (T+t.length) (txS st i g t):=by
 obtain⟨l,b,e,e2,hp,hb⟩:=h.snoc
 have e1:(txS st i g t).bs=l++[{b with ps:=adP b.ps t}]:=by show st.bs.dropLast++[_]=_;rw[e2,e,dropLast_concat]
 have hpl:=h.pl
 rw[e] at hpl
 refine⟨fun c hc=>?_,?_,fun c hc=>?_,by rw[e1];simp,by rw[e1];have:=h.l;rw[e] at this;simp at this ⊢;omega,h.m,by show(st.ls++[_]).length<=_;have:=h.d;simp;omega⟩
 ·rw[e1] at hc
  rcases mem_append.mp hc with hc|hc
  ·exact(h.c c (by rw[e];simp[hc])).mono #[0] #[0] #[0]
  ·rw[mem_singleton.mp hc]
   refine⟨hb.n,?_,hb.ws,hb.wr,?_⟩
   ·show(adP b.ps t).length<=_;have:=hb.ps;have:=zn9 b.ps t;omega
   ·show adA (adP b.ps t)<=_
    rw[zo0];have:=hb.t;omega
 ·rw[e1,map_append]
  rw[map_append] at hpl
  rw[show(l++[({b with ps:=adP b.ps t}:Brn)]).length=(l++[b]).length by simp]
  exact hpl
 ·rw[e1] at hc
  have h1:c.n∈(l++[({b with ps:=adP b.ps t}:Brn)]).tail.map Brn.n:=mem_map_of_mem hc
  rw[map_tail,map_append] at h1
  have h2:c.n∈(st.bs.map Brn.n).tail:=by rw[e,map_append];exact h1
  rw[<-map_tail] at h2
  obtain⟨b,hb,e4⟩:=mem_map.mp h2
  rw[<-e4];exact h.nr b hb
theorem Bg.sign(h:Bg rs P W M D T st):Bg rs P W (M+g.length) D T (wo2 st i g) :=
 ⟨h.c,h.pl,h.nr,h.ne,h.l,by
  show(st.ms++_).length<=_
  rw[length_append,length_map]
  have h1:=wy9 g.cps.toList g.cps.toList.length
  have h2:g.cps.toList.length=g.length:=Array.length_toList
  have:=h.m;omega,h.d⟩
theorem xy3{rs:List Row}{P W M D T:Nat}{i:Int}(hN:∀ r∈rs,(Row.name r).length<=4000):∀ (ws:List Str) (s:Rst),Bg rs P W (M+21) D T s->s.ms.length<=M+s.bs.length->(∀ n∈ws,∃ r∈rs,Row.name r=n)->Bg rs P W (M+21) D T (ws.foldl (J8 rs i) s)/\(ws.foldl (J8 rs i) s).ms.length<=M+(ws.foldl (J8 rs i) s).bs.length
 | [],s,h,hm,_=>⟨h,hm⟩
 | n :: ws,s,h,hm,hw=>by
   rw[foldl_cons]
   have hr:=hw n (by simp)
   refine xy3 hN ws _ ?_ ?_ fun m hm=>hw m (by simp[hm])
   ·unfold J8
    split
    ·rename_i ha
     unfold qz6 at ha
     rw[Bool.and_eq_true,decide_eq_true_eq] at ha
     have hl:=h.nlen
     have hp:=h.put (n:=n) (i:=i) (rule := "anew") #[0] (by obtain⟨r,h1,h2⟩:=hr;rw[<-h2];exact hN r h1) hr
     refine⟨hp.c,hp.pl,hp.nr,hp.ne,hp.l,?_,hp.d⟩
     have h2:=qz7 s n i "anew"
     have h3:=hp.l
     show(s.ms++[_]).length<=_
     rw[length_append,length_singleton]
     omega
    ·exact h
   ·unfold J8
    split
    ·rw[qz7]
     show(s.ms++[_]).length<=_
     rw[length_append,length_singleton];omega
    ·exact hm
theorem yl7(h:Bg rs P W M D T st):(lwS rs st.bs).length<=W/\∀ n∈lwS rs st.bs,∃ r∈rs,Row.name r=n:=by
 obtain⟨l1,b,l2,e,lw⟩:=wv3 rs h.ne
 have hb:=h.c b #[118]
 rw[e,ql0 lw]
 exact⟨hb.ws,hb.wr⟩
theorem Bg.anews(h:Bg rs P W M D T st)(hN:∀ r∈rs,(Row.name r).length<=4000):Bg rs P W (M+21) D T (N9 rs i st):=by
 have h1:=h.wup (f:=fun _=>[]) (W':=W) #[6] fun c _=>⟨Nat.zero_le _,fun n hn=>by cases hn⟩
 refine(xy3 hN _ _ (h1.mono #[6] #[6] #[0] #[6] #[6]) ?_ (yl7 h).2).1
 show st.ms.length<=_
 have:=h.m
 omega
theorem yl8{rec:Str->Nat×List Str}:∃ ps,(wu6 rs rk ys rec x).2=ps++[x]:=by
 unfold wu6
 split
 ·unfold qn5
  split
  ·exact⟨[],rfl⟩
  ·exact⟨_,rfl⟩
 ·split
  ·exact⟨[],rfl⟩
  ·exact⟨_,rfl⟩
theorem wz5(n:Nat)(x:Str):∃ ps,(N0 rs rk ys n x).2=ps++[x]:=by
 cases n <;> (rw[N0];exact yl8)
theorem wz6(h:M8 rs (some n)≠none):∃ r∈rs,Row.name r=n:=by
 unfold M8 at h
 cases e:qb1 rs (some n) with
 | none=>rw[e] at h;exact absurd rfl h
 | some r=>exact⟨r,(wi7 e).1,(wi7 e).2⟩
structure Bok(rs:List Row)(rk:Str->Nat):Prop where
 B:Boo rs
 f:wt9 rs rk
 k:∀ x,rk x<=13
 n:∀ r∈rs,(Row.name r).length<=4000
 sb:∀ r∈rs,r.shuts.length<=1000/\r.bars.length<=1000
theorem Bok.row(b:Bok rs rk){n:Str}(h:∃ r∈rs,Row.name r=n):n.length<=4000:=by obtain⟨r,h1,h2⟩:=h;rw[<-h2];exact b.n r h1
theorem Bg.op(b:Bok rs rk)(h:Bg rs P W M D T st):Bg rs (P+2) (W+20) (M+60) D T (opS rs rk st i g n):=by
 have hd:∀ rule,Bg rs (P+2) (W+20) (M+60) D T (qg2 st i g rule):=fun rule=>h.drop.mono #[0] #[0] #[0] #[0] #[0]
 unfold opS
 split
 ·exact hd _
 rename_i hs
 split
 ·exact hd _
 split
 ·exact hd _
 rename_i hlen
 have hrow:=wz6 hs
 have w:=wm3 b.B b.f (ys:=B5 st) 13 n hrow (b.k n)
 have hnl:=h.nlen
 obtain⟨ps,hps⟩:=wz5 (rs:=rs) (rk:=rk) (ys:=B5 st) 13 n
 have hw1:=w.k
 have hm:=w.m
 generalize N0 rs rk (B5 st) 13 n=wt at *
 have hk:wt.1<st.bs.length:=by omega
 have e1:wt.2.dropLast=ps:=by rw[hps,dropLast_concat]
 have e2:wt.2.length=ps.length+1:=by rw[hps];simp
 have hc:=h.cls (i:=i) (rule := "shut") hk
 have hcl:#[64].bs.length=wt.1+1:=by rw[wd6,length_take];omega
 have hp:=hc.puts (ns:=ps) (i:=i) (rule := "frame") (by rw[hcl];omega) fun m hmm=>by
  have:=hm m (by rw[hps];simp[hmm])
  exact⟨b.row this,this⟩
 have hpl:=wm9 ps #[64] i "frame"
 have hpb:ps.length<=20:=by omega
 have he:=hp.ent (n:=n) (by rw[hpl,hcl];omega) (b.row hrow) hrow
 rw[e1]
 dsimp only
 split
 ·refine(he.lv ?_).mono #[0] #[0] #[0] #[0] #[0]
  show 2<=(P4 _ n).length
  unfold P4
  rw[length_append,hpl,hcl,length_singleton];omega
 ·exact he.mono #[0] #[0] #[0] #[0] #[0]
theorem zo1(ws:List Str)(n:Str):(woL ws n).length<=ws.length:=by
 unfold woL
 rw[length_reverse,<-length_reverse (as:=ws)]
 exact length_erase_le
theorem yq2{m:Str}(h:m∈woL ws n):m∈ws:=by
 unfold woL at h
 exact mem_reverse.mp (mem_of_mem_erase (mem_reverse.mp h))
theorem Bg.clo(h:Bg rs P W M D T st):Bg rs (P+2) (W+20) (M+60) D T #[80,n]:=by
 have hnl:=h.nlen
 unfold O5
 split
 ·rename_i k hk
  have:=wy5 hk
  refine((h.cls #[0]).lv ?_).mono #[0] #[0] #[0] #[0] #[0]
  rw[wd6,length_take];omega
 ·split
  ·refine((h.drop (i:=i) (g:=g) (rule := "late")).wup (f:=fun ws=>woL ws n) (W':=W) #[6] fun c hc=>⟨?_,fun m hm=>?_⟩).mono #[0] #[0] #[0] #[0] #[0]
   ·have h1:=(h.c c hc).ws
    have h2:=zo1 c.ws n
    exact Nat.le_trans h2 h1
   ·exact(h.c c hc).wr m (yq2 hm)
  ·exact h.drop.mono #[0] #[0] #[0] #[0] #[0]
theorem Bg.run(b:Bok rs rk)(h:Bg rs P W M D T st):Bg rs (P+2) (W+20) (M+60+g.length) (D+1) (T+t.length) (qg5 rs st i g t):=by
 have hnl:=h.nlen
 unfold qg5
 split
 ·exact h.drop.mono #[0] #[0] #[0] #[0] #[0]
 split
 ·exact h.drop.mono #[0] #[0] #[0] #[0] #[0]
 rename_i hlen
 have hh:(R3 rs st).length<=12:=qk8 rs 12 _
 have hp:=h.puts (ns:=R3 rs st) (i:=i) (rule := "host") #[0] fun m hm=>by
  have:=qz1 b.B 12 _ m hm
  exact⟨b.row this,this⟩
 exact((hp.anews (i:=i) b.n).sign.tx).mono #[0] #[0] #[0] #[0] #[0]
theorem Bg.step(b:Bok rs rk)(h:Bg rs P W M D T st):Bg rs (P+2) (W+20) (M+60+g.length) (D+1) (T+t.length) (qo8 rs rk st kind i g t):=by
 unfold qo8
 split
 ·exact(h.op b).mono #[0] #[0] #[0] #[0] #[0]
 split
 ·exact h.clo.mono #[0] #[0] #[0] #[0] #[0]
 ·exact h.run b
end
theorem zr9(n p q w v:V):qm8 ("waiting":Str) v [(("name":Str),n),(("place":Str),p),(("parts":Str),q),(("waiting":Str),w)]=[(("name":Str),n),(("place":Str),p),(("parts":Str),q),(("waiting":Str),v)]:=by
 show(if(("name":Str)) = "waiting" then _ else _::(if(("place":Str)) = "waiting" then _ else _::(if(("parts":Str)) = "waiting" then _ else _::(if(("waiting":Str)) = "waiting" then _ else _))))=_
 rw[if_neg #[10],if_neg #[10],if_neg #[10],if_pos rfl]
theorem zg2{H3:Hp}(h1:S4 H1 H2)(h2:S4 H2 H3):S4 H1 H3:=⟨fun c xs e=>h2.1 c xs (h1.1 c xs e),fun c o xs e=>h2.2 c o xs (h1.2 c o xs e)⟩
section
variable{kR kB r:Addr}{bv:V}{a:RAd}{st:Rst}
theorem Rup.waitN{x:BA}{w:Addr}(h:RdO K H kR kB r bv a st)(ea:a.as=m1++x::m2)(eb:st.bs=l1++b::l2)(hl:m1.length=l1.length)(hw:H w=none) :
 Rup K kR kB r bv H a (upd (upd H w #[16,ws]) x.o (.ins kB x.x (bF {x with w:=w} b))) {a with as:=m1++{x with w:=w}::m2} {st with bs:=l1++{b with ws:=ws}::l2}:=by
 walk_at"31"
 have nwo:x.o≠w:=Y5 hw hx.o
 obtain⟨us,q1,q2⟩:=hx.q
 have nwq:x.q≠w:=Y5 hw q1
 have s1:=A7.new hw #[16,ws]
 have tk:S4 H (upd (upd H w #[16,ws]) x.o (.ins kB x.x (bF {x with w:=w} b))):=zg2 s1.tupK (N8 (.inr ⟨_,_,_,s1 _ _ hx.o⟩))
 refine Rup.swap h ea eb hl (fun z u e n=>E1 (s1 _ _ e) fun y=>n (by rw[y];simp[BA.fp])) ⟨A6,tk.sqT hx.p,⟨us,E1 (s1 _ _ q1) (Ne.symm no),Dvs.tupK tk _ _ (Y2 _) q2⟩,E1 A6 (Ne.symm nwo)⟩ (fun z hz=>?_) ?_ rfl
 ·simp only[BA.fp,mem_cons,not_mem_nil,or_false] at hz ⊢
  rcases hz with rfl|rfl|rfl
  ·exact .inl (.inl rfl)
  ·exact .inl (.inr (.inl rfl))
  ·exact .inr hw
 ·simp[BA.fp,no,nwo,nwq]
end
theorem zg3{a c:List Str}:(ys.any fun y=>decide (y∈[n]++a++c))=ys.any fun y=>decide (y∈n::(a++c)):=rfl
abbrev qu9(K:Fg):TS :=
 (L6 (ym7 (tOp xv7 #[110] #[2,20]) (yy4 (D8 (X5 K) [] E0 (A1 (D8 (qk9 K) [] E0 (A1 (A2 0) #[3,1])) #[3,4])))))
abbrev qv0(K:Fg):TS :=
 (C1 (E3 (tOp (qy7 K) (tOp (qy7 K) (T7 #[3,2]) (tOp (L5 K) (A2 3) #[2,3])) (tOp (L5 K) (A2 3) #[2,4])) (B6 4))
 (qu9 K))
def qa8(K:Fg):Sp:=fun vs H Q _=>∃ (v:V) (a:Addr) (ns:List Str) (n:Str) (rs:List Row),vs=[v,.ref a,.str n]/\BkO K H v rs/\SqT K H a (B4 ns)/\ns.length<=1000/\(∃ r∈rs,Row.name r=n)/\(∀ r∈rs,r.shuts.length<=1000/\r.bars.length<=1000)/\∀ H',A7 H H'->Q (.bl (qz6 rs ns n)) H'
def qe9(K:Fg):TS :=
 (C1 (E3 (D8 (qf9 K) [] E0 (A1 (A2 0) #[3,2])) (B6 3))
 (qv0 K))
theorem wz7(h:qa8 K vs H Q E):qe9 K {nx:=fun _ H'=>Q .non H',rt:=Q} (E2 ["book","names","name","row","unfit"] vs) H:=by
 obtain⟨v,a,ns,n,rs,rfl,hk,ha,hl,hrow,hsb,q⟩:=h
 show qe9 K _ [some v,some (.ref a),some (.str n),none,none] H
 unfold qe9
 obtain⟨r0,er,hr0,hrn⟩:=xx1 hrow
 lk
 refine⟨v,some n,rs,rfl,hk.rws,fun e=>(by rw[er] at e;cases e),fun r u e hu=>?_⟩
 rw[er] at e
 obtain rfl:=Option.some.inj e
 obtain⟨b,ps,pb,rfl,hb,hps,hpb⟩:=xx2 hu
 obtain⟨l1,l2⟩:=hsb r0 hr0
 show qv0 K _ _ _
 walk_at"6"
 have s1:=A7.new hp (.tup [.str n])
 lk
 refine W6 (s1.sqT hb) (v:=.ref ps) rfl ?_
 refine wq4 (SqT.of A6) (s1.sqT hps) (by rw[B7];exact E5 #[86]) fun p2 H2 s2 hp2=>?_
 have s12:=A7.tr s1 s2
 lk
 refine W6 (s12.sqT hb) (v:=.ref pb) rfl ?_
 refine wq4 hp2 (s12.sqT hpb) (by rw[B7,length_append,B7];exact E5 #[86]) fun p3 H3 s3 hp3=>?_
 have s13:=A7.tr s12 s3
 have hp3':SqT K H3 p3 (B4 ([n]++r0.shuts++r0.bars)):=by simpa [B4] using hp3
 show qu9 K _ _ _
 lk
 refine Q4 (.inr (s13.sqT ha)) ?_
 rw[B7]
 lk
 have esh:qm0 rs n=r0.shuts:=by unfold qm0;rw[er]
 have ebr:wc4 rs n=r0.bars:=by unfold wc4;rw[er]
 by_cases hlt:ns.length<20
 ·rw[decide_eq_true (show(ns.length:Int)<20 by omega)]
  x_go
  lk
  refine⟨v,a,ns,rs,rfl,(hk.same s13).rws,s13.sqT ha,hl,fun p4 H4 s4 hp4=>?_⟩
  lk
  refine⟨p4,p3,O4 rs ns,_,rfl,hp4,s4.sqT hp3',by have:=qz0 rs ns.length ns rfl;omega,fun H5 s5=>?_⟩
  lk
  have ea:qz6 rs ns n=!((O4 rs ns).any fun y=>decide (y∈[n]++r0.shuts++r0.bars)):=by
   unfold qz6
   rw[decide_eq_true hlt,esh,ebr,zg3];rfl
  have:=q H5 (A7.tr (A7.tr s13 s4) s5)
  rw[ea] at this
  exact this
 ·rw[decide_eq_false (show ¬(ns.length:Int)<20 by omega)]
  k_go
  have ea:qz6 rs ns n=false:=by unfold qz6;rw[decide_eq_false hlt];rfl
  have:=q H3 s13
  rw[ea] at this
  exact this
theorem xj9{n:Str}:∀ {ws:List Str},n∈ws->∃ A B,ws=A++n::B/\n∉B
 | [],h=>by cases h
 | x::ws,h=>by
   by_cases hn:n∈ws
   ·obtain⟨A,B,e,hB⟩:=xj9 hn
    exact⟨x::A,B,by rw[e];rfl,hB⟩
   ·rcases mem_cons.mp h with h|h
    ·exact⟨[],ws,by rw[h];rfl,hn⟩
    ·exact absurd h hn
theorem xt1(h:n∉B):woL (A++n::B) n=A++B:=by
 unfold woL
 rw[reverse_append,reverse_cons,append_assoc,erase_append_right _ (by simpa using h)]
 simp
abbrev qz8(K:Fg):TS :=
 (L6 (tOp (J6 K) (tSl (wg2 K) (A2 0) X9 (U8 (A2 2))) (tSl (wg2 K) (A2 0) (U8 #[92,2]) X9)))
abbrev qz9(K:Fg):TS :=
 (C1 (wb5 (G0 (tOp (xh0 K) (tOp (L5 K) (A2 0) (A2 2)) (A2 1)))
 (E3 (tOp (rI0 fun i j=>.int (i-j)) (A2 2) #[2,1]) (B6 2)))
 (qz8 K))
def qf0(K:Fg):Sp:=fun vs H Q _=>∃ (p:Addr) (ws:List Str) (n:Str),vs=[.ref p,.str n]/\H p=some #[16,ws]/\n∈ws/\ws.length<=9000000/\∀ (q:Addr) (H':Hp),A7 H H'->H q=none->H' q=some #[16,woL ws n]->Q (.ref q) H'
def qh4(K:Fg):TS :=
 (C1 (E3 (tOp (rI0 fun i j=>.int (i-j)) (tCB (N6 K) #[3,0]) #[2,1]) (B6 2))
 (qz9 K))
theorem xe0(h:qf0 K vs H Q E):qh4 K {nx:=fun _ H'=>Q .non H',rt:=Q} (E2 ["names","name","number"] vs) H:=by
 obtain⟨p,ws,n,rfl,hp,hn,hl,q⟩:=h
 show qh4 K _ [some (.ref p),some (.str n),none] H
 unfold qh4
 obtain⟨A,B,rfl,hB⟩:=xj9 hn
 have hlen:(A++n::B).length=A.length+B.length+1:=by simp;omega
 lk
 refine Q4 (.inl #[52,hp]) ?_
 rw[B7,hlen]
 lk
 have e0:((A.length+B.length+1:Nat):Int)-1=((A.length+B.length:Nat):Int):=by omega
 rw[e0]
 show qz9 K _ _ _
 refine qk5 ?_
 refine yw5 (fun σ H'=>H'=H/\∃ m:Nat,m<=B.length/\σ=[some (.ref p),some (.str n),some (.int ((A.length+m:Nat):Int))]) (fun σ _=>match σ with | [_,_,some (.int k)]=>k.toNat-A.length|_=>0) ⟨rfl,B.length,Nat.le_refl _,rfl⟩ ?_
 rintro σ H' ⟨rfl,m,hm,rfl⟩
 lk
 cases m with
 | zero =>
   refine M9 #[52,hp] (v:=.str n) (Y0 (by simp[B4])) ?_
   lk
   rw[decide_eq_true rfl]
   k_go
   show qz8 K _ _ _
   lk
   refine xc1 #[52,hp] fun p1 hp1=>?_
   have e1:qg4 (B4 (A++n::B)) none (some ((A.length+0:Nat):Int))=B4 A:=by rw[wu5];simp
   rw[e1]
   have s1:=A7.new hp1 #[16,A]
   lk
   refine xc1 #[52,s1 _ _ hp] fun p2 hp2=>?_
   have e2:qg4 (B4 (A++n::B)) (some (((A.length+0:Nat):Int)+1)) none=B4 B:=by
    rw[qz3 #[0],show(((A.length+0:Nat):Int)+1).toNat=A.length+1 by omega]
    show((A++n::B).map V.str).drop _=B.map V.str
    rw[<-map_drop]
    congr 1
    rw[drop_append,drop_eq_nil_of_le #[0],show A.length+1-A.length=1 by omega];rfl
   rw[e2]
   have s2:=A7.new hp2 #[16,B]
   lk
   refine xr6 (s2 _ _ A6) A6 (by rw[B7,B7,sizeLine_eq];omega) fun p3 hp3=>?_
   have s3:=A7.new hp3 (.lst (B4 A++B4 B))
   lk
   refine q _ _ (A7.tr (A7.tr s1 s2) s3) (A7.grow (A7.tr s1 s2) _ hp3) ?_
   rw[A6,xt1 hB]
   simp[B4]
 | succ m =>
   have hg:(A++n::B)[A.length+(m+1)]?=some B[m]:=by
    rw[List.getElem?_append_right #[0],show A.length+(m+1)-A.length=m+1 by omega,List.getElem?_cons_succ,List.getElem?_eq_getElem #[0]]
   refine M9 #[52,hp] (v:=.str B[m]) (Y0 (by unfold B4;rw[List.getElem?_map,hg];rfl)) ?_
   lk
   rw[decide_eq_false fun e=>hB (by rw[<-e];exact List.getElem_mem _)]
   x_go
   refine⟨fun σ' H''=>H''=H'/\σ'=[some (.ref p),some (.str n),some (.int ((A.length+m:Nat):Int))],?_,?_⟩
   ·rintro σ' H'' ⟨rfl,rfl⟩
    refine⟨m,?_,?_,rfl,m,by omega,rfl⟩
    ·show m<(((A.length+(m+1):Nat):Int)).toNat-A.length;omega
    ·show m=(((A.length+m:Nat):Int)).toNat-A.length;omega
   ·lk
    refine⟨rfl,?_⟩
    show[some (V.ref p),some (V.str n),some (V.int (((A.length+(m+1):Nat):Int)-1))]=_
    rw[show((A.length+(m+1):Nat):Int)-1=((A.length+m:Nat):Int) by omega]
theorem RdO.old_w{r:Addr}{a:RAd}{x:BA}{w:Addr}(h:RdO K H kR kB r bv a st)(ea:a.as=m1++x::m2)(hw:H w=none)(hx:H x.w≠none):x.w∉RAd.fp r {a with as:=m1++{x with w:=w}::m2}:=by
 have nd:=h.nd
 have e1:RAd.fp r a=(r::a.L::a.M::a.A::(fpA m1++[x.o,x.q]))++x.w::fpA m2:=by
  unfold RAd.fp;rw[ea,R8,Q7];simp[BA.fp]
 have e2:RAd.fp r {a with as:=m1++{x with w:=w}::m2}=(r::a.L::a.M::a.A::(fpA m1++[x.o,x.q]))++w::fpA m2:=by
  unfold RAd.fp
  show r::a.L::a.M::a.A::fpA (m1++{x with w:=w}::m2)=_
  rw[R8,Q7];simp[BA.fp]
 rw[e1,nodup_append] at nd
 rw[e2]
 intro hm
 rcases mem_append.mp hm with hm|hm
 ·exact nd.2.2 _ hm _ (by simp) rfl
 ·rcases mem_cons.mp hm with hm|hm
  ·exact hx (hm▸hw)
  ·exact(nodup_cons.mp nd.2.1).1 hm
abbrev Y9(K:Fg)(k_Reader:Addr):TS :=
 (E9 (O1 k_Reader "put_in" (O6 K) [] E0 (A2 0) (A1 (A2 4) (A1 (A2 1) (A1 (tC (.str "anew")) A9)))))
abbrev Z0(K:Fg)(k_Reader:Addr):TS :=
 (S3 (tB (D8 (qa8 K) [] E0 (A1 (T6 K (A2 0) "book") (A1 #[55] #[3,4]))))
 (Y9 K k_Reader) Q5)
abbrev Z1(K:Fg)(k_Reader:Addr):TS :=
 (C1 (wh0 K (A2 2) (W1 A9) "waiting")
 (qr1 (qy5 K (A2 3)) (B6 4)
 (Z0 K k_Reader)))
def O0(K:Fg):Sp:=fun vs H Q _=>∃ (kR kB r:Addr) (bv:V) (a:RAd) (st:Rst) (rs:List Row) (rk:Str->Nat) (i:Int) (P W M D T:Nat),vs=[.ref r,.int i]/\RdO K H kR kB r bv a st/\BkO K H bv rs/\Bok rs rk/\Bg rs P W M D T st/\P<=8500000/\W<=8500000/\M<=8500000/\∀ a' H',Rup K kR kB r bv H a H' a' (N9 rs i st)->C8 H H'->Q .non H'
def O2(K:Fg)(k_Reader:Addr):TS :=
 (C1 (E3 (O1 k_Reader "last_wall" (M7 K) [] E0 (A2 0) A9) (B6 2))
 (C1 (E3 (T6 K (A2 2) "waiting") (B6 3))
 (Z1 K k_Reader)))
theorem qs0(cz:Cz K k_Branch k_Reader)(h:O0 K vs H Q E):O2 K k_Reader {nx:=fun _ H'=>Q .non H',rt:=Q} (E2 ["self","start","wall","names","name"] vs) H:=by
 obtain⟨kR,kB,r,bv,a,st,rs,rk,i,P,W,M,D,T,rfl,h,hk,bk,bg,hP,hWb,hM,q⟩:=h
 walk_at"5"
 show O2 K _ _ [some (.ref r),some (.int i),none,none,none] H
 unfold O2
 walk_at"4"
 refine⟨k_Reader,k_Branch,r,bv,a,st,rs,rfl,h,hk,bg.ne,by have:=bg.l;omega,fun m1 m2 x l1 l2 b H1 s1 ea eb hm lw=>?_⟩
 have h1:=h.same s1
 have hb1:=h1.b
 rw[ea,eb] at hb1
 have hx:=(hb1.split hm).2.1
 have elw:lwS rs st.bs=b.ws:=by rw[eb];exact ql0 lw
 have ewu:wUp rs (fun _=>[]) st.bs=l1++{b with ws:=[]}::l2:=by rw[eb];exact qw9 lw
 walk_at"27"
 refine⟨x.o,_,x.x,_,_,rfl,hx.o,cz.cl_Branch,cz.na_Branch_waiting,rfl,?_⟩
 show Z1 K _ _ _ _
 refine qk5 (ql8 ?_)
 lk
 refine⟨E5 (by z_go),fun w hw=>?_⟩
 lk
 have s2:=A7.new hw (.lst [])
 refine⟨x.o,_,x.x,_,rfl,s2 _ _ hx.o,cz.cl_Branch,cz.na_Branch_waiting,by unfold bF;simp,?_⟩
 unfold bF
 rw[zr9]
 have u:=Rup.waitN (ws:=[]) h1 ea eb hm hw
 have xnd:=h1.xnd ea
 have no:x.w≠x.o:=by simp[BA.fp] at xnd;exact Ne.symm xnd.1.2
 have nxw:x.w∉RAd.fp r {a with as:=m1++{x with w:=w}::m2}:=h1.old_w ea hw (by rw[hx.w];exact fun z=>by cases z)
 have hw3:(upd (upd H1 w (.lst [])) x.o #[22]) x.w=some #[16,b.ws]:=E1 (s2 _ _ hx.w) no
 have g:C8 H1 (upd (upd H1 w (.lst [])) x.o #[22]):=C8.tr C8.upd C8.upd
 have u':Rup K k_Reader k_Branch r bv H1 a (upd (upd H1 w (.lst [])) x.o #[22]) {a with as:=m1++{x with w:=w}::m2} {st with bs:=wUp rs (fun _=>[]) st.bs}:=by rw[ewu];exact u
 generalize upd (upd H1 w (.lst [])) x.o #[22]=H2 at *
 rw[<-elw] at hw3
 obtain⟨a2,ea2⟩:∃ a2,a2=({a with as:=m1++{x with w:=w}::m2}:RAd):=⟨_,rfl⟩
 rw[<-ea2] at u' nxw
 have hk2:=(hk.same s1).tupK (u'.tupK h1)
 have bg1:=bg.wup (f:=fun _=>[]) (W':=W) #[6] fun c _=>⟨Nat.zero_le _,fun n hn=>by cases hn⟩
 have bgj:∀ j,Bg rs P W (M+21) D T #[103]:=fun j =>
  (xy3 bk.n _ _ (bg1.mono #[6] #[6] #[0] #[6] #[6]) (by show st.ms.length<=_;have:=bg.m;omega) fun n hn=>(yl7 bg).2 n (mem_of_mem_take hn)).1
 lk
 refine qr2 #[52,hw3] (fun j σ H'=>∃ a' x4,σ=[some (.ref r),some (.int i),some (.ref x.o),some (.ref x.w),x4]/\Rup K k_Reader k_Branch r bv H2 a2 H' a' #[103]/\C8 H2 H') ?_ ?_ ?_ ?_
 ·exact⟨a2,none,rfl,.keep u'.ok fun c o e _=>e,fun z hz=>hz⟩
 ·rintro j σ H' _ ⟨a',x4,rfl,uj,gj⟩
  exact SqL.of (uj.bt _ _ hw3 nxw)
 ·rintro j v σ H' hv ⟨a',x4,rfl,uj,gj⟩
  obtain⟨n,hn,rfl⟩:=V4 hv
  have hr:=(yl7 bg).2 n (mem_of_getElem? hn)
  have bj:=bgj j
  have efold:((lwS rs st.bs).take (j+1)).foldl (J8 rs i) {st with bs:=wUp rs (fun _=>[]) st.bs}=J8 rs i #[103] n:=by
   rw[Z5 hn,foldl_append];rfl
  generalize ((lwS rs st.bs).take j).foldl (J8 rs i) {st with bs:=wUp rs (fun _=>[]) st.bs}=sj at *
  obtain⟨b0,bs0,eb0⟩:=exists_cons_of_ne_nil bj.ne
  have hl0:bs0.length<=20:=by have:=bj.l;rw[eb0] at this;simp at this;omega
  have hnm:B5 sj=bs0.map Brn.n:=by unfold B5;rw[eb0];rfl
  have hkj:=hk2.tupK (uj.tupK u'.ok)
  refine J0 ?_
  show Z0 K _ _ _ _
  walk_at"27"
  refine⟨r,_,a'.x,_,_,rfl,uj.ok.o,cz.cl_Reader,cz.na_Reader_book,rfl,?_⟩
  walk_at"35"
  refine⟨r,_,_,rfl,uj.ok.o,rfl,?_⟩
  lk
  refine⟨k_Reader,k_Branch,r,bv,a',sj,b0,bs0,rfl,uj.ok,eb0,by omega,fun p H4 s4 hp=>?_⟩
  lk
  refine⟨bv,p,bs0.map Brn.n,n,rs,rfl,hkj.same s4,hp,by rw[length_map];omega,hr,bk.sb,fun H5 s5=>?_⟩
  have s45:=A7.tr s4 s5
  have h5:=uj.ok.same s45
  have u5:=uj.tr (uj.ok.up s45) gj
  have g5:=C8.tr gj (A7.grow s45)
  rw[<-hnm]
  lk
  by_cases ha:qz6 rs (B5 sj) n=true
  ·rw[ha]
   x_go
   show Y9 K _ _ _ _
   walk_at"35"
   refine⟨r,_,_,rfl,h5.o,rfl,?_⟩
   lk
   obtain⟨lb,bb,e1,e2,e3,e4⟩:=bj.snoc
   have h3:=e4.ps
   have h4:=bj.m
   have h6:=bj.l
   rw[e1,length_append,length_singleton] at h6
   refine⟨k_Reader,k_Branch,r,bv,a',sj,n,i, "anew",lb,bb,rfl,h5,e1,by omega,by omega,by omega,by omega,bk.row hr,fun a6 H6 u6 g6=>?_⟩
   refine⟨a6,_,rfl,?_,C8.tr g5 g6⟩
   rw[efold]
   have ep:J8 rs i sj n={sj with bs:=sj.bs++[⟨n,bb.pl++[(bb.ps.length:Int)],[],[]⟩],ms:=sj.ms++[⟨i,i,opn n, "anew"⟩]}:=by
    unfold J8
    rw[if_pos ha]
    unfold wj0 P4 wv2
    rw[e2]
   rw[ep]
   exact u5.tr u6 g5
  ·rw[Bool.eq_false_iff.mpr ha]
   k_go
   lk
   refine⟨a',_,rfl,?_,g5⟩
   rw[efold]
   unfold J8
   rw[if_neg ha]
   exact u5
 ·rintro σ H' ⟨a',x4,rfl,uj,gj⟩
  rw[B7,take_length] at uj
  exact q _ _ (((h.up s1).tr u' (A7.grow s1)).tr uj (C8.tr (A7.grow s1) g)) (C8.tr (C8.tr (A7.grow s1) g) gj)
abbrev wg4(K:Fg):TS :=
 (E9 (tBM K "list" J9 (T6 K (A2 4) "parts") (A1 (tOp (qy7 K) (A2 5) (A2 3)) A9)))
def adT(K:Fg):TS :=
 (C1 (E9 (tBM K "list" J9 (T6 K (A2 0) "laid") (A1 (T7 (A1 (A2 1) (A1 (A2 2) (A1 (tOp (qy7 K) (T6 K (A2 4) "place") (T7 (A1 (tCB (N6 K) (A1 (T6 K (A2 4) "parts") A9)) A9))) (A1 (tCB (N6 K) #[3,5]) A9))))) A9)))
 (wg4 K))
section
variable{kR kB r:Addr}{bv:V}{a:RAd}{st:Rst}
theorem Rup.parts{x:BA}{ps:List Tr}(h:RdO K H kR kB r bv a st)(ea:a.as=m1++x::m2)(eb:st.bs=l1++b::l2)(hl:m1.length=l1.length)(hd:Dvs K H (Tr.das ps) us) :
 Rup K kR kB r bv H a (upd H x.q (.lst us)) {a with as:=m1++x::m2} {st with bs:=l1++{b with ps:=ps}::l2}:=by
 walk_at"31"
 have nq:x.w≠x.q:=by simp[BA.fp] at xnd;exact Ne.symm xnd.2
 obtain⟨us0,q1,q2⟩:=hx.q
 have tk:S4 H (upd H x.q (.lst us)):=N8 (.inl ⟨_,q1⟩)
 refine Rup.swap h ea eb hl (fun z u e n=>E1 e fun y=>n (by rw[y];simp[BA.fp])) ⟨E1 hx.o no,tk.sqT hx.p,⟨us,A6,Dvs.tupK tk _ _ (Y2 _) hd⟩,E1 hx.w nq⟩ (fun z hz=>.inl hz) xnd rfl
theorem Rup.laid{p2:Addr}{m:Int}{pl:List Int}(h:RdO K H kR kB r bv a st)(s1:A7 H H1)(e1:SqT K H1 p [.int i,.str g,.ref p2,.int m])(e2:SqT K H1 p2 (qd7 pl))(m2:Dvs K H (st.ls.map Lad.da) us) :
 Rup K kR kB r bv H a (upd H1 a.A (.lst (us++[.ref p]))) a {st with ls:=st.ls++[⟨i,g,pl,m⟩]}:=by
 refine .keep ((h.same s1).setA ?_) fun c o e n=>?_
 ·rw[map_append]
  exact Dvs.append (Dvs.same s1 _ _ m2) (Dvs.one (D7.mpr ⟨p,_,rfl,e1,C0 (P1.mpr rfl) (C0 #[76] (C0 (D7.mpr ⟨p2,_,rfl,e2,xi2.mpr rfl⟩) (C0 (P1.mpr rfl) I9)))⟩))
 ·rw[B8 (fun z=>n (by rw[z];simp[RAd.fp]))];exact s1 c o e
theorem zy7(cz:Cz K k_Branch k_Reader){x:BA}{told u:Str}(h:RdO K H k_Reader k_Branch r bv a st)(ea:a.as=m1++x::[])(eb:st.bs=l1++b::[])(hl:m1.length=l1.length)(h1:b.ps.length<=9000000)(h2:b.pl.length<=1000)(h3:st.ls.length<=9000000)(h4:u.length+told.length<=1000000)(q:∀ a' H',Rup K k_Reader k_Branch r bv H a H' a' {st with bs:=l1++[{b with ps:=b.ps++[Tr.tx (u++told)]}],ls:=st.ls++[⟨i,g,b.pl++[(b.ps.length:Int)],u.length⟩]}->C8 H H'->D.nx [some (.ref r),some (.int i),some (.str g),some (.str told),some (.ref x.o),some (.str u)] H') :
 adT K D [some (.ref r),some (.int i),some (.str g),some (.str told),some (.ref x.o),some (.str u)] H:=by
 unfold adT
 have hb:=h.b
 rw[ea,eb] at hb
 have hx:=(hb.split hl).2.1
 obtain⟨us,q1,q2⟩:=hx.q
 obtain⟨ls,l1',l2'⟩:=h.d
 have hul:=qu1 q2
 have hll:ls.length=st.ls.length:=by have:=l2'.length;rw[length_map] at this;exact this
 walk_at"27"
 refine⟨r,_,a.x,_,_,rfl,h.o,cz.cl_Reader,cz.na_Reader_laid,rfl,?_⟩
 lk
 refine⟨.inl ⟨rfl,_,SqL.of l1'⟩,?_⟩
 walk_at"27"
 refine⟨x.o,_,x.x,_,_,rfl,hx.o,cz.cl_Branch,cz.na_Branch_place,rfl,?_⟩
 walk_at"27"
 walk_at"15"
 refine Q4 (.inl #[52,q1]) ?_
 rw[hul]
 lk
 refine⟨E5 (by z_go),fun p1 hp1=>?_⟩
 have s1:=A7.new hp1 (.tup [.int b.ps.length])
 refine wq4 (s1.sqT hx.p) (SqT.of A6) (by rw[qm9];exact E5 (by show _+1<=_;omega)) fun p2 H2 s2 hp2=>?_
 rw[show qd7 b.pl++[V.int b.ps.length]=qd7 (b.pl++[(b.ps.length:Int)]) by simp[qd7]] at hp2
 have s12:=A7.tr s1 s2
 lk
 refine .inr (.inl ⟨u,rfl,by rw[sizeLine_eq];omega,?_⟩)
 lk
 refine⟨E5 (by z_go),fun p3 hp3=>?_⟩
 have s3:=A7.new hp3 (.tup [.int i,.str g,.ref p2,.int u.length])
 have s13:=A7.tr s12 s3
 lk
 refine L4 (s13 _ _ l1') (by rw[hll,sizeLine_eq];omega) ?_
 have u1:=Rup.laid h s13 (SqT.of A6) (s3.sqT hp2) l2'
 have g1:C8 H (upd (upd H2 p3 (.tup [.int i,.str g,.ref p2,.int u.length])) a.A (.lst (ls++[.ref p3]))):=C8.tr (A7.grow s13) C8.upd
 generalize upd (upd H2 p3 (.tup [.int i,.str g,.ref p2,.int u.length])) a.A (.lst (ls++[.ref p3]))=H3 at *
 have hb3:=u1.ok.b
 rw[show({st with ls:=st.ls++[⟨i,g,b.pl++[(b.ps.length:Int)],u.length⟩]}:Rst).bs=st.bs from rfl,ea,eb] at hb3
 have hx3:=(hb3.split hl).2.1
 obtain⟨us3,q3,q4⟩:=hx3.q
 have hul3:=qu1 q4
 walk_at"27"
 refine⟨x.o,_,x.x,_,_,rfl,hx3.o,cz.cl_Branch,cz.na_Branch_parts,rfl,?_⟩
 lk
 refine⟨.inl ⟨rfl,_,SqL.of q3⟩,?_⟩
 lk
 refine .inl (qf5 #[42] ?_)
 lk
 refine L4 q3 (by rw[hul3,sizeLine_eq];omega) ?_
 have u2:=Rup.parts (ps:=b.ps++[Tr.tx (u++told)]) (us:=us3++[.str (u++told)]) u1.ok ea eb hl (by
  rw[Y1,map_append,<-Y1]
  exact Dvs.append q4 (Dvs.one #[76]))
 exact q _ _ (u1.tr u2 g1) (C8.tr g1 C8.upd)
end
theorem xt2(t:Str):("":Str)++t=t:=(W9 _ _).mpr (by rw[PySem.Str.cps_append,Array.toList_append];rfl)
theorem xk0:∀ {ds:List PyData} {d:PyData} {vs:List V} {v:V},Dvs K H (ds++[d]) (vs++[v])->Dvs K H ds vs
 | [],d,[],v,_=>I9
 | [],d,w::vs,v,h=>by have:=h.length;simp at this
 | e::ds,d,[],v,h=>by have:=h.length;simp at this
 | e::ds,d,w::vs,v,h=>by
   rw[cons_append,cons_append,Dvs] at h
   obtain⟨w',r,e1,h1,h2⟩:=h
   obtain⟨rfl,rfl⟩:=List.cons.inj e1
   exact C0 h1 (xk0 h2)
abbrev wg5(K:Fg):TS :=
 (C1 (S3 (xf5 (G0 (tOp xn6 (tCB (N6 K) (A1 (T6 K (A2 4) "parts") A9)) #[2,0])) (tB (D8 (wc3 K) [] E0 (A1 (tOp (L5 K) (T6 K (A2 4) "parts") #[12]) A9))))
 (E3 (yb3 K "list" yb5 (T6 K (A2 4) "parts")) (B6 5)) Q5)
 (adT K))
def U2(K:Fg):Sp:=fun vs H Q _=>∃ (kR kB r:Addr) (bv:V) (a:RAd) (st:Rst) (l1:List Brn) (b:Brn) (i:Int) (g told:Str),vs=[.ref r,.int i,.str g,.str told]/\RdO K H kR kB r bv a st/\st.bs=l1++[b]/\b.ps.length<=9000000/\b.pl.length<=1000/\st.ls.length<=9000000/\adA b.ps+told.length<=1000000/\∀ a' H',Rup K kR kB r bv H a H' a' {st with bs:=l1++[{b with ps:=adP b.ps told}],ls:=st.ls++[⟨i,g,b.pl++[(adN b.ps:Int)],adA b.ps⟩]}->C8 H H'->Q .non H'
def U9(K:Fg):TS :=
 (C1 (E3 (tOp (L5 K) #[100] #[12]) (B6 4))
 (C1 (E3 (tC (.str "")) (B6 5))
 (wg5 K)))
theorem wj1(cz:Cz K k_Branch k_Reader)(h:U2 K vs H Q E):U9 K {nx:=fun _ H'=>Q .non H',rt:=Q} (E2 ["self","start","signs","told","branch","ahead"] vs) H:=by
 obtain⟨kR,kB,r,bv,a,st,l1,b,i,g,told,rfl,h,eb,h1,h2,h3,h4,q⟩:=h
 walk_at"5"
 show U9 K _ [some (.ref r),some (.int i),some (.str g),some (.str told),none,none] H
 unfold U9
 obtain⟨m1,x,m2,ea,hm,hx⟩:=h.as_split eb
 have hn:=h.b.len
 rw[ea,eb] at hn
 simp only[length_append,length_cons,length_nil] at hn
 obtain rfl:m2=[]:=eq_nil_of_length_eq_zero #[0]
 obtain⟨us,q1,q2⟩:=hx.q
 have hul:=qu1 q2
 walk_at"3"
 walk_at"17"
 refine M9 #[52,h.l] (v:=.ref x.o) (Q9 (n:=m1.length) (by rw[ea];simp) (by rw[ea];simp)) ?_
 walk_at"27"
 walk_at"15"
 refine Q4 (.inl #[52,q1]) ?_
 rw[hul]
 lk
 rcases eq_nil_or_concat b.ps with hps|⟨P,t,hps⟩
 ·rw[hps]
  k_go
  lk
  refine zy7 cz h ea eb hm h1 h2 h3 (by show 0+_<=_;omega) fun a' H' u g'=>q a' H' ?_ g'
  rw[xt2] at u
  have e1:adP b.ps told=b.ps++[.tx told]:=by rw[hps];rfl
  have e2:adN b.ps=b.ps.length:=by rw[hps];rfl
  have e3:adA b.ps=0:=by rw[hps];rfl
  rw[e1,e2,e3]
  exact u
 ·rw [concat_eq_append] at hps
  have hgl:b.ps.getLast?=some t:=by rw[hps,getLast?_concat]
  rw[hps] at hul
  refine zr8 (by rw[hps];simp) ?_
  walk_at"27"
  walk_at"15"
  refine⟨1,rfl,?_⟩
  obtain⟨ut,eu,du⟩:=yp4 q2 (i:=P.length) (t:=t) (by rw[hps];simp)
  refine M9 #[52,q1] (v:=ut) (Q9 (n:=P.length) (by rw[hul];simp) eu) ?_
  lk
  refine⟨t,ut,rfl,du,?_⟩
  lk
  cases t with
  | tx u0 =>
    x_go
    walk_at"27"
    walk_at"15"
    refine⟨.inl ⟨rfl,_,SqL.of q1⟩,?_⟩
    obtain⟨us1,eus⟩:∃ us1,us=us1++[.str u0]:=by
     have hut:ut=.str u0:=G2.mp du
     refine⟨us.take P.length,?_⟩
     rw[<-hut]
     have:=Z5 eu
     rw[<-this,take_of_length_le (by rw[hul];simp)]
    rw[eus] at q1
    refine xs1 q1 ?_
    have dP:Dvs K H (Tr.das P) us1:=by
     rw[eus,hps,Y1,map_append,<-Y1] at q2
     exact xk0 q2
    have u1:=Rup.parts (ps:=P) h ea eb hm dP
    have g1:C8 H (upd H x.q (.lst us1)):=C8.upd
    generalize upd H x.q (.lst us1)=H1 at *
    lk
    have e3:adA b.ps=u0.length:=by unfold adA;rw[hgl]
    refine zy7 cz u1.ok rfl rfl hm (by show P.length<=_;rw[hps] at h1;simp at h1;omega) h2 h3 (by rw[e3] at h4;exact h4) fun a' H' u g'=>q a' H' ?_ (C8.tr g1 g')
    have e1:adP b.ps told=P++[.tx (u0++told)]:=by unfold adP;rw[hgl];rw[hps];simp
    have e2:adN b.ps=P.length:=by unfold adN;rw[hgl,hps];simp
    rw[e1,e2,e3]
    exact u1.tr u g1
  | nd nn pp =>
    k_go
    lk
    refine zy7 cz h ea eb hm h1 h2 h3 (by show 0+_<=_;omega) fun a' H' u g'=>q a' H' ?_ g'
    rw[xt2] at u
    have e1:adP b.ps told=b.ps++[.tx told]:=by unfold adP;rw[hgl]
    have e2:adN b.ps=b.ps.length:=by unfold adN;rw[hgl]
    have e3:adA b.ps=0:=by unfold adA;rw[hgl]
    rw[e1,e2,e3]
    exact u
structure Lim(P W M D T:Nat):Prop where
 P:P<=8000000
 W:W<=8000000
 M:M<=8000000
 D:D<=8000000
 T:T<=500000
theorem yf9{g:TG}{xs:List V}(hq:SqT K H a xs)(Pv:Nat->St->Hp->Prop)(h0:Pv 0 σ H)(hk:∀ i σ H',i<=xs.length->Pv i σ H'->SqT K H' a xs)(hs:∀ i x σ H,xs[i]?=some x->Pv i σ H->g x σ H fun σ2 H2=>tb {D with nx:=PAt Pv (i+1),ct:=PAt Pv (i+1),bk:=D.nx} σ2 H2)(hd:∀ σ H,Pv xs.length σ H->D.nx σ H) :
 ∃ b,V.ref a=.ref b/\#[34]:=⟨a,rfl,.inr ⟨⟨xs,hq⟩,xu8 Pv h0 hk hs hd⟩⟩
theorem yq3{sj:Rst}(e2:S6 sj.bs=bb):wj0 sj n i rule={sj with bs:=sj.bs++[⟨n,bb.pl++[(bb.ps.length:Int)],[],[]⟩],ms:=sj.ms++[⟨i,i,opn n,rule⟩]}:=by
 unfold wj0 P4 wv2;rw[e2]
theorem zo2{bs:List Brn}(e2:S6 bs=bb):P4 bs n=bs++[⟨n,bb.pl++[(bb.ps.length:Int)],[],[]⟩]:=by
 unfold P4 wv2;rw[e2]
theorem xk1(st:Rst)(ns:List Str)(n:Str)(i:Int)(rule:Str):S7 st (ns++[n]) i rule=wj0 (S7 st ns i rule) n i rule:=by
 unfold S7;rw[foldl_append];rfl
theorem xy4{pre:List Brn}(e:st.bs=pre++b::cl):W3 rs st pre.length i rule={st with bs:=wUp rs #[88] (pre++[{b with ps:=b.ps++N3 cl}]),ms:=st.ms++cl.reverse.map (clM i rule)}:=by
 have e1:st.bs.take pre.length=pre:=by rw[e,take_left' rfl]
 have e2:st.bs.drop (pre.length+1)=cl:=by
  rw[e,show pre++b::cl=(pre++[b])++cl by simp,drop_left' (by simp)]
 have e3:st.bs.getD pre.length S5=b:=by rw[e];simp[List.getD]
 unfold W3
 rw[e1,e2,e3]
theorem Bg.split{M D T:Nat}(h:Bg rs P W M D T st)(hk:k<st.bs.length):∃ pre b cl,st.bs=pre++b::cl/\pre.length=k/\cl.length<=20/\∀ (i:Int) (rule:Str),W3 rs st k i rule={st with bs:=wUp rs #[88] (pre++[{b with ps:=b.ps++N3 cl}]),ms:=st.ms++cl.reverse.map (clM i rule)}:=by
 have e:st.bs=st.bs.take k++st.bs[k]::st.bs.drop (k+1):=by rw[List.getElem_cons_drop,take_append_drop]
 have hl:(st.bs.take k).length=k:=by rw[length_take];omega
 refine⟨_,_,_,e,hl,by rw[length_drop];have:=h.l;omega,fun i rule=>?_⟩
 have:=xy4 (rs:=rs) (i:=i) (rule:=rule) e
 rw[hl] at this
 exact this
theorem Bg.cond{M D T:Nat}(h:Bg rs P W M D T st)(hP:P<=9000000)(hW:W<=9000000):∀ c∈st.bs,c.n.length<=4000/\c.ps.length<=9000000/\c.ws.length<=9000000:=fun c hc=>by
 have:=h.c c hc
 exact⟨this.n,by have:=this.ps;omega,by have:=this.ws;omega⟩
theorem zg4{ps:List Str}:qg4 (B4 (ps++[n])) none (some (-1))=B4 ps:=by
 unfold qg4
 have e1:(B4 (ps++[n])).length=ps.length+1:=by rw[B7];simp
 have e2:HT.sIx (B4 (ps++[n])).length (B4 (ps++[n])).length (some (-1))=ps.length:=by
  rw[e1]
  show(if(-1:Int)<0 then((-1:Int)+((ps.length+1:Nat):Int)).toNat else min (-1:Int).toNat (ps.length+1))=_
  rw[if_pos #[10]];omega
 rw[e2]
 show((B4 (ps++[n])).drop 0).take (ps.length-0)=_
 rw[drop_zero,Nat.sub_zero]
 unfold B4
 rw[map_append,take_left' (by simp)]
theorem zy8{o:Option Str}(h:o≠none):decide (oV o=V.non)=false:=by
 cases o with
 | none=>exact absurd rfl h
 | some x=>exact decide_eq_false fun z=>by cases z
abbrev qb5(K:Fg)(k_Reader:Addr):TS :=
 (C1 (E9 (O1 k_Reader "drop" (M0 K) [] E0 (A2 0) (A1 (A2 1) (A1 (A2 2) (A1 (tC (.str "strange")) A9)))))
 ym8)
abbrev qb6(K:Fg)(k_Reader:Addr):TS :=
 (C1 (E9 (O1 k_Reader "drop" (M0 K) [] E0 (A2 0) (A1 (A2 1) (A1 (A2 2) (A1 #[91,4] A9)))))
 ym8)
abbrev qb7(K:Fg)(k_Reader:Addr):TS :=
 (E9 (O1 k_Reader "put_in" (O6 K) [] E0 (A2 0) (A1 (A2 5) (A1 (A2 1) (A1 (tC (.str "frame")) A9)))))
abbrev qb8(K:Fg)(k_Reader:Addr):TS :=
 (S3 (G0 (tOp (qd0 K) (D8 (Z3 K) [] E0 (A1 (T6 K (A2 0) "book") #[3,3])) (tC (.str "bare"))))
 (E9 (O1 k_Reader "leave" (P6 K) [] E0 (A2 0) A9)) Q5)
abbrev qb9(K:Fg)(k_Reader:Addr):TS :=
 (C1 (E9 (O1 k_Reader "enter" (U0 K) [] E0 (A2 0) #[3,3]))
 (qb8 K k_Reader))
abbrev qc0(K:Fg)(k_Reader:Addr):TS :=
 (C1 (qr1 (qy5 K (tSl (yj7 K) (tOp (L5 K) (A2 4) #[2,2]) X9 (U8 #[12]))) (B6 5)
 (qb7 K k_Reader))
 (qb9 K k_Reader))
abbrev qc1(K:Fg)(k_Reader:Addr):TS :=
 (C1 (E9 (O1 k_Reader "close_behind" (L3 K) [] E0 (A2 0) (A1 #[91,4] (A1 (A2 1) (A1 (tC (.str "shut")) A9)))))
 (qc0 K k_Reader))
abbrev S8(K:Fg)(k_Reader:Addr):TS :=
 (C1 (S3 (G0 (tOp (qd0 K) #[70,4] (tC (.str "drop"))))
 (qb6 K k_Reader) Q5)
 (qc1 K k_Reader))
abbrev qc2(K:Fg)(k_Reader:Addr):TS :=
 (C1 (E3 (D8 (wc5 K) [] E0 (A1 (T6 K (A2 0) "book") (A1 #[55] #[3,3]))) (B6 4))
 (S8 K k_Reader))
def O8(K:Fg):Sp:=fun vs H Q _=>∃ (kR kB r:Addr) (bv:V) (a:RAd) (st:Rst) (rs:List Row) (rk:Str->Nat) (P W M D T:Nat) (i:Int) (g n:Str),vs=[.ref r,.int i,.str g,.str n]/\RdO K H kR kB r bv a st/\BkO K H bv rs/\Bok rs rk/\Bg rs P W M D T st/\Lim P W M D T/\g.length<=100000/\∀ a' H',Rup K kR kB r bv H a H' a' (opS rs rk st i g n)->C8 H H'->Q .non H'
def Q0(K:Fg)(k_Reader:Addr):TS :=
 (C1 (S3 (G0 (tOp yb8 (D8 (Z3 K) [] E0 (A1 (T6 K (A2 0) "book") #[3,3])) (tC .non)))
 (qb5 K k_Reader) Q5)
 (qc2 K k_Reader))
theorem qx1(cz:Cz K k_Branch k_Reader)(h:O8 K vs H Q E):Q0 K k_Reader {nx:=fun _ H'=>Q .non H',rt:=Q} (E2 ["self","start","signs","name","plan","put"] vs) H:=by
 obtain⟨kR,kB,r,bv,a,st,rs,rk,P,W,M,D,T,i,g,n,rfl,h,hk,bk,bg,lim,hg,q⟩:=h
 obtain rfl:=N7 cz.ns_Reader h.kr
 show Q0 K _ _ [some (.ref r),some (.int i),some (.str g),some (.str n),none,none] H
 unfold Q0
 walk_at"16"
 have l1:=lim.P
 have l2:=lim.W
 have l3:=lim.M
 walk_at"14"
 lk
 refine⟨bv,some n,rs,rfl,hk.rws,?_⟩
 lk
 by_cases hs:M8 rs (some n)=none
 ·have ed:decide (oV (M8 rs (some n))=V.non)=true:=by rw[hs];rfl
  rw[ed]
  x_go
  show qb5 K _ _ _ _
  walk_at"4"
  refine⟨k_Reader,kB,r,bv,a,st,i,g, "strange",rfl,h,by omega,by omega,fun H1 u1 g1=>?_⟩
  lk
  have eo:opS rs rk st i g n=qg2 st i g "strange":=by unfold opS;rw[if_pos hs]
  exact q a H1 (by rw[eo];exact u1) g1
 rw[zy8 hs]
 k_go
 show qc2 K _ _ _ _
 have hrow:=wz6 hs
 walk_at"14"
 walk_at"4"
 refine⟨k_Reader,kB,r,bv,a,st,b0,bs0,rfl,h,eb0,by omega,fun p H1 s1 hp=>?_⟩
 lk
 rw[<-hnm] at hp
 have hnl:=bg.nlen
 refine⟨bv,p,B5 st,n,rs,rk,rfl,(hk.same s1).rws,bk.B,bk.f,hp,by omega,hrow,bk.k n,fun w H2 s2 hw=>?_⟩
 have s12:=A7.tr s1 s2
 have h2:=h.same s12
 have hk2:=hk.same s12
 have drop:∀ rule:Str,xj0 rs rk (B5 st) n=.tuple [.str "drop",.str rule]->opS rs rk st i g n=qg2 st i g rule->S8 K k_Reader {nx:=fun _ H'=>Q .non H',rt:=Q} [some (.ref r),some (.int i),some (.str g),some (.str n),some (.ref w),none] H2:=fun rule ep eo=>by
  rw[ep] at hw
  obtain⟨w',ws,e1,hwq,hwd⟩:=D7.mp hw
  cases e1
  rw[Dvs] at hwd;obtain⟨v0,r0,rfl,d0,hwd⟩:=hwd
  rw[Dvs] at hwd;obtain⟨v1,r1,rfl,d1,hwd⟩:=hwd
  rw[Dvs] at hwd;subst hwd
  obtain rfl:=G2.mp d0
  obtain rfl:=G2.mp d1
  lk
  refine W6 hwq (v:=.str "drop") rfl ?_
  lk
  x_go
  show qb6 K _ _ _ _
  walk_at"35"
  refine⟨r,_,_,rfl,h2.o,rfl,?_⟩
  lk
  refine W6 hwq (v:=.str rule) rfl ?_
  lk
  refine⟨k_Reader,kB,r,bv,a,st,i,g,rule,rfl,h2,by omega,by omega,fun H3 u3 g3=>?_⟩
  lk
  exact q a H3 (by rw[eo];exact(h.up s12).tr u3 (A7.grow s12)) (C8.tr (A7.grow s12) g3)
 by_cases hbar:bar rs ((B5 st).take #[26].1) #[26].2=true
 ·exact drop "barred" (by unfold xj0;rw[if_pos hbar]) (by unfold opS;rw[if_neg hs,if_pos hbar])
 by_cases hdeep:20<#[26].1+#[26].2.length
 ·exact drop "deep" (by unfold xj0;rw[if_neg hbar,if_pos hdeep]) (by unfold opS;rw[if_neg hs,if_neg hbar,if_pos hdeep])
 have ep:xj0 rs rk (B5 st) n=.tuple [.str "open",.int #[26].1,.tuple (sDa #[26].2)]:=by unfold xj0;rw[if_neg hbar,if_neg hdeep]
 have eo:opS rs rk st i g n=(if M8 rs (some n)=some ("bare":Str) then lvS {#[93] with bs:=P4 #[93].bs n} else{#[93] with bs:=P4 #[93].bs n}):=by
  unfold opS;rw[if_neg hs,if_neg hbar,if_neg hdeep]
 have wok:=wm3 bk.B bk.f (ys:=B5 st) 13 n hrow (bk.k n)
 obtain⟨ps,hps⟩:=wz5 (rs:=rs) (rk:=rk) (ys:=B5 st) 13 n
 have hw1:=wok.k
 have hwm:=wok.m
 rw[ep] at hw
 clear drop hbar
 generalize N0 rs rk (B5 st) 13 n=wt at *
 obtain⟨w',ws,e1,hwq,hwd⟩:=D7.mp hw
 cases e1
 rw[Dvs] at hwd;obtain⟨v0,r0,rfl,d0,hwd⟩:=hwd
 rw[Dvs] at hwd;obtain⟨v1,r1,rfl,d1,hwd⟩:=hwd
 rw[Dvs] at hwd;obtain⟨v2,r2,rfl,d2,hwd⟩:=hwd
 rw[Dvs] at hwd;subst hwd
 obtain rfl:=G2.mp d0
 obtain rfl:=P1.mp d1
 obtain⟨pz,zs,rfl,hz,dz⟩:=D7.mp d2
 rw[Z9] at dz;subst dz
 have hkl:wt.1<st.bs.length:=by omega
 obtain⟨pre,bb,cl,eb,hpre,hcl,ecl⟩:=bg.split hkl
 have edl:wt.2.dropLast=ps:=by rw[hps,dropLast_concat]
 have ell:wt.2.length=ps.length+1:=by rw[hps];simp
 rw[edl] at eo
 have bc:=bg.cls (i:=i) (rule := "shut") hkl
 have bcl:#[64].bs.length=wt.1+1:=by rw[wd6,length_take];omega
 have hpm:∀ m∈ps,m.length<=4000/\∃ r∈rs,Row.name r=m:=fun m hm=>by
  have:=hwm m (by rw[hps];simp[hm])
  exact⟨bk.row this,this⟩
 have bp:∀ j,Bg rs (P+1) (W+20) (M+20+(ps.take j).length) D T (S7 #[64] (ps.take j) i "frame"):=fun j=>by
  have:(ps.take j).length<=ps.length:=by rw[length_take];omega
  exact bc.puts (by rw[bcl];omega) fun m hm=>hpm m (mem_of_mem_take hm)
 have bpl:∀ j,(S7 #[64] (ps.take j) i "frame").bs.length=wt.1+1+(ps.take j).length:=fun j=>by rw[wm9,bcl]
 show S8 K _ _ _ _
 lk
 refine W6 hwq (v:=.str "open") rfl ?_
 lk
 k_go
 show qc1 K _ _ _ _
 walk_at"35"
 refine⟨r,_,_,rfl,h2.o,rfl,?_⟩
 lk
 refine W6 hwq (v:=.int wt.1) rfl ?_
 lk
 refine⟨k_Reader,kB,r,bv,a,st,rs,pre,cl,bb,i, "shut",by rw[hpre];rfl,h2,hk2,eb,by omega,bg.cond #[0] #[0],by omega,fun a3 H3 u3 g3=>?_⟩
 rw[<-ecl i "shut"] at u3
 have tk3:=u3.tupK h2
 have hwq3:=tk3.sqT hwq
 have hz3:=tk3.sqT hz
 show qc0 K _ _ _ _
 lk
 refine W6 hwq3 (v:=.ref pz) rfl ?_
 walk_at"17"
 refine⟨-1,rfl,?_⟩
 refine yc7 hz3 fun c H4 s4 hc=>?_
 rw[hps,zg4] at hc
 have h4:=u3.ok.same s4
 have hk4:=(hk2.tupK tk3).same s4
 refine yf9 hc (fun j σ H'=>∃ a' x5,σ=[some (.ref r),some (.int i),some (.str g),some (.str n),some (.ref w),x5]/\Rup K k_Reader kB r bv H4 a3 H' a' (S7 #[64] (ps.take j) i "frame")/\C8 H4 H') ?_ ?_ ?_ ?_
 ·exact⟨a3,none,rfl,.keep h4 fun c o e _=>e,fun z hz=>hz⟩
 ·rintro j σ H' _ ⟨a',x5,rfl,uj,gj⟩
  exact(uj.tupK h4).sqT hc
 ·rintro j v σ H' hv ⟨a',x5,rfl,uj,gj⟩
  obtain⟨m,hm,rfl⟩:=V4 hv
  refine J0 ?_
  show qb7 K _ _ _ _
  walk_at"35"
  refine⟨r,_,_,rfl,uj.ok.o,rfl,?_⟩
  lk
  have bj:=bp j
  have bjl:=bpl j
  have hjl:(ps.take j).length<=ps.length:=by rw[length_take];omega
  have em:S7 #[64] (ps.take (j+1)) i "frame"=wj0 (S7 #[64] (ps.take j) i "frame") m i "frame":=by rw[Z5 hm,xk1]
  rw[PAt,em]
  generalize S7 #[64] (ps.take j) i "frame"=sj at *
  obtain⟨lb,b9,e1,e2,e3,e4⟩:=bj.snoc
  have h3:=e4.ps
  have h5:=bj.m
  have h6:=bj.l
  rw[e1,length_append,length_singleton] at h6
  refine⟨k_Reader,kB,r,bv,a',sj,m,i, "frame",lb,b9,rfl,uj.ok,e1,by omega,by omega,by omega,by omega,(hpm m (mem_of_getElem? hm)).1,fun a6 H6 u6 g6=>?_⟩
  refine⟨a6,_,rfl,?_,C8.tr gj g6⟩
  rw[yq3 e2]
  exact uj.tr u6 gj
 rintro σ H5 ⟨a5,x5,rfl,u5,g5⟩
 have bj:=bp ps.length
 have bjl:=bpl ps.length
 rw[B7] at u5
 rw[take_length] at u5 bj bjl
 show qb9 K _ _ _ _
 walk_at"35"
 refine⟨r,_,_,rfl,u5.ok.o,rfl,?_⟩
 lk
 generalize S7 #[64] ps i "frame"=sj at *
 obtain⟨lb,b9,e1,e2,e3,e4⟩:=bj.snoc
 have h3:=e4.ps
 have h6:=bj.l
 rw[e1,length_append,length_singleton] at h6
 refine⟨k_Reader,kB,r,bv,a5,sj,n,lb,b9,rfl,u5.ok,e1,by omega,by omega,by omega,fun a6 H6 u6 g6=>?_⟩
 have g12:=A7.grow s12
 have uu:=((((h.up s12).tr u3 g12).tr (u3.ok.up s4) (C8.tr g12 g3)).tr u5 (C8.tr (C8.tr g12 g3) (A7.grow s4))).tr u6 (C8.tr (C8.tr (C8.tr g12 g3) (A7.grow s4)) g5)
 have gg:=C8.tr (C8.tr (C8.tr (C8.tr g12 g3) (A7.grow s4)) g5) g6
 have hk6:=hk.tupK (uu.tupK h)
 rw[<-zo2 e2] at u6 uu
 show qb8 K _ _ _ _
 walk_at"27"
 refine⟨r,_,a6.x,_,_,rfl,u6.ok.o,cz.cl_Reader,cz.na_Reader_book,rfl,?_⟩
 lk
 refine⟨bv,some n,rs,rfl,hk6.rws,?_⟩
 lk
 refine yl5 ?_
 lk
 by_cases hbare:M8 rs (some n)=some ("bare":Str)
 ·rw[decide_eq_true hbare]
  x_go
  walk_at"35"
  refine⟨r,_,_,rfl,u6.ok.o,rfl,?_⟩
  lk
  have e7:P4 sj.bs n=lb++[b9,wv2 b9 n]:=by unfold P4;rw[e2,e1];simp
  refine⟨k_Reader,kB,r,bv,a6,_,lb,b9,wv2 b9 n,rfl,u6.ok,e7,by omega,fun a7 H7 u7 g7=>?_⟩
  refine q a7 H7 ?_ (C8.tr gg g7)
  rw[eo,if_pos hbare]
  unfold lvS
  show Rup _ _ _ _ _ _ _ _ _ {sj with bs:=lvB (P4 sj.bs n)}
  rw[e7,qn6]
  exact uu.tr u7 gg
 ·rw[decide_eq_false hbare]
  k_go
  refine q a6 H6 ?_ gg
  rw[eo,if_neg hbare]
  exact uu
section
variable{kR kB r:Addr}{bv:V}{a:RAd}{st:Rst}
theorem Rup.waitO{x:BA}{w:Addr}(h:RdO K H kR kB r bv a st)(ea:a.as=m1++x::m2)(eb:st.bs=l1++b::l2)(hl:m1.length=l1.length)(s1:A7 H H1)(hw0:H w=none)(hw:H1 w=some #[16,ws]) :
 Rup K kR kB r bv H a (upd H1 x.o (.ins kB x.x (bF {x with w:=w} b))) {a with as:=m1++{x with w:=w}::m2} {st with bs:=l1++{b with ws:=ws}::l2}:=by
 walk_at"31"
 have nwo:x.o≠w:=Y5 hw0 hx.o
 obtain⟨us,q1,q2⟩:=hx.q
 have nwq:x.q≠w:=Y5 hw0 q1
 have tk:S4 H (upd H1 x.o (.ins kB x.x (bF {x with w:=w} b))):=zg2 s1.tupK (N8 (.inr ⟨_,_,_,s1 _ _ hx.o⟩))
 refine Rup.swap h ea eb hl (fun z u e n=>E1 (s1 _ _ e) fun y=>n (by rw[y];simp[BA.fp])) ⟨A6,tk.sqT hx.p,⟨us,E1 (s1 _ _ q1) (Ne.symm no),Dvs.tupK tk _ _ (Y2 _) q2⟩,E1 hw (Ne.symm nwo)⟩ (fun z hz=>?_) ?_ rfl
 ·simp only[BA.fp,mem_cons,not_mem_nil,or_false] at hz ⊢
  rcases hz with rfl|rfl|rfl
  ·exact .inl (.inl rfl)
  ·exact .inl (.inr (.inl rfl))
  ·exact .inr hw0
 ·simp[BA.fp,no,nwo,nwq]
end
abbrev qc3(K:Fg)(k_Reader:Addr):TS :=
 (E9 (O1 k_Reader "drop" (M0 K) [] E0 (A2 0) (A1 (A2 1) (A1 (A2 2) (A1 (tC (.str "late")) A9)))))
abbrev qc4(K:Fg)(k_Reader:Addr):TS :=
 (C1 (wh0 K (A2 5) (D8 (qf0 K) [] E0 (A1 (T6 K (A2 5) "waiting") #[3,3])) "waiting")
 (qc3 K k_Reader))
abbrev qc5(K:Fg)(k_Reader:Addr):TS :=
 (E9 (O1 k_Reader "drop" (M0 K) [] E0 (A2 0) (A1 (A2 1) (A1 (A2 2) (A1 (tC (.str "stray")) A9)))))
abbrev qc6(K:Fg)(k_Reader:Addr):TS :=
 (C1 (E9 (O1 k_Reader "close_behind" (L3 K) [] E0 (A2 0) (A1 #[92,4] (A1 (A2 1) (A1 (tC (.str "left")) A9)))))
 (E9 (O1 k_Reader "leave" (P6 K) [] E0 (A2 0) A9)))
abbrev qc7(K:Fg)(k_Reader:Addr):TS :=
 (S3 (G0 (tOp (wq3 K false) (A2 3) (T6 K (A2 5) "waiting")))
 (qc4 K k_Reader) (qc5 K k_Reader))
abbrev O3(K:Fg)(k_Reader:Addr):TS :=
 (S3 (G0 (tOp wl8 (A2 4) (tC .non)))
 (qc6 K k_Reader) (qc7 K k_Reader))
abbrev qc8(K:Fg)(k_Reader:Addr):TS :=
 (C1 (E3 (O1 k_Reader "last_wall" (M7 K) [] E0 (A2 0) A9) (B6 5))
 (O3 K k_Reader))
def O9(K:Fg):Sp:=fun vs H Q _=>∃ (kR kB r:Addr) (bv:V) (a:RAd) (st:Rst) (rs:List Row) (rk:Str->Nat) (P W M D T:Nat) (i:Int) (g n:Str),vs=[.ref r,.int i,.str g,.str n]/\RdO K H kR kB r bv a st/\BkO K H bv rs/\Bok rs rk/\Bg rs P W M D T st/\Lim P W M D T/\g.length<=100000/\∀ a' H',Rup K kR kB r bv H a H' a' #[80,n]->C8 H H'->Q .non H'
def Q3(K:Fg)(k_Reader:Addr):TS :=
 (C1 (E3 (D8 (qr6 K) [] E0 (A1 (T6 K (A2 0) "book") (A1 #[55] #[3,3]))) (B6 4))
 (qc8 K k_Reader))
theorem qx2(cz:Cz K k_Branch k_Reader)(h:O9 K vs H Q E):Q3 K k_Reader {nx:=fun _ H'=>Q .non H',rt:=Q} (E2 ["self","start","signs","name","number","wall"] vs) H:=by
 obtain⟨kR,kB,r,bv,a,st,rs,rk,P,W,M,D,T,i,g,n,rfl,h,hk,bk,bg,lim,hg,q⟩:=h
 walk_at"5"
 show Q3 K _ _ [some (.ref r),some (.int i),some (.str g),some (.str n),none,none] H
 unfold Q3
 walk_at"16"
 have hnl:=bg.nlen
 have l1:=lim.P
 have l2:=lim.W
 have l3:=lim.M
 walk_at"14"
 walk_at"4"
 refine⟨k_Reader,k_Branch,r,bv,a,st,b0,bs0,rfl,h,eb0,by omega,fun p H1 s1 hp=>?_⟩
 lk
 rw[<-hnm] at hp
 have h1:=h.same s1
 have hk1:=hk.same s1
 refine⟨bv,p,B5 st,n,rs,rk,rfl,hk1.rws,bk.f,.inr hp,by omega,?_⟩
 show qc8 K _ _ _ _
 walk_at"35"
 refine⟨r,_,_,rfl,h1.o,rfl,?_⟩
 lk
 refine⟨k_Reader,k_Branch,r,bv,a,st,rs,rfl,h1,hk1,bg.ne,by omega,fun m1 m2 x k1 k2 bb H2 s2 ea eb hm lw=>?_⟩
 have s12:=A7.tr s1 s2
 have h2:=h.same s12
 have hk2:=hk.same s12
 have g12:=A7.grow s12
 have hb2:=h2.b
 rw[ea,eb] at hb2
 have hx:=(hb2.split hm).2.1
 show O3 K _ _ _ _
 cases hc:clo rs rk (B5 st) n (B5 st).length with
 | some k =>
   have hkl:=wy5 hc
   have eo:O5 rs rk st i g n=lvS (W3 rs st (k+1) i "left"):=by unfold O5;rw[hc]
   show O3 K _ _ [some (.ref r),some (.int i),some (.str g),some (.str n),some (.int (k:Int)),some (.ref x.o)] _
   lk
   x_go
   show qc6 K _ _ _ _
   walk_at"35"
   refine⟨r,_,_,rfl,h2.o,rfl,?_⟩
   lk
   have hkl2:k+1<st.bs.length:=by omega
   obtain⟨pre,b3,cl,e3,hpre,hcl,ecl⟩:=bg.split hkl2
   have bc:=bg.cls (i:=i) (rule := "left") hkl2
   have bcl:(W3 rs st (k+1) i "left").bs.length=k+2:=by rw[wd6,length_take];omega
   refine⟨k_Reader,k_Branch,r,bv,a,st,rs,pre,cl,b3,i, "left",by rw[hpre];rfl,h2,hk2,e3,by omega,bg.cond #[0] #[0],by omega,fun a3 H3 u3 g3=>?_⟩
   rw[<-ecl i "left"] at u3
   walk_at"35"
   refine⟨r,_,_,rfl,u3.ok.o,rfl,?_⟩
   lk
   generalize W3 rs st (k+1) i "left"=sj at *
   obtain⟨lb,b5,b6,e5⟩:=qn7 (bs:=sj.bs) #[0]
   have hb5:=(bc.c b5 (by rw[e5];simp)).ps
   refine⟨k_Reader,k_Branch,r,bv,a3,sj,lb,b5,b6,rfl,u3.ok,e5,by omega,fun a4 H4 u4 g4=>?_⟩
   refine q a4 H4 ?_ (C8.tr (C8.tr g12 g3) g4)
   rw[eo]
   unfold lvS
   rw[e5,qn6]
   exact((h.up s12).tr u3 g12).tr u4 (C8.tr g12 g3)
 | none =>
   show O3 K _ _ [some (.ref r),some (.int i),some (.str g),some (.str n),some .non,some (.ref x.o)] _
   lk
   k_go
   show qc7 K _ _ _ _
   have elw:lwS rs st.bs=bb.ws:=by rw[eb];exact ql0 lw
   have hbb:=bg.c bb (by rw[eb];simp)
   have hbw:=hbb.ws
   walk_at"27"
   refine⟨x.o,_,x.x,_,_,rfl,hx.o,cz.cl_Branch,cz.na_Branch_waiting,rfl,?_⟩
   refine .inl (xw1 (.inl #[52,hx.w]) rfl (T0 _) ?_)
   rw[V3]
   lk
   by_cases hin:n∈bb.ws
   ·rw[decide_eq_true hin]
    x_go
    have eo:O5 rs rk st i g n={(qg2 st i g "late") with bs:=wUp rs (fun ws=>woL ws n) st.bs}:=by unfold O5;rw[hc,elw];exact if_pos hin
    have ewu:wUp rs (fun ws=>woL ws n) st.bs=k1++{bb with ws:=woL bb.ws n}::k2:=by rw[eb];exact qw9 lw
    show qc4 K _ _ _ _
    refine qk5 (ql8 ?_)
    walk_at"27"
    refine⟨x.o,_,x.x,_,_,rfl,hx.o,cz.cl_Branch,cz.na_Branch_waiting,rfl,?_⟩
    lk
    refine⟨x.w,bb.ws,n,rfl,hx.w,hin,by omega,fun w H3 s3 hw0 hw=>?_⟩
    lk
    refine⟨x.o,_,x.x,_,rfl,s3 _ _ hx.o,cz.cl_Branch,cz.na_Branch_waiting,by unfold bF;simp,?_⟩
    unfold bF
    rw[zr9]
    have u3:=Rup.waitO (ws:=woL bb.ws n) h2 ea eb hm s3 hw0 hw
    rw[<-ewu] at u3
    have g3:C8 H2 (upd H3 x.o #[51]):=C8.tr (A7.grow s3) C8.upd
    have u3':Rup K k_Reader k_Branch r bv H2 a (upd H3 x.o #[51]) {a with as:=m1++{x with w:=w}::m2} {st with bs:=wUp rs (fun ws=>woL ws n) st.bs}:=u3
    generalize upd H3 x.o #[51]=H4 at *
    show qc3 K _ _ _ _
    walk_at"35"
    refine⟨r,_,_,rfl,u3'.ok.o,rfl,?_⟩
    lk
    refine⟨k_Reader,k_Branch,r,bv,_,_,i,g, "late",rfl,u3'.ok,by show st.ms.length<=_;omega,by omega,fun H5 u5 g5=>?_⟩
    refine q {a with as:=m1++{x with w:=w}::m2} H5 ?_ (C8.tr (C8.tr g12 g3) g5)
    rw[eo]
    exact((h.up s12).tr u3' g12).tr u5 (C8.tr g12 g3)
   ·rw[decide_eq_false hin]
    k_go
    have eo:O5 rs rk st i g n=qg2 st i g "stray":=by unfold O5;rw[hc,elw];exact if_neg hin
    show qc5 K _ _ _ _
    walk_at"35"
    refine⟨r,_,_,rfl,h2.o,rfl,?_⟩
    lk
    refine⟨k_Reader,k_Branch,r,bv,a,st,i,g, "stray",rfl,h2,by omega,by omega,fun H5 u5 g5=>?_⟩
    refine q a H5 ?_ (C8.tr g12 g5)
    rw[eo]
    exact(h.up s12).tr u5 g12
theorem zg5{n:Nat}(h:k∈qg1 l n):l[k]?=some 60\/l[k]?=some 38:=by
 unfold qg1 at h
 have:=(mem_filter.mp h).2
 unfold yf0 at this
 rw[Bool.or_eq_true,Bool.and_eq_true,decide_eq_true_eq,decide_eq_true_eq] at this
 exact this.imp id fun h=>h.1
theorem zy9:yx1 ⟨#[60]⟩ = "&l;":=by rw[W9];rfl
theorem zz0:yx1 ⟨#[38]⟩ = "&a;":=by rw[W9];rfl
theorem zg6{ns:List Nat}(h:(yd9 ns)[j]?=some v):∃ k,ns[j]?=some k/\v=.int (k:Int):=by
 unfold yd9 at h
 rw[List.getElem?_map] at h
 obtain⟨k,hk,e⟩:=Option.map_eq_some_iff.mp h
 exact⟨k,hk,e.symm⟩
abbrev qj1(K:Fg)(k_Reader:Addr):TS :=
 (E9 (O1 k_Reader "put_in" (O6 K) [] E0 (A2 0) (A1 (A2 5) (A1 (A2 1) (A1 (tC (.str "host")) A9)))))
abbrev qj2(K:Fg):TS :=
 (E9 (tBM K "list" J9 (T6 K (A2 0) "mends") (A1 (T7 (A1 (A2 7) (A1 #[92,7] (A1 (D8 (wd0 K) [] E0 (A1 (tOp (L5 K) (A2 2) (A2 6)) A9)) (A1 (tC (.str "sign")) A9))))) A9)))
abbrev qj3(K:Fg)(k_Reader:Addr):TS :=
 (E9 (O1 k_Reader "add_text" (U2 K) [] E0 (A2 0) (A1 (A2 1) (A1 (A2 2) #[3,3]))))
abbrev qj4(K:Fg)(k_Reader:Addr):TS :=
 (C1 (qr1 (qy5 K (D8 (qp8 K) [] E0 #[3,2])) (B6 6)
 (C1 (E3 (tOp (J6 K) (A2 1) (A2 6)) (B6 7))
 (qj2 K)))
 (qj3 K k_Reader))
abbrev qj5(K:Fg)(k_Reader:Addr):TS :=
 (C1 (E9 (O1 k_Reader "put_in_waiting" (O0 K) [] E0 (A2 0) #[3,1]))
 (qj4 K k_Reader))
abbrev qj6(K:Fg)(k_Reader:Addr):TS :=
 (E9 (O1 k_Reader "drop" (M0 K) [] E0 (A2 0) (A1 (A2 1) (A1 (A2 2) (A1 (tC (.str "deep")) A9)))))
abbrev qj7(K:Fg)(k_Reader:Addr):TS :=
 (C1 (qr1 (qy5 K (A2 4)) (B6 5)
 (qj1 K k_Reader))
 (qj5 K k_Reader))
abbrev qj8(K:Fg)(k_Reader:Addr):TS :=
 (E9 (O1 k_Reader "drop" (M0 K) [] E0 (A2 0) (A1 (A2 1) (A1 (A2 2) (A1 (tC (.str "blank")) A9)))))
abbrev qj9(K:Fg)(k_Reader:Addr):TS :=
 (S3 (G0 (tOp yb8 (A2 4) (tC .non)))
 (qj6 K k_Reader) (qj7 K k_Reader))
abbrev qk0(K:Fg)(k_Reader:Addr):TS :=
 (S3 (xf5 (tB (O1 k_Reader "is_in_frame" (P7 K) [] E0 (A2 0) A9)) (G0 (tOp (qd0 K) (tBM K "str" yp1 (A2 3) (A1 (tC (.str " \n")) A9)) (tC (.str "")))))
 (qj8 K k_Reader) (qj9 K k_Reader))
theorem RdO.nop{r:Addr}{a:RAd}(h:RdO K H kR kB r bv a st)(hp:H p=none):p∉RAd.fp r a:=fun hz=>h.dom p hz hp
theorem zg7{r:Addr}{a:RAd}(cz:Cz K k_Branch k_Reader){M D T:Nat}{c:Addr}(h:RdO K H k_Reader k_Branch r bv a st)(hk:BkO K H bv rs)(bk:Bok rs rk)(bg:Bg rs P W M D T st)(lim:Lim P W M D T)(hg:g.length<=10000)(ht:t.length<=10000)(hc:SqT K H c (B4 (R3 rs st)))(hlen:¬20<(B5 st).length+(R3 rs st).length)(q:∀ a' H',Rup K k_Reader k_Branch r bv H a H' a' (txS (wo2 (N9 rs i (S7 st (R3 rs st) i "host")) i g) i g t)->C8 H H'->Q .non H') :
 qj7 K k_Reader {nx:=fun _ H'=>Q .non H',rt:=Q} [some (.ref r),some (.int i),some (.str g),some (.str t),some (.ref c),none,none,none] H:=by
 have hnl:=bg.nlen
 have l1:=lim.P
 have l2:=lim.W
 have l3:=lim.M
 have l4:=lim.D
 have l5:=lim.T
 have hhl:(R3 rs st).length<=12:=qk8 rs 12 _
 have hpm:∀ m∈R3 rs st,m.length<=4000/\∃ r∈rs,Row.name r=m:=fun m hm=>by
  have:=qz1 bk.B 12 _ m hm
  exact⟨bk.row this,this⟩
 have bp:∀ j,Bg rs P W (M+((R3 rs st).take j).length) D T (S7 st ((R3 rs st).take j) i "host"):=fun j=>by
  have:((R3 rs st).take j).length<=(R3 rs st).length:=by rw[length_take];omega
  exact bg.puts #[0] fun m hm=>hpm m (mem_of_mem_take hm)
 lk
 refine yf9 hc (fun j σ H'=>∃ a' x5,σ=[some (.ref r),some (.int i),some (.str g),some (.str t),some (.ref c),x5,none,none]/\Rup K k_Reader k_Branch r bv H a H' a' (S7 st ((R3 rs st).take j) i "host")/\C8 H H') ?_ ?_ ?_ ?_
 ·exact⟨a,none,rfl,.keep h fun c o e _=>e,fun z hz=>hz⟩
 ·rintro j σ H' _ ⟨a',x5,rfl,uj,gj⟩
  exact(uj.tupK h).sqT hc
 ·rintro j v σ H' hv ⟨a',x5,rfl,uj,gj⟩
  obtain⟨m,hm,rfl⟩:=V4 hv
  refine J0 ?_
  show qj1 K _ _ _ _
  walk_at"35"
  refine⟨r,_,_,rfl,uj.ok.o,rfl,?_⟩
  lk
  have bj:=bp j
  have hjl:((R3 rs st).take j).length<=(R3 rs st).length:=by rw[length_take];omega
  have em:S7 st ((R3 rs st).take (j+1)) i "host"=wj0 (S7 st ((R3 rs st).take j) i "host") m i "host":=by rw[Z5 hm,xk1]
  rw[PAt,em]
  generalize S7 st ((R3 rs st).take j) i "host"=sj at *
  obtain⟨lb,b9,e1,e2,e3,e4⟩:=bj.snoc
  have h3:=e4.ps
  have h5:=bj.m
  have h6:=bj.l
  rw[e1,length_append,length_singleton] at h6
  refine⟨k_Reader,k_Branch,r,bv,a',sj,m,i, "host",lb,b9,rfl,uj.ok,e1,by omega,by omega,by omega,by omega,(hpm m (mem_of_getElem? hm)).1,fun a6 H6 u6 g6=>?_⟩
  refine⟨a6,_,rfl,?_,C8.tr gj g6⟩
  rw[yq3 e2]
  exact uj.tr u6 gj
 rintro σ H5 ⟨a5,x5,rfl,u5,g5⟩
 have bj:=bp (R3 rs st).length
 rw[B7] at u5
 rw[take_length] at u5 bj
 have hk5:=hk.tupK (u5.tupK h)
 show qj5 K _ _ _ _
 walk_at"35"
 refine⟨r,_,_,rfl,u5.ok.o,rfl,?_⟩
 lk
 generalize S7 st (R3 rs st) i "host"=sj at *
 refine⟨k_Reader,k_Branch,r,bv,a5,sj,rs,rk,i,P,W,M+(R3 rs st).length,D,T,rfl,u5.ok,hk5,bk,bj,by omega,by omega,by omega,fun a6 H6 u6 g6=>?_⟩
 have b6:=bj.anews (i:=i) bk.n
 have u56:=u5.tr u6 g5
 have g56:=C8.tr g5 g6
 generalize N9 rs i sj=s6 at *
 show qj4 K _ _ _ _
 lk
 refine⟨g,rfl,by omega,fun p7 H7 s7 hp70 hp7=>?_⟩
 have h7:=u6.ok.same s7
 have np:p7∉RAd.fp r a6:=u6.ok.nop hp70
 have gl:g.cps.toList.length=g.length:=Array.length_toList
 have lol:=wy9 g.cps.toList g.cps.toList.length
 have h6m:=b6.m
 refine qr2 #[52,hp7] (fun j σ H'=>∃ x6 x7,σ=[some (.ref r),some (.int i),some (.str g),some (.str t),some (.ref c),x5,x6,x7]/\Rup K k_Reader k_Branch r bv H7 a6 H' a6 {s6 with ms:=s6.ms++(#[71].take j).map (zn8 i g)}/\C8 H7 H') ?_ ?_ ?_ ?_
 ·refine⟨none,none,rfl,?_,fun z hz=>hz⟩
  rw[take_zero,map_nil,append_nil]
  exact .keep h7 fun c o e _=>e
 ·rintro j σ H' _ ⟨x6,x7,rfl,uj,gj⟩
  exact SqL.of (uj.bt _ _ hp7 np)
 ·rintro j v σ H' hv ⟨x6,x7,rfl,uj,gj⟩
  obtain⟨k,hkk,rfl⟩:=zg6 hv
  have hlo:=zg5 (mem_of_getElem? hkk)
  obtain⟨cc,hcc⟩:∃ cc,g.cps.toList[k]?=some cc:=by rcases hlo with e|e <;> exact⟨_,e⟩
  refine J0 ?_
  lk
  show qj2 K _ _ _
  obtain⟨us,m1,m2⟩:=uj.ok.m
  have hul:=RdO.ms_len m2
  have hul2:us.length=s6.ms.length+(#[71].take j).length:=by rw[hul];show(s6.ms++_).length=_;rw[length_append,length_map]
  have htl:(#[71].take j).length<=#[71].length:=by rw[length_take];omega
  walk_at"27"
  refine⟨r,_,a6.x,_,_,rfl,uj.ok.o,cz.cl_Reader,cz.na_Reader_mends,rfl,?_⟩
  walk_at"32"
  lk
  refine zr0 #[42] (Y0 hcc) ?_
  lk
  refine⟨⟨#[cc]⟩,rfl,by show 1<=30000;decide,?_⟩
  have ee:yx1 ⟨#[cc]⟩=(zn8 i g k).t:=by
   show _=if g.cps.toList[k]?=some 60 then _ else _
   rcases hlo with e|e
   ·rw[if_pos e]
    rw[e] at hcc
    obtain rfl:=Option.some.inj hcc
    exact zy9
   ·rw[if_neg (by rw[e];decide)]
    rw[e] at hcc
    obtain rfl:=Option.some.inj hcc
    exact zz0
  rw[ee]
  walk_at"6"
  lk
  have s8:=A7.new hp (.tup [.int (i+k),.int (i+k+1),.str (zn8 i g k).t,.str "sign"])
  refine L4 (s8 _ _ m1) (by rw[hul2,sizeLine_eq];omega) ?_
  have u8:=Rup.mend uj.ok s8 (SqT.of A6) m2
  refine⟨_,_,rfl,?_,C8.tr gj (C8.tr C8.upd C8.upd)⟩
  rw[Z5 hkk,map_append,<-append_assoc]
  exact uj.tr u8 gj
 rintro σ H8 ⟨x6,x7,rfl,u8,g8⟩
 have el:#[71].take (yd9 #[71]).length=qg1 g.cps.toList g.cps.toList.length:=by
  unfold yd9;rw[length_map];exact take_length
 rw[el] at u8
 have u8':Rup K k_Reader k_Branch r bv H7 a6 H8 a6 (wo2 s6 i g):=u8
 have b8:=b6.sign (i:=i) (g:=g)
 generalize wo2 s6 i g=s8 at *
 show qj3 K _ _ _ _
 walk_at"35"
 refine⟨r,_,_,rfl,u8'.ok.o,rfl,?_⟩
 lk
 obtain⟨lb,b9,e1,e2,e3,e4⟩:=b8.snoc
 have h3:=e4.ps
 have h4:=e4.t
 have h5:=b8.d
 have h6:=b8.l
 rw[e1,length_append,length_singleton] at h6
 refine⟨k_Reader,k_Branch,r,bv,a6,s8,lb,b9,i,g,t,rfl,u8'.ok,e1,by omega,by omega,by omega,by omega,fun a9 H9 u9 g9=>?_⟩
 refine q a9 H9 ?_ (C8.tr (C8.tr (C8.tr g56 (A7.grow s7)) g8) g9)
 have et:txS s8 i g t={s8 with bs:=lb++[{b9 with ps:=adP b9.ps t}],ls:=s8.ls++[⟨i,g,b9.pl++[(adN b9.ps:Int)],adA b9.ps⟩]}:=by
  unfold txS
  rw[e2,e1,dropLast_concat]
 rw[et]
 exact(((u56.tr (u6.ok.up s7) g56).tr u8' (C8.tr g56 (A7.grow s7)))).tr u9 (C8.tr (C8.tr g56 (A7.grow s7)) g8)
def U3(K:Fg):Sp:=fun vs H Q _=>∃ (kR kB r:Addr) (bv:V) (a:RAd) (st:Rst) (rs:List Row) (rk:Str->Nat) (P W M D T:Nat) (i:Int) (g t:Str),vs=[.ref r,.int i,.str g,.str t]/\RdO K H kR kB r bv a st/\BkO K H bv rs/\Bok rs rk/\Bg rs P W M D T st/\Lim P W M D T/\g.length<=10000/\t.length<=10000/\∀ a' H',Rup K kR kB r bv H a H' a' (qg5 rs st i g t)->C8 H H'->Q .non H'
def V0(K:Fg)(k_Reader:Addr):TS :=
 (C1 (E3 (D8 (qp6 K) [] E0 (A1 (T6 K (A2 0) "book") (A1 #[55] A9))) (B6 4))
 (qk0 K k_Reader))
theorem wj2(cz:Cz K k_Branch k_Reader)(h:U3 K vs H Q E):V0 K k_Reader {nx:=fun _ H'=>Q .non H',rt:=Q} (E2 ["self","start","signs","told","hosts","host","number","place"] vs) H:=by
 obtain⟨kR,kB,r,bv,a,st,rs,rk,P,W,M,D,T,i,g,t,rfl,h,hk,bk,bg,lim,hg,ht,q⟩:=h
 walk_at"5"
 show V0 K _ _ [some (.ref r),some (.int i),some (.str g),some (.str t),none,none,none,none] H
 unfold V0
 walk_at"16"
 have l3:=lim.M
 walk_at"14"
 walk_at"4"
 refine⟨k_Reader,k_Branch,r,bv,a,st,b0,bs0,rfl,h,eb0,by omega,fun p H1 s1 hp=>?_⟩
 lk
 rw[<-hnm] at hp
 have rest:∀ (v:V) (H2:Hp),A7 H H2->((20<(B5 st).length+(R3 rs st).length/\v=.non)\/(¬20<(B5 st).length+(R3 rs st).length/\∃ c,v=.ref c/\SqT K H2 c (B4 (R3 rs st))))->qk0 K k_Reader {nx:=fun _ H'=>Q .non H',rt:=Q} [some (.ref r),some (.int i),some (.str g),some (.str t),some v,none,none,none] H2:=fun v H2 s2 hv=>by
  have h2:=h.same s2
  have hk2:=hk.same s2
  walk_at"35"
  refine⟨r,_,_,rfl,h2.o,rfl,?_⟩
  lk
  refine⟨k_Reader,k_Branch,r,bv,a,st,b0,bs0,rs,rfl,h2,hk2,eb0,by omega,fun H3 s3=>?_⟩
  rw[<-hnm]
  have s23:=A7.tr s2 s3
  have h3:=h.same s23
  have hk3:=hk.same s23
  have g3:=A7.grow s23
  have stay:¬(M8 rs (some (V7 (B5 st)))=some #[53]/\yl6 t=true)->qj9 K k_Reader {nx:=fun _ H'=>Q .non H',rt:=Q} [some (.ref r),some (.int i),some (.str g),some (.str t),some v,none,none,none] H3:=fun hn=>by
   rcases hv with⟨hd,rfl⟩|⟨hd,c,rfl,hc⟩
   ·have eo:qg5 rs st i g t=qg2 st i g "deep":=by unfold qg5;rw[if_neg hn,if_pos hd]
    lk
    x_go
    show qj6 K _ _ _ _
    walk_at"35"
    refine⟨r,_,_,rfl,h3.o,rfl,?_⟩
    lk
    refine⟨k_Reader,k_Branch,r,bv,a,st,i,g, "deep",rfl,h3,by omega,by omega,fun H5 u5 g5=>?_⟩
    refine q a H5 ?_ (C8.tr g3 g5)
    rw[eo]
    exact(h.up s23).tr u5 g3
   ·have eo:qg5 rs st i g t=txS (wo2 (N9 rs i (S7 st (R3 rs st) i "host")) i g) i g t:=by unfold qg5;rw[if_neg hn,if_neg hd]
    lk
    k_go
    refine zg7 cz h3 hk3 bk bg lim hg ht (s3.sqT hc) hd fun a' H' u' g'=>q a' H' ?_ (C8.tr g3 g')
    rw[eo]
    exact(h.up s23).tr u' g3
  lk
  by_cases hf:M8 rs (some (V7 (B5 st)))=some #[53]
  ·rw[decide_eq_true hf]
   x_go
   lk
   refine⟨rfl,?_⟩
   lk
   refine⟨t, " \n",rfl,rfl,by omega,?_⟩
   lk
   by_cases hb:yl6 t=true
   ·have e1:=of_decide_eq_true hb
    rw[decide_eq_true e1]
    x_go
    have eo:qg5 rs st i g t=qg2 st i g "blank":=by unfold qg5;rw[if_pos ⟨hf,hb⟩]
    show qj8 K _ _ _ _
    walk_at"35"
    refine⟨r,_,_,rfl,h3.o,rfl,?_⟩
    lk
    refine⟨k_Reader,k_Branch,r,bv,a,st,i,g, "blank",rfl,h3,by omega,by omega,fun H5 u5 g5=>?_⟩
    refine q a H5 ?_ (C8.tr g3 g5)
    rw[eo]
    exact(h.up s23).tr u5 g3
   ·have e1:=of_decide_eq_false (Bool.eq_false_iff.mpr hb)
    rw[decide_eq_false e1]
    k_go
    exact stay fun z=>hb z.2
  ·rw[decide_eq_false hf]
   k_go
   first|exact stay fun z=>hf z.1|(refine qd5 ?_;exact stay fun z=>hf z.1)
 refine⟨bv,p,B5 st,rs,rfl,(hk.same s1).rws,bk.B,.inr hp,fun hd H2 s2=>?_,fun hd c H2 s2 hc=>?_⟩
 ·exact rest _ _ (A7.tr s1 s2) (.inl ⟨hd,rfl⟩)
 ·exact rest _ _ (A7.tr s1 s2) (.inr ⟨hd,c,rfl,hc⟩)
abbrev qv1(K:Fg)(k_Reader:Addr):TS :=
 (E9 (O1 k_Reader "read_closing" (O9 K) [] E0 (A2 0) (A1 (A2 2) (A1 (A2 3) #[3,4]))))
abbrev qv2(K:Fg)(k_Reader:Addr):TS :=
 (E9 (O1 k_Reader "read_run" (U3 K) [] E0 (A2 0) (A1 (A2 2) (A1 (A2 3) #[3,4]))))
abbrev qv3(K:Fg)(k_Reader:Addr):TS :=
 (E9 (O1 k_Reader "read_opening" (O8 K) [] E0 (A2 0) (A1 (A2 2) (A1 (A2 3) #[3,4]))))
abbrev qv4(K:Fg)(k_Reader:Addr):TS :=
 (S3 (G0 (tOp (qd0 K) (A2 1) (tC (.str "close"))))
 (qv1 K k_Reader) (qv2 K k_Reader))
def qa9(K:Fg):Sp:=fun vs H Q _=>∃ (kR kB r:Addr) (bv:V) (a:RAd) (st:Rst) (rs:List Row) (rk:Str->Nat) (P W M D T:Nat) (kind:Str) (i:Int) (g t:Str),vs=[.ref r,.str kind,.int i,.str g,.str t]/\RdO K H kR kB r bv a st/\BkO K H bv rs/\Bok rs rk/\Bg rs P W M D T st/\Lim P W M D T/\g.length<=10000/\t.length<=10000/\∀ a' H',Rup K kR kB r bv H a H' a' (qo8 rs rk st kind i g t)->C8 H H'->Q .non H'
def qf1(K:Fg)(k_Reader:Addr):TS :=
 (S3 (G0 (tOp (qd0 K) (A2 1) (tC (.str "open"))))
 (qv3 K k_Reader) (qv4 K k_Reader))
theorem wz9(cz:Cz K k_Branch k_Reader)(h:qa9 K vs H Q E):qf1 K k_Reader {nx:=fun _ H'=>Q .non H',rt:=Q} (E2 ["self","kind","start","signs","told"] vs) H:=by
 obtain⟨kR,kB,r,bv,a,st,rs,rk,P,W,M,D,T,kind,i,g,t,rfl,h,hk,bk,bg,lim,hg,ht,q⟩:=h
 obtain rfl:=N7 cz.ns_Reader h.kr
 show qf1 K _ _ [some (.ref r),some (.str kind),some (.int i),some (.str g),some (.str t)] H
 unfold qf1
 lk
 by_cases ho:kind=("open":Str)
 ·rw[decide_eq_true ho]
  x_go
  show qv3 K _ _ _ _
  have eo:qo8 rs rk st kind i g t=opS rs rk st i g t:=by unfold qo8;rw[if_pos ho]
  rw[eo] at q
  walk_at"4"
  exact⟨k_Reader,kB,r,bv,a,st,rs,rk,P,W,M,D,T,i,g,t,rfl,h,hk,bk,bg,lim,by omega,q⟩
 rw[decide_eq_false ho]
 k_go
 show qv4 K _ _ _ _
 lk
 by_cases hc:kind=("close":Str)
 ·rw[decide_eq_true hc]
  x_go
  show qv1 K _ _ _ _
  have eo:qo8 rs rk st kind i g t=O5 rs rk st i g t:=by unfold qo8;rw[if_neg ho,if_pos hc]
  rw[eo] at q
  walk_at"4"
  exact⟨k_Reader,kB,r,bv,a,st,rs,rk,P,W,M,D,T,i,g,t,rfl,h,hk,bk,bg,lim,by omega,q⟩
 ·rw[decide_eq_false hc]
  k_go
  show qv2 K _ _ _ _
  have eo:qo8 rs rk st kind i g t=qg5 rs st i g t:=by unfold qo8;rw[if_neg ho,if_neg hc]
  rw[eo] at q
  walk_at"4"
  exact⟨k_Reader,kB,r,bv,a,st,rs,rk,P,W,M,D,T,i,g,t,rfl,h,hk,bk,bg,lim,hg,ht,q⟩
inductive TkC(l:List Nat):Nat->List PyData->Prop
 | nil {p:Nat}:p=l.length->TkC l p []
 | cons {p e:Nat} {kind t:Str} {ds:List PyData}:p<e->e<=l.length->t.length<=e-p->TkC l e ds->TkC l p (.tuple [.str kind,.int (p:Int),.int (e:Int),.str t]::ds)
theorem wv6:∀ (k:Nat) (l:List Nat),(TX.told k l).length<=l.length
 | _,[]=>by simp[TX.told]
 | k+1,c::l=>by rw[TX.told];have:=wv6 k l;simp;omega
 | 0,c::l=>by
   rw[TX.told]
   have h0:=wv6 0 l
   have h2:=wv6 2 l
   split
   ·simp;omega
   ·split <;> (simp;omega)
theorem yq4(l:List Nat):(TX.ofL l).length=l.length:=by unfold TX.ofL;simp[PySem.Str.length]
theorem xk2(h:s<=k)(hk:k<=l.length)(hd:TkC l k ds):TkC l s (TX.runs l s k++ds):=by
 unfold TX.runs
 by_cases e:s<k
 ·rw[if_pos e]
  unfold TX.runD
  refine .cons e hk ?_ hd
  rw[yq4]
  have:=wv6 0 ((l.drop s).take (k-s))
  rw[length_take,length_drop] at this
  omega
 ·rw[if_neg e]
  obtain rfl:s=k:=by omega
  exact hd
theorem xy5(l:List Nat):∀ (n k s:Nat),s<=k->k<=l.length->TkC l s (TX.cutAt l n k s)
 | 0,k,s,h,hk=>by
   rw[TX.cutAt]
   have:=xk2 (l:=l) (s:=s) (k:=l.length) #[0] #[6] (.nil rfl)
   simpa using this
 | n+1,k,s,h,hk=>by
   rw[TX.cutAt]
   by_cases e:l.length<=k
   ·rw[if_pos e]
    have:=xk2 (l:=l) (s:=s) (k:=l.length) #[0] #[6] (.nil rfl)
    simpa using this
   ·rw[if_neg e]
    cases ht:TX.tagAt l k with
    | none=>exact xy5 l n (k+1) s #[0] #[0]
    | some fe =>
      obtain⟨f,e2⟩:=fe
      obtain⟨h1,h2,h3,h4,_⟩:=TX.tagAt_gt ht
      refine xk2 h hk ?_
      unfold TX.tagD
      refine .cons h1 h2 ?_ (xy5 l n e2 e2 #[6] h2)
      rw[yq4,length_take,length_drop]
      have:k<f:=by rw[h3];unfold TX.nst;split <;> omega
      omega
theorem yg0(l:List Nat):TkC l 0 (TX.toks l 0 0):=xy5 l _ 0 0 #[6] (Nat.zero_le _)
def st0:Rst:=⟨[S5],[],[]⟩
def xe1(rs:List Row)(rk:Str->Nat)(z:Str)(st:Rst):PyData->Rst
 | .tuple [.str kind,.int i,.int e,.str t]=>qo8 rs rk st kind i (qi9 z (some i) (some e)) t
 | _=>st
def we7(rs:List Row)(rk:Str->Nat)(z:Str):Rst:=#[27].foldl (xe1 rs rk z) st0
def rdS(rs:List Row)(rk:Str->Nat)(z:Str):Rst:=W3 rs (we7 rs rk z) 0 z.length "end"
def rtS(st:Rst):List Tr:=(st.bs.headD S5).ps
theorem zg8(z:Str)(lo hi:Option Int):(qi9 z lo hi).length<=z.length:=by
 unfold qi9
 show(List.toArray _).size<=z.cps.size
 rw[size_toArray,length_take,length_drop,Array.length_toList]
 omega
theorem yx4(z:Str){p:Nat}(h1:p<=e)(h2:e<=z.length):(qi9 z (some (p:Int)) (some (e:Int))).length=e-p:=by
 have gl:z.cps.toList.length=z.length:=Array.length_toList
 unfold qi9
 show(List.toArray _).size=_
 rw[size_toArray,length_take,length_drop,HT.qp0,HT.qp0]
 omega
theorem bg0(rs:List Row):Bg rs 0 0 0 0 0 st0:=by
 refine⟨fun c hc=>?_,rfl,fun c hc=>(by cases hc),by unfold st0;simp,by unfold st0;simp,Nat.le_refl _,Nat.le_refl _⟩
 rw[mem_singleton.mp hc]
 exact⟨by show(0:Nat)<=_;omega,Nat.le_refl _,Nat.le_refl _,fun n hn=>(by cases hn),Nat.le_refl _⟩
theorem yq5{rs:List Row}{rk:Str->Nat}{z:Str}(b:Bok rs rk):∀ (ds:List PyData) (p j:Nat) (st:Rst),TkC z.cps.toList p ds->j<=p->Bg rs (2*j) (20*j) (60*j+p) j p st->∀ i,i<=ds.length->∃ p',p<=p'/\p'<=z.length/\j+i<=p'/\TkC z.cps.toList p' (ds.drop i)/\Bg rs (2*(j+i)) (20*(j+i)) (60*(j+i)+p') (j+i) p' ((ds.take i).foldl (xe1 rs rk z) st)
 | [],p,j,st,h,hj,hb,i,hi=>by
   obtain rfl:i=0:=by simpa using hi
   cases h with
   | nil e=>exact⟨p,Nat.le_refl _,by rw[e];exact Nat.le_of_eq Array.length_toList,hj,.nil e,hb⟩
 | d :: ds,p,j,st,h,hj,hb,0,_=>by
   refine⟨p,Nat.le_refl _,?_,hj,h,hb⟩
   cases h with
   | cons h1 h2 _ _ =>
     have:z.cps.toList.length=z.length:=Array.length_toList
     omega
 | d :: ds,p,j,st,h,hj,hb,i+1,hi=>by
   cases h with
   | cons h1 h2 h3 h4 =>
     rename_i e kind t
     have gl:z.cps.toList.length=z.length:=Array.length_toList
     have hs:=hb.step (rk:=rk) (kind:=kind) (i:=(p:Int)) (g:=qi9 z (some (p:Int)) (some (e:Int))) (t:=t) b
     rw[yx4 z #[0] #[0]] at hs
     have hs2:=hs.mono (P':=2*(j+1)) (W':=20*(j+1)) (M':=60*(j+1)+e) (D':=j+1) (T':=e) #[0] #[0] #[0] #[0] #[0]
     obtain⟨p',q1,q2,q3,q4,q5⟩:=yq5 b ds e (j+1) _ h4 #[0] hs2 i (by simpa using hi)
     refine⟨p',by omega,q2,by omega,q4,?_⟩
     rw[show j+(i+1)=j+1+i by omega]
     exact q5
theorem xy6(b:Bok rs rk)(i:Nat)(hi:i<=#[27].length):∃ p,p<=z.length/\i<=p/\TkC z.cps.toList p (#[27].drop i)/\Bg rs (2*i) (20*i) (60*i+p) i p ((#[27].take i).foldl (xe1 rs rk z) st0):=by
 obtain⟨p,_,h1,h2,h3,h4⟩:=yq5 (z:=z) b #[27] 0 0 st0 (yg0 _) #[6] (bg0 rs) i hi
 rw[Nat.zero_add] at h2 h4
 exact⟨p,h1,h2,h3,h4⟩
abbrev wo3(K:Fg)(k_Reader:Addr):TS :=
 (E9 (O1 k_Reader "read" (qa9 K) [] E0 (A2 2) (A1 (A2 3) (A1 (A2 4) (A1 (tSl (wg2 K) (A2 1) (U8 (A2 4)) (U8 (A2 5))) #[3,6])))))
abbrev wo4(K:Fg)(k_Reader:Addr):TS :=
 (C1 (E9 (O1 k_Reader "finish" (X1 K) [] E0 (A2 2) (A1 #[110] A9)))
 (L6 (A2 2)))
abbrev wo5(K:Fg)(k_Reader:Addr):TS :=
 (C1 (qr1 (qy5 K (D8 (qq1 K) [] E0 #[3,1])) (yt1 K 4 (we5 (B6 3) (we5 (B6 4) (we5 (B6 5) (we5 (B6 6) yt0)))))
 (wo3 K k_Reader))
 (wo4 K k_Reader))
def qq5(K:Fg):Sp:=fun vs H Q _=>∃ (bv:V) (z:Str) (rs:List Row) (rk:Str->Nat),vs=[bv,.str z]/\BkO K H bv rs/\Bok rs rk/\z.length<=10000/\∀ (kR kB r:Addr) (a:RAd) (H':Hp),RdO K H' kR kB r bv a (rdS rs rk z)->A7 H H'->(∀ x∈RAd.fp r a,H x=none)->Q (.ref r) H'
def qv5(K:Fg)(k_Reader:Addr):TS :=
 (C1 (E3 (yb1 k_Reader (qa5 K) [] E0 #[3,0]) (B6 2))
 (wo5 K k_Reader))
theorem xy7(cz:Cz K k_Branch k_Reader)(h:qq5 K vs H Q E):qv5 K k_Reader {nx:=fun _ H'=>Q .non H',rt:=Q} (E2 ["book","text","reader","kind","start","stop","told"] vs) H:=by
 obtain⟨bv,z,rs,rk,rfl,hk,bk,hz,q⟩:=h
 show qv5 K _ _ [some bv,some (.str z),none,none,none,none,none] H
 unfold qv5
 lk
 refine xw6 ?_
 lk
 intro r dx hr hdx ne
 have s0:A7 H (upd (upd H dx (.own r)) r (.ins k_Reader dx [])):=fun c u e=>E1 (E1 e (Y5 hdx e)) (Y5 hr e)
 have e0:(upd (upd H dx (.own r)) r (.ins k_Reader dx [])) r=some (.ins k_Reader dx []):=A6
 have g0:C8 H (upd (upd H dx (.own r)) r (.ins k_Reader dx [])):=C8.tr C8.upd C8.upd
 generalize upd (upd H dx (.own r)) r (.ins k_Reader dx [])=H0 at *
 refine⟨k_Reader,r,dx,bv,rfl,cz.ns_Reader,e0,fun kB a H1 h1 bt1 fr1 g1=>⟨rfl,?_⟩⟩
 have s1:A7 H H1:=fun c u e=>bt1 c u (s0 c u e) (by simp;exact Y5 hr e)
 have hk1:=hk.same s1
 have fr2:∀ x∈RAd.fp r a,H x=none:=fun x hx=>by
  rcases fr1 x hx with h|h
  ·rw[h];exact hr
  ·exact g0 _ h
 show wo5 K _ _ _ _
 lk
 refine⟨z,rfl,by omega,fun p us H2 s2 hp0 hp hd=>?_⟩
 have h2:=h1.same s2
 have hk2:=hk1.same s2
 have np:p∉RAd.fp r a:=h1.nop hp0
 have hul:=hd.length
 refine qr2 #[52,hp] (fun j σ H'=>∃ a' x3 x4 x5 x6,σ=[some bv,some (.str z),some (.ref r),x3,x4,x5,x6]/\Rup K k_Reader kB r bv H2 a H' a' ((#[27].take j).foldl (xe1 rs rk z) st0)/\C8 H2 H') ?_ ?_ ?_ ?_
 ·exact⟨a,none,none,none,none,rfl,.keep h2 fun c o e _=>e,fun z hz=>hz⟩
 ·rintro j σ H' _ ⟨a',x3,x4,x5,x6,rfl,u,g⟩
  exact SqL.of (u.bt _ _ hp np)
 ·rintro j v σ H' hv ⟨a',x3,x4,x5,x6,rfl,u,g⟩
  have hj:j<us.length:=by rcases Nat.lt_or_ge j us.length with h|h;exact h;rw[List.getElem?_eq_none_iff.mpr h] at hv;cases hv
  have hj2:j<#[27].length:=by omega
  obtain⟨pp,hp1,hp2,hp3,bj⟩:=xy6 (z:=z) bk j #[0]
  have hjd:#[27][j]?=some (#[27][j]'hj2):=List.getElem?_eq_getElem _
  obtain⟨w,hw,dw⟩:=hd.get hjd
  rw[hv] at hw
  obtain rfl:=Option.some.inj hw
  have ef:(#[27].take (j+1)).foldl (xe1 rs rk z) st0=xe1 rs rk z ((#[27].take j).foldl (xe1 rs rk z) st0) (#[27][j]'hj2):=by
   rw[Z5 hjd,foldl_append];rfl
  rw[PAt,ef]
  generalize (#[27].take j).foldl (xe1 rs rk z) st0=sj at *
  rw[<-List.getElem_cons_drop (h:=hj2)] at hp3
  generalize #[27][j]'hj2=d at *
  cases hp3 with
  | cons c1 c2 c3 c4 =>
  rename_i e kind t
  have gl:z.cps.toList.length=z.length:=Array.length_toList
  have tk:=u.tupK h2
  obtain⟨q1,ws,rfl,hq,hwd⟩:=D7.mp dw
  rw[Dvs] at hwd;obtain⟨v0,r0,rfl,d0,hwd⟩:=hwd
  rw[Dvs] at hwd;obtain⟨v1,r1,rfl,d1,hwd⟩:=hwd
  rw[Dvs] at hwd;obtain⟨v2,r2,rfl,d2,hwd⟩:=hwd
  rw[Dvs] at hwd;obtain⟨v3,r3,rfl,d3,hwd⟩:=hwd
  rw[Dvs] at hwd;subst hwd
  obtain rfl:=G2.mp d0
  obtain rfl:=P1.mp d1
  obtain rfl:=P1.mp d2
  obtain rfl:=G2.mp d3
  refine⟨q1,_,rfl,tk.sqT hq,rfl,_,_,rfl,J0 ⟨_,_,rfl,J0 ⟨_,_,rfl,J0 ⟨_,_,rfl,J0 ⟨rfl,?_⟩⟩⟩⟩⟩
  show wo3 K _ _ _ _
  walk_at"35"
  refine⟨r,_,_,rfl,u.ok.o,rfl,?_⟩
  lk
  refine xr9 (E5 #[0]) ?_
  lk
  have hcl:=zg8 z (some (pp:Int)) (some (e:Int))
  refine⟨k_Reader,kB,r,bv,a',sj,rs,rk,_,_,_,_,_,kind,pp,_,t,rfl,u.ok,hk2.tupK tk,bk,bj,⟨by omega,by omega,by omega,by omega,by omega⟩,by omega,by omega,fun a2 H3 u2 g2=>?_⟩
  exact⟨a2,_,_,_,_,rfl,u.tr u2 g,C8.tr g g2⟩
 ·rintro σ H' ⟨a',x3,x4,x5,x6,rfl,u,g⟩
  obtain⟨pp,hp1,hp2,hp3,bj⟩:=xy6 (z:=z) bk #[27].length #[6]
  rw[hul,take_length] at u
  rw[take_length] at bj
  have u':Rup K k_Reader kB r bv H2 a H' a' (we7 rs rk z):=u
  have bj':Bg rs _ _ _ _ _ (we7 rs rk z):=bj
  have tk:=u'.tupK h2
  show wo4 K _ _ _ _
  walk_at"35"
  refine⟨r,_,_,rfl,u'.ok.o,rfl,?_⟩
  lk
  refine .inr (.inl ⟨z,rfl,E5 #[0],?_⟩)
  lk
  have erd:rdS rs rk z=W3 rs (we7 rs rk z) 0 z.length "end":=rfl
  generalize we7 rs rk z=sj at *
  obtain⟨b0,cl,eb⟩:=exists_cons_of_ne_nil bj'.ne
  have hl:=bj'.l
  have hm:=bj'.m
  have hcl:cl.length<=20:=by rw[eb] at hl;simp at hl;omega
  refine⟨k_Reader,kB,r,bv,a',sj,rs,cl,b0,z.length,rfl,u'.ok,hk2.tupK tk,eb,by omega,bj'.cond #[0] #[0],by omega,fun a3 H3 u3 g3=>?_⟩
  lk
  have uu:=u'.tr u3 g
  have e5:=xy4 (rs:=rs) (st:=sj) (pre:=[]) (cl:=cl) (b:=b0) (i:=z.length) (rule := "end") eb
  have e6:rdS rs rk z={sj with bs:=wUp rs #[88] [{b0 with ps:=b0.ps++N3 cl}],ms:=sj.ms++cl.reverse.map (clM z.length "end")}:=erd.trans e5
  have u4:Rup K k_Reader kB r bv H2 a H3 a3 (rdS rs rk z):=by rw[e6];exact uu
  refine q _ kB r a3 H3 u4.ok (fun c o e=>u4.bt c o (s2 c o (s1 c o e)) fun hc=>?_) fun x hx=>?_
  ·have:=fr2 c hc;rw[e] at this;cases this
  ·rcases u4.fr x hx with h|h
   ·exact fr2 x h
   ·exact(A7.grow s1) _ (A7.grow s2 _ h)
abbrev wo6(K:Fg)(k_Reader:Addr):TS :=
 (L6 (T7 (A1 (O1 k_Reader "root" (qa6 K) [] E0 (A2 2) A9) (A1 (T6 K (A2 2) "mends") A9))))
def qq6(K:Fg):Sp:=fun vs H Q _=>∃ (bv:V) (z:Str) (rs:List Row) (rk:Str->Nat),vs=[bv,.str z]/\BkO K H bv rs/\Bok rs rk/\z.length<=10000/\∀ (v1:V) (p q:Addr) (us:List V) (H':Hp),SqT K H' p [v1,.ref q]->Dv K H' (Tr.nd "" (rtS (rdS rs rk z))).da v1->H' q=some (.lst us)->Dvs K H' ((rdS rs rk z).ms.map Mnd.da) us->A7 H H'->H q=none->Q (.ref p) H'
def qv6(K:Fg)(k_Reader:Addr):TS :=
 (C1 (E3 (D8 (qq5 K) [] E0 (A1 (A2 0) #[3,1])) (B6 2))
 (wo6 K k_Reader))
theorem xy8(cz:Cz K k_Branch k_Reader)(h:qq6 K vs H Q E):qv6 K k_Reader {nx:=fun _ H'=>Q .non H',rt:=Q} (E2 ["book","text","reader"] vs) H:=by
 obtain⟨bv,z,rs,rk,rfl,hk,bk,hz,q⟩:=h
 show qv6 K _ _ [some bv,some (.str z),none] H
 unfold qv6
 lk
 refine⟨bv,z,rs,rk,rfl,hk,bk,hz,fun kR kB r a H1 h1 s1 hn=>?_⟩
 obtain rfl:=N7 cz.ns_Reader h1.kr
 show wo6 K _ _ _ _
 walk_at"35"
 refine⟨r,_,_,rfl,h1.o,rfl,?_⟩
 lk
 have hne:(rdS rs rk z).bs≠[]:=wd5 (by simp)
 obtain⟨b',t',ebf⟩:=exists_cons_of_ne_nil hne
 have ert:rtS (rdS rs rk z)=b'.ps:=by unfold rtS;rw[ebf];rfl
 refine⟨k_Reader,kB,r,bv,a,_,b',t',rfl,h1,ebf,fun v H2 s2 hv=>?_⟩
 rw[<-ert] at hv
 have h2:=h1.same s2
 obtain⟨us,m1,m2⟩:=h2.m
 walk_at"27"
 refine⟨r,_,a.x,_,_,rfl,h2.o,cz.cl_Reader,cz.na_Reader_mends,rfl,?_⟩
 walk_at"6"
 have s3:=A7.new hp (.tup [v,.ref a.M])
 exact q v p a.M us _ (SqT.of A6) (Dv.same s3 _ _ hv) (s3 _ _ m1) (Dvs.same s3 _ _ m2) (A7.tr (A7.tr s1 s2) s3) (hn _ (by simp[RAd.fp]))
mutual
theorem zs0:∀ t:Tr,nd t.da=true
 | .tx s=>by rw[Tr.da,nd]
 | .nd n ps=>by rw[Tr.da,nd,nds,nd,nds,nd,nds,yq6 ps];rfl
theorem yq6:∀ ts:List Tr,nds (Tr.das ts)=true
 | []=>by rw[Tr.das,nds]
 | t::ts=>by rw[Tr.das,nds,zs0 t,yq6 ts];rfl
end
mutual
theorem yg1:∀ t:Tr,t.da.depth<=2*hgt t+4
 | .tx s=>by rw[Tr.da];simp[PyData.depth]
 | .nd n ps=>by
   have:=xt3 ps
   rw[Tr.da,hgt]
   simp[PyData.depth,PyData.depthAll] at this ⊢
   omega
theorem xt3:∀ ts:List Tr,PyData.depthAll (Tr.das ts)<=2*Z4 ts+4
 | []=>by rw[Tr.das];simp[PyData.depthAll]
 | t::ts=>by
   have h1:=yg1 t
   have h2:=xt3 ts
   rw[Tr.das,Z4]
   simp[PyData.depthAll] at h2 ⊢
   omega
end
theorem zg9:∀ ms:List Mnd,nds (ms.map Mnd.da)=true
 | []=>rfl
 | m::ms=>by rw[map_cons,nds,zg9 ms];rfl
theorem yg2:∀ ms:List Mnd,PyData.depthAll (ms.map Mnd.da)<=4
 | []=>by simp[PyData.depthAll]
 | m::ms=>by
   have:=yg2 ms
   rw[map_cons,PyData.depthAll]
   have h2:m.da.depth<=4:=by unfold Mnd.da;simp[PyData.depth,PyData.depthAll]
   omega
theorem zo3{t:Tr}{ms:List Mnd}{x y:V}(hh:hgt t<=80)(h1:Dv K H (.tuple [t.da,.list (ms.map Mnd.da)]) x)(h2:Dv K H (.tuple [t.da,.list (ms.map Mnd.da)]) y)(q:Q (.bl true) H):qd0 K x y H Q:=by
 refine Ad0 h1 h2 ?_ ?_
 ·have e1:=yg1 t
  have e2:=yg2 ms
  simp only[PyData.depth,PyData.depthAll]
  omega
 ·rw[wt2 _ (by rw[nd,nds,zs0,nds,nd,zg9,nds];rfl)];exact q
def Bh(m:Nat)(bs:List Brn):Prop:=∀ (i:Nat) (c:Brn),bs[i]?=some c->Z4 c.ps+i<=m
variable{bs':List Brn}
section
variable{m:Nat}{bs:List Brn}{rs:List Row}
theorem Bh.map(h:Bh m bs)(e:bs'.map Brn.ps=bs.map Brn.ps):Bh m bs':=fun i c hc=>by
 have h1:(bs'.map Brn.ps)[i]?=some c.ps:=by rw[List.getElem?_map,hc];rfl
 rw[e,List.getElem?_map] at h1
 obtain⟨d,hd,ed⟩:=Option.map_eq_some_iff.mp h1
 rw[<-ed];exact h i d hd
theorem Bh.take(h:Bh m bs)(k:Nat):Bh m (bs.take k):=fun i c hc=>by
 rw[List.getElem?_take] at hc
 split at hc
 ·exact h i c hc
 ·cases hc
theorem Bh.snoc(h:Bh m bs)(hb:Z4 b.ps+bs.length<=m):Bh m (bs++[b]):=fun i c hc=>by
 rcases Nat.lt_or_ge i bs.length with hi|hi
 ·rw[List.getElem?_append_left hi] at hc;exact h i c hc
 ·rw[List.getElem?_append_right hi] at hc
  rcases Nat.eq_zero_or_pos (i-bs.length) with h0|h0
  ·rw[h0] at hc
   obtain rfl:=Option.some.inj hc
   rw[show i=bs.length by omega];exact hb
  ·rw[List.getElem?_eq_none_iff.mpr #[86]] at hc;cases hc
theorem yq7:∀ (C:List Brn) (j:Nat),(∀ i e,C[i]?=some e->Z4 e.ps+(j+i)<=m)->j<=m+1->Z4 (N3 C)+j<=m+1
 | [],j,_,hj=>by rw[N3,Z4];omega
 | e::t,j,h,hj=>by
   have h0:=h 0 e rfl
   have h1:=yq7 t (j+1) (fun i e he=>by have:=h (i+1) e (by simpa using he);omega) #[0]
   rw[N3,Z4,Z4,hgt,qr5]
   omega
theorem Bh.cls(h:Bh m st.bs)(hk:k<st.bs.length)(hl:st.bs.length<=m+1):Bh m (W3 rs st k i rule).bs:=by
 have e:(W3 rs st k i rule).bs.map Brn.ps=(st.bs.take k++[{(st.bs[k]) with ps:=(st.bs[k]).ps++N3 (st.bs.drop (k+1))}]).map Brn.ps:=by
  show(wUp rs _ _).map Brn.ps=_
  rw[qm4 fun _ _=>rfl,xy2 hk]
 refine Bh.map ?_ e
 refine(h.take k).snoc ?_
 have h0:=h k _ (List.getElem?_eq_getElem hk)
 have h1:=yq7 (m:=m) (st.bs.drop (k+1)) (k+1) (fun i e he=>by
  rw[List.getElem?_drop] at he
  exact h _ e he) #[0]
 show Z4 (_++_)+_<=m
 rw[qr5,length_take];omega
theorem Bh.ent(h:Bh m bs)(hl:bs.length<=m):Bh m (P4 bs n):=by
 unfold P4
 refine h.snoc ?_
 show Z4 []+_<=m
 rw[Z4];omega
theorem Bh.puts:∀ {ns:List Str} {st:Rst} {i:Int} {rule:Str},Bh m st.bs->st.bs.length+ns.length<=m->Bh m (S7 st ns i rule).bs
 | [],st,i,rule,h,_=>h
 | n::ns,st,i,rule,h,hl=>by
   rw[length_cons] at hl
   exact Bh.puts (st:=wj0 st n i rule) (h.ent #[0]) (by rw[qz7];omega)
theorem Bh.lv(h:Bh m bs)(h2:2<=bs.length):Bh m (lvB bs):=by
 obtain⟨l,b1,b2,rfl⟩:=qn7 h2
 rw[qn6]
 have h1:=h l.length b1 (by simp)
 have h3:=h (l.length+1) b2 (by simp)
 have e:l++[b1,b2]=l++([b1]++[b2]):=rfl
 have hl:Bh m l:=fun i c hc=>h i c (by rw[List.getElem?_append_left (List.getElem?_eq_some_iff.mp hc).1];exact hc)
 refine hl.snoc ?_
 show Z4 (b1.ps++[Tr.nd b2.n b2.ps])+_<=m
 rw[qr5,Z4,Z4,hgt];omega
theorem Ae5(ps:List Tr)(t:Str):Z4 (adP ps t)<=max (Z4 ps) (hgt (.tx t)):=by
 unfold adP
 split
 ·rename_i u e
  have hd:Z4 ps.dropLast<=Z4 ps:=by
   have e2:ps=ps.dropLast++[.tx u]:=by
    rcases eq_nil_or_concat ps with h|⟨q,x,h⟩
    ·rw[h] at e;cases e
    ·rw[concat_eq_append] at h
     rw[h,getLast?_concat] at e
     rw[h,dropLast_concat,Option.some.inj e]
   have h1:=qr5 ps.dropLast [.tx u]
   rw[<-e2] at h1
   omega
  rw[qr5,Z4,Z4,hgt,hgt];omega
 ·rw[qr5,Z4,Z4];omega
theorem Bh.tx(h:Bh m st.bs)(hne:st.bs≠[])(hl:st.bs.length<=m):Bh m (txS st i g t).bs:=by
 rcases eq_nil_or_concat st.bs with e|⟨l,b,e⟩
 ·exact absurd e hne
 ·rw[concat_eq_append] at e
  have e1:(txS st i g t).bs=l++[{b with ps:=adP b.ps t}]:=by
   show st.bs.dropLast++[{(S6 st.bs) with ps:=adP (S6 st.bs).ps t}]=_
   rw[e,qr9,dropLast_concat]
  rw[e1]
  rw[e] at h hl
  have h1:=h l.length b (by simp)
  have hl':Bh m l:=fun i c hc=>h i c (by rw[List.getElem?_append_left (List.getElem?_eq_some_iff.mp hc).1];exact hc)
  refine hl'.snoc ?_
  have:=Ae5 b.ps t
  rw[hgt] at this
  show Z4 (adP b.ps t)+_<=m
  rw[length_append,length_singleton] at hl
  omega
theorem Bh.wup(h:Bh m bs):Bh m (wUp rs f bs):=h.map (qm4 #[36] bs)
theorem xy9{i:Int}:∀ (ws:List Str) (st:Rst),Bh 21 st.bs->st.bs.length<=21->st.bs≠[]->Bh 21 (ws.foldl (J8 rs i) st).bs
 | [],st,h,_,_=>h
 | n::ws,st,h,hl,hne=>by
   rw[foldl_cons]
   have hp:0<st.bs.length:=length_pos_iff.mpr hne
   by_cases ha:qz6 rs (B5 st) n=true
   ·have e:J8 rs i st n=wj0 st n i "anew":=by unfold J8;rw[if_pos ha]
    rw[e]
    unfold qz6 at ha
    rw[Bool.and_eq_true,decide_eq_true_eq] at ha
    walk_at"23"
    exact xy9 ws _ (h.ent hl) (by rw[qz7];omega) (by show P4 st.bs n≠[];unfold P4;simp)
   ·have e:J8 rs i st n=st:=by unfold J8;rw[if_neg ha]
    rw[e]
    exact xy9 ws st h hl hne
theorem Bh.step{M D T:Nat}(b:Bok rs rk)(bg:Bg rs P W M D T st)(h:Bh 21 st.bs):Bh 21 (qo8 rs rk st kind i g t).bs:=by
 have hl:=bg.l
 have hnl:=bg.nlen
 unfold qo8
 split
 ·unfold opS
  split
  ·exact h
  rename_i hs
  split
  ·exact h
  split
  ·exact h
  rename_i hlen
  have hrow:=wz6 hs
  have w:=wm3 b.B b.f (ys:=B5 st) 13 t hrow (b.k t)
  obtain⟨ps,hps⟩:=wz5 (rs:=rs) (rk:=rk) (ys:=B5 st) 13 t
  have hw1:=w.k
  generalize N0 rs rk (B5 st) 13 t=wt at *
  have hk:wt.1<st.bs.length:=by omega
  have e1:wt.2.dropLast=ps:=by rw[hps,dropLast_concat]
  have e2:wt.2.length=ps.length+1:=by rw[hps];simp
  have hc:=h.cls (rs:=rs) (i:=i) (rule := "shut") hk #[0]
  have hcl:#[64].bs.length=wt.1+1:=by rw[wd6,length_take];omega
  have hp:=Bh.puts (ns:=ps) (i:=i) (rule := "frame") hc (by rw[hcl];omega)
  have hpl:=wm9 ps #[64] i "frame"
  rw[e1]
  dsimp only
  have he:=hp.ent (n:=t) #[0]
  split
  ·refine he.lv ?_
   show 2<=(P4 _ t).length
   unfold P4
   rw[length_append,hpl,hcl,length_singleton];omega
  ·exact he
 split
 ·unfold O5
  split
  ·rename_i k hk
   have:=wy5 hk
   refine(h.cls (rs:=rs) #[0] #[0]).lv ?_
   rw[wd6,length_take];omega
  ·split
   ·exact h.wup
   ·exact h
 ·unfold qg5
  split
  ·exact h
  split
  ·exact h
  rename_i hlen
  have hh:(R3 rs st).length<=12:=qk8 rs 12 _
  have hp:=Bh.puts (ns:=R3 rs st) (i:=i) (rule := "host") h #[0]
  have hpb:=bg.puts (ns:=R3 rs st) (i:=i) (rule := "host") #[0] fun m hm=>by
   have:=qz1 b.B 12 _ m hm
   exact⟨b.row this,this⟩
  have hA:=hpb.anews (i:=i) b.n
  refine Bh.tx ?_ hA.ne (by have:=hA.l;exact this)
  unfold wo2 N9
  exact xy9 _ _ hp.wup (by show(wUp rs _ _).length<=21;rw[wd3];exact hpb.l) (wd5 hpb.ne)
theorem yq8{rk:Str->Nat}{z:Str}(b:Bok rs rk):∀ (ds:List PyData) (p:Nat) (st:Rst) (P W M D T:Nat),TkC z.cps.toList p ds->Bg rs P W M D T st->Bh 21 st.bs->Bh 21 (ds.foldl (xe1 rs rk z) st).bs
 | [],_,_,_,_,_,_,_,_,_,h=>h
 | d::ds,p,st,P,W,M,D,T,hd,bg,h=>by
   cases hd with
   | cons _ _ _ h4=>exact yq8 b ds _ _ _ _ _ _ _ h4 (bg.step b) (h.step b bg)
theorem zo4(b:Bok rs rk):hgt (Tr.nd "" (rtS (rdS rs rk z)))<=80:=by
 have h0:Bh 21 st0.bs:=fun i c hc=>by
  cases i with
  | zero=>simp[st0] at hc;subst hc;show Z4 []+0<=21;rw[Z4];omega
  | succ i=>simp[st0] at hc
 have h1:=yq8 (z:=z) b _ 0 st0 _ _ _ _ _ (yg0 _) (bg0 rs) h0
 obtain⟨p,_,_,_,bj⟩:=xy6 (z:=z) b #[27].length #[6]
 rw[take_length] at bj
 have hp:0<(we7 rs rk z).bs.length:=length_pos_iff.mpr bj.ne
 have hl:(we7 rs rk z).bs.length<=21:=bj.l
 have h2:Bh 21 (rdS rs rk z).bs:=Bh.cls (rs:=rs) (i:=z.length) (rule := "end") h1 hp #[0]
 have hne:(rdS rs rk z).bs≠[]:=wd5 (by simp)
 obtain⟨c,t,e⟩:=exists_cons_of_ne_nil hne
 have h3:=h2 0 c (by rw[e];rfl)
 rw[hgt]
 unfold rtS
 rw[e]
 show 1+Z4 c.ps<=80
 omega
end
theorem yq9:∀ {l:List Nat},(∀ c∈l,c≠38)->TX.told 0 l=l
 | [],_=>rfl
 | c::l,h=>by rw[TX.told_n (TX.ne_pre (h c (by simp))) (TX.ne_pre (h c (by simp))),yq9 fun d hd=>h d (by simp[hd])]
theorem qf2(z:Str):z.cps.toList.length=z.length:=Array.length_toList
theorem xz0(z:Str):TX.ofL z.cps.toList=z:=by unfold TX.ofL;cases z;simp
def rml(H:Hp)(ps:List Addr):Hp:=fun z=>if z∈ps then none else H z
theorem yl9{z:Addr}(h:z∈ps):rml H ps z=none:=if_pos h
theorem qh5{z:Addr}(h:z∉ps):rml H ps z=H z:=if_neg h
theorem yg3:A7 (rml H ps) H:=fun c o e=>by
 by_cases h:c∈ps
 ·rw[yl9 h] at e;cases e
 ·rw[qh5 h] at e;exact e
theorem A7.rml(s:A7 H0 H)(h:∀ z∈ps,H0 z=none):A7 H0 (rml H ps):=fun c o e=>by
 rw[qh5 fun hc=>by rw[h c hc] at e;cases e];exact s c o e
inductive HsB(K:Fg)(H:Hp):List Addr->List (List Tr)->Prop
 | nil:HsB K H [] []
 | cons {a:Addr} {w:List Tr} {us:List V} {as:List Addr} {ws:List (List Tr)}:H a=some (.lst us)->Dvs K H (Tr.das w) us->HsB K H as ws->HsB K H (a::as) (w::ws)
structure Hps(K:Fg)(H:Hp)(L:Addr)(as:List Addr)(ws:List (List Tr)):Prop where
 l:H L=some (.lst (as.map V.ref))
 b:HsB K H as ws
 nd:(L::as).Nodup
variable{w':List Tr}
section
variable{H':Hp}{L:Addr}{as as2:List Addr}{ws ws2:List (List Tr)}{w:List Tr}{ps:List Addr}
theorem HsB.len(h:HsB K H as ws):as.length=ws.length:=by
 induction h with
 | nil=>rfl
 | cons _ _ _ ih=>simp[ih]
theorem HsB.but(h:HsB K H as ws)(bt:But ps H H')(tk:S4 H H')(hd:∀ z∈as,z∉ps):HsB K H' as ws:=by
 induction h with
 | nil=>exact .nil
 | cons h1 h2 _ ih=>exact .cons (bt _ _ h1 (hd _ (by simp))) (Dvs.tupK tk _ _ (Y2 _) h2) (ih fun z hz=>hd z (by simp[hz]))
theorem HsB.app(h:HsB K H as ws)(h2:HsB K H as2 ws2):HsB K H (as++as2) (ws++ws2):=by
 induction h with
 | nil=>exact h2
 | cons h1 h3 _ ih=>exact .cons h1 h3 ih
theorem HsB.snoc(h:HsB K H as (ws++[w])):∃ as' a us,as=as'++[a]/\HsB K H as' ws/\H a=some (.lst us)/\Dvs K H (Tr.das w) us:=by
 induction ws generalizing as with
 | nil=>cases h with|cons h1 h2 h3=>cases h3;exact⟨[],_,_,rfl,.nil,h1,h2⟩
 | cons c ws ih =>
   cases h with
   | cons h1 h2 h3 =>
     obtain⟨as',a,us,rfl,h4,h5,h6⟩:=ih h3
     exact⟨_::as',a,us,rfl,.cons h1 h2 h4,h5,h6⟩
theorem HsB.mut(h:HsB K H as ws):∀ z∈as,xi3 H z:=by
 induction h with
 | nil=>intro z hz;cases hz
 | cons h1 _ _ ih =>
   intro z hz
   rcases mem_cons.mp hz with rfl|hz
   ·exact .inl ⟨_,h1⟩
   ·exact ih z hz
theorem Hps.mut(h:Hps K H L as ws):∀ z∈L::as,xi3 H z:=fun z hz=>by
 rcases mem_cons.mp hz with rfl|hz
 ·exact .inl ⟨_,h.l⟩
 ·exact h.b.mut z hz
theorem xi3.some{z:Addr}(h:xi3 H z):H z≠none:=fun e=>by
 rcases h with⟨xs,e2⟩|⟨C,dx,fs,e2⟩ <;> rw[e] at e2 <;> cases e2
theorem Hps.but(h:Hps K H L as ws)(bt:But ps H H')(tk:S4 H H')(hd:∀ z∈L::as,z∉ps):Hps K H' L as ws :=
 ⟨bt _ _ h.l (hd _ (by simp)),h.b.but bt tk fun z hz=>hd z (by simp[hz]),h.nd⟩
theorem Hps.same(h:Hps K H L as ws)(s:A7 H H'):Hps K H' L as ws:=h.but (ps:=[]) (fun c o e _=>s c o e) s.tupK fun _ _ z=>by cases z
theorem Hps.upd(h:Hps K H L as ws)(hp:xi3 H p\/H p=none)(hn:p∉L::as):Hps K (upd H p o) L as ws :=
 h.but But.upd1 (hp.elim N8 fun e=>(A7.new e o).tupK) fun z hz e=>hn (by rw[mem_singleton.mp e] at hz;exact hz)
theorem Hps.pop(h:Hps K H L as (ws++[w])):∃ as' a us,as=as'++[a]/\H L=some (.lst (as'.map V.ref++[.ref a]))/\Hps K (L2.upd H L (.lst (as'.map V.ref))) L as' ws/\(L2.upd H L (.lst (as'.map V.ref))) a=some (.lst us)/\Dvs K (L2.upd H L (.lst (as'.map V.ref))) (Tr.das w) us:=by
 obtain⟨as',a,us,rfl,h1,h2,h3⟩:=h.b.snoc
 have nd:=h.nd
 rw[nodup_cons,nodup_append] at nd
 have tk:S4 H (L2.upd H L (.lst (as'.map V.ref))):=N8 (.inl ⟨_,h.l⟩)
 have nL:∀ z∈as'++[a],z≠L:=fun z hz e=>nd.1 (e▸hz)
 refine⟨as',a,us,rfl,by rw[h.l,map_append];rfl,⟨A6,h1.but But.upd1 tk fun z hz e=>nL z (by simp[hz]) (mem_singleton.mp e),?_⟩,E1 h2 (nL a (by simp)),Dvs.tupK tk _ _ (Y2 _) h3⟩
 rw[nodup_cons]
 exact⟨fun e=>nd.1 (by simp[e]),nd.2.1⟩
theorem Hps.top(h:Hps K H L as (ws++[w])):∃ as' a us,as=as'++[a]/\H a=some (.lst us)/\Dvs K H (Tr.das w) us/\H L=some (.lst (as'.map V.ref++[.ref a]))/\∀ w' us',Dvs K H (Tr.das w') us'->Hps K (L2.upd H a (.lst us')) L as (ws++[w']):=by
 obtain⟨as',a,us,rfl,h1,h2,h3⟩:=h.b.snoc
 have nd:=h.nd
 rw[nodup_cons,nodup_append] at nd
 refine⟨as',a,us,rfl,h2,h3,by rw[h.l,map_append];rfl,fun w' us' hd=>?_⟩
 have tk:S4 H (L2.upd H a (.lst us')):=N8 (.inl ⟨_,h2⟩)
 refine⟨E1 h.l fun e=>nd.1 #[118],(h1.but But.upd1 tk fun z hz e=>nd.2.2.2 z hz a (by simp) (mem_singleton.mp e)).app (.cons A6 (Dvs.tupK tk _ _ (Y2 _) hd) .nil),h.nd⟩
theorem Hps.get(h:Hps K H L (as++[a]) (ws++[w])):∃ us,H a=some (.lst us)/\Dvs K H (Tr.das w) us:=by
 obtain⟨as',a',us,e,h1,h2,h3⟩:=h.b.snoc
 obtain⟨rfl,e2⟩:=append_inj' e rfl
 obtain rfl:=(List.cons.inj e2).1
 exact⟨us,h2,h3⟩
theorem Hps.put{us':List V}(h:Hps K H L (as++[a]) (ws++[w]))(hd:Dvs K H (Tr.das w') us'):Hps K (L2.upd H a (.lst us')) L (as++[a]) (ws++[w']):=by
 obtain⟨as',a',us,e,_,_,_,q⟩:=h.top
 obtain⟨rfl,e2⟩:=append_inj' e rfl
 obtain rfl:=(List.cons.inj e2).1
 exact q w' us' hd
theorem Hps.push(h:Hps K H L as ws)(hp:H p=none)(hd:Dvs K H (Tr.das w) us):Hps K (L2.upd (L2.upd H p (.lst us)) L (.lst (as.map V.ref++[.ref p]))) L (as++[p]) (ws++[w]):=by
 have nd:=h.nd
 have s:=A7.new hp (.lst us)
 have nL:p≠L:=fun e=>by rw[e,h.l] at hp;cases hp
 have na:∀ z∈as,z≠p:=fun z hz e=>(h.b.mut z hz).some (e▸hp)
 have h1:=h.same s
 have e1:(L2.upd H p (.lst us)) p=some (.lst us):=A6
 have d1:=Dvs.same s _ _ hd
 generalize L2.upd H p (.lst us)=H1 at *
 have tk:S4 H1 (L2.upd H1 L (.lst (as.map V.ref++[.ref p]))):=N8 (.inl ⟨_,h1.l⟩)
 rw[nodup_cons] at nd
 refine⟨by rw[A6,map_append];rfl,(h1.b.but But.upd1 tk fun z hz e=>nd.1 (by rw[mem_singleton.mp e] at hz;exact hz)).app (.cons (E1 e1 nL) (Dvs.tupK tk _ _ (Y2 _) d1) .nil),?_⟩
 rw[nodup_cons,nodup_append]
 exact⟨fun e=>(mem_append.mp e).elim nd.1 fun e=>nL (mem_singleton.mp e).symm,nd.2,by simp,fun x hx y hy e=>na x hx (by rw[e];exact mem_singleton.mp hy)⟩
theorem Hps.one(h1:H p=some (.lst []))(h2:H L=some (.lst [.ref p])):Hps K H L [p] [[]] :=
 ⟨h2,.cons h1 (by rw[Tr.das];exact I9) .nil,by
  rw[nodup_cons]
  exact⟨fun e=>(by rw[mem_singleton.mp e,h1] at h2;cases h2),by simp⟩⟩
theorem Hps.first(h:Hps K H L as (w::ws)):∃ a as' us,as=a::as'/\H a=some (.lst us)/\Dvs K H (Tr.das w) us:=by
 have:=h.b
 cases this with
 | cons h1 h2 h3=>exact⟨_,_,_,rfl,h1,h2⟩
end
theorem yg4{w:List Tr}{t:Tr}(h:Dvs K H (Tr.das w) us)(hv:Dv K H t.da v):Dvs K H (Tr.das (w++[t])) (us++[v]):=by
 rw[Y1,map_append,<-Y1]
 exact Dvs.append h (Dvs.one hv)
structure FlB(names:List Str)(c:Nat)(srt:Nat->Str)(rs:List Row):Prop where
 len:rs.length=c
 row:∀ (k:Nat) (r:Row),rs[k]?=some r->r=Row.mk (gd names k) (srt k) "" [] []
 ok:∀ k,k<c->xi6 (srt k)/\srt k≠#[53]
section
variable{names:List Str}{c:Nat}{srt:Nat->Str}{rs:List Row}
theorem FlB.mem(h:FlB names c srt rs)(hr:r∈rs):∃ k,k<c/\r=⟨gd names k,srt k, "",[],[]⟩:=by
 obtain⟨k,hk,e⟩:=List.getElem_of_mem hr
 exact⟨k,by rw[<-h.len];exact hk,h.row k r (by rw[List.getElem?_eq_getElem hk,e])⟩
theorem FlB.nofr(h:FlB names c srt rs)(hr:r∈rs):r.sort≠#[53]:=by
 obtain⟨k,hk,rfl⟩:=h.mem hr
 exact(h.ok k hk).2
theorem FlB.names_eq(h:FlB names c srt rs)(hc:c<=names.length):rs.map (·.name)=names.take c:=by
 apply ext_getElem?
 intro i
 rw[List.getElem?_map,List.getElem?_take]
 by_cases hi:i<c
 ·have hi':i<rs.length:=by rw[h.len];exact hi
  have e1:rs[i]?=some rs[i]:=List.getElem?_eq_getElem hi'
  rw[if_pos hi,e1,qk7 #[0]]
  show some (rs[i].name)=_
  rw[h.row i _ e1]
 ·rw[if_neg hi,List.getElem?_eq_none_iff.mpr (by rw[h.len];omega)];rfl
theorem FlB.bok(h:FlB names c srt rs)(hN:Nms names)(hc:c<=names.length)(h1:1<=c)(h12:c<=12):Bok rs fun _=>0:=by
 have nm:∀ r∈rs,Row.name r∈names:=fun r hr=>by
  have:r.name∈names.take c:=by rw[<-h.names_eq hc];exact mem_map_of_mem hr
  exact mem_of_mem_take this
 refine⟨⟨by rw[h.len];exact h1,by rw[h.len];exact h12,?_,fun r hr=>hN.ne _ (nm r hr),⟨fun _=>0,fun r hr=>Nat.zero_lt_succ _,fun r hr hf=>absurd hf (h.nofr hr)⟩,fun r hr _=>?_,fun r hr r' hr' hf=>absurd hf (h.nofr hr),fun r hr=>?_,fun r hr x hx f hf hs=>absurd hs (h.nofr hf)⟩,fun x y e=>?_,fun _=>Nat.zero_le _,fun r hr=>?_,fun r hr=>?_⟩
 ·rw[h.names_eq hc];exact hN.nd.sublist (take_sublist _ _)
 ·obtain⟨k,hk,rfl⟩:=h.mem hr;rfl
 ·obtain⟨k,hk,rfl⟩:=h.mem hr;exact(h.ok k hk).1
 ·obtain⟨r,hr,_,hf,_⟩:=wy4 e
  exact absurd hf (h.nofr hr)
 ·have:=hN.le _ (nm r hr);omega
 ·obtain⟨k,hk,rfl⟩:=h.mem hr
  exact⟨Nat.zero_le _,Nat.zero_le _⟩
theorem FlB.frame(h:FlB names c srt rs)(x:Option Str):N1 rs x=none:=by
 unfold N1
 rw[find?_eq_none.mpr fun r hr=>?_];rfl
 rw[decide_eq_false (h.nofr hr)];simp
theorem FlB.host(h:FlB names c srt rs)(x:Option Str):R7 rs x=none:=by
 unfold R7
 cases e:qb1 rs x with
 | none=>rfl
 | some r =>
   show(if r.sort=#[53] then _ else _)=_
   rw[if_neg (h.nofr (mem_of_find?_eq_some e))]
theorem FlB.hosts(h:FlB names c srt rs)(x:Str):M6 rs x=[]:=by
 unfold M6 qg8
 rw[h.host]
theorem FlB.shuts(h:FlB names c srt rs)(x:Str):qm0 rs x=[]:=by
 unfold qm0
 cases e:qb1 rs (some x) with
 | none=>rfl
 | some r=>obtain⟨k,_,rfl⟩:=h.mem (mem_of_find?_eq_some e);rfl
theorem FlB.bars(h:FlB names c srt rs)(x:Str):wc4 rs x=[]:=by
 unfold wc4
 cases e:qb1 rs (some x) with
 | none=>rfl
 | some r=>obtain⟨k,_,rfl⟩:=h.mem (mem_of_find?_eq_some e);rfl
theorem FlB.rowAt(h:FlB names c srt rs)(hN:Nms names)(hc:c<=names.length)(hk:k<c):qb1 rs (some (gd names k))=some ⟨gd names k,srt k, "",[],[]⟩:=by
 have hk2:k<rs.length:=by rw[h.len];exact hk
 have e:rs[k]?=some rs[k]:=List.getElem?_eq_getElem hk2
 have hr:rs[k]∈rs:=List.getElem_mem hk2
 have:=yw7 (rs:=rs) (by rw[h.names_eq hc];exact hN.nd.sublist (take_sublist _ _)) hr
 rw[h.row k _ e] at this
 exact this
theorem FlB.sort(h:FlB names c srt rs)(hN:Nms names)(hc:c<=names.length)(hk:k<c):M8 rs (some (gd names k))=some (srt k):=by
 unfold M8;rw[h.rowAt hN hc hk];rfl
theorem FlB.nofrS(h:FlB names c srt rs)(x:Option Str):M8 rs x≠some #[53]:=by
 unfold M8
 cases e:qb1 rs x with
 | none=>simp
 | some r =>
   intro z
   exact h.nofr (mem_of_find?_eq_some e) (Option.some.inj z)
theorem yr0(ys:List Str):∀ m k,kpt ys [] k m=k+m
 | 0,k=>rfl
 | m+1,k=>by rw[kpt,if_neg (by simp),yr0 ys m];omega
theorem FlB.want(h:FlB names c srt rs)(ys:List Str)(rk:Str->Nat)(x:Str):N0 rs rk ys 13 x=(ys.length,[x]):=by
 rw[N0,wu6,h.frame]
 show qn5 rs ys x=_
 unfold qn5
 rw[if_pos (h.hosts _)]
 have:=qz0 rs ys.length ys rfl
 unfold xc4
 rw[h.shuts,yr0]
 congr 1
 omega
theorem FlB.bar(h:FlB names c srt rs)(ks:List Str)(x:Str):bar rs ks [x]=false:=by
 rw[My.bar,h.bars,My.bar]
 simp
theorem zo5(h:∀ ws,f ws=ws)(bs:List Brn):wUp rs f bs=bs:=by
 cases bs with
 | nil=>unfold wUp;split <;> rfl
 | cons c t =>
   obtain⟨l1,b,l2,e,h2⟩:=wv3 rs (bs:=c::t) (by simp)
   rw[e,qw9 h2,h]
theorem yx5{kept:Nat}(h:kept+1=st.bs.length):W3 rs st kept i rule=st:=by
 have e1:st.bs.drop (kept+1)=[]:=drop_eq_nil_of_le #[0]
 have e2:st.bs.take kept++[st.bs[kept]'#[0]]=st.bs:=by rw[<-Z5 (List.getElem?_eq_getElem #[0]),h,take_length]
 unfold W3
 rw[e1,xy2 #[0]]
 have e3:P8 rs (([]:List Brn).map Brn.n)=[]:=rfl
 rw[e3,zo5 fun ws=>append_nil ws]
 show({bs:=st.bs.take kept++[{(st.bs[kept]'#[0]) with ps:=(st.bs[kept]'#[0]).ps++[]}],ms:=st.ms++[],ls:=st.ls}:Rst)=st
 rw[append_nil,append_nil]
 show({bs:=st.bs.take kept++[st.bs[kept]'#[0]],ms:=st.ms,ls:=st.ls}:Rst)=st
 rw[e2]
theorem FlB.op(h:FlB names c srt rs)(hne:st.bs≠[])(hl:st.bs.length<=20)(hs:M8 rs (some n)≠none):opS rs rk st i g n=if M8 rs (some n)=some ("bare":Str) then lvS {st with bs:=P4 st.bs n} else{st with bs:=P4 st.bs n}:=by
 have hp:0<st.bs.length:=length_pos_iff.mpr hne
 walk_at"23"
 unfold opS
 rw[if_neg hs,h.want,h.bar]
 show(if false=true then _ else if 20<(B5 st).length+1 then _ else _)=_
 rw[if_neg #[10],if_neg #[0],yx5 hnl]
 rfl
theorem FlB.run(h:FlB names c srt rs)(hne:st.bs≠[])(hl:st.bs.length<=21):qg5 rs st i g t=txS (wo2 (N9 rs i st) i g) i g t:=by
 have hp:0<st.bs.length:=length_pos_iff.mpr hne
 walk_at"23"
 have hh:R3 rs st=[]:=h.hosts _
 unfold qg5
 rw[if_neg fun z=>h.nofrS _ z.1,hh,if_neg #[86]]
 rfl
end
def lvN:Nat->List Brn->List Brn
 | 0,bs=>bs
 | j+1,bs=>lvB (lvN j bs)
theorem wa0:∀ (C A:List Brn) (y:Brn),lvN C.length (A++y::C)=A++[{y with ps:=y.ps++N3 C}]
 | [],A,y=>by
   show A++[y]=_
   rw[N3,append_nil]
 | c::C,A,y=>by
   have ih:=wa0 C (A++[y]) c
   rw[append_assoc,singleton_append] at ih
   show lvB (lvN C.length (A++y::c::C))=_
   rw[ih,append_assoc,singleton_append,qn6,N3]
theorem yg5{pre:List Brn}(e:st.bs=pre++b::cl):W3 rs st pre.length i rule={st with bs:=wUp rs #[88] (lvN cl.length st.bs),ms:=st.ms++cl.reverse.map (clM i rule)}:=by
 rw[xy4 e,e,wa0]
def nz(st:Rst):Rst:={st with ls:=[]}
section
variable{rs:List Row}{rk:Str->Nat}{st st':Rst}{i:Int}{g n t:Str}
theorem yr1(ns:List Str)(st:Rst)(i:Int)(rule:Str):S7 (nz st) ns i rule=nz (S7 st ns i rule):=by
 induction ns generalizing st with
 | nil=>rfl
 | cons n ns ih=>exact ih (wj0 st n i rule)
theorem zs1(st:Rst):nz (opS rs rk st i g n)=opS rs rk (nz st) i g n:=by
 unfold opS
 have e:B5 (nz st)=B5 st:=rfl
 rw[e]
 split
 ·rfl
 split
 ·rfl
 split
 ·rfl
 have e2:∀ k,W3 rs (nz st) k i "shut"=nz (W3 rs st k i "shut"):=fun k=>rfl
 rw[e2,yr1]
 dsimp only
 split <;> rfl
theorem zh0(st:Rst):nz #[80,n]=O5 rs rk (nz st) i g n:=by
 unfold O5
 have e:B5 (nz st)=B5 st:=rfl
 rw[e]
 split
 ·rfl
 ·show nz (if n∈lwS rs st.bs then _ else _)=if n∈lwS rs st.bs then _ else _
  split <;> rfl
theorem zo6(ws:List Str)(st:Rst):ws.foldl (J8 rs i) (nz st)=nz (ws.foldl (J8 rs i) st):=by
 induction ws generalizing st with
 | nil=>rfl
 | cons n ws ih =>
   rw[foldl_cons,foldl_cons]
   have:J8 rs i (nz st) n=nz (J8 rs i st n):=by
    unfold J8
    show(if qz6 rs (B5 st) n=true then _ else _)=_
    split <;> rfl
   rw[this,ih]
theorem zh1(st:Rst):N9 rs i (nz st)=nz (N9 rs i st):=zo6 _ {st with bs:=wUp rs (fun _=>[]) st.bs}
theorem zh2(st:Rst):nz (qg5 rs st i g t)=nz (qg5 rs (nz st) i g t):=by
 unfold qg5
 have e:B5 (nz st)=B5 st:=rfl
 have e2:R3 rs (nz st)=R3 rs st:=rfl
 rw[e,e2]
 split
 ·rfl
 split
 ·rfl
 ·rw[yr1,zh1];rfl
end
theorem zo7{bs:List Brn}(h:bs≠[]):lwS rs (wUp rs f bs)=f (lwS rs bs):=by
 obtain⟨l1,b,l2,e,h2⟩:=wv3 rs h
 have h3:LwP rs l1 {b with ws:=f b.ws} l2:=by
  rcases h2 with h2|⟨h2,h3⟩
  ·exact .inl h2
  ·exact .inr ⟨h2,fun c hc=>by
    rcases mem_cons.mp hc with rfl|hc
    ·exact h3 b (by simp)
    ·exact h3 c (by simp[hc])⟩
 rw[e,qw9 h2,ql0 h3,ql0 h2]
theorem zo8{bs:List Brn}(h:bs≠[]):lwS rs (bs++[b])=if L0 rs b.n=true then b.ws else lwS rs bs:=by
 obtain⟨l1,c,l2,e,h2⟩:=wv3 rs h
 by_cases hw:L0 rs b.n=true
 ·rw[if_pos hw]
  exact ql0 (.inl ⟨hw,fun c hc=>by cases hc⟩)
 ·rw [if_neg hw,e]
  have hw':=Bool.eq_false_iff.mpr hw
  have h3:LwP rs l1 c (l2++[b]):=by
   rcases h2 with⟨h2,h3⟩|⟨h2,h3⟩
   ·exact .inl ⟨h2,fun d hd=>by
     rcases mem_append.mp hd with hd|hd
     ·exact h3 d hd
     ·rw[mem_singleton.mp hd];exact hw'⟩
   ·exact .inr ⟨h2,fun d hd=>by
     rcases mem_cons.mp hd with hd|hd
     ·rw[hd];exact h3 c (by simp)
     ·rcases mem_append.mp hd with hd|hd
      ·exact h3 d (by simp[hd])
      ·rw[mem_singleton.mp hd];exact hw'⟩
  rw[ql0 h2]
  rw[append_assoc,cons_append,ql0 h3]
theorem yr2{rs:List Row}{i:Int}:∀ (ws:List Str) (st:Rst),st.bs≠[]->lwS rs st.bs=[]->lwS rs (ws.foldl (J8 rs i) st).bs=[]/\(ws.foldl (J8 rs i) st).bs≠[]
 | [],st,h,h2=>⟨h2,h⟩
 | n :: ws,st,h,h2=>by
   rw[foldl_cons]
   refine yr2 ws _ ?_ ?_
   ·unfold J8
    split
    ·show P4 st.bs n≠[];unfold P4;simp
    ·exact h
   ·unfold J8
    split
    ·show lwS rs (P4 st.bs n)=[]
     unfold P4
     rw[zo8 h]
     split
     ·rfl
     ·exact h2
    ·exact h2
theorem zh3(h:st.bs≠[]):lwS rs (N9 rs i st).bs=[]/\(N9 rs i st).bs≠[]:=by
 unfold N9
 exact yr2 _ _ (wd5 h) (by show lwS rs (wUp rs _ st.bs)=[];rw[zo7 h])
theorem zo9{bs:List Brn}(h:bs.map (fun b=>(b.n,b.ws))=bs'.map (fun b=>(b.n,b.ws))):lwS rs bs=lwS rs bs':=by
 by_cases hn:bs=[]
 ·subst hn
  have:bs'=[]:=by simpa using h.symm
  subst this;rfl
 obtain⟨l1,b,l2,e,h2⟩:=wv3 rs hn
 rw[e,map_append,map_cons] at h
 obtain⟨m1,m2,e1,e2,e3⟩:=map_eq_append_iff.mp h.symm
 obtain⟨b',m3,e4,e5,e6⟩:=map_eq_cons_iff.mp e3
 have hb:b'.n=b.n/\b'.ws=b.ws:=⟨congrArg Prod.fst e5,congrArg Prod.snd e5⟩
 have hm:∀ c∈m3,∃ d∈l2,d.n=c.n:=fun c hc=>by
  have:(c.n,c.ws)∈l2.map (fun b=>(b.n,b.ws)):=by rw[<-e6];exact mem_map_of_mem hc
  obtain⟨d,hd,e⟩:=mem_map.mp this
  exact⟨d,hd,congrArg Prod.fst e⟩
 have h3:LwP rs m1 b' m3:=by
  rcases h2 with⟨h2,h3⟩|⟨h2,h3⟩
  ·refine .inl ⟨by rw[hb.1];exact h2,fun c hc=>?_⟩
   obtain⟨d,hd,ed⟩:=hm c hc
   rw[<-ed];exact h3 d hd
  ·refine .inr ⟨?_,fun c hc=>?_⟩
   ·subst h2;simpa using e2
   ·rcases mem_cons.mp hc with rfl|hc
    ·rw[hb.1];exact h3 b (by simp)
    ·obtain⟨d,hd,ed⟩:=hm c hc
     rw[<-ed];exact h3 d (by simp[hd])
 rw[e,e1,e4,ql0 h2,ql0 h3,hb.2]
theorem zp0(ps:List Tr)(t u:Str):adP (adP ps t) u=adP ps (t++u):=by
 have key:∀ (qs:List Tr) (x:Str),adP (qs++[Tr.tx x]) u=qs++[Tr.tx (x++u)]:=fun qs x=>by
  unfold adP;rw[getLast?_concat];simp
 cases h:ps.getLast? with
 | none =>
   have e:∀ w,adP ps w=ps++[.tx w]:=fun w=>by unfold adP;rw[h]
   rw[e,e,key]
 | some x =>
   cases x with
   | tx v =>
     have e:∀ w,adP ps w=ps.dropLast++[.tx (v++w)]:=fun w=>by unfold adP;rw[h]
     rw[e,e,key]
     congr 3
     rw[W9]
     simp[PySem.Str.cps_append]
   | nd m qs =>
     have e:∀ w,adP ps w=ps++[.tx w]:=fun w=>by unfold adP;rw[h]
     rw[e,e,key]
def we8(w:Str):Prop:=∀ c∈w.cps.toList,c≠60/\c≠38
theorem zh4(h:we8 w):qg1 w.cps.toList w.cps.toList.length=[]:=by
 unfold qg1
 rw[filter_eq_nil_iff]
 intro i _ e
 unfold yf0 at e
 have n1:¬w.cps.toList[i]?=some 60:=fun z=>(h 60 (mem_of_getElem? z)).1 rfl
 have n2:¬w.cps.toList[i]?=some 38:=fun z=>(h 38 (mem_of_getElem? z)).2 rfl
 rw[decide_eq_false n1,decide_eq_false n2] at e
 cases e
theorem xf3(h:we8 w)(st:Rst)(i:Int):wo2 st i w=st:=by
 unfold wo2
 rw[zh4 h,map_nil,append_nil]
theorem we8.app{a b:Str}(h:we8 a)(h2:we8 b):we8 (a++b):=fun c hc=>by
 rw[PySem.Str.cps_append,Array.toList_append] at hc
 exact(mem_append.mp hc).elim (h c) (h2 c)
theorem wj3{l:List Brn}(e:st.bs=l++[b]):(txS st i g t).bs=l++[{b with ps:=adP b.ps t}]:=by
 show st.bs.dropLast++[{(S6 st.bs) with ps:=adP (S6 st.bs).ps t}]=_
 rw[e,qr9,dropLast_concat]
variable{srt:Nat->Str}
theorem FlB.merge(F:FlB names c srt rs){M D T:Nat}(bk:Bok rs rk)(bg:Bg rs P W M D T st){s p:Int}(hg:we8 g)(hw:we8 w):nz (qg5 rs st s (g++w) (g++w))=nz (qg5 rs (qg5 rs st s g g) p w w):=by
 have e1:=F.run (i:=s) (g:=g++w) (t:=g++w) bg.ne bg.l
 have e2:=F.run (i:=s) (g:=g) (t:=g) bg.ne bg.l
 have b2:=bg.run (i:=s) (g:=g) (t:=g) bk
 rw[F.run b2.ne b2.l,e1,e2,xf3 (hg.app hw),xf3 hg,xf3 hw]
 obtain⟨h1,h2⟩:=zh3 (rs:=rs) (i:=s) bg.ne
 generalize N9 rs s st=A at *
 obtain⟨l,b,eA⟩:∃ l b,A.bs=l++[b]:=by
  rcases eq_nil_or_concat A.bs with e|⟨l,b,e⟩
  ·exact absurd e h2
  ·exact⟨l,b,by rw[e,concat_eq_append]⟩
 have eB:=wj3 (i:=s) (g:=g) (t:=g) eA
 have hB:lwS rs (txS A s g g).bs=[]:=by
  rw[<-h1,eB,eA]
  apply zo9
  simp
 have hBne:(txS A s g g).bs≠[]:=by rw[eB];simp
 have eW:wUp rs (fun _=>[]) (txS A s g g).bs=(txS A s g g).bs:=by
  obtain⟨l1,d,l2,e,hl⟩:=wv3 rs hBne
  rw[e,ql0 hl] at hB
  rw[e,qw9 hl,show({d with ws:=[]}:Brn)=d by rw[<-hB]]
 have eN:N9 rs p (txS A s g g)=txS A s g g:=by
  unfold N9
  rw[hB,eW];rfl
 rw[eN]
 have e3:=wj3 (i:=p) (g:=w) (t:=w) eB
 have e4:=wj3 (i:=s) (g:=g++w) (t:=g++w) eA
 show({bs:=(txS A s (g++w) (g++w)).bs,ms:=A.ms,ls:=[]}:Rst)={bs:=(txS (txS A s g g) p w w).bs,ms:=A.ms,ls:=[]}
 rw[e3,e4]
 show({bs:=l++[{b with ps:=adP b.ps (g++w)}],ms:=A.ms,ls:=[]}:Rst)={bs:=l++[{b with ps:=adP (adP b.ps g) w}],ms:=A.ms,ls:=[]}
 rw[zp0]
inductive Pc
 | op (n:Str)
 | cl (n:Str)
 | wd (w:Str)
def Pc.tx:Pc->List Nat
 | .op n=>60::(n.cps.toList++[62])
 | .cl n=>60::47::(n.cps.toList++[62])
 | .wd w=>w.cps.toList
def txP(ps:List Pc):List Nat:=ps.flatMap Pc.tx
structure yx6(n:Str):Prop where
 n1:1<=n.length
 n8:n.length<=8
 lt:∀ c∈n.cps.toList,97<=c/\c<=122
def Pc.ok:Pc->Prop
 | .op n=>yx6 n
 | .cl n=>yx6 n
 | .wd w=>we8 w/\1<=w.length
def stP(rs:List Row)(rk:Str->Nat)(p:Nat)(st:Rst):Pc->Rst
 | .op n=>opS rs rk st p (opn n) n
 | .cl n=>O5 rs rk st p (cls n) n
 | .wd w=>qg5 rs st p w w
def pw(rs:List Row)(rk:Str->Nat):Nat->List Pc->Rst->Rst
 | _,[],st=>st
 | p,x::ps,st=>pw rs rk (p+x.tx.length) ps (stP rs rk p st x)
theorem zz1{p:Nat}{A B:Rst}(x:Pc)(h:nz A=nz B):nz (stP rs rk p A x)=nz (stP rs rk p B x):=by
 cases x with
 | op n=>show nz (opS _ _ _ _ _ _)=nz (opS _ _ _ _ _ _);rw[zs1,zs1,h]
 | cl n=>show nz (O5 _ _ _ _ _ _)=nz (O5 _ _ _ _ _ _);rw[zh0,zh0,h]
 | wd w=>show nz (qg5 _ _ _ _ _)=nz (qg5 _ _ _ _ _);rw[zh2,h,<-zh2]
theorem zs2{rs:List Row}{rk:Str->Nat}:∀ (ps:List Pc) (p:Nat) {A B:Rst},nz A=nz B->nz (pw rs rk p ps A)=nz (pw rs rk p ps B)
 | [],_,_,_,h=>h
 | x::ps,p,A,B,h=>zs2 ps _ (zz1 x h)
theorem zz2{P R:List Nat}(el:l=P++60::(n.cps.toList++62::R))(h:yx6 n):TX.tagAt l P.length=some (P.length+1,P.length+n.length+2)/\TX.tagD l P.length (P.length+1) (P.length+n.length+2)=.tuple [.str "open",.int (P.length:Int),.int ((P.length+n.length+2:Nat):Int),.str n]:=by
 have en:=qf2 n
 have h1:=h.n1
 have h8:=h.n8
 have at0:l[P.length]?=some 60:=by rw[el];simp
 have dr:l.drop (P.length+1)=n.cps.toList++62::R:=by
  rw[el,drop_append,drop_eq_nil_of_le #[0],show P.length+1-P.length=1 by omega];rfl
 have hnm:TX.nm (l.drop (P.length+1))=some n.length:=by
  walk_at"24"
  rw[decide_eq_true this.1,decide_eq_true this.2];rfl
 have hns:TX.nst l P.length=P.length+1:=by
  unfold TX.nst
  rw[if_neg]
  intro e
  have e2:(l.drop (P.length+1))[0]?=some 47:=by rw[List.getElem?_drop];exact e
  rw[dr,List.getElem?_append_left #[0],List.getElem?_eq_getElem #[0]] at e2
  have:=h.lt _ (List.getElem_mem (show 0<n.cps.toList.length by omega))
  have e3:=Option.some.inj e2
  omega
 constructor
 ·unfold TX.tagAt
  rw[if_pos at0,hns,hnm]
  show some (P.length+1,P.length+1+n.length+1)=_
  rw[show P.length+1+n.length+1=P.length+n.length+2 by omega]
 ·unfold TX.tagD
  rw[if_pos rfl,dr,show P.length+n.length+2-1-(P.length+1)=n.cps.toList.length by omega,take_left' rfl,xz0]
theorem zz3{P R:List Nat}(el:l=P++60::47::(n.cps.toList++62::R))(h:yx6 n):TX.tagAt l P.length=some (P.length+2,P.length+n.length+3)/\TX.tagD l P.length (P.length+2) (P.length+n.length+3)=.tuple [.str "close",.int (P.length:Int),.int ((P.length+n.length+3:Nat):Int),.str n]:=by
 have en:=qf2 n
 have h1:=h.n1
 have h8:=h.n8
 have at0:l[P.length]?=some 60:=by rw[el];simp
 have at1:l[P.length+1]?=some 47:=by rw[el,List.getElem?_append_right #[0]];simp
 have dr:l.drop (P.length+2)=n.cps.toList++62::R:=by
  rw[el,drop_append,drop_eq_nil_of_le #[0],show P.length+2-P.length=2 by omega];rfl
 have hnm:TX.nm (l.drop (P.length+2))=some n.length:=by
  walk_at"24"
  rw[decide_eq_true this.1,decide_eq_true this.2];rfl
 have hns:TX.nst l P.length=P.length+2:=by
  unfold TX.nst
  rw[if_pos at1]
 constructor
 ·unfold TX.tagAt
  rw[if_pos at0,hns,hnm]
  show some (P.length+2,P.length+2+n.length+1)=_
  rw[show P.length+2+n.length+1=P.length+n.length+3 by omega]
 ·unfold TX.tagD
  rw[if_neg #[0],dr,show P.length+n.length+3-1-(P.length+2)=n.cps.toList.length by omega,take_left' rfl,xz0]
theorem zp1(n:Str):(cls n).length=n.length+3:=by unfold cls;rw[qe3,qe3];show 2+_+1=_;omega
theorem zp2(n:Str):(opn n).cps.toList=60::(n.cps.toList++[62]):=by unfold opn;simp only[PySem.Str.cps_append,Array.toList_append];rfl
theorem zp3(n:Str):(cls n).cps.toList=60::47::(n.cps.toList++[62]):=by unfold cls;simp only[PySem.Str.cps_append,Array.toList_append];rfl
theorem Pc.len:∀ x:Pc,x.tx.length=(match x with | .op n=>n.length+2 | .cl n=>n.length+3 | .wd w=>w.length)
 | .op n=>by simp[Pc.tx,qf2];rfl
 | .cl n=>by simp[Pc.tx,qf2];rfl
 | .wd w=>qf2 w
theorem yr3(hg:we8 g)(e:((z.cps.toList).drop s).take (k-s)=g.cps.toList)(hk:k<=z.length)(h:s<=k):TX.runD z.cps.toList s k=.tuple [.str "run",.int (s:Int),.int (k:Int),.str g]/\qi9 z (some (s:Int)) (some (k:Int))=g:=by
 constructor
 ·unfold TX.runD
  rw[e,yq9 fun c hc=>(hg c hc).2,xz0]
 ·rw[W9,wm6 rfl rfl,e]
theorem FlB.read{names:List Str}{c:Nat}{srt:Nat->Str}{rs:List Row}(F:FlB names c srt rs){rk:Str->Nat}(bk:Bok rs rk){z:Str}:∀ (ps:List Pc) (Pz:List Nat) (s:Nat) (g:Str) (st:Rst) (P W M D T:Nat),z.cps.toList=Pz++txP ps->(∀ x∈ps,x.ok)->s<=Pz.length->Pz.drop s=g.cps.toList->we8 g->Bg rs P W M D T st ->
 nz ((TX.toks z.cps.toList Pz.length s).foldl (xe1 rs rk z) st)=nz (pw rs rk Pz.length ps #[95])
 | [],Pz,s,g,st,P,W,M,D,T,ez,_,hs,hg,hpl,bg=>by
   have ez':z.cps.toList=Pz:=by rw[ez];simp[txP]
   have gl:=qf2 z
   rw[TX.toks_end (by rw[ez'];exact Nat.le_refl _),pw]
   unfold TX.runs
   by_cases h:s<Pz.length
   ·rw[if_pos (by rw[ez'];exact h),if_pos h]
    have e:=yr3 (z:=z) (s:=s) (k:=z.cps.toList.length) hpl (by rw[take_of_length_le (by rw[length_drop];exact Nat.le_refl _),ez',hg]) #[0] (by rw[ez'];omega)
    rw[e.1]
    show nz (qo8 rs rk st "run" s (qi9 z (some (s:Int)) (some (z.cps.toList.length:Int))) g)=_
    rw[e.2];rfl
   ·rw[if_neg (by rw[ez'];exact h),if_neg h];rfl
 | x :: ps,Pz,s,g,st,P,W,M,D,T,ez,hok,hs,hg,hpl,bg=>by
   have gl:=qf2 z
   have ez2:z.cps.toList=(Pz++x.tx)++txP ps:=by rw[ez];simp[txP]
   have hzl:Pz.length+x.tx.length<=z.length:=by
    have:=congrArg List.length ez2
    rw[length_append,length_append] at this;omega
   have hx:=hok x (by simp)
   have hrest:∀ y∈ps,y.ok:=fun y hy=>hok y (by simp[hy])
   have hrun:∀ ds:List PyData,(TX.runs z.cps.toList s Pz.length++ds).foldl (xe1 rs rk z) st=ds.foldl (xe1 rs rk z) #[95]:=fun ds=>by
    unfold TX.runs
    by_cases h:s<Pz.length
    ·rw[if_pos h,if_pos h]
     have e:=yr3 (z:=z) (s:=s) (k:=Pz.length) hpl (by
      rw[ez,drop_append,take_append,length_drop]
      rw[take_of_length_le (by rw[length_drop];exact Nat.le_refl _),show Pz.length-s-(Pz.length-s)=0 by omega,take_zero,append_nil,hg]) #[0] #[0]
     rw[e.1]
     show ds.foldl _ (qo8 rs rk st "run" s (qi9 z (some (s:Int)) (some (Pz.length:Int))) g)=_
     rw[e.2];rfl
    ·rw[if_neg h,if_neg h];rfl
   have bg2:∃ P W M D T,Bg rs P W M D T #[95]:=by
    split
    ·exact⟨_,_,_,_,_,bg.run bk⟩
    ·exact⟨_,_,_,_,_,bg⟩
   obtain⟨P2,W2,M2,D2,T2,bg2⟩:=bg2
   have eP:Pz++x.tx++txP ps=(Pz++x.tx)++txP ps:=rfl
   have cutx:∀ v:Str,v.cps.toList=x.tx->qi9 z (some (Pz.length:Int)) (some ((Pz.length+x.tx.length:Nat):Int))=v:=fun v hv=>by
    rw[W9,wm6 rfl rfl,ez2,append_assoc,drop_left' rfl,show Pz.length+x.tx.length-Pz.length=x.tx.length by omega,take_left' rfl,hv]
   have lenP:(Pz++x.tx).length=Pz.length+x.tx.length:=length_append
   cases x with
   | op n =>
     have hl:(Pc.op n).tx.length=n.length+2:=Pc.len (.op n)
     obtain⟨ht,hd⟩:=zz2 (l:=z.cps.toList) (P:=Pz) (R:=txP ps) (n:=n) (by rw[ez];simp[txP,Pc.tx]) hx
     rw[TX.toks_some ht,hd,hrun,foldl_cons]
     have ih:=F.read bk (z:=z) ps (Pz++(Pc.op n).tx) (Pz++(Pc.op n).tx).length "" (opS rs rk #[95] Pz.length (opn n) n) _ _ _ _ _ ez2 hrest #[6] (by rw[drop_length];rfl) (fun c hc=>by cases hc) (bg2.op bk)
     rw[if_neg (Nat.lt_irrefl _),lenP,hl] at ih
     have hc:=cutx (opn n) (zp2 n)
     rw[hl] at hc
     show nz (List.foldl _ (qo8 rs rk _ "open" Pz.length (qi9 z (some (Pz.length:Int)) (some ((Pz.length+n.length+2:Nat):Int))) n) _)=_
     rw[show Pz.length+n.length+2=Pz.length+(n.length+2) by omega,hc]
     rw[pw,hl]
     exact ih
   | cl n =>
     have hl:(Pc.cl n).tx.length=n.length+3:=Pc.len (.cl n)
     obtain⟨ht,hd⟩:=zz3 (l:=z.cps.toList) (P:=Pz) (R:=txP ps) (n:=n) (by rw[ez];simp[txP,Pc.tx]) hx
     rw[TX.toks_some ht,hd,hrun,foldl_cons]
     have ih:=F.read bk (z:=z) ps (Pz++(Pc.cl n).tx) (Pz++(Pc.cl n).tx).length "" (O5 rs rk #[95] Pz.length (cls n) n) _ _ _ _ _ ez2 hrest #[6] (by rw[drop_length];rfl) (fun c hc=>by cases hc) bg2.clo
     rw[if_neg (Nat.lt_irrefl _),lenP,hl] at ih
     have hc:=cutx (cls n) (zp3 n)
     rw[hl] at hc
     show nz (List.foldl _ (qo8 rs rk _ "close" Pz.length (qi9 z (some (Pz.length:Int)) (some ((Pz.length+n.length+3:Nat):Int))) n) _)=_
     rw[show Pz.length+n.length+3=Pz.length+(n.length+3) by omega,hc]
     rw[pw,hl]
     exact ih
   | wd w =>
     have hl:(Pc.wd w).tx.length=w.length:=qf2 w
     obtain⟨hw,hw1⟩:=hx
     have hsk:TX.toks z.cps.toList Pz.length s=TX.toks z.cps.toList (Pz.length+w.length) s:=by
      refine TX.toks_skip w.length _ #[0] fun j h1 h2 e=>?_
      have e2:#[48,Pz.length][j-Pz.length]?=some 60:=by rw[List.getElem?_drop,show Pz.length+(j-Pz.length)=j by omega];exact e
      rw[ez,drop_left' rfl] at e2
      have e3:(w.cps.toList++txP ps)[j-Pz.length]?=some 60:=by simpa [txP,Pc.tx] using e2
      rw[List.getElem?_append_left (by rw[qf2];omega)] at e3
      exact(hw 60 (mem_of_getElem? e3)).1 rfl
     have hgw:(Pz++(Pc.wd w).tx).drop s=(g++w).cps.toList:=by
      rw[drop_append_of_le_length hs,hg,PySem.Str.cps_append,Array.toList_append];rfl
     have ih:=F.read bk (z:=z) ps (Pz++(Pc.wd w).tx) s (g++w) st _ _ _ _ _ ez2 hrest (by rw[lenP];omega) hgw (hpl.app hw) bg
     rw[if_pos (by rw[lenP,hl];omega),lenP,hl] at ih
     rw[hsk,ih,pw,hl]
     refine zs2 ps _ ?_
     show _=nz (qg5 rs _ Pz.length w w)
     by_cases h:s<Pz.length
     ·rw[if_pos h]
      exact F.merge bk bg hpl hw
     ·rw[if_neg h]
      have es:s=Pz.length:=by omega
      have eg:g++w=w:=by
       rw[W9,PySem.Str.cps_append,Array.toList_append,<-hg,es,drop_length];rfl
      rw[eg,es]
theorem FlB.reads(F:FlB names c srt rs)(bk:Bok rs rk){ps:List Pc}(ez:z.cps.toList=txP ps)(hok:∀ x∈ps,x.ok):nz (we7 rs rk z)=nz (pw rs rk 0 ps st0):=by
 have:=F.read bk (z:=z) ps [] 0 "" st0 _ _ _ _ _ ez hok #[6] rfl (fun c hc=>by cases hc) (bg0 rs)
 rw[if_neg (show ¬0<([]:List Nat).length by simp)] at this
 exact this
theorem yr4{rs:List Row}{rk:Str->Nat}(x:Pc):∀ (ps:List Pc) (p:Nat) (st:Rst),pw rs rk p (ps++[x]) st=stP rs rk (p+(txP ps).length) (pw rs rk p ps st) x
 | [],p,st=>by simp[pw,txP]
 | y::ps,p,st=>by
   rw[cons_append,pw,pw,yr4 x ps]
   congr 1
   simp[txP];omega
def J4(rs:List Row)(bs:List Brn):List (List Str):=(bs.headD S5).ws::((bs.tail.filter fun b=>L0 rs b.n).map Brn.ws)
section
variable{rs:List Row}{bs l1 l2:List Brn}{b:Brn}
theorem wd7(h:bs≠[])(e:Brn):J4 rs (bs++[e])=J4 rs bs++(if L0 rs e.n=true then[e.ws] else[]):=by
 obtain⟨c,t,rfl⟩:=exists_cons_of_ne_nil h
 unfold J4
 show c.ws::(((t++[e]).filter _).map _)=(c.ws::_)++_
 rw[filter_append,map_append,cons_append]
 congr 2
 cases hw:L0 rs e.n <;> simp[hw]
theorem xa0(h:bs.map (fun b=>(b.n,b.ws))=bs'.map (fun b=>(b.n,b.ws))):J4 rs bs=J4 rs bs':=by
 have key:∀ t t':List Brn,t.map (fun b=>(b.n,b.ws))=t'.map (fun b=>(b.n,b.ws))->(t.filter fun b=>L0 rs b.n).map Brn.ws=(t'.filter fun b=>L0 rs b.n).map Brn.ws:=by
  intro t
  induction t with
  | nil=>intro t' h;cases t' with
    | nil=>rfl
    | cons=>simp at h
  | cons c t ih =>
    intro t' h
    cases t' with
    | nil=>simp at h
    | cons c' t' =>
      simp only[map_cons,List.cons.injEq,Prod.mk.injEq] at h
      obtain⟨⟨h1,h2⟩,h3⟩:=h
      rw[filter_cons,filter_cons,h1]
      split
      ·rw[map_cons,map_cons,h2,ih t' h3]
      ·exact ih t' h3
 cases bs with
 | nil=>cases bs' with
   | nil=>rfl
   | cons=>simp at h
 | cons c t=>cases bs' with
   | nil=>simp at h
   | cons c' t' =>
     simp only[map_cons,List.cons.injEq,Prod.mk.injEq] at h
     obtain⟨⟨h1,h2⟩,h3⟩:=h
     unfold J4
     show c.ws::_=c'.ws::_
     rw[h2]
     congr 1
     exact key t t' h3
theorem zh5(h0:L0 rs ((l1++b::l2).headD S5).n=false)(h:LwP rs l1 b l2):∃ pre,∀ w,J4 rs (l1++{b with ws:=w}::l2)=pre++[w]:=by
 rcases h with⟨h1,h2⟩|⟨rfl,h2⟩
 ·cases l1 with
  | nil=>exact absurd h1 (by rw[show b.n=(([]++b::l2:List Brn).headD S5).n from rfl,h0];decide)
  | cons c l1 =>
    refine⟨c.ws::((l1.filter fun b=>L0 rs b.n).map Brn.ws),fun w=>?_⟩
    unfold J4
    show c.ws::(((l1++{b with ws:=w}::l2).filter _).map _)=_
    have e2:l2.filter (fun b=>L0 rs b.n)=[]:=filter_eq_nil_iff.mpr fun x hx=>by rw[h2 x hx];decide
    rw[filter_append,filter_cons,if_pos (by exact h1),e2,map_append]
    rfl
 ·refine⟨[],fun w=>?_⟩
  unfold J4
  show w::((l2.filter _).map _)=_
  rw[filter_eq_nil_iff.mpr fun x hx=>by rw[h2 x (by simp[hx])];decide];rfl
theorem wa1(h:bs≠[])(h0:L0 rs (bs.headD S5).n=false):∃ pre,J4 rs bs=pre++[lwS rs bs]/\∀ f,J4 rs (wUp rs f bs)=pre++[f (lwS rs bs)]:=by
 obtain⟨l1,b,l2,rfl,hl⟩:=wv3 rs h
 obtain⟨pre,hp⟩:=zh5 h0 hl
 refine⟨pre,?_,fun f=>?_⟩
 ·rw[ql0 hl]
  exact hp b.ws
 ·rw[qw9 hl,ql0 hl]
  exact hp (f b.ws)
theorem xk3(l:List Brn)(b1 b2:Brn):J4 rs (lvB (l++[b1,b2]))++(if L0 rs b2.n=true then[b2.ws] else[])=J4 rs (l++[b1,b2]):=by
 rw[qn6]
 have e:J4 rs (l++[{b1 with ps:=b1.ps++[Tr.nd b2.n b2.ps]}])=J4 rs (l++[b1]):=xa0 (by simp)
 rw[e,<-wd7 (by simp)];simp
theorem xk4:((wUp rs f bs).headD S5).n=(bs.headD S5).n:=by
 have:=qm4 (rs:=rs) (f:=f) (g:=Brn.n) #[36] bs
 cases h1:wUp rs f bs <;> cases h2:bs <;> rw[h1,h2] at this <;> simp at this ⊢
 exact this.1
theorem yx7(h:2<=bs.length):((lvB bs).headD S5).n=(bs.headD S5).n:=by
 obtain⟨l,b1,b2,rfl⟩:=qn7 h
 rw[qn6]
 cases l <;> rfl
end
theorem wr5 (ys:List Str):∃ pre,ys=pre++O4 rs ys/\(∀ y∈O4 rs ys,L0 rs y=false)/\(pre=[]\/∃ p r,pre=p++[r]/\L0 rs r=true):=by
 have : ∀ (k:Nat) (ys:List Str),ys.length=k->∃ pre,ys=pre++O4 rs ys/\(∀ y∈O4 rs ys,L0 rs y=false)/\(pre=[]\/∃ p r,pre=p++[r]/\L0 rs r=true):=by
  intro k
  induction k with
  | zero=>intro ys e;rw[eq_nil_of_length_eq_zero e];exact⟨[],rfl,fun y hy=>(by cases hy),.inl rfl⟩
  | succ k ih =>
    intro ys e
    rcases eq_nil_or_concat ys with rfl|⟨z,x,rfl⟩
    ·simp at e
    ·rw [concat_eq_append] at e ⊢
     obtain⟨pre,h1,h2,h3⟩:=ih z (by simpa using e)
     rw[wm0]
     cases hw:L0 rs x with
     | true=>exact⟨z++[x],by simp,fun y hy=>by simp at hy,.inr ⟨z,x,rfl,hw⟩⟩
     | false =>
       refine⟨pre,?_,fun y hy=>?_,h3⟩
       ·show z++[x]=pre++(O4 rs z++[x])
        rw[<-append_assoc,<-h1]
       ·have hy:y∈O4 rs z++[x]:=hy
        rcases mem_append.mp hy with h|h
        ·exact h2 y h
        ·rw[mem_singleton.mp h];exact hw
 exact this _ ys rfl
section
variable{rs:List Row}{rk:Str->Nat}{x:Str}
theorem yg6:∀ (B C:List Str),x∉B->(∀ y∈B,L0 rs y=false)->clo rs rk (A++B++C) x (A.length+B.length)=clo rs rk (A++B++C) x A.length:=by
 intro B
 have : ∀ (k:Nat) (B C:List Str),B.length=k->x∉B->(∀ y∈B,L0 rs y=false)->clo rs rk (A++B++C) x (A.length+B.length)=clo rs rk (A++B++C) x A.length:=by
  intro k
  induction k with
  | zero=>intro B C e _ _;rw[eq_nil_of_length_eq_zero e];rfl
  | succ k ih =>
    intro B C e h1 h2
    rcases eq_nil_or_concat B with rfl|⟨z,w,rfl⟩
    ·simp at e
    ·rw[concat_eq_append] at e h1 h2 ⊢
     have hg:gd (A++(z++[w])++C) (A.length+z.length)=w:=by
      unfold gd
      rw[getD_eq_getElem?_getD,show A++(z++[w])++C=(A++z)++w::C by simp,List.getElem?_append_right (by simp),length_append,Nat.sub_self];rfl
     rw[length_append,length_singleton,<-Nat.add_assoc,clo,hg,if_neg (fun e=>h1 #[118]),h2 w (by simp)]
     simp only[Bool.false_and,Bool.false_eq_true,if_false]
     have:=ih z (w::C) (by simpa using e) (fun h=>h1 (by simp[h])) (fun y hy=>h2 y (by simp[hy]))
     rw[show A++(z++[w])++C=A++z++w::C by simp]
     exact this
 exact fun C=>this _ B C rfl
theorem yr5(h1:x∉B)(h2:∀ y∈B,L0 rs y=false):clo rs rk (A++x::B) x (A++x::B).length=some A.length:=by
 have:=yg6 (rs:=rs) (rk:=rk) (A:=A++[x]) B [] h1 h2
 rw[show A++[x]++B++[]=A++x::B by simp,show(A++[x]).length+B.length=(A++x::B).length by simp;omega] at this
 rw[this,length_append,length_singleton,clo,if_pos]
 unfold gd
 rw[getD_eq_getElem?_getD,List.getElem?_append_right #[6],Nat.sub_self];rfl
theorem zh6(h1:x∉O4 rs ys)(h2:∀ r,L0 rs r=true->r∈ys->r≠x/\bel rs rk r x=false):clo rs rk ys x ys.length=none:=by
 obtain⟨pre,e,hn,hp⟩:=wr5 (rs:=rs) ys
 have:=yg6 (rs:=rs) (rk:=rk) (A:=pre) (O4 rs ys) [] h1 hn
 rw[append_nil,<-e,<-length_append,<-e] at this
 rw[this]
 rcases hp with rfl|⟨p,r,rfl,hr⟩
 ·rfl
 ·have hg:gd ys p.length=r:=by
   unfold gd
   rw[getD_eq_getElem?_getD,e,append_assoc,List.getElem?_append_right #[6],Nat.sub_self];rfl
  obtain⟨h3,h4⟩:=h2 r hr #[118]
  rw[length_append,length_singleton,clo,hg,if_neg h3,hr,h4]
  rfl
end
inductive RwB(H:Hp):List Addr->List (List Str)->Prop
 | nil:RwB H [] []
 | cons {a:Addr} {w:List Str} {as:List Addr} {ws:List (List Str)}:H a=some #[16,w]->RwB H as ws->RwB H (a::as) (w::ws)
section
variable{H':Hp}{xs ys:List Addr}{ws vs':List (List Str)}{w:List Str}{x:Addr}
theorem RwB.mono(h:RwB H xs ws)(hk:∀ x∈xs,∀ o,H x=some o->H' x=some o):RwB H' xs ws:=by
 induction h with
 | nil=>exact .nil
 | cons h1 _ ih=>exact .cons (hk _ (by simp) _ h1) (ih fun x hx=>hk x (by simp[hx]))
theorem RwB.app(h:RwB H xs ws)(h2:RwB H ys vs'):RwB H (xs++ys) (ws++vs'):=by
 induction h with
 | nil=>exact h2
 | cons h1 _ ih=>exact .cons h1 ih
theorem RwB.len(h:RwB H xs ws):xs.length=ws.length:=by
 induction h with
 | nil=>rfl
 | cons _ _ ih=>simp[ih]
theorem RwB.snoc(h:RwB H xs (ws++[w])):∃ xs' x,xs=xs'++[x]/\RwB H xs' ws/\H x=some #[16,w]:=by
 induction ws generalizing xs with
 | nil=>cases h with|cons h1 h3=>cases h3;exact⟨[],_,rfl,.nil,h1⟩
 | cons c ws ih =>
   cases h with
   | cons h1 h3 =>
     obtain⟨as',a,rfl,h4,h5⟩:=ih h3
     exact⟨_::as',a,rfl,.cons h1 h4,h5⟩
theorem RwB.one(h:H x=some #[16,w]):RwB H [x] [w]:=.cons h .nil
theorem RwB.some(h:RwB H xs ws):∀ x∈xs,∃ w,H x=some #[16,w]:=by
 induction h with
 | nil=>intro x hx;cases hx
 | cons h1 _ ih =>
   intro x hx
   rcases mem_cons.mp hx with rfl|hx
   ·exact⟨_,h1⟩
   ·exact ih x hx
end
structure A5(K:Fg)(H0 H:Hp)(L T Rw M:Addr)(as xs:List Addr)(st:Rst)(rwv:List (List Str))(ms:List Mnd):Prop where
 s:A7 H0 H
 h:Hps K H L as (st.bs.map Brn.ps)
 t:H T=some #[16,B5 st]
 r:H Rw=some (.lst (xs.map V.ref))
 rb:RwB H xs rwv
 m:∃ us,H M=some (.lst us)/\Dvs K H (ms.map Mnd.da) us
 nd:(T::Rw::M::L::as).Nodup
 nw:∀ z∈T::Rw::M::L::as,H0 z=none
 nx:∀ x∈xs,x∉T::Rw::M::L::as
variable{as':List Addr}
section
variable{rwv rwv':List (List Str)}{H0 H':Hp}{L T Rw M:Addr}{as xs:List Addr}{st:Rst}{ms:List Mnd}
theorem A5.apart(a:A5 K H0 H L T Rw M as xs st rwv ms):T≠Rw/\T≠M/\T∉L::as/\Rw≠M/\Rw∉L::as/\M∉L::as:=by
 have:=a.nd
 rw[nodup_cons,nodup_cons,nodup_cons] at this
 obtain⟨h1,h2,h3,_⟩:=this
 simp only[mem_cons,not_or] at h1 h2 h3 ⊢
 exact⟨h1.1,h1.2.1,⟨h1.2.2.1,h1.2.2.2⟩,h2.1,⟨h2.2.1,h2.2.2⟩,h3⟩
theorem A5.mut(a:A5 K H0 H L T Rw M as xs st rwv ms):∀ z∈T::Rw::M::L::as,xi3 H z:=fun z hz=>by
 rcases mem_cons.mp hz with rfl|hz
 ·exact .inl ⟨_,a.t⟩
 rcases mem_cons.mp hz with rfl|hz
 ·exact .inl ⟨_,a.r⟩
 rcases mem_cons.mp hz with rfl|hz
 ·obtain⟨us,h,_⟩:=a.m;exact .inl ⟨_,h⟩
 ·exact a.h.mut z hz
theorem A5.same(a:A5 K H0 H L T Rw M as xs st rwv ms)(s:A7 H H'):A5 K H0 H' L T Rw M as xs st rwv ms:=by
 obtain⟨us,m1,m2⟩:=a.m
 exact⟨A7.tr a.s s,a.h.same s,s _ _ a.t,s _ _ a.r,a.rb.mono fun x _ o h=>s x o h,⟨us,s _ _ m1,Dvs.same s _ _ m2⟩,a.nd,a.nw,a.nx⟩
theorem A5.st_eq(a:A5 K H0 H L T Rw M as xs st rwv ms)(h1:st'.bs.map Brn.ps=st.bs.map Brn.ps)(h2:B5 st'=B5 st):A5 K H0 H L T Rw M as xs st' rwv ms :=
 ⟨a.s,by rw[h1];exact a.h,by rw[h2];exact a.t,a.r,a.rb,a.m,a.nd,a.nw,a.nx⟩
theorem A5.mend{m:Mnd}(a:A5 K H0 H L T Rw M as xs st rwv ms)(hm:H M=some (.lst us))(hd:Dvs K H (ms.map Mnd.da) us)(hp:Dv K H m.da (.ref p)):A5 K H0 (upd H M (.lst (us++[.ref p]))) L T Rw M as xs st rwv (ms++[m]):=by
 obtain⟨n1,n2,n3,n4,n5,n6⟩:=a.apart
 have tk:S4 H (upd H M (.lst (us++[.ref p]))):=N8 (.inl ⟨_,hm⟩)
 refine⟨A7.put a.s (a.nw M (by simp)) _,a.h.upd (.inl (.inl ⟨_,hm⟩)) n6,E1 a.t n2,E1 a.r n4,a.rb.mono fun x hx o h=>E1 h fun e=>a.nx x hx #[118],⟨_,A6,?_⟩,a.nd,a.nw,a.nx⟩
 refine Dvs.tupK tk _ _ (Q6 Mnd.fix _) ?_
 rw[map_append]
 exact Dvs.append hd (Dvs.one hp)
theorem A5.mlen(hd:Dvs K H (ms.map Mnd.da) us):us.length=ms.length:=by have:=hd.length;rw[length_map] at this;exact this
theorem A5.rows{ys:List Addr}(a:A5 K H0 H L T Rw M as xs st rwv ms)(hy:RwB H ys rwv')(ny:∀ x∈ys,x∉T::Rw::M::L::as)(h1:st'.bs.map Brn.ps=st.bs.map Brn.ps)(h2:B5 st'=B5 st):A5 K H0 (upd H Rw (.lst (ys.map V.ref))) L T Rw M as ys st' rwv' ms:=by
 obtain⟨n1,n2,n3,n4,n5,n6⟩:=a.apart
 obtain⟨us,m1,m2⟩:=a.m
 have tk:S4 H (upd H Rw (.lst (ys.map V.ref))):=N8 (.inl ⟨_,a.r⟩)
 exact⟨A7.put a.s (a.nw Rw (by simp)) _,by rw[h1];exact a.h.upd (.inl (.inl ⟨_,a.r⟩)) n5,by rw[h2];exact E1 a.t n1,A6,hy.mono fun x hx o h=>E1 h fun e=>ny x hx #[118],⟨us,E1 m1 (Ne.symm n4),Dvs.tupK tk _ _ (Q6 Mnd.fix _) m2⟩,a.nd,a.nw,ny⟩
theorem A5.heaps(a:A5 K H0 H L T Rw M as xs st rwv ms)(bt:But (T::L::as) H H')(hh:Hps K H' L as' (st'.bs.map Brn.ps))(ht:H' T=some #[16,B5 st'])(hs:∀ z∈as',z∈as\/H z=none)(nT:T∉L::as'):A5 K H0 H' L T Rw M as' xs st' rwv ms:=by
 obtain⟨n1,n2,n3,n4,n5,n6⟩:=a.apart
 obtain⟨us,m1,m2⟩:=a.m
 have tk:S4 H H':=wi6 bt fun z hz=>a.mut z (by
  rcases mem_cons.mp hz with rfl|hz
  ·simp
  ·simp only[mem_cons] at hz ⊢;exact .inr #[96,hz])
 have hW:Rw∉T::L::as:=fun h=>by
  rcases mem_cons.mp h with h|h
  ·exact n1 h.symm
  ·exact n5 h
 have hM:M∉T::L::as:=fun h=>by
  rcases mem_cons.mp h with h|h
  ·exact n2 h.symm
  ·exact n6 h
 have nin:∀ z,H z≠none->z∉L::as->z∉L::as':=fun z hz h1 h2=>by
  rcases mem_cons.mp h2 with h2|h2
  ·exact h1 (by rw[h2];simp)
  ·rcases hs z h2 with h|h
   ·exact h1 (by simp[h])
   ·exact hz h
 have hWn:=(a.mut Rw (by simp)).some
 have hMn:=(a.mut M (by simp)).some
 have hx1:∀ x∈xs,x∉T::L::as:=fun x hx h=>a.nx x hx (by
  rcases mem_cons.mp h with h|h
  ·rw[h];simp
  ·simp only[mem_cons] at h ⊢;exact .inr #[96,h])
 refine⟨fun c o e=>bt c o (a.s c o e) fun hc=>?_,hh,ht,bt _ _ a.r hW,a.rb.mono fun x hx o h=>bt x o h (hx1 x hx),⟨us,bt _ _ m1 hM,Dvs.tupK tk _ _ (Q6 Mnd.fix _) m2⟩,?_,fun z hz=>?_,fun x hx h=>?_⟩
 ·have:=a.nw c (by
   rcases mem_cons.mp hc with rfl|hc
   ·simp
   ·simp only[mem_cons] at hc ⊢;exact .inr #[96,hc])
  rw[this] at e;cases e
 ·rw[nodup_cons,nodup_cons,nodup_cons]
  refine⟨fun h=>?_,fun h=>?_,nin M hMn n6,hh.nd⟩
  ·rcases mem_cons.mp h with h|h
   ·exact n1 h
   ·rcases mem_cons.mp h with h|h
    ·exact n2 h
    ·exact nT h
  ·rcases mem_cons.mp h with h|h
   ·exact n4 h
   ·exact nin Rw hWn n5 h
 ·rcases mem_cons.mp hz with rfl|hz
  ·exact a.nw _ (by simp)
  rcases mem_cons.mp hz with rfl|hz
  ·exact a.nw _ (by simp)
  rcases mem_cons.mp hz with rfl|hz
  ·exact a.nw _ (by simp)
  rcases mem_cons.mp hz with rfl|hz
  ·exact a.nw _ (by simp)
  rcases hs z hz with h|h
  ·exact a.nw _ (by simp[h])
  ·exact A7.grow a.s _ h
 ·obtain⟨w,hw⟩:=a.rb.some x hx
  have h0:=a.nx x hx
  simp only[mem_cons,not_or] at h h0
  rcases h with h|h|h|h|h
  ·exact h0.1 h
  ·exact h0.2.1 h
  ·exact h0.2.2.1 h
  ·exact h0.2.2.2.1 h
  ·rcases hs x h with h|h
   ·exact h0.2.2.2.2 h
   ·rw[h] at hw;cases hw
end
theorem zp4{m:Mnd}(h:H p=some (.tup [.int m.s,.int m.e,.str m.t,.str m.r])):Dv K H m.da (.ref p):=D7.mpr ⟨p,_,rfl,SqT.of h,C0 (P1.mpr rfl) (C0 (P1.mpr rfl) (C0 #[76] (C0 #[76] I9)))⟩
variable{L M T:Addr}{as:List Addr}
theorem xt4{Wt:Addr}(h:(T::Wt::M::L::as).Nodup):T∉L::as:=fun z=>(nodup_cons.mp h).1 (by simp only[mem_cons] at z ⊢;exact .inr (.inr z))
abbrev we9(K:Fg):TS :=
 (E9 (tBM K "list" J9 #[33,0] (A1 (T7 (A1 (yb3 K "list" yb5 (A2 1)) (A1 (tCB (ql7 K) #[3,2]) A9))) A9)))
def P3(K:Fg):Sp:=fun vs H Q _=>∃ (L T:Addr) (as:List Addr) (ws:List (List Tr)) (w1 w2:List Tr) (ns:List Str) (n:Str),vs=[.ref L,.ref T]/\Hps K H L as (ws++[w1,w2])/\H T=some #[16,ns++[n]]/\T∉L::as/\w1.length<=8000000/\∀ (as':List Addr) (a:Addr) (H':Hp),as=as'++[a]->Hps K H' L as' (ws++[w1++[Tr.nd n w2]])->H' T=some #[16,ns]->But (T::L::as) H H'->Q .non H'
def qm5(K:Fg):TS :=
 (C1 (E3 (yb3 K "list" yb5 (A2 0)) (B6 2))
 (we9 K))
theorem xk5(h:P3 K vs H Q E):qm5 K {nx:=fun _ H'=>Q .non H',rt:=Q} (E2 ["_law_heaps","_law_there","_law_heap"] vs) H:=by
 obtain⟨L,T,as,ws,w1,w2,ns,n,rfl,hh,ht,nT,hl,q⟩:=h
 show qm5 K _ [some (.ref L),some (.ref T),none] H
 unfold qm5
 have hh0:Hps K H L as ((ws++[w1])++[w2]):=by rw[append_assoc];exact hh
 obtain⟨as1,a,us,ea,hL,hh1,ha,hd⟩:=hh0.pop
 have nTL:T≠L:=fun e=>nT #[118]
 have bt1:But (T::L::as) H (upd H L (.lst (as1.map V.ref))):=xj7 (fun c o e _=>e) (.inl (by simp))
 have ht1:=E1 (o:=.lst (as1.map V.ref)) ht nTL
 lk
 refine⟨.inl ⟨rfl,_,SqL.of hL⟩,?_⟩
 refine xs1 hL ?_
 generalize upd H L (.lst (as1.map V.ref))=H1 at *
 obtain⟨as2,x,us2,ea2,hx,hxd,hL2,_⟩:=hh1.top
 show we9 K _ _ _
 walk_at"17"
 refine M9 #[52,hL2] (v:=.ref x) #[111] ?_
 lk
 refine⟨.inl ⟨rfl,_,SqL.of hx⟩,?_⟩
 lk
 have et:B4 (ns++[n])=B4 ns++[.str n]:=by simp[B4]
 rw[et] at ht1
 have nTa:T∉L::as1:=fun e=>nT (by rw[ea];rcases mem_cons.mp e with e|e;exact e▸(by simp);simp[e])
 refine⟨.inl ⟨rfl,_,SqL.of ht1⟩,?_⟩
 refine xs1 ht1 ?_
 have hh2:=hh1.upd (p:=T) (o:=.lst (B4 ns)) (.inl (.inl ⟨_,ht1⟩)) nTa
 have tk2:S4 H1 (upd H1 T #[16,ns]):=N8 (.inl ⟨_,ht1⟩)
 have na:a≠T:=fun e=>nT (by rw[<-e,ea];simp)
 have ha2:=E1 (o:=.lst (B4 ns)) ha na
 have hd2:=Dvs.tupK tk2 _ _ (Y2 _) hd
 have ht2:(upd H1 T #[16,ns]) T=_:=A6
 have bt2:But (T::L::as) H (upd H1 T #[16,ns]):=xj7 bt1 (.inl (by simp))
 generalize upd H1 T #[16,ns]=H2 at *
 lk
 refine⟨_,_,rfl,.inl ⟨SqL.of ha2,fun l hl=>?_⟩⟩
 walk_at"6"
 have s4:=A7.tr (A7.new hl (.tup us)) (A7.new hp (.tup [.str n,.ref l]))
 have s4b:=A7.new hp (.tup [.str n,.ref l])
 have dt:Dv K _ (Tr.nd n w2).da (.ref p):=yp5 (SqT.of (A6 (H:=upd H2 l (.tup us)) (a:=p) (o:=.tup [.str n,.ref l]))) (s4b.sqT (SqT.of A6)) (Dvs.same s4 _ _ hd2)
 generalize upd (upd H2 l (.tup us)) p (.tup [.str n,.ref l])=H4 at *
 have hh4:=hh2.same s4
 rw[ea2] at hh4
 obtain⟨us4,hx4,hxd4⟩:=hh4.get
 have hul:=qu1 hxd4
 lk
 refine L4 hx4 (by rw[hul,sizeLine_eq];omega) ?_
 have hh5:=hh4.put (yg4 hxd4 dt)
 refine q (as2++[x]) a _ (by rw[ea,ea2]) hh5 (E1 (s4 _ _ ht2) fun e=>nTa (by rw[e,ea2];simp)) fun c o e nc=>?_
 rw[B8 (fun z=>nc (by rw[z,ea,ea2];simp))]
 exact s4 _ _ (bt2 c o e nc)
theorem xk6{bs:List Brn}{ws:List (List Tr)}{w1 w2:List Tr}{ns:List Str}(h1:bs.map Brn.ps=ws++[w1,w2])(h2:bs.tail.map Brn.n=ns++[n]):(lvB bs).map Brn.ps=ws++[w1++[Tr.nd n w2]]/\(lvB bs).tail.map Brn.n=ns/\((lvB bs).headD S5).ws=(bs.headD S5).ws/\(lvB bs).length+1=bs.length:=by
 have hl:2<=bs.length:=by have:=congrArg List.length h1;simp at this;omega
 obtain⟨l,b1,b2,rfl⟩:=qn7 hl
 rw[qn6]
 rw[map_append] at h1
 obtain⟨e1,e2⟩:=append_inj' h1 rfl
 have e3:b1.ps=w1:=(List.cons.inj e2).1
 have e4:b2.ps=w2:=(List.cons.inj (List.cons.inj e2).2).1
 have hne:l++[b1]≠[]:=by simp
 have h2':((l++[b1])++[b2]).tail.map Brn.n=ns++[n]:=by rw[append_assoc];exact h2
 rw[tail_append_of_ne_nil hne,map_append] at h2'
 obtain⟨e5,e6⟩:=append_inj' h2' rfl
 have e7:b2.n=n:=(List.cons.inj e6).1
 refine⟨by rw[map_append,e1];show ws++[b1.ps++[Tr.nd b2.n b2.ps]]=_;rw[e3,e4,e7],?_,?_,by simp⟩
 ·rw[<-e5]
  cases l <;> simp
 ·cases l <;> rfl
variable{Rw:Addr}{rwv:List (List Str)}{xs:List Addr}
theorem A5.closed{ms:List Mnd}(a:A5 K H0 H L T Rw M as xs st rwv ms)(h2:2<=st.bs.length)(hb:∀ b∈st.bs,b.ps.length<=8000000)(q:∀ as' H',A5 K H0 H' L T Rw M as' xs {st with bs:=lvB st.bs} rwv ms->(∀ z∈as',z∈as)->But (T::L::as) H H'->Q .non H'):P3 K [.ref L,.ref T] H Q E:=by
 obtain⟨l,b1,b2,e⟩:=qn7 h2
 have e1:st.bs.map Brn.ps=l.map Brn.ps++[b1.ps,b2.ps]:=by rw[e];simp
 have e2:st.bs.tail.map Brn.n=(l++[b1]).tail.map Brn.n++[b2.n]:=by
  walk_at"33"
 obtain⟨f1,f2,f3,f4⟩:=xk6 e1 e2
 have hh:=a.h
 rw[e1] at hh
 have ht:=a.t
 unfold B5 at ht
 rw[e2] at ht
 refine⟨L,T,as,_,_,_,_,_,rfl,hh,ht,xt4 a.nd,hb b1 #[118],fun as' x H' ea hh' ht' bt=>q as' H' ?_ (fun z hz=>by rw[ea];simp[hz]) bt⟩
 refine a.heaps bt (by show Hps K H' L as' ((lvB st.bs).map Brn.ps);rw[f1];exact hh') (by unfold B5;show H' T=some #[16,(lvB st.bs).tail.map Brn.n];rw[f2];exact ht') (fun z hz=>.inl (by rw[ea];simp[hz])) (fun z=>xt4 a.nd (by rw[ea];rcases mem_cons.mp z with h|h;exact h▸(by simp);simp[h]))
theorem qs1{bs:List Brn}:∀ (j:Nat),j<bs.length->∃ ws,(lvN j bs).map Brn.ps=ws/\(lvN j bs).tail.map Brn.n=(bs.tail.map Brn.n).take (bs.length-1-j)/\((lvN j bs).headD S5).ws=(bs.headD S5).ws/\(lvN j bs).length+j=bs.length
 | 0,h=>⟨_,rfl,by rw[lvN,take_of_length_le (by rw[length_map,length_tail];omega)],rfl,rfl⟩
 | j+1,h=>by
   obtain⟨ws,h1,h2,h3,h4⟩:=qs1 (bs:=bs) j #[0]
   obtain⟨l,b1,b2,e⟩:=qn7 (bs:=lvN j bs) #[0]
   have e1:(lvN j bs).map Brn.ps=l.map Brn.ps++[b1.ps,b2.ps]:=by rw[e];simp
   have e2:(lvN j bs).tail.map Brn.n=(l++[b1]).tail.map Brn.n++[b2.n]:=by
    walk_at"33"
   obtain⟨f1,f2,f3,f4⟩:=xk6 e1 e2
   refine⟨_,rfl,?_,by rw[lvN,f3,h3],by rw[lvN];omega⟩
   rw[lvN,f2]
   rw[h2] at e2
   have hlen:((bs.tail.map Brn.n).take (bs.length-1-j)).length=bs.length-1-j:=by rw[length_take,length_map,length_tail];omega
   have hl2:((l++[b1]).tail.map Brn.n).length=bs.length-1-(j+1):=by
    have:=congrArg List.length e2
    rw[hlen,length_append,length_singleton] at this;omega
   have:=congrArg (List.take (bs.length-1-(j+1))) e2
   rw[take_take,show min (bs.length-1-(j+1)) (bs.length-1-j)=bs.length-1-(j+1) by omega,take_left' hl2] at this
   exact this.symm
theorem wa2{bs:List Brn}{m:Nat}(h:∀ b∈bs,b.ps.length<=m):∀ (j:Nat),∀ b∈lvN j bs,b.ps.length<=m+j
 | 0,b,hb=>by have:=h b hb;omega
 | j + 1,b,hb=>by
   rw[lvN] at hb
   unfold lvB at hb
   have ih:=wa2 h j
   rcases mem_append.mp hb with hb|hb
   ·have:=ih b (dropLast_subset _ (dropLast_subset _ hb));omega
   ·rw [mem_singleton.mp hb]
    show((S6 (lvN j bs).dropLast).ps++[_]).length<=_
    rw[length_append,length_singleton]
    have:(S6 (lvN j bs).dropLast).ps.length<=m+j:=by
     unfold S6
     cases e:(lvN j bs).dropLast with
     | nil=>exact Nat.zero_le _
     | cons x t =>
       have hm:(x::t).getLastD S5∈(lvN j bs).dropLast:=by rw[e];simp[List.getLastD]
       exact ih _ (dropLast_subset _ hm)
    omega
theorem zp5(bs:List Brn)(n:Str):(P4 bs n).map Brn.ps=bs.map Brn.ps++[[]]:=by unfold P4;rw[map_append];rfl
theorem xk7{bs:List Brn}(h:bs≠[])(n:Str):(P4 bs n).tail.map Brn.n=bs.tail.map Brn.n++[n]:=by unfold P4;rw[tail_append_of_ne_nil h,map_append];rfl
theorem xt5{bs:List Brn}(h:bs≠[])(n:Str):(P4 bs n).headD S5=bs.headD S5:=by
 cases bs with
 | nil=>exact absurd rfl h
 | cons c t=>rfl
theorem xt6{rs:List Row}{bs:List Brn}:∀ (j:Nat),j<bs.length->(∀ n∈(bs.tail.map Brn.n).drop (bs.length-1-j),L0 rs n=false)->J4 rs (lvN j bs)=J4 rs bs
 | 0,_,_=>rfl
 | j + 1,h,hn=>by
   have hd:(bs.tail.map Brn.n).drop (bs.length-1-(j+1))=gd (bs.tail.map Brn.n) (bs.length-1-(j+1))::(bs.tail.map Brn.n).drop (bs.length-1-j):=by
    have hl:bs.length-1-(j+1)<(bs.tail.map Brn.n).length:=by rw[length_map,length_tail];omega
    rw[drop_eq_getElem_cons hl,show bs.length-1-(j+1)+1=bs.length-1-j by omega]
    congr 1
    have:=qk7 hl
    rw[List.getElem?_eq_getElem hl] at this
    exact Option.some.inj this
   have ih:=xt6 (rs:=rs) (bs:=bs) j #[0] fun n hm=>hn n (by rw[hd];exact mem_cons_of_mem _ hm)
   obtain⟨_,_,h2,_,h4⟩:=qs1 (bs:=bs) j #[0]
   obtain⟨l,b1,b2,e⟩:=qn7 (bs:=lvN j bs) #[0]
   have hb2:L0 rs b2.n=false:=by
    refine hn _ ?_
    rw[hd]
    have e2:(lvN j bs).tail.map Brn.n=(l++[b1]).tail.map Brn.n++[b2.n]:=by
     walk_at"33"
    rw[h2] at e2
    have hl:bs.length-1-(j+1)<(bs.tail.map Brn.n).length:=by rw[length_map,length_tail];omega
    rw[show bs.length-1-j=bs.length-1-(j+1)+1 by omega,Z5 (qk7 hl)] at e2
    have:=(append_inj' e2 rfl).2
    rw[(List.cons.inj this).1];simp
   have:=xk3 (rs:=rs) l b1 b2
   rw[hb2,if_neg #[10],append_nil] at this
   rw[lvN,e,this,<-e,ih]
theorem A5.open{ms:List Mnd}(a:A5 K H0 H L T Rw M as xs st rwv ms)(hne:st.bs≠[])(hp:(upd H T #[16,B5 st++[n]]) p=none):A5 K H0 (upd (upd (upd H T #[16,B5 st++[n]]) p (.lst [])) L (.lst (as.map V.ref++[.ref p]))) L T Rw M (as++[p]) xs {st with bs:=P4 st.bs n} rwv ms:=by
 have nT:=xt4 a.nd
 have hp0:H p=none:=(C6 hp).2
 have hpT:p≠T:=(C6 hp).1
 have h1:=a.h.upd (p:=T) (o:=.lst (B4 (B5 st++[n]))) (.inl (.inl ⟨_,a.t⟩)) nT
 have h2:=h1.push (w:=[]) (us:=[]) hp (by rw[Tr.das];exact I9)
 have nTL:T≠L:=fun e=>nT #[118]
 refine a.heaps (fun c o e nc=>?_) (by show Hps K _ L (as++[p]) ((P4 st.bs n).map Brn.ps);rw[zp5];exact h2) ?_ (fun z hz=>?_) (fun z=>?_)
 ·have n1:c≠L:=fun z=>nc (by rw[z];simp)
  have n2:c≠p:=Y5 hp0 e
  have n3:c≠T:=fun z=>nc (by rw[z];simp)
  rw[B8 n1,B8 n2,B8 n3];exact e
 ·unfold B5
  show _=some (HO.lst (B4 ((P4 st.bs n).tail.map Brn.n)))
  rw[xk7 hne,B8 nTL,B8 (Ne.symm hpT),A6]
 ·rcases mem_append.mp hz with h|h
  ·exact .inl h
  ·exact .inr (by rw[mem_singleton.mp h];exact hp0)
 ·rcases mem_cons.mp z with h|h
  ·exact nTL h
  ·rcases mem_append.mp h with h|h
   ·exact nT (by simp[h])
   ·exact hpT (mem_singleton.mp h).symm
theorem A5.topped{x:Addr}{ws:List (List Tr)}{w:List Tr}{ms:List Mnd}(a:A5 K H0 H L T Rw M (as++[x]) xs st rwv ms)(e:st.bs.map Brn.ps=ws++[w])(hd:Dvs K H (Tr.das w') us)(e2:st'.bs.map Brn.ps=ws++[w'])(h2:B5 st'=B5 st):A5 K H0 (upd H x (.lst us)) L T Rw M (as++[x]) xs st' rwv ms:=by
 have hh:=a.h
 rw[e] at hh
 have h5:=hh.put hd
 have nT:=xt4 a.nd
 refine a.heaps (fun c o e nc=>?_) (by rw[e2];exact h5) ?_ (fun z hz=>.inl hz) nT
 ·rw[B8 (fun z=>nc (by rw[z];simp))];exact e
 ·rw[h2,B8 (fun z=>nT (by rw[z];simp))];exact a.t
theorem A5.loc{m:Addr}{ms:List Mnd}(a:A5 K H0 H L T Rw M as xs st rwv ms)(hm:H m=none):A5 K (rml H (T::Rw::L::as)) (upd H m (.lst [])) L T Rw m as xs st rwv []:=by
 have s1:=A7.new hm (.lst [])
 have nm:m∉T::Rw::M::L::as:=fun h=>(a.mut m h).some hm
 have a1:=a.same s1
 have nd:=a.nd
 rw[nodup_cons,nodup_cons,nodup_cons] at nd
 obtain⟨d1,d2,d3,d4⟩:=nd
 simp only[mem_cons,not_or] at nm d1 d2 d3
 refine⟨A7.tr yg3 s1,a1.h,a1.t,a1.r,a1.rb,⟨[],A6,I9⟩,?_,fun z hz=>?_,fun x hx=>?_⟩
 ·rw[nodup_cons,nodup_cons,nodup_cons]
  simp only[mem_cons,not_or]
  exact⟨⟨d1.1,Ne.symm nm.1,d1.2.2⟩,⟨Ne.symm nm.2.1,d2.2⟩,nm.2.2.2,d4⟩
 ·by_cases e:z∈T::Rw::L::as
  ·exact yl9 e
  ·have:z=m:=by
    simp only[mem_cons,not_or] at hz e
    rcases hz with h|h|h|h|h
    ·exact absurd h e.1
    ·exact absurd h e.2.1
    ·exact h
    ·exact absurd h e.2.2.1
    ·exact absurd h e.2.2.2
   rw[qh5 e,this];exact hm
 ·have h1:=a.nx x hx
  obtain⟨w,hw⟩:=a.rb.some x hx
  have h2:x≠m:=fun e=>by rw[e,hm] at hw;cases hw
  simp only[mem_cons,not_or] at h1 ⊢
  exact⟨h1.1,h1.2.1,h2,h1.2.2.2⟩
variable{mds:List Mnd}
theorem A5.back{m:Addr}{xs':List Addr}{rwv':List (List Str)}{ms:List Mnd}(a:A5 K H0 H L T Rw M as xs st rwv ms)(hm:H m=none)(a':A5 K (rml H (T::Rw::L::as)) H' L T Rw m as' xs' st' rwv' mds)(ha:∀ z∈as',z∈as\/(H0 z=none/\z≠M))(hx:∀ z∈xs',z≠M):A5 K H0 H' L T Rw M as' xs' st' rwv' ms:=by
 obtain⟨us,m1,m2⟩:=a.m
 have nd:=a.nd
 rw[nodup_cons,nodup_cons,nodup_cons] at nd
 obtain⟨d1,d2,d3,d4⟩:=nd
 have own:∀ z∈T::Rw::L::as,z∈T::Rw::M::L::as:=fun z hz=>by
  simp only[mem_cons] at hz ⊢
  rcases hz with h|h|h
  ·exact .inl h
  ·exact .inr (.inl h)
  ·exact .inr #[96,h]
 have nM:M∉T::Rw::L::as:=fun h=>by
  simp only[mem_cons,not_or] at h d1 d2 d3
  rcases h with h|h|h|h
  ·exact d1.2.1 h.symm
  ·exact d2.1 h.symm
  ·exact d3.1 h
  ·exact d3.2 h
 have tk:S4 H H':=by
  refine⟨fun b xs e=>a'.s b _ ?_,fun b o xs e=>a'.s b _ ?_⟩
  ·rw[qh5 fun h=>?_];exact e
   rcases a.mut b (own b h) with⟨_,e2⟩|⟨_,_,_,e2⟩ <;> rw[e] at e2 <;> cases e2
  ·rw[qh5 fun h=>?_];exact e
   rcases a.mut b (own b h) with⟨_,e2⟩|⟨_,_,_,e2⟩ <;> rw[e] at e2 <;> cases e2
 have s0:A7 H0 H':=fun z o e=>a'.s z o (by rw[qh5 fun h=>by rw[a.nw z (own z h)] at e;cases e];exact a.s z o e)
 have hMs:H M≠none:=by rw[m1];simp
 have nMa:M∉as':=fun h=>by
  rcases ha M h with h|h
  ·exact nM (by simp[h])
  ·exact h.2 rfl
 have nd':=a'.nd
 rw[nodup_cons,nodup_cons,nodup_cons] at nd'
 obtain⟨c1,c2,c3,c4⟩:=nd'
 simp only[mem_cons,not_or] at nM c1 c2 c3 d1 d2 d3
 refine⟨s0,a'.h,a'.t,a'.r,a'.rb,⟨us,a'.s _ _ (by rw[qh5 (by simp only[mem_cons,not_or];exact nM)];exact m1),Dvs.tupK tk _ _ (Q6 Mnd.fix _) m2⟩,?_,fun z hz=>?_,fun x hx'=>?_⟩
 ·rw[nodup_cons,nodup_cons,nodup_cons]
  simp only[mem_cons,not_or]
  exact⟨⟨c1.1,d1.2.1,c1.2.2⟩,⟨d2.1,c2.2⟩,⟨nM.2.2.1,nMa⟩,c4⟩
 ·simp only[mem_cons] at hz
  rcases hz with h|h|h|h|h
  ·exact a.nw z (by simp[h])
  ·exact a.nw z (by simp[h])
  ·exact a.nw z (by simp[h])
  ·exact a.nw z (by simp[h])
  ·rcases ha z h with h|h
   ·exact a.nw z (by simp[h])
   ·exact h.1
 ·have h1:=a'.nx x hx'
  simp only[mem_cons,not_or] at h1 ⊢
  exact⟨h1.1,h1.2.1,hx x hx',h1.2.2.2⟩
theorem A5.ext{m:Addr}{ms:List Mnd}{us2:List V}(a:A5 K H0 H L T Rw M as xs st rwv ms)(hM:H M=some (.lst us))(hd:Dvs K H (ms.map Mnd.da) us)(hd2:Dvs K H (mds.map Mnd.da) us2):A5 K H0 (upd H M (.lst (us++us2))) L T Rw M as xs st rwv (ms++mds):=by
 obtain⟨n1,n2,n3,n4,n5,n6⟩:=a.apart
 have tk:S4 H (upd H M (.lst (us++us2))):=N8 (.inl ⟨_,hM⟩)
 refine⟨A7.put a.s (a.nw M (by simp)) _,a.h.upd (.inl (.inl ⟨_,hM⟩)) n6,E1 a.t n2,E1 a.r n4,a.rb.mono fun x hx o h=>E1 h fun e=>a.nx x hx #[118],⟨_,A6,?_⟩,a.nd,a.nw,a.nx⟩
 refine Dvs.tupK tk _ _ (Q6 Mnd.fix _) ?_
 rw[map_append]
 exact Dvs.append hd hd2
theorem A5.app{ms:List Mnd}{s e:Int}{t r:Str}(a:A5 K H0 H L T Rw M as xs st rwv ms)(hl:ms.length<=1000000)(hp:H p=none)(q:∀ H',A5 K H0 H' L T Rw M as xs st rwv (ms++[⟨s,e,t,r⟩])->But [M] H H'->Q .non H'):J9 (.ref M) [.ref p] (upd H p (.tup [.int s,.int e,.str t,.str r])) Q:=by
 obtain⟨us,m1,m2⟩:=a.m
 have s7:=A7.new hp (.tup [.int s,.int e,.str t,.str r])
 have dp:Dv K (upd H p (.tup [.int s,.int e,.str t,.str r])) (Mnd.da ⟨s,e,t,r⟩) (.ref p):=zp4 A6
 refine L4 (s7 _ _ m1) (by rw[A5.mlen m2,sizeLine_eq];omega) (q _ ((a.same s7).mend (s7 _ _ m1) (Dvs.same s7 _ _ m2) dp) fun c o e n=>?_)
 rw[B8 (fun z=>n (by rw[z];simp))];exact s7 _ _ e
def wa3(R:Str)(th:List Str):List Str:=th.foldl (fun acc n=>if n=R then[] else acc++[n]) []
variable{R:Str}
theorem zh7(hw:∀ x,L0 rs x=decide (x=R))(th:List Str):O4 rs th=wa3 R th:=by
 unfold O4 wa3
 congr 1
 funext acc n
 rw[hw]
 by_cases h:n=R <;> simp[h]
theorem xk8(R:Str)(ys:List Str)(y:Str):wa3 R (ys++[y])=if y=R then[] else wa3 R ys++[y]:=by unfold wa3;rw[foldl_append];rfl
theorem yx8(R:Str):∀ (k:Nat) (ys:List Str),ys.length=k->(wa3 R ys).length<=k:=by
 intro k
 induction k with
 | zero=>intro ys e;rw[eq_nil_of_length_eq_zero e];exact Nat.le_refl _
 | succ k ih =>
   intro ys e
   rcases eq_nil_or_concat ys with rfl|⟨z,x,rfl⟩
   ·simp at e
   ·rw[concat_eq_append] at e ⊢
    have:=ih z (by simpa using e)
    rw[xk8]
    split
    ·simp
    ·rw[length_append,length_singleton];omega
abbrev wo7(K:Fg):TS :=
 (C1 (E9 (tBM K "list" J9 (A2 2) #[3,3]))
 (S3 (G0 (tOp (qd0 K) (A2 3) (A2 1)))
 #[121,2] Q5))
def qh6(K:Fg):Sp:=fun vs H Q _=>∃ (T:Addr) (R:Str) (th:List Str),vs=[.ref T,.str R]/\H T=some #[16,th]/\th.length<=1000/\∀ (D:Addr) (H':Hp),A7 H H'->H D=none->H' D=some #[16,wa3 R th]->Q (.ref D) H'
def qv7(K:Fg):TS :=
 (C1 #[121,2]
 (C1 (qr1 (qy5 K (A2 0)) (B6 3)
 (wo7 K))
 (L6 (A2 2))))
theorem xz1(h:qh6 K vs H Q E):qv7 K {nx:=fun _ H'=>Q .non H',rt:=Q} (E2 ["_law_there","_law_room","_law_near_here","_law_name"] vs) H:=by
 obtain⟨T,R,th,rfl,hT,hl,q⟩:=h
 show qv7 K _ [some (.ref T),some (.str R),none,none] H
 unfold qv7
 lk
 refine⟨E5 (by z_go),fun D0 hD0=>?_⟩
 have s0:=A7.new hD0 (.lst [])
 lk
 refine qr2 #[52,s0 _ _ hT] (fun i σ H'=>∃ D x3,σ=[some (.ref T),some (.str R),some (.ref D),x3]/\A7 H H'/\H D=none/\H' D=some #[16,wa3 R (th.take i)]) ?_ ?_ ?_ ?_
 ·exact⟨D0,none,rfl,s0,hD0,A6⟩
 ·rintro i σ H' _ ⟨D,x3,rfl,s,_⟩
  exact SqL.of (s _ _ hT)
 ·rintro i v σ H' hv ⟨D,x3,rfl,s,hD,eD⟩
  obtain⟨n,hn,rfl⟩:=V4 hv
  have hnl:=yx8 R _ (th.take i) rfl
  rw[length_take] at hnl
  have eN:wa3 R (th.take (i+1))=if n=R then[] else wa3 R (th.take i)++[n]:=by rw[Z5 hn,xk8]
  refine J0 ?_
  show wo7 K _ _ _
  lk
  refine⟨.inl ⟨rfl,_,SqL.of eD⟩,?_⟩
  lk
  refine L4 eD (by rw[B7,sizeLine_eq];omega) ?_
  have s2:A7 H (upd H' D (.lst (B4 (wa3 R (th.take i))++[.str n]))):=A7.put s hD _
  have e2:(upd H' D (.lst (B4 (wa3 R (th.take i))++[.str n]))) D=_:=A6
  generalize upd H' D (.lst (B4 (wa3 R (th.take i))++[.str n]))=H2 at *
  lk
  by_cases e:n=R
  ·rw[decide_eq_true e]
   x_go
   lk
   refine⟨E5 (by z_go),fun D2 hD2=>?_⟩
   have s3:=A7.new hD2 (.lst [])
   lk
   exact⟨D2,_,rfl,A7.tr s2 s3,A7.grow s2 _ hD2,by rw[eN,if_pos e];exact A6⟩
  ·rw[decide_eq_false e]
   k_go
   lk
   exact⟨D,_,rfl,s2,hD,by rw[eN,if_neg e,e2];simp[B4]⟩
 ·rintro σ H' ⟨D,x3,rfl,s,hD,eD⟩
  rw[B7,take_of_length_le #[6]] at eD
  lk
  exact q D H' s hD eD
structure W5(rs:List Row)(rk:Str->Nat)(R P:Str)(N:List Str):Prop where
 w:∀ x,L0 rs x=decide (x=R)
 b:∀ x,bel rs rk R x=false
 a:∀ x∈N,x≠R->(M8 rs (some x)=some ("anew":Str)↔x≠P)
 e:R ≠ ""
 sb:∀ x,qm0 rs x=[]/\wc4 rs x=[]
variable{N:List Str}
theorem W5.wait{P:Str}(h:W5 rs rk R P N){ns:List Str}(hn:∀ n∈ns,n∈N/\n≠R):P8 rs ns=ns.filter fun n=>!decide (n=P):=by
 rw[yf5 fun z hz=>by rw[h.w];exact decide_eq_false (hn z hz).2]
 unfold xo8
 refine filter_congr fun n hm=>?_
 have:=h.a n (hn n hm).1 (hn n hm).2
 by_cases e:n=P
 ·rw[decide_eq_false (fun z=>(this.mp z) e),decide_eq_true e];rfl
 ·rw[decide_eq_true (this.mpr e),decide_eq_false e];rfl
theorem zp6(h:j<st.bs.length):B5 {st with bs:=lvN j st.bs}=(B5 st).take ((B5 st).length-j):=by
 obtain⟨_,_,h2,_,_⟩:=qs1 (bs:=st.bs) j h
 unfold B5
 show(lvN j st.bs).tail.map Brn.n=_
 rw[h2]
 congr 1
 rw[length_map,length_tail]
abbrev qh7(K:Fg):TS :=
 (C1 (E9 (tBM K "list" J9 (A2 6) (A1 (T7 (A1 (A2 8) (A1 (A2 8) (A1 (tOp (J6 K) (tOp (J6 K) (tC (.str "</")) (A2 11)) (tC (.str ">"))) (A1 (tC (.str "left")) A9))))) A9)))
 (E9 (D8 (P3 K) [] E0 (A1 (A2 2) #[3,3]))))
variable{m:Addr}
theorem xt7{E0':Addr}{x10 x11 x12 x13:Option V}{pre late:List Str}(a:A5 K H0 H L T Rw m as xs st rwv [])(hE:H E0'=some #[16,late])(nE:E0'∉T::Rw::m::L::as)(hn:B5 st=pre++late)(hbl:st.bs.length<=100)(hne:st.bs≠[])(hbp:∀ b∈st.bs,b.ps.length<=1000000)(hml:∀ y∈B5 st,y.length<=8)(hz:z.length<=10000)(q:∀ as' x11' H',A5 K H0 H' L T Rw m as' xs {st with bs:=lvN late.length st.bs} rwv (late.reverse.map fun y=>(⟨z.length,z.length,cls y, "left"⟩:Mnd))->(∀ y∈as',y∈as)->H' E0'=some #[16,late]->D.nx [some (.str z),some (.str n),some (.ref L),some (.ref T),some (.ref Rw),some (.ref d),some (.ref m),some (.str R),some (.int (z.length:Int)),some #[99],x10,x11',x12,x13] H') :
 ∃ b ys,[V.ref E0']=[.ref b]/\SqL K H b ys/\wn1 (B6 11) (qh7 K) D [some (.str z),some (.str n),some (.ref L),some (.ref T),some (.ref Rw),some (.ref d),some (.ref m),some (.str R),some (.int (z.length:Int)),some #[99],x10,x11,x12,x13] (Itb K b ys.length) H:=by
 have hnl:(B5 st).length+1=st.bs.length:=by
  unfold B5;rw[length_map,length_tail]
  have:0<st.bs.length:=length_pos_iff.mpr hne
  omega
 have hll:late.length<=(B5 st).length:=by rw[hn,length_append];omega
 refine zd3 #[52,hE] (fun j σ H'=>∃ as' x11',σ=[some (.str z),some (.str n),some (.ref L),some (.ref T),some (.ref Rw),some (.ref d),some (.ref m),some (.str R),some (.int (z.length:Int)),some #[99],x10,x11',x12,x13]/\A5 K H0 H' L T Rw m as' xs {st with bs:=lvN j st.bs} rwv ((late.reverse.take j).map fun y=>(⟨z.length,z.length,cls y, "left"⟩:Mnd))/\H' E0'=some #[16,late]/\∀ y∈as',y∈as) ?_ ?_ ?_ ?_
 ·exact⟨as,_,rfl,a,hE,fun y hy=>hy⟩
 ·rintro j σ H' ⟨as',x9,rfl,_,h,_⟩;exact SqL.of h
 ·rintro j v σ H' hv hj ⟨as',x9,rfl,aj,hDj,hsub⟩
  rw[B7] at hv hj
  obtain⟨y,hy,rfl⟩:=V4 hv
  have hy8:=hml y (by rw[hn];exact mem_append_right _ (mem_of_getElem? hy))
  obtain⟨us,m1,m2⟩:=aj.m
  obtain⟨_,_,f2,f3,f4⟩:=qs1 (bs:=st.bs) j #[0]
  refine J0 ?_
  show qh7 K _ _ _
  walk_at"32"
  lk
  refine qf5 (by rw[sizeLine_eq];show 2+_<=_;omega) ?_
  lk
  refine qf5 (by rw[sizeLine_eq,qe3];show 2+_+1<=_;omega) ?_
  walk_at"6"
  lk
  refine aj.app (by rw[length_map,length_take];omega) hp fun H3 aj3 bt3=>?_
  have hD3:=bt3 _ _ hDj fun h=>nE (by rw[mem_singleton.mp h];simp)
  lk
  refine aj3.closed (by show 2<=(lvN j st.bs).length;omega) (fun b hb=>by have:=wa2 hbp j b hb;omega) fun as2 H4 a4 hs4 bt4=>?_
  refine⟨as2,_,rfl,?_,?_,fun y hy=>hsub y (hs4 y hy)⟩
  ·have e1:late.reverse[j]?=some y:=by rw[List.getElem?_reverse #[0]];exact hy
   rw[Z5 e1,map_append]
   exact a4
  ·refine bt4 _ _ hD3 fun hc=>nE ?_
   rcases mem_cons.mp hc with h|h
   ·rw[h];simp
   ·rcases mem_cons.mp h with h|h
    ·rw[h];simp
    ·have:=hsub E0' h;simp[this]
 ·rintro σ H' ⟨as',x9,rfl,aj,hDj,hsub⟩
  rw[B7] at aj
  rw[take_of_length_le (by rw[length_reverse];exact Nat.le_refl _)] at aj
  exact q as' _ H' aj hsub hDj
section
variable{rs:List Row}{rk:Str->Nat}{R P:Str}{N:List Str}{st:Rst}{i:Int}{g n:Str}{pre late:List Str}
theorem zp7(hne:st.bs≠[])(hn:B5 st=pre++n::late):∃ (A:List Brn) (y:Brn) (C:List Brn),st.bs=A++y::C/\A.length=pre.length+1/\y.n=n/\C.map Brn.n=late/\C.length=late.length:=by
 obtain⟨c,t,e⟩:=exists_cons_of_ne_nil hne
 have ht:t.map Brn.n=pre++n::late:=by rw[<-hn];unfold B5;rw[e];rfl
 obtain⟨t1,t2,e1,e2,e3⟩:=map_eq_append_iff.mp ht
 obtain⟨y,C,e4,e5,e6⟩:=map_eq_cons_iff.mp e3
 refine⟨c::t1,y,C,by rw[e,e1,e4];rfl,?_,e5,e6,?_⟩
 ·rw[length_cons,<-e2,length_map]
 ·rw[<-e6,length_map]
theorem Ae6(hne:st.bs≠[])(hn:B5 st=pre++n::late):W3 rs st (pre.length+1) i "left"={st with bs:=wUp rs (·++P8 rs late) #[37],ms:=st.ms++late.reverse.map fun y=>(⟨i,i,cls y, "left"⟩:Mnd)}:=by
 obtain⟨A,y,C,e,hA,hy,hC,hCl⟩:=zp7 hne hn
 have:=yg5 (rs:=rs) (i:=i) (rule := "left") e
 rw[hA,hC,hCl] at this
 rw[this]
 congr 1
 rw[<-hC,<-map_reverse,map_map];rfl
theorem Ae7(hne:st.bs≠[])(hn:B5 st=pre++n::late):∃ (l:List Brn) (b1 b2:Brn),lvN late.length st.bs=l++[b1,b2]/\b2.n=n:=by
 obtain⟨A,y,C,e,hA,hy,hC,hCl⟩:=zp7 hne hn
 have h1:lvN late.length st.bs=A++[{y with ps:=y.ps++N3 C}]:=by rw[<-hCl,e];exact wa0 C A y
 rcases eq_nil_or_concat A with e2|⟨l,b1,e2⟩
 ·rw[e2] at hA;simp at hA
 ·rw[concat_eq_append] at e2
  exact⟨l,b1,{y with ps:=y.ps++N3 C},by rw[h1,e2,append_assoc];rfl,hy⟩
theorem zs3(hne:st.bs≠[])(hn:B5 st=pre++n::late)(hl:∀ y∈late,L0 rs y=false):J4 rs #[37]=J4 rs st.bs:=by
 obtain⟨A,y,C,e,hA,hy,hC,hCl⟩:=zp7 hne hn
 have hbl:st.bs.length=pre.length+1+(late.length+1):=by rw[e,length_append,hA,length_cons,hCl]
 refine xt6 late.length #[0] fun m hm=>hl m ?_
 have:st.bs.tail.map Brn.n=pre++n::late:=hn
 rw[this,hbl,show pre.length+1+(late.length+1)-1-late.length=(pre++[n]).length by(rw[length_append,length_singleton];omega),show pre++n::late=(pre++[n])++late by simp,drop_left] at hm
 exact hm
theorem xt8(h:W5 rs rk R P N)(hne:st.bs≠[])(hn:B5 st=pre++R::late)(hl:R∉late):#[80,R].bs=lvB #[37]/\#[80,R].ms=st.ms++late.reverse.map (fun y=>(⟨i,i,cls y, "left"⟩:Mnd))/\J4 rs #[80,R].bs=(J4 rs st.bs).dropLast:=by
 have hlw:∀ y∈late,L0 rs y=false:=fun y hy=>by rw[h.w];exact decide_eq_false fun e=>hl (e▸hy)
 have hc:clo rs rk (B5 st) R (B5 st).length=some pre.length:=by rw[hn];exact yr5 hl hlw
 obtain⟨l,b1,b2,eX,hb2⟩:=Ae7 hne hn
 have hwb:L0 rs b2.n=true:=by rw[h.w,hb2];exact decide_eq_true rfl
 have e0:O5 rs rk st i g R=lvS {st with bs:=wUp rs (·++P8 rs late) #[37],ms:=st.ms++late.reverse.map fun y=>(⟨i,i,cls y, "left"⟩:Mnd)}:=by
  unfold O5
  rw[hc]
  show lvS (W3 rs st (pre.length+1) i "left")=_
  rw[Ae6 hne hn]
 have e1:lvB (wUp rs (·++P8 rs late) (l++[b1,b2]))=lvB (l++[b1,b2]):=by
  have:=qw9 (rs:=rs) (f:=(·++P8 rs late)) (l1:=l++[b1]) (b:=b2) (l2:=[]) (.inl ⟨hwb,fun c hc=>by cases hc⟩)
  rw[show l++[b1,b2]=(l++[b1])++b2::[] by simp,this,show ∀ y:Brn,(l++[b1])++y::[]=l++[b1,y] by simp,qn6,show(l++[b1])++b2::[]=l++[b1,b2] by simp,qn6]
 have e2:#[80,R].bs=lvB #[37]:=by
  rw[e0]
  show lvB (wUp rs _ #[37])=_
  rw[eX];exact e1
 refine⟨e2,by rw[e0];rfl,?_⟩
 have:=xk3 (rs:=rs) l b1 b2
 rw[if_pos hwb] at this
 rw[e2,<-zs3 hne hn hlw,eX,<-this,dropLast_concat]
theorem xt9(h:W5 rs rk R P N)(hne:st.bs≠[])(h0:L0 rs (st.bs.headD S5).n=false)(hn:B5 st=pre++n::late)(hl:n∉late)(hR:∀ y∈n::late,y≠R)(hN:∀ y∈late,y∈N):#[80,n].bs.map Brn.ps=(lvB #[37]).map Brn.ps/\B5 #[80,n]=(lvB #[37]).tail.map Brn.n/\#[80,n].ms=st.ms++late.reverse.map (fun y=>(⟨i,i,cls y, "left"⟩:Mnd))/\∃ rp w,J4 rs st.bs=rp++[w]/\J4 rs #[80,n].bs=rp++[w++late.filter fun y=>!decide (y=P)]:=by
 have hlw:∀ y∈late,L0 rs y=false:=fun y hy=>by rw[h.w];exact decide_eq_false (hR y (by simp[hy]))
 have hc:clo rs rk (B5 st) n (B5 st).length=some pre.length:=by rw[hn];exact yr5 hl hlw
 obtain⟨l,b1,b2,eX,hb2⟩:=Ae7 hne hn
 have hwb:L0 rs b2.n=false:=by rw[h.w,hb2];exact decide_eq_false (hR n (by simp))
 have e0:O5 rs rk st i g n=lvS {st with bs:=wUp rs (·++P8 rs late) #[37],ms:=st.ms++late.reverse.map fun y=>(⟨i,i,cls y, "left"⟩:Mnd)}:=by
  unfold O5
  rw[hc]
  show lvS (W3 rs st (pre.length+1) i "left")=_
  rw[Ae6 hne hn]
 have hw:=h.wait (ns:=late) fun y hy=>⟨hN y hy,hR y (by simp[hy])⟩
 obtain⟨Y,eY⟩:∃ Y,Y=wUp rs (·++P8 rs late) #[37]:=⟨_,rfl⟩
 have eps:Y.map Brn.ps=l.map Brn.ps++[b1.ps,b2.ps]:=by rw[eY,qm4 fun _ _=>rfl,eX];simp
 have enm:Y.tail.map Brn.n=(l++[b1]).tail.map Brn.n++[b2.n]:=by rw[eY,wd4,eX,show l++[b1,b2]=(l++[b1])++[b2] by simp,tail_append_of_ne_nil (by simp),map_append];rfl
 have eps2:#[37].map Brn.ps=l.map Brn.ps++[b1.ps,b2.ps]:=by rw[eX];simp
 have enm2:#[37].tail.map Brn.n=(l++[b1]).tail.map Brn.n++[b2.n]:=by rw[eX,show l++[b1,b2]=(l++[b1])++[b2] by simp,tail_append_of_ne_nil (by simp),map_append];rfl
 obtain⟨f1,f2,_,_⟩:=xk6 eps enm
 obtain⟨f3,f4,_,_⟩:=xk6 eps2 enm2
 have ebs:#[80,n].bs=lvB Y:=by rw[e0,eY];rfl
 refine⟨by rw[ebs,f1,f3],by unfold B5;rw[ebs,f2,f4],by rw[e0];rfl,?_⟩
 have hXne:lvN late.length st.bs≠[]:=by rw[eX];simp
 have hX0:L0 rs (#[37].headD S5).n=false:=by
  obtain⟨A,y,C,e,hA,hy,hC,hCl⟩:=zp7 hne hn
  have h1:lvN late.length st.bs=A++[{y with ps:=y.ps++N3 C}]:=by rw[<-hCl,e];exact wa0 C A y
  rw[h1]
  rw[e] at h0
  cases A with
  | nil=>simp at hA
  | cons c A=>exact h0
 obtain⟨rp,hr1,hr2⟩:=wa1 (rs:=rs) hXne hX0
 refine⟨rp,lwS rs #[37],by rw[<-zs3 hne hn hlw,hr1],?_⟩
 have hr3:=hr2 (·++P8 rs late)
 rw[<-eY] at hr3
 have hY2:2<=Y.length:=by have:=congrArg List.length eps;simp at this;omega
 obtain⟨l',c1,c2,e'⟩:=qn7 hY2
 have hc2:c2.n=b2.n:=by
  have:Y.tail.map Brn.n=(l'++[c1]).tail.map Brn.n++[c2.n]:=by rw[e',show l'++[c1,c2]=(l'++[c1])++[c2] by simp,tail_append_of_ne_nil (by simp),map_append];rfl
  rw[enm] at this
  exact((List.cons.inj (append_inj' this rfl).2).1).symm
 have:=xk3 (rs:=rs) l' c1 c2
 rw[hc2,hwb,if_neg #[10],append_nil,<-e'] at this
 rw[ebs,this,hr3,hw]
theorem xu0(h:W5 rs rk R P N)(h1:n∉O4 rs (B5 st))(h2:¬(n=R/\R∈B5 st)):clo rs rk (B5 st) n (B5 st).length=none:=by
 refine zh6 h1 fun r hr hm=>?_
 rw[h.w] at hr
 have e:=of_decide_eq_true hr
 subst e
 exact⟨fun e=>h2 ⟨e.symm,hm⟩,h.b n⟩
end
theorem xk9{n:Nat}:ixN (n+1) (-1)=some n:=by
 unfold ixN
 rw[if_neg #[10],if_pos #[0]]
 congr 1;omega
theorem xl0(l:List α)(x y:α):(l++[x]).set l.length y=l++[y]:=by simp
theorem xu1{xs:List Str}(hj:xs[j]?=some n)(hm:∀ k,xs[k]?=some n->k<=j):xs=xs.take j++n::xs.drop (j+1)/\n∉xs.drop (j+1):=by
 have hjl:j<xs.length:=(List.getElem?_eq_some_iff.mp hj).1
 refine⟨?_,fun h=>?_⟩
 ·have h2:=List.getElem_cons_drop (as:=xs) (i:=j) (h:=hjl)
  rw[List.getElem?_eq_getElem hjl] at hj
  rw[Option.some.inj hj] at h2
  rw[h2,take_append_drop]
 ·obtain⟨k,hk,ek⟩:=List.getElem_of_mem h
  rw[List.getElem_drop] at ek
  rw[length_drop] at hk
  have:=hm (j+1+k) (by rw[List.getElem?_eq_getElem #[0],ek])
  omega
abbrev wj4(K:Fg):TS :=
 (C1 (E9 (D8 (P3 K) [] E0 (A1 (A2 2) #[3,3])))
 (E9 (yb3 K "list" yb5 (A2 4))))
abbrev wj5(K:Fg):TS :=
 (E3 (tOp (J6 K) #[33,4] (qu0 [some 5,none] (qy5 K (A2 13)) (B6 1) (G0 (tOp (xh0 K) (A2 1) #[91,0])) (A2 1))) (yh3 (A2 4) #[12] xr7))
abbrev wj6(K:Fg):TS :=
 (C1 (E9 (D8 (P3 K) [] E0 (A1 (A2 2) #[3,3])))
 (wj5 K))
abbrev xl1(K:Fg):TS :=
 (C1 (E3 (tSl (wg2 K) (A2 10) (U8 #[92,12]) X9) (B6 13))
 (C1 (qr1 (yo9 K #[3,13]) (B6 11)
 (qh7 K))
 (wj6 K)))
abbrev wj7(K:Fg):TS :=
 (E3 (tOp (J6 K) (tSl (wg2 K) #[33,4] X9 (U8 (A2 12))) (tSl (wg2 K) #[33,4] (U8 #[92,12]) X9)) (yh3 (A2 4) #[12] xr7))
abbrev wj8(K:Fg):TS :=
 (C1 (E3 (tCB (xw5 K) (A1 (qu0 [some 1,some 4,none] (xq4 (A1 (tCB (N6 K) (A1 #[33,4] A9)) A9)) (B6 2) (G0 (tOp (qd0 K) (tOp (L5 K) #[33,1] (A2 2)) (A2 0))) (A2 2)) A9)) (B6 12))
 (wj7 K))
abbrev wj9(K:Fg):TS :=
 (C1 (E9 (tBM K "list" J9 (A2 6) (A1 (T7 (A1 (A2 8) (A1 (A2 9) (A1 (tC (.str "")) (A1 (tC (.str "late")) A9))))) A9)))
 (wj8 K))
abbrev wk0(K:Fg):TS :=
 (E9 (tBM K "list" J9 (A2 6) (A1 (T7 (A1 (A2 8) (A1 (A2 9) (A1 (tC (.str "")) (A1 (tC (.str "stray")) A9))))) A9)))
abbrev qs2(K:Fg):TS :=
 (C1 (E3 (tCB (xw5 K) (A1 (qu0 [some 1,some 10,none] (xq4 (A1 (tCB (N6 K) #[3,10]) A9)) (B6 2) (G0 (tOp (qd0 K) (tOp (L5 K) (A2 1) (A2 2)) (A2 0))) (A2 2)) A9)) (B6 12))
 (xl1 K))
abbrev wf0(K:Fg):TS :=
 (S3 (G0 (tOp (wq3 K false) (A2 1) #[33,4]))
 (wj9 K) (wk0 K))
abbrev wf1(K:Fg):TS :=
 (C1 (S3 (xf5 (G0 (tOp (qd0 K) (A2 1) (A2 7))) (G0 (tOp (wq3 K false) (A2 7) (A2 3))))
 (C1 (qr1 (yo9 K #[3,10]) (B6 11)
 (qh7 K))
 (wj4 K)) (S3 (G0 (tOp (wq3 K false) (A2 1) (A2 10)))
 (qs2 K) (wf0 K)))
 (L6 (A2 6)))
abbrev xe3(K:Fg):TS :=
 (C1 (E3 (D8 (qh6 K) [] E0 (A1 (A2 3) #[3,7])) (B6 10))
 (wf1 K))
abbrev xe4(K:Fg):TS :=
 (C1 (E3 (tOp (J6 K) (tOp (J6 K) (A2 8) #[110]) #[2,3]) (B6 9))
 (xe3 K))
abbrev xe5(K:Fg):TS :=
 (C1 (E3 #[70,5] (B6 7))
 (C1 (E3 (tCB (N6 K) #[3,0]) (B6 8))
 (xe4 K)))
def qm6(K:Fg):Sp:=fun vs H Q _=>∃ (Hb:Hp) (z n:Str) (L T Rw M d:Addr) (as xs:List Addr) (st:Rst) (ms:List Mnd) (rs:List Row) (rk:Str->Nat) (R P:Str) (N nm:List Str),vs=[.str z,.str n,.ref L,.ref T,.ref Rw,.ref d]/\A5 K Hb H L T Rw M as xs st (J4 rs st.bs) ms/\Hb d=some #[16,nm]/\2<=nm.length/\R=gd nm 0/\P=gd nm 1/\W5 rs rk R P N/\z.length<=10000/\n.length<=8/\st.bs≠[]/\st.bs.length<=100/\(∀ b∈st.bs,b.ps.length<=1000000)/\(∀ m∈B5 st,m∈N/\m.length<=8)/\L0 rs (st.bs.headD S5).n=false/\(∀ w∈J4 rs st.bs,w.length<=1000000)/\∀ (m:Addr) (us':List V) (as' xs':List Addr) (H':Hp) (mds:List Mnd),A5 K Hb H' L T Rw M as' xs' #[94] (J4 rs #[94].bs) ms->H' m=some (.lst us')->Dvs K H' (mds.map Mnd.da) us'->#[94].ms=st.ms++mds->mds.length<=200->Q (.ref m) H'
def qq7(K:Fg):TS :=
 (C1 #[121,6]
 (xe5 K))
theorem xp2(h:qm6 K vs H Q E):qq7 K {nx:=fun _ H'=>Q .non H',rt:=Q} (E2 ["_law_text","_law_name","_law_heaps","_law_there","_law_rows","_law_names_here","_law_mends","_law_room","_law_start","_law_stop","_law_near_here","_law_other","_law_at","_law_late"] vs) H:=by
 obtain⟨Hb,z,n,L,T,Rw,M,d,as,xs,st,ms,rs,rk,R,P,N,nm,rfl,a,hd,hnm,eR,eP,hW,hz,hn8,hne,hbl,hbp,hml,h0,hrw,q⟩:=h
 show qq7 K _ [some (.str z),some (.str n),some (.ref L),some (.ref T),some (.ref Rw),some (.ref d),none,none,none,none,none,none,none,none] H
 unfold qq7
 have hnl:(B5 st).length+1=st.bs.length:=by
  unfold B5;rw[length_map,length_tail]
  have:0<st.bs.length:=length_pos_iff.mpr hne
  omega
 have hml8:∀ y∈B5 st,y.length<=8:=fun y hy=>(hml y hy).2
 lk
 refine⟨E5 (by z_go),fun m hm=>?_⟩
 have a1:=a.loc hm
 have nown:∀ y,Hb y≠none->y∉T::Rw::L::as:=fun y hy h=>hy (a.nw y (by
  simp only[mem_cons] at h ⊢
  rcases h with h|h|h
  ·exact .inl h
  ·exact .inr (.inl h)
  ·exact .inr #[96,h]))
 have hd0:(rml H (T::Rw::L::as)) d=some #[16,nm]:=by rw[qh5 (nown d (by rw[hd];simp))];exact a.s _ _ hd
 walk_at"28"
 rw[<-eH0] at hd0
 rw[<-eH1]
 obtain⟨usM,hMM,_⟩:=a.m
 have hM0:H0 M=some (.lst usM):=by
  rw[eH0,qh5 fun h=>?_];exact hMM
  obtain⟨n1,n2,n3,n4,n5,n6⟩:=a.apart
  rcases mem_cons.mp h with h|h
  ·exact n2 h.symm
  rcases mem_cons.mp h with h|h
  ·exact n4 h.symm
  ·exact n6 h
 have hxM:∀ y∈xs,y≠M:=fun y hy e=>a.nx y hy #[118]
 have s1:A7 H H1:=by rw[eH1];exact A7.new hm (.lst [])
 have fin:∀ (as' xs':List Addr) (H':Hp) (mds:List Mnd),A5 K H0 H' L T Rw m as' xs' #[94] (J4 rs #[94].bs) mds->(∀ z∈as',z∈as)->(∀ z∈xs',z≠M)->#[94].ms=st.ms++mds->mds.length<=200->Q (.ref m) H':=fun as' xs' H' mds a' ha hx hms hl=>by
  obtain⟨us,m1,m2⟩:=a'.m
  exact q m us as' xs' H' mds (a.back hm (eH0▸a') (fun z hz=>.inl (ha z hz)) hx) m1 m2 hms hl
 lk
 refine M9 #[52,a1.s _ _ hd0] (qn4 (i:=0) #[0]) ?_
 rw[<-eR]
 lk
 refine wh8 #[42] ?_
 lk
 refine wh8 #[42] ?_
 lk
 have estop:(z.length:Int)+(n.length:Int)+3=(z.length:Int)+((cls n).length:Int):=by rw[zp1];omega
 rw[estop]
 refine⟨T,R,B5 st,rfl,a1.t,by omega,fun D H2 s2 hD eD=>?_⟩
 have a2:=a1.same s2
 have nD:D∉T::Rw::m::L::as:=fun h=>(a1.mut D h).some hD
 have s02:=A7.tr s1 s2
 rw[<-zh7 hW.w] at eD
 obtain⟨pr,epr,hnw,hpr⟩:=wr5 (rs:=rs) (B5 st)
 obtain⟨nr,enr⟩:∃ nr,nr=O4 rs (B5 st):=⟨_,rfl⟩
 rw[<-enr] at eD epr hnw
 have hRn:R∉nr:=fun h=>by
  have:=hnw R h
  rw[hW.w,decide_eq_true rfl] at this;cases this
 have hnrl:nr.length<=100:=by
  have:=congrArg List.length epr
  rw[length_append] at this;omega
 clear hD
 refine J0 ?_
 show wf1 K _ [some (.str z),some (.str n),some (.ref L),some (.ref T),some (.ref Rw),some (.ref d),some (.ref m),some (.str R),some (.int (z.length:Int)),some #[99],some (.ref D),none,none,none] H2
 lk
 have mid:¬(n=R/\R∈B5 st)->(S3 (G0 (tOp (wq3 K false) (A2 1) (A2 10))) (qs2 K) (wf0 K)) {nx:=L6 (A2 6) {nx:=fun _ H'=>Q .non H',rt:=Q},rt:=Q} [some (.str z),some (.str n),some (.ref L),some (.ref T),some (.ref Rw),some (.ref d),some (.ref m),some (.str R),some (.int (z.length:Int)),some #[99],some (.ref D),none,none,none] H2:=fun hno=>by
  lk
  refine .inl (xw1 (.inl #[52,eD]) rfl (T0 _) ?_)
  rw[V3]
  lk
  by_cases hin:n∈nr
  ·rw [decide_eq_true hin]
   x_go
   show qs2 K _ _ _
   lk
   refine Q4 (.inl #[52,eD]) ?_
   rw[B7]
   refine xr5 #[0] #[0] (fun j ys H'=>H'=H2/\∃ js:List Int,ys=js.map V.int/\js.length<=j/\(∀ k:Int,k∈js->∃ m:Nat,k=(m:Int)/\(nr)[m]?=some n)/\∀ m:Nat,m<j->(nr)[m]?=some n->(m:Int)∈js) ⟨rfl,[],rfl,Nat.le_refl _,fun k hk=>(by cases hk),fun m hm=>by omega⟩ ?_ ?_ ?_
   ·rintro j ys H' hj ⟨_,js,rfl,hjl,_⟩
    rw[length_map,sizeLine_eq];omega
   ·rintro j ys H' hj ⟨rfl,js,rfl,hjl,h1,h2⟩
    have hj2:j<(nr).length:=by omega
    refine J0 ?_
    lk
    refine M9 #[52,eD] (qn4 hj2) ?_
    lk
    have hg:(nr)[j]?=some (gd (nr) j):=qk7 hj2
    by_cases e:gd (nr) j=n
    ·rw[decide_eq_true e]
     x_go
     lk
     refine⟨rfl,js++[(j:Int)],by simp,by simp;omega,fun k hk=>?_,fun m hm he=>?_⟩
     ·rcases mem_append.mp hk with hk|hk
      ·exact h1 k hk
      ·exact⟨j,mem_singleton.mp hk,by rw[hg,e]⟩
     ·rcases Nat.lt_or_ge m j with h|h
      ·exact mem_append_left _ (h2 m h he)
      ·rw[show m=j by omega];simp
    ·rw[decide_eq_false e]
     k_go
     refine⟨rfl,js,rfl,by omega,h1,fun m hm he=>?_⟩
     rcases Nat.lt_or_ge m j with h|h
     ·exact h2 m h he
     ·rw[show m=j by omega,hg] at he
      exact absurd (Option.some.inj he) e
   rintro ys H' ⟨rfl,js,rfl,hjl,h1,h2⟩ l hl
   have s4:=A7.new hl (.lst (js.map V.int))
   have el:(upd H' l (.lst (js.map V.int))) l=_:=A6
   have a4:=a2.same s4
   have eD4:=s4 _ _ eD
   generalize upd H' l (.lst (js.map V.int))=H4 at *
   lk
   have hjne:js≠[]:=fun e=>by
    obtain⟨k,hk,ek⟩:=List.getElem_of_mem hin
    have:=h2 k #[0] (by rw[List.getElem?_eq_getElem hk,ek])
    rw[e] at this;cases this
   refine zd2 #[52,el] hjne fun j hj hmax=>?_
   obtain⟨m0,rfl,hm0⟩:=h1 j hj
   have hm0l:m0<nr.length:=(List.getElem?_eq_some_iff.mp hm0).1
   obtain⟨esp,hnl2⟩:=xu1 hm0 fun k hk=>by
    have hk2:=(List.getElem?_eq_some_iff.mp hk).1
    have:=hmax _ (h2 k #[0] hk)
    omega
   obtain⟨late,elate⟩:∃ late,late=nr.drop (m0+1):=⟨_,rfl⟩
   rw[<-elate] at esp hnl2
   have hth:B5 st=(pr++nr.take m0)++n::late:=by rw[epr,append_assoc,<-esp]
   have hth2:B5 st=(pr++nr.take m0++[n])++late:=by rw[hth];simp
   have hlm:∀ y∈n::late,y∈nr:=fun y hy=>by rw[esp];exact mem_append_right _ hy
   have hlR:∀ y∈n::late,y≠R:=fun y hy e=>hRn (e▸hlm y hy)
   have hlN:∀ y∈late,y∈N:=fun y hy=>(hml y (by rw[hth];simp[hy])).1
   obtain⟨f1,f2,f3,rp,w,erw,f4⟩:=xt9 (i:=z.length) (g:=cls n) hW hne h0 hth hnl2 hlR hlN
   lk
   refine xc1 #[52,eD4] fun D2 hD2=>?_
   have ecut:qg4 (B4 nr) (some ((m0:Int)+1)) none=B4 late:=by
    rw[qz3 #[0],show((m0:Int)+1).toNat=m0+1 by omega,elate]
    simp[B4,map_drop]
   rw[ecut]
   have s5:=A7.new hD2 #[16,late]
   have a5:=a4.same s5
   have eD2:(upd H4 D2 #[16,late]) D2=_:=A6
   have nD2:D2∉T::Rw::m::L::as:=fun h=>(a4.mut D2 h).some hD2
   generalize upd H4 D2 #[16,late]=H5 at *
   lk
   refine xt7 (x12:=some (.int (m0:Int))) a5 eD2 nD2 hth2 hbl hne hbp hml8 hz fun as6 x11 H6 a6 hs6 eD6=>?_
   show wj6 K _ _ _
   have hlt:late.length+1<=(B5 st).length:=by rw[hth,length_append,length_cons];omega
   have hl2:#[37].length+late.length=st.bs.length:=by
    obtain⟨_,_,_,_,h4⟩:=qs1 (bs:=st.bs) late.length #[0]
    exact h4
   lk
   refine a6.closed (by show 2<=#[37].length;omega) (fun b hb=>by have:=wa2 hbp _ b hb;omega) fun as7 H7 a7 hs7 bt7=>?_
   have hsub7:∀ y∈as7,y∈as:=fun y hy=>hs6 y (hs7 y hy)
   have eD7:=bt7 _ _ eD6 fun hc=>nD2 (by
    rcases mem_cons.mp hc with h|h
    ·rw[h];simp
    ·rcases mem_cons.mp h with h|h
     ·rw[h];simp
     ·have:=hs6 D2 h;simp[this])
   have hb7:=a7.rb
   rw[erw] at hb7
   obtain⟨xs',x,exs,hb8,hx8⟩:=hb7.snoc
   have hr7:H7 Rw=some (.lst #[87]):=by
    have:=a7.r
    rw[exs,map_append] at this
    exact this
   show wj5 K _ _ _
   walk_at"17"
   refine M9 #[52,hr7] (v:=.ref x) #[63] ?_
   lk
   refine wx8 (.inl #[52,eD7]) (A7.refl H7) (fun i ys H'=>H'=H7/\ys=B4 ((late.take i).filter fun y=>!decide (y=P))) ⟨rfl,rfl⟩ ?_ ?_ ?_ ?_
   ·rintro i ys H' hi ⟨_,rfl⟩
    rw[B7,sizeLine_eq]
    have:=length_filter_le (fun y=>!decide (y=P)) (late.take i)
    rw[length_take] at this
    omega
   ·rintro i ys H' ⟨rfl,_⟩;exact A7.refl _
   ·rintro i v ys H' hi ⟨rfl,rfl⟩
    obtain⟨y,hy,rfl⟩:=V4 hi
    refine J0 ?_
    lk
    refine M9 #[52,a7.s _ _ hd0] (qn4 (i:=1) #[0]) ?_
    rw[<-eP]
    lk
    have et:(late.take (i+1)).filter (fun y=>!decide (y=P))=(late.take i).filter (fun y=>!decide (y=P))++(if y=P then[] else[y]):=by
     rw[Z5 hy,filter_append]
     congr 1
     by_cases e:y=P <;> simp[e]
    by_cases e:y=P
    ·rw[decide_eq_true e]
     k_go
     exact⟨rfl,by rw[et,if_pos e,append_nil]⟩
    ·rw[decide_eq_false e]
     x_go
     lk
     exact⟨rfl,by rw[et,if_neg e];simp[B4]⟩
   rintro ys H' ⟨rfl,rfl⟩ l9 hl9
   rw[B7,take_of_length_le #[6]]
   have s9:=A7.new hl9 #[16,late.filter fun y=>!decide (y=P)]
   have el9:(upd H' l9 #[16,late.filter fun y=>!decide (y=P)]) l9=_:=A6
   have a9:=a7.same s9
   have hx9:=s9 _ _ hx8
   have hr9:=s9 _ _ hr7
   have hb9:=hb8.mono (H':=upd H' l9 #[16,late.filter fun y=>!decide (y=P)]) fun y _ o h=>s9 y o h
   generalize upd H' l9 #[16,late.filter fun y=>!decide (y=P)]=H9 at *
   have hwl:w.length<=1000000:=hrw w (by rw[erw];simp)
   have hfl:(late.filter fun y=>!decide (y=P)).length<=100:=by
    have:=length_filter_le (fun y=>!decide (y=P)) late
    omega
   lk
   refine xr6 hx9 el9 (by rw[B7,B7,sizeLine_eq];omega) fun p hp=>?_
   have est:B4 w++B4 (late.filter fun y=>!decide (y=P))=B4 (w++late.filter fun y=>!decide (y=P)):=by simp[B4]
   rw[est]
   have s10:=A7.new hp #[16,w++late.filter fun y=>!decide (y=P)]
   have ep10:(upd H9 p #[16,w++late.filter fun y=>!decide (y=P)]) p=_:=A6
   have a10:=a9.same s10
   have hr10:=s10 _ _ hr9
   have hb10:=hb9.mono (H':=upd H9 p #[16,w++late.filter fun y=>!decide (y=P)]) fun y _ o h=>s10 y o h
   have np:p∉T::Rw::m::L::as7:=fun h=>(a9.mut p h).some hp
   have npM:p≠M:=fun e=>by rw[e,a9.s _ _ hM0] at hp;cases hp
   generalize upd H9 p #[16,w++late.filter fun y=>!decide (y=P)]=H10 at *
   walk_at"17"
   walk_at"34"
   have eset:#[87].set xs'.length (.ref p)=(xs'++[p]).map V.ref:=by
    have:=xl0 (xs'.map V.ref) (V.ref x) (V.ref p)
    rw[length_map] at this
    rw[this];simp
   rw[eset]
   have a11:=a10.rows (ys:=xs'++[p]) (rwv':=rp++[w++late.filter fun y=>!decide (y=P)]) (st':=O5 rs rk st z.length (cls n) n) (hb10.app (RwB.one ep10)) (fun y hy=>by
    rcases mem_append.mp hy with h|h
    ·exact a10.nx y (by rw[exs];simp[h])
    ·rw[mem_singleton.mp h];exact np) f1 f2
   lk
   refine fin as7 (xs'++[p]) _ _ (by rw[f4];exact a11) hsub7 (fun y hy=>?_) f3 (by rw[length_map,length_reverse];omega)
   rcases mem_append.mp hy with h|h
   ·exact hxM y (by rw[exs];simp[h])
   ·rw[mem_singleton.mp h];exact npM
  ·rw [decide_eq_false hin]
   k_go
   have hc0:=xu0 hW (n:=n) (by rw[<-enr];exact hin) hno
   obtain⟨rp,hr1,hr2⟩:=wa1 (rs:=rs) hne h0
   obtain⟨w,ew⟩:∃ w,w=lwS rs st.bs:=⟨_,rfl⟩
   rw[<-ew] at hr1 hr2
   have hwl:w.length<=1000000:=hrw w (by rw[hr1];simp)
   have hb2:=a2.rb
   rw[hr1] at hb2
   obtain⟨xs',x,exs,hb3,hx3⟩:=hb2.snoc
   have hrx:H2 Rw=some (.lst #[87]):=by
    have:=a2.r
    rw[exs,map_append] at this
    exact this
   obtain⟨us,m1,_⟩:=a2.m
   walk_at"17"
   refine M9 #[52,hrx] (v:=.ref x) #[63] ?_
   lk
   refine .inl (xw1 (.inl #[52,hx3]) rfl (T0 _) ?_)
   rw[V3]
   lk
   by_cases hwt:n∈w
   ·rw [decide_eq_true hwt]
    x_go
    have eo:O5 rs rk st z.length (cls n) n={(qg2 st z.length (cls n) "late") with bs:=wUp rs (fun ws=>woL ws n) st.bs}:=by
     unfold O5;rw[hc0,<-ew];exact if_pos hwt
    have er:J4 rs #[94].bs=rp++[woL w n]:=by rw[eo];exact hr2 fun ws=>woL ws n
    show wj9 K _ _ _
    walk_at"32"
    walk_at"6"
    lk
    refine a2.app (by simp) hp fun H4 a4 _=>?_
    have hb4:=a4.rb
    rw[hr1,exs] at hb4
    obtain⟨xs2,x2,exs2,hb5,hx5⟩:=hb4.snoc
    obtain⟨rfl,exx⟩:=append_inj' exs2 rfl
    obtain rfl:x=x2:=(List.cons.inj exx).1
    have hr4:H4 Rw=some (.lst #[87]):=by
     have:=a4.r
     rw[exs,map_append] at this
     exact this
    show wj8 K _ _ _
    walk_at"17"
    refine M9 #[52,hr4] (v:=.ref x) #[63] ?_
    lk
    refine Q4 (.inl #[52,hx5]) ?_
    rw[B7]
    refine xr5 #[0] #[0] (fun j ys H'=>H'=H4/\∃ js:List Int,ys=js.map V.int/\js.length<=j/\(∀ k:Int,k∈js->∃ m:Nat,k=(m:Int)/\(w)[m]?=some n)/\∀ m:Nat,m<j->(w)[m]?=some n->(m:Int)∈js) ⟨rfl,[],rfl,Nat.le_refl _,fun k hk=>(by cases hk),fun m hm=>by omega⟩ ?_ ?_ ?_
    ·rintro j ys H' hj ⟨_,js,rfl,hjl,_⟩
     rw[length_map,sizeLine_eq];omega
    ·rintro j ys H' hj ⟨rfl,js,rfl,hjl,h1,h2⟩
     have hj2:j<(w).length:=by omega
     refine J0 ?_
     walk_at"17"
     refine M9 #[52,hr4] (v:=.ref x) #[63] ?_
     lk
     refine M9 #[52,hx5] (qn4 hj2) ?_
     lk
     have hg:(w)[j]?=some (gd (w) j):=qk7 hj2
     by_cases e:gd (w) j=n
     ·rw[decide_eq_true e]
      x_go
      lk
      refine⟨rfl,js++[(j:Int)],by simp,by simp;omega,fun k hk=>?_,fun m hm he=>?_⟩
      ·rcases mem_append.mp hk with hk|hk
       ·exact h1 k hk
       ·exact⟨j,mem_singleton.mp hk,by rw[hg,e]⟩
      ·rcases Nat.lt_or_ge m j with h|h
       ·exact mem_append_left _ (h2 m h he)
       ·rw[show m=j by omega];simp
     ·rw[decide_eq_false e]
      k_go
      refine⟨rfl,js,rfl,by omega,h1,fun m hm he=>?_⟩
      rcases Nat.lt_or_ge m j with h|h
      ·exact h2 m h he
      ·rw[show m=j by omega,hg] at he
       exact absurd (Option.some.inj he) e
    rintro ys H' ⟨rfl,js,rfl,hjl,h1,h2⟩ l hl
    have s4:=A7.new hl (.lst (js.map V.int))
    have el:(upd H' l (.lst (js.map V.int))) l=_:=A6
    have a6:=a4.same s4
    have hr6:=s4 _ _ hr4
    have hx6:=s4 _ _ hx5
    have hb6:=hb5.mono (H':=upd H' l (.lst (js.map V.int))) fun y _ o h=>s4 y o h
    generalize upd H' l (.lst (js.map V.int))=H6 at *
    lk
    have hjne:js≠[]:=fun e=>by
     obtain⟨k,hk,ek⟩:=List.getElem_of_mem hwt
     have:=h2 k #[0] (by rw[List.getElem?_eq_getElem hk,ek])
     rw[e] at this;cases this
    refine zd2 #[52,el] hjne fun j hj hmax=>?_
    obtain⟨m0,rfl,hm0⟩:=h1 j hj
    have hm0l:m0<w.length:=(List.getElem?_eq_some_iff.mp hm0).1
    obtain⟨esp,hnl2⟩:=xu1 hm0 fun k hk=>by
     have hk2:=(List.getElem?_eq_some_iff.mp hk).1
     have:=hmax _ (h2 k #[0] hk)
     omega
    have ewo:woL w n=w.take m0++w.drop (m0+1):=by
     have:=xt1 (A:=w.take m0) hnl2
     rw[<-esp] at this;exact this
    show wj7 K _ _ _
    walk_at"17"
    refine M9 #[52,hr6] (v:=.ref x) #[63] ?_
    lk
    refine xc1 #[52,hx6] fun y1 hy1=>?_
    rw[wu5]
    have s7:=A7.new hy1 #[16,w.take m0]
    have e7:(upd H6 y1 #[16,w.take m0]) y1=_:=A6
    have a7:=a6.same s7
    have hr7:=s7 _ _ hr6
    have hx7:=s7 _ _ hx6
    have hb7:=hb6.mono (H':=upd H6 y1 #[16,w.take m0]) fun y _ o h=>s7 y o h
    generalize upd H6 y1 #[16,w.take m0]=H7 at *
    walk_at"17"
    refine M9 #[52,hr7] (v:=.ref x) #[63] ?_
    lk
    refine xc1 #[52,hx7] fun y2 hy2=>?_
    have ecut:qg4 (B4 w) (some ((m0:Int)+1)) none=B4 (w.drop (m0+1)):=by
     rw[qz3 #[0],show((m0:Int)+1).toNat=m0+1 by omega]
     simp[B4,map_drop]
    rw[ecut]
    have s8:=A7.new hy2 #[16,w.drop (m0+1)]
    have e8:(upd H7 y2 #[16,w.drop (m0+1)]) y2=_:=A6
    have a8:=a7.same s8
    have hr8:=s8 _ _ hr7
    have e78:=s8 _ _ e7
    have hb8:=hb7.mono (H':=upd H7 y2 #[16,w.drop (m0+1)]) fun y _ o h=>s8 y o h
    generalize upd H7 y2 #[16,w.drop (m0+1)]=H8 at *
    refine xr6 e78 e8 (by rw[B7,B7,length_take,length_drop,sizeLine_eq];omega) fun p9 hp9=>?_
    have est:B4 (w.take m0)++B4 (w.drop (m0+1))=B4 (woL w n):=by rw[ewo];simp[B4]
    rw[est]
    have s10:=A7.new hp9 #[16,woL w n]
    have ep10:(upd H8 p9 #[16,woL w n]) p9=_:=A6
    have a10:=a8.same s10
    have hr10:=s10 _ _ hr8
    have hb10:=hb8.mono (H':=upd H8 p9 #[16,woL w n]) fun y _ o h=>s10 y o h
    have np:p9∉T::Rw::m::L::as:=fun h=>(a8.mut p9 h).some hp9
    have npM:p9≠M:=fun e=>by rw[e,a8.s _ _ hM0] at hp9;cases hp9
    generalize upd H8 p9 #[16,woL w n]=H10 at *
    walk_at"17"
    walk_at"34"
    have eset:#[87].set xs'.length (.ref p9)=(xs'++[p9]).map V.ref:=by
     have:=xl0 (xs'.map V.ref) (V.ref x) (V.ref p9)
     rw[length_map] at this
     rw[this];simp
    rw[eset]
    have a11:=a10.rows (ys:=xs'++[p9]) (rwv':=rp++[woL w n]) (st':=O5 rs rk st z.length (cls n) n) (hb10.app (RwB.one ep10)) (fun y hy=>by
     rcases mem_append.mp hy with h|h
     ·exact a10.nx y (by rw[exs];simp[h])
     ·rw[mem_singleton.mp h];exact np) (by rw[eo];exact qm4 #[36] _) (by rw[eo];exact wd4 _)
    lk
    refine fin as (xs'++[p9]) _ _ (by rw[er];exact a11) (fun y hy=>hy) (fun y hy=>?_) (by rw[eo];rfl) (by simp)
    rcases mem_append.mp hy with h|h
    ·exact hxM y (by rw[exs];simp[h])
    ·rw[mem_singleton.mp h];exact npM
   ·rw[decide_eq_false hwt]
    k_go
    have eo:O5 rs rk st z.length (cls n) n=qg2 st z.length (cls n) "stray":=by
     unfold O5;rw[hc0,<-ew];exact if_neg hwt
    show wk0 K _ _ _
    walk_at"32"
    walk_at"6"
    lk
    refine a2.app (by simp) hp fun H4 a4 _=>?_
    lk
    exact fin as xs _ _ (by rw[eo];exact a4.st_eq rfl rfl) (fun y hy=>hy) hxM (by rw[eo];rfl) (by simp)
 by_cases hnR:n=R
 ·rw [decide_eq_true hnR]
  x_go
  lk
  refine .inl (xw1 (.inl #[52,a2.t]) rfl (T0 _) ?_)
  rw[V3]
  lk
  by_cases hRt:R∈B5 st
  ·rw[decide_eq_true hRt]
   x_go
   subst hnR
   obtain⟨p,ep⟩:∃ p,pr=p++[n]:=by
    rcases hpr with rfl|⟨p,r,rfl,hr⟩
    ·rw[epr,nil_append] at hRt
     exact absurd hRt hRn
    ·rw[hW.w] at hr
     exact⟨p,by rw[of_decide_eq_true hr]⟩
   have hth:B5 st=p++n::nr:=by rw[epr,ep,append_assoc];rfl
   obtain⟨f1,f2,f3⟩:=xt8 (i:=z.length) (g:=cls n) hW hne hth hRn
   lk
   refine xt7 a2 eD nD epr hbl hne hbp hml8 hz fun as' x11 H3 a3 hs3 eD3=>?_
   show wj4 K _ _ _
   have hl2:(lvN nr.length st.bs).length+nr.length=st.bs.length:=by
    obtain⟨_,_,_,_,h4⟩:=qs1 (bs:=st.bs) nr.length (by rw[hth] at hnl;rw[<-hnl];simp;omega)
    exact h4
   lk
   refine a3.closed (by show 2<=(lvN nr.length st.bs).length;rw[hth] at hnl;simp at hnl;omega) (fun b hb=>by have:=wa2 hbp _ b hb;omega) fun as4 H4 a4 hs4 bt4=>?_
   obtain⟨rp,w,erw⟩:∃ rp w,J4 rs st.bs=rp++[w]:=by
    rcases eq_nil_or_concat (J4 rs st.bs) with e|⟨rp,w,e⟩
    ·unfold J4 at e;cases e
    ·exact⟨rp,w,by rw[e,concat_eq_append]⟩
   have hb4:=a4.rb
   rw[erw] at hb4
   obtain⟨xs',x,exs,hb5,hx5⟩:=hb4.snoc
   have hr4:=a4.r
   rw[exs,map_append] at hr4
   lk
   refine⟨.inl ⟨rfl,_,SqL.of hr4⟩,?_⟩
   refine xs1 hr4 ?_
   lk
   have a5:=a4.rows (ys:=xs') (rwv':=rp) (st':=O5 rs rk st z.length (cls n) n) hb5 (fun y hy=>a4.nx y (by rw[exs];simp[hy])) (by rw[f1]) (by unfold B5;rw[f1])
   refine fin as4 xs' _ _ (by rw[f3,erw,dropLast_concat];exact a5) (fun y hy=>hs3 y (hs4 y hy)) (fun y hy=>hxM y (by rw[exs];simp[hy])) f2 (by rw[length_map,length_reverse];omega)
  ·rw[decide_eq_false hRt]
   k_go
   first|exact mid fun h=>hRt h.2|(refine qd5 ?_;exact mid fun h=>hRt h.2)
 ·rw[decide_eq_false hnR]
  k_go
  first|exact mid fun h=>hnR h.1|(refine qd5 ?_;exact mid fun h=>hnR h.1)
theorem xf4{P:Str}(h:W5 rs rk R P N){ns:List Str}:qz6 rs ns n=(decide (ns.length<20) && !decide (n∈O4 rs ns)):=by
 unfold qz6
 rw[(h.sb n).1,(h.sb n).2]
 congr 2
 by_cases hx:n∈O4 rs ns
 ·rw[decide_eq_true hx]
  exact any_eq_true.mpr ⟨n,hx,by simp⟩
 ·rw[decide_eq_false hx,any_eq_false]
  intro y hy
  simp
  exact fun e=>hx (e▸hy)
structure J5(rs:List Row)(R:Str)(N:List Str)(ww:List (List Str))(s:Rst):Prop where
 ne:s.bs≠[]
 l:s.bs.length<=21
 r:J4 rs s.bs=ww
 n:∀ m∈B5 s,m∈N
 b:∀ b∈s.bs,b.ps.length<=1000000/\adA b.ps<=1000000
variable{ww:List (List Str)}
theorem J5.put{s:Rst}{n:Str}(h:J5 rs R N ww s)(hw:L0 rs n=false)(hn:n∈N)(hl:(B5 s).length<20):J5 rs R N ww (wj0 s n i rule):=by
 have hnl:(B5 s).length+1=s.bs.length:=by
  unfold B5;rw[length_map,length_tail]
  have:0<s.bs.length:=length_pos_iff.mpr h.ne
  omega
 refine⟨by show P4 s.bs n≠[];unfold P4;simp,?_,?_,fun m hm=>?_,fun b hb=>?_⟩
 ·show(s.bs++[_]).length<=21
  rw[length_append,length_singleton];omega
 ·show J4 rs (s.bs++[_])=_
  rw[wd7 h.ne,show(wv2 (S6 s.bs) n).n=n from rfl,hw,if_neg #[10],append_nil,h.r]
 ·have hm:m∈(P4 s.bs n).tail.map Brn.n:=hm
  rw[xk7 h.ne] at hm
  rcases mem_append.mp hm with hm|hm
  ·exact h.n m hm
  ·rw[mem_singleton.mp hm];exact hn
 ·have hb:b∈s.bs++[wv2 (S6 s.bs) n]:=hb
  rcases mem_append.mp hb with hb|hb
  ·exact h.b b hb
  ·rw[mem_singleton.mp hb];exact⟨Nat.zero_le _,Nat.zero_le _⟩
theorem J5.anew{P:Str}{s:Rst}{n:Str}(W:W5 rs rk R P N)(h:J5 rs R N ww s)(hw:L0 rs n=false)(hn:n∈N):J5 rs R N ww (J8 rs i s n):=by
 unfold J8
 rw[xf4 W]
 by_cases hl:(B5 s).length<20
 ·split
  ·exact h.put hw hn hl
  ·exact h
 ·rw[decide_eq_false hl];exact h
theorem J5.fold{rs:List Row}{rk:Str->Nat}{R P:Str}{N:List Str}{ww:List (List Str)}{i:Int}(W:W5 rs rk R P N):∀ (ns:List Str) {s:Rst},J5 rs R N ww s->(∀ n∈ns,n∈N/\n≠R)->J5 rs R N ww (ns.foldl (J8 rs i) s)
 | [],s,h,_=>h
 | n::ns,s,h,hn=>J5.fold W ns (J5.anew W h (by rw[W.w];exact decide_eq_false (hn n (by simp)).2) (hn n (by simp)).1) fun m hm=>hn m (by simp[hm])
abbrev wo8(K:Fg):TS :=
 (C1 (E9 (tBM K "list" J9 (A2 2) #[3,6]))
 (E9 (tBM K "list" J9 (A2 1) (A1 (W1 A9) A9))))
abbrev wo9(K:Fg):TS :=
 (C1 (E9 (tBM K "list" J9 (A2 5) (A1 (T7 (A1 (tCB (N6 K) #[3,0]) (A1 (tCB (N6 K) #[3,0]) (A1 (tOp (J6 K) (tOp (J6 K) (tC (.str "<")) (A2 6)) (tC (.str ">"))) (A1 (tC (.str "anew")) A9))))) A9)))
 (wo8 K))
abbrev xp3(K:Fg):TS :=
 (S3 (xf5 (G0 (tOp (wq3 K true) (A2 6) (D8 (qh6 K) [] E0 (A1 (A2 2) #[3,4])))) (G0 (tOp xv7 (tCB (N6 K) #[3,2]) #[2,20])))
 (wo9 K) Q5)
abbrev wp0(K:Fg):TS :=
 (E3 (tOp (J6 K) (yb3 K "list" yb5 #[33,1]) (A2 7)) (B6 7))
abbrev qx3(K:Fg):TS :=
 (C1 (E9 (tBM K "list" J9 #[33,1] #[3,7]))
 (L6 (A2 5)))
abbrev qx4(K:Fg):TS :=
 (C1 (S3 (xf5 (G0 (tOp (xh0 K) #[33,1] (W1 A9))) (tB (tCB (yv0 K) (A1 (tOp (L5 K) #[33,1] #[12]) (A1 (tC (.ty "str")) A9)))))
 (wp0 K) Q5)
 (qx3 K))
abbrev wp1(K:Fg):TS :=
 (C1 (E3 (W1 A9) (yh3 (A2 3) #[12] xr7))
 (C1 (E3 (tC (.str "w")) (B6 7))
 (qx4 K)))
abbrev xp4(K:Fg):TS :=
 (C1 (qr1 (qy5 K #[33,3]) (B6 6)
 (xp3 K))
 (wp1 K))
def qq8(K:Fg):Sp:=fun vs H Q _=>∃ (Hb:Hp) (z:Str) (L T Rw M:Addr) (as xs:List Addr) (st:Rst) (ms:List Mnd) (rs:List Row) (rk:Str->Nat) (R P:Str) (N:List Str),vs=[.str z,.ref L,.ref T,.ref Rw,.str R]/\A5 K Hb H L T Rw M as xs st (J4 rs st.bs) ms/\W5 rs rk R P N/\z.length<=10000/\J5 rs R N (J4 rs st.bs) st/\(∀ m∈N,m.length<=8)/\L0 rs (st.bs.headD S5).n=false/\(∀ m∈lwS rs st.bs,m∈N/\m≠R)/\(lwS rs st.bs).length<=100000/\∀ (m:Addr) (us':List V) (as' xs':List Addr) (H':Hp) (mds:List Mnd),A5 K Hb H' L T Rw M as' xs' (txS (N9 rs z.length st) z.length ("w":Str) ("w":Str)) (J4 rs (txS (N9 rs z.length st) z.length ("w":Str) ("w":Str)).bs) ms->H' m=some (.lst us')->Dvs K H' (mds.map Mnd.da) us'->(txS (N9 rs z.length st) z.length ("w":Str) ("w":Str)).ms=st.ms++mds->mds.length<=200000->Q (.ref m) H'
def qv8(K:Fg):TS :=
 (C1 #[121,5]
 (xp4 K))
theorem xz2(h:qq8 K vs H Q E):qv8 K {nx:=fun _ H'=>Q .non H',rt:=Q} (E2 ["_law_text","_law_heaps","_law_there","_law_rows","_law_room","_law_mends","_law_name","_law_word"] vs) H:=by
 obtain⟨Hb,z,L,T,Rw,M,as,xs,st,ms,rs,rk,R,P,N,rfl,a,hW,hz,hJ,hN8,h0,hlw,hll,q⟩:=h
 show qv8 K _ [some (.str z),some (.ref L),some (.ref T),some (.ref Rw),some (.str R),none,none,none] H
 unfold qv8
 lk
 refine⟨E5 (by z_go),fun m hm=>?_⟩
 have a1:=a.loc hm
 walk_at"28"
 rw[<-eH1]
 obtain⟨usM,hMM,_⟩:=a.m
 obtain⟨n1,n2,n3,n4,n5,n6⟩:=a.apart
 have hM0:H0 M=some (.lst usM):=by
  rw[eH0,qh5 fun h=>?_];exact hMM
  rcases mem_cons.mp h with h|h
  ·exact n2 h.symm
  rcases mem_cons.mp h with h|h
  ·exact n4 h.symm
  ·exact n6 h
 have hxM:∀ y∈xs,y≠M:=fun y hy e=>a.nx y hy #[118]
 have sb0:A7 Hb H0:=by rw[eH0];exact A7.rml a.s fun y hy=>a.nw y (by
  simp only[mem_cons] at hy ⊢
  rcases hy with h|h|h
  ·exact .inl h
  ·exact .inr (.inl h)
  ·exact .inr #[96,h])
 obtain⟨rp,hr1,hr2⟩:=wa1 (rs:=rs) hJ.ne h0
 obtain⟨w,ew⟩:∃ w,w=lwS rs st.bs:=⟨_,rfl⟩
 rw[<-ew] at hr1 hr2 hlw hll
 have hb1:=a1.rb
 rw[hr1] at hb1
 obtain⟨xs',x,exs,_,hx1⟩:=hb1.snoc
 have nx1:x∉T::Rw::m::L::as:=a1.nx x (by rw[exs];simp)
 obtain⟨s0,es0⟩:∃ s0:Rst,s0={st with bs:=wUp rs (fun _=>[]) st.bs}:=⟨_,rfl⟩
 have a2:A5 K H0 H1 L T Rw m as xs s0 (J4 rs st.bs) []:=by rw[es0];exact a1.st_eq (qm4 #[36] _) (wd4 _)
 have hJ0:J5 rs R N (rp++[[]]) s0:=by
  rw[es0]
  refine⟨wd5 hJ.ne,?_,hr2 _,fun y hy=>hJ.n y ?_,fun b hb=>?_⟩
  ·show(wUp rs _ st.bs).length<=21
   rw[wd3];exact hJ.l
  ·have:y∈(wUp rs (fun _=>[]) st.bs).tail.map Brn.n:=hy
   rw[wd4] at this;exact this
  ·obtain⟨c,hc,e|e⟩:=xy1 hb
   ·rw[e];exact hJ.b c hc
   ·rw[e];exact hJ.b c hc
 have inv:∀ j,J5 rs R N (rp++[[]]) ((w.take j).foldl (J8 rs z.length) s0):=fun j=>J5.fold hW _ hJ0 fun n hn=>hlw n (mem_of_mem_take hn)
 have eA:N9 rs z.length st=w.foldl (J8 rs z.length) s0:=by unfold N9;rw[<-ew,es0]
 have hr1':H1 Rw=some (.lst #[87]):=by
  have:=a1.r
  rw[exs,map_append] at this
  exact this
 walk_at"17"
 refine M9 #[52,hr1'] (v:=.ref x) #[63] ?_
 refine qr2 #[52,hx1] (fun j σ H'=>∃ as' x6 mds,σ=[some (.str z),some (.ref L),some (.ref T),some (.ref Rw),some (.str R),some (.ref m),x6,none]/\A5 K H0 H' L T Rw m as' xs ((w.take j).foldl (J8 rs z.length) s0) (J4 rs st.bs) mds/\((w.take j).foldl (J8 rs z.length) s0).ms=st.ms++mds/\mds.length<=j/\(∀ y∈as',y∈as\/(Hb y=none/\y≠M))) ?_ ?_ ?_ ?_
 ·exact⟨as,none,[],rfl,a2,by rw[es0];simp,Nat.le_refl _,fun y hy=>.inl hy⟩
 ·rintro j σ H' _ ⟨as',x6,mds,rfl,aj,_⟩
  have hbj:=aj.rb
  rw[hr1] at hbj
  obtain⟨ys',y,eys,_,hy⟩:=hbj.snoc
  rw[exs] at eys
  obtain rfl:x=y:=(List.cons.inj (append_inj' eys rfl).2).1
  exact SqL.of hy
 ·rintro j v σ H' hv ⟨as',x6,mds,rfl,aj,hmj,hlj,hsj⟩
  obtain⟨n,hn,rfl⟩:=V4 hv
  obtain⟨hnN,hnR⟩:=hlw n (mem_of_getElem? hn)
  have hn8:=hN8 n hnN
  have hj:j<w.length:=(List.getElem?_eq_some_iff.mp hn).1
  have efold:(w.take (j+1)).foldl (J8 rs z.length) s0=J8 rs z.length ((w.take j).foldl (J8 rs z.length) s0) n:=by rw[Z5 hn,foldl_append];rfl
  have hJj:=inv j
  rw[PAt,efold]
  generalize (w.take j).foldl (J8 rs z.length) s0=sj at *
  have hnl:(B5 sj).length+1=sj.bs.length:=by
   unfold B5;rw[length_map,length_tail]
   have:0<sj.bs.length:=length_pos_iff.mpr hJj.ne
   omega
  have hbl:=hJj.l
  refine J0 ?_
  lk
  refine⟨T,R,B5 sj,rfl,aj.t,by omega,fun D H2 s2 hD eD=>?_⟩
  have a3:=aj.same s2
  rw[<-zh7 hW.w] at eD
  refine .inl (xw2 (.inl #[52,eD]) rfl (T0 _) ?_)
  rw[V3]
  lk
  have no:J8 rs z.length sj n=sj->∃ as'' x6 mds',([some (.str z),some (.ref L),some (.ref T),some (.ref Rw),some (.str R),some (.ref m),some (.str n),none]:St)=[some (.str z),some (.ref L),some (.ref T),some (.ref Rw),some (.str R),some (.ref m),x6,none]/\A5 K H0 H2 L T Rw m as'' xs (J8 rs z.length sj n) (J4 rs st.bs) mds'/\(J8 rs z.length sj n).ms=st.ms++mds'/\mds'.length<=j+1/\(∀ y∈as'',y∈as\/(Hb y=none/\y≠M)):=fun e=>⟨as',_,mds,rfl,by rw[e];exact a3,by rw[e];exact hmj,by omega,hsj⟩
  by_cases hx:n∈O4 rs (B5 sj)
  ·have ea:J8 rs z.length sj n=sj:=by unfold J8;rw[xf4 hW,decide_eq_true hx];simp
   rw[decide_eq_true hx]
   k_go
   first|exact no ea|(refine qd5 ?_;exact no ea)|(lk;exact no ea)
  ·rw [decide_eq_false hx]
   x_go
   lk
   refine Q4 (.inl #[52,a3.t]) ?_
   rw[B7]
   lk
   by_cases hl20:(B5 sj).length<20
   ·have ea:J8 rs z.length sj n=wj0 sj n z.length "anew":=by unfold J8;rw[xf4 hW,decide_eq_false hx,decide_eq_true hl20];rfl
    rw[decide_eq_true (show((B5 sj).length:Int)<20 by omega)]
    x_go
    rw[ea]
    show wo9 K _ _ _
    obtain⟨us,m1,_⟩:=a3.m
    walk_at"32"
    lk
    refine wh8 #[42] ?_
    lk
    refine wh8 #[42] ?_
    lk
    refine qf5 (by rw[sizeLine_eq];show 1+_<=_;omega) ?_
    lk
    refine qf5 (by rw[sizeLine_eq,qe3];show 1+_+1<=_;omega) ?_
    walk_at"6"
    lk
    refine a3.app #[0] hp fun H5 a5 _=>?_
    show wo8 K _ _ _
    lk
    refine⟨.inl ⟨rfl,_,SqL.of a5.t⟩,?_⟩
    lk
    refine L4 a5.t (by rw[B7,sizeLine_eq];omega) ?_
    have est:B4 (B5 sj)++[.str n]=B4 (B5 sj++[n]):=by simp[B4]
    rw[est]
    have nT:=xt4 a5.nd
    have hL5:=a5.h.l
    have hLT:=E1 (p:=T) (o:=.lst (B4 (B5 sj++[n]))) hL5 (fun e=>nT (by rw[<-e];simp))
    lk
    refine⟨.inl ⟨rfl,_,SqL.of hLT⟩,?_⟩
    lk
    refine⟨E5 (by z_go),fun p4 hp4=>?_⟩
    lk
    refine L4 (#[78,hp4] _ _ hLT) (by rw[length_map,a5.h.b.len,length_map,sizeLine_eq];omega) ?_
    have a6:=a5.open (n:=n) hJj.ne hp4
    have hp40:=(C6 hp4).2
    refine⟨as'++[p4],_,mds++[⟨z.length,z.length,opn n, "anew"⟩],rfl,a6.st_eq (st':=wj0 sj n z.length "anew") rfl rfl,?_,by simp;omega,fun y hy=>?_⟩
    ·show sj.ms++[_]=_
     rw[hmj,append_assoc]
    ·rcases mem_append.mp hy with h|h
     ·exact hsj y h
     ·rw[mem_singleton.mp h]
      refine .inr ⟨A7.grow (A7.tr sb0 a5.s) _ hp40,fun e=>?_⟩
      rw[e,a5.s _ _ hM0] at hp40;cases hp40
   ·have ea:J8 rs z.length sj n=sj:=by unfold J8;rw[xf4 hW,decide_eq_false hl20];rfl
    rw[decide_eq_false (show ¬((B5 sj).length:Int)<20 by omega)]
    k_go
    first|exact no ea|(lk;exact no ea)
 rintro σ H' ⟨as',x6,mds,rfl,aj,hmj,hlj,hsj⟩
 rw[B7,take_length] at aj hmj
 rw[B7] at hlj
 have hJj:=inv w.length
 rw[take_length] at hJj
 rw[<-eA] at aj hmj hJj
 have hbj:=aj.rb
 rw[hr1] at hbj
 obtain⟨ys',y,eys,hbj2,hy⟩:=hbj.snoc
 rw[exs] at eys
 obtain⟨rfl,eyx⟩:=append_inj' eys rfl
 obtain rfl:x=y:=(List.cons.inj eyx).1
 have hrj:H' Rw=some (.lst #[87]):=by
  have:=aj.r
  rw[exs,map_append] at this
  exact this
 show wp1 K _ _ _
 walk_at"6"
 have s10:=A7.new hp (.lst [])
 have ep10:(upd H' p (.lst [])) p=some (.lst (B4 [])):=A6
 have a10:=aj.same s10
 have hr10:=s10 _ _ hrj
 have hb10:=hbj2.mono (H':=upd H' p (.lst [])) fun y _ o h=>s10 y o h
 have np:p∉T::Rw::m::L::as':=fun h=>(aj.mut p h).some hp
 have npM:p≠M:=fun e=>by rw[e,aj.s _ _ hM0] at hp;cases hp
 generalize upd H' p (.lst [])=H10 at *
 walk_at"17"
 walk_at"34"
 have eset:#[87].set xs'.length (.ref p)=(xs'++[p]).map V.ref:=by
  have:=xl0 (xs'.map V.ref) (V.ref x) (V.ref p)
  rw[length_map] at this
  rw[this];simp
 rw[eset]
 have hxs5:∀ y∈xs'++[p],y≠M:=fun y hy=>by
  rcases mem_append.mp hy with h|h
  ·exact hxM y (by rw[exs];simp[h])
  ·rw[mem_singleton.mp h];exact npM
 have a5:=a10.rows (ys:=xs'++[p]) (rwv':=rp++[[]]) (st':=N9 rs z.length st) (hb10.app (RwB.one ep10)) (fun y hy=>by
  rcases mem_append.mp hy with h|h
  ·exact a10.nx y (by rw[exs];simp[h])
  ·rw[mem_singleton.mp h];exact np) rfl rfl
 generalize upd H10 Rw (.lst ((xs'++[p]).map V.ref))=H5 at *
 have hb5:=hJj.b
 have hne5:=hJj.ne
 have hrw5:=hJj.r
 generalize N9 rs z.length st=s5 at *
 obtain⟨l,b,eb⟩:∃ l b,s5.bs=l++[b]:=by
  rcases eq_nil_or_concat s5.bs with e|⟨l,b,e⟩
  ·exact absurd e hne5
  ·exact⟨l,b,by rw[e,concat_eq_append]⟩
 obtain⟨hb1,hb2⟩:=hb5 b (by rw[eb];simp)
 have eps:s5.bs.map Brn.ps=l.map Brn.ps++[b.ps]:=by rw[eb];simp
 have etx:=wj3 (i:=z.length) (g:=("w":Str)) (t:=("w":Str)) eb
 have etp:(txS s5 z.length ("w":Str) ("w":Str)).bs.map Brn.ps=l.map Brn.ps++[adP b.ps ("w":Str)]:=by rw[etx];simp
 have etn:B5 (txS s5 z.length ("w":Str) ("w":Str))=B5 s5:=by unfold B5;rw[etx,eb];cases l <;> simp
 have etr:J4 rs (txS s5 z.length ("w":Str) ("w":Str)).bs=rp++[[]]:=by rw[<-hrw5,etx,eb];exact xa0 (by simp)
 have hh5:=a5.h
 rw[eps] at hh5
 obtain⟨as2,x2,us,ea2,hx,hxd,hL5,_⟩:=hh5.top
 subst ea2
 have hul:=qu1 hxd
 show C1 (E3 (tC (.str "w")) (B6 7)) (qx4 K) _ _ _
 refine qk5 ?_
 refine zb2 ?_
 refine zv2 ?_
 refine J0 ?_
 show qx4 K _ [some (.str z),some (.ref L),some (.ref T),some (.ref Rw),some (.str R),some (.ref m),x6,some (.str "w")] H5
 walk_at"17"
 refine M9 #[52,hL5] (v:=.ref x2) #[111] ?_
 lk
 refine⟨E5 (by z_go),fun e0 he0=>?_⟩
 have s6:=A7.new he0 (.lst [])
 have a6:=a5.same s6
 have hL6:=s6 _ _ hL5
 have hx6:=s6 _ _ hx
 have hxd6:=Dvs.same s6 _ _ hxd
 lk
 refine zr7 (ds:=Tr.das b.ps) (qp2.mpr ⟨x2,us,rfl,SqL.of hx6,hxd6⟩) A6 ?_
 generalize upd H5 e0 (.lst [])=H6 at *
 lk
 have fin:∀ (H7:Hp) (u:Str) (ps0:List Tr) (us0:List V) (s7:Rst),A5 K H0 H7 L T Rw m (as2++[x2]) (xs'++[p]) s7 (rp++[[]]) mds->s7.bs.map Brn.ps=l.map Brn.ps++[ps0]->B5 s7=B5 s5->H7 x2=some (.lst us0)->Dvs K H7 (Tr.das ps0) us0->ps0.length<=1000000->adP b.ps ("w":Str)=ps0++[Tr.tx u]->qx3 K {nx:=fun _ H'=>Q .non H',rt:=Q} [some (.str z),some (.ref L),some (.ref T),some (.ref Rw),some (.str R),some (.ref m),x6,some (.str u)] H7:=fun H7 u ps0 us0 s7 a7 e1 e2 hx7 hd7 hl7 eP=>by
  have hL7:H7 L=some (.lst (as2.map V.ref++[V.ref x2])):=by
   have:=a7.h.l
   rw[map_append] at this
   exact this
  have hul7:=qu1 hd7
  walk_at"17"
  refine M9 #[52,hL7] (v:=.ref x2) #[111] ?_
  lk
  refine⟨.inl ⟨rfl,_,SqL.of hx7⟩,?_⟩
  lk
  refine L4 hx7 (by rw[hul7,sizeLine_eq];omega) ?_
  have a8:=a7.topped (st':=txS s5 z.length ("w":Str) ("w":Str)) e1 (yg4 hd7 #[76]) (by rw[etp,eP]) (by rw[etn,e2])
  lk
  obtain⟨us8,m18,m28⟩:=a8.m
  refine q m us8 _ _ _ mds (by rw[etr];exact a.back hm (eH0▸a8) hsj hxs5) m18 m28 (by show s5.ms=_;exact hmj) #[0]
 rcases eq_nil_or_concat b.ps with hps|⟨P0,t0,hps⟩
 ·have eis:(Tr.das b.ps).isEmpty=true:=by rw[hps,Tr.das];rfl
  rw[eis]
  k_go
  have fin2:=fin H6 ("w":Str) b.ps us s5 a6 eps rfl hx6 hxd6 hb1 (by rw[hps];rfl)
  first|exact fin2|(refine qd5 ?_;exact fin2)
 ·rw [concat_eq_append] at hps
  have eis:(Tr.das b.ps).isEmpty=false:=by
   rw[hps,Y1,map_append];simp
  rw[eis]
  x_go
  walk_at"17"
  refine M9 #[52,hL6] (v:=.ref x2) #[111] ?_
  walk_at"17"
  obtain⟨ut,eu,du⟩:=yp4 hxd6 (i:=P0.length) (t:=t0) (by rw[hps];simp)
  have hul2:us.length=P0.length+1:=by rw[hul,hps];simp
  refine M9 #[52,hx6] (v:=ut) (Q9 (n:=P0.length) hul2 eu) ?_
  lk
  refine ze2 du ?_
  lk
  have hgl:b.ps.getLast?=some t0:=by rw[hps,getLast?_concat]
  cases t0 with
  | tx u0 =>
    x_go
    show wp0 K _ _ _
    obtain⟨us1,eus⟩:∃ us1,us=us1++[.str u0]:=by
     have hut:ut=.str u0:=G2.mp du
     refine⟨us.take P0.length,?_⟩
     rw[<-hut]
     have:=Z5 eu
     rw[<-this,take_of_length_le #[0]]
    walk_at"17"
    refine M9 #[52,hL6] (v:=.ref x2) #[111] ?_
    lk
    rw[eus] at hx6 hxd6
    refine⟨.inl ⟨rfl,_,SqL.of hx6⟩,?_⟩
    refine xs1 hx6 ?_
    have dP:Dvs K H6 (Tr.das P0) us1:=by
     rw[hps,Y1,map_append,<-Y1] at hxd6
     exact xk0 hxd6
    have hu0:u0.length<=1000000:=by
     have:adA b.ps=u0.length:=by unfold adA;rw[hgl]
     omega
    have a7:A5 K H0 (upd H6 x2 (.lst us1)) L T Rw m (as2++[x2]) (xs'++[p]) {s5 with bs:=l++[{b with ps:=P0}]} (rp++[[]]) mds:=a6.topped eps dP (by simp) (by unfold B5;rw[eb];cases l <;> simp)
    have hx7:(upd H6 x2 (.lst us1)) x2=_:=A6
    have tk7:S4 H6 (upd H6 x2 (.lst us1)):=N8 (.inl ⟨_,hx6⟩)
    have dP7:=Dvs.tupK tk7 _ _ (Y2 _) dP
    generalize upd H6 x2 (.lst us1)=H7 at *
    lk
    refine qf5 (by rw[sizeLine_eq];show _+1<=_;omega) ?_
    refine J0 ?_
    show qx3 K _ [some (.str z),some (.ref L),some (.ref T),some (.ref Rw),some (.str R),some (.ref m),x6,some (.str (u0++("w":Str)))] H7
    refine fin H7 (u0++("w":Str)) P0 us1 _ a7 (by simp) (by unfold B5;rw[eb];cases l <;> simp) hx7 dP7 (by rw[hps] at hb1;simp at hb1;omega) ?_
    unfold adP
    rw[hgl,hps,dropLast_concat]
  | nd nn pp =>
    k_go
    have fin2:=fin H6 ("w":Str) b.ps us s5 a6 eps rfl hx6 hxd6 hb1 (by unfold adP;rw[hgl])
    first|exact fin2|(refine qd5 ?_;exact fin2)
abbrev wk1(K:Fg):TS :=
 (C1 (E9 (tBM K "list" J9 (A2 3) (A1 (T7 (A1 (tCB (N6 K) #[3,0]) (A1 (tCB (N6 K) #[3,0]) (A1 (tOp (J6 K) (tOp (J6 K) (tC (.str "</")) #[33,2]) (tC (.str ">"))) (A1 (tC (.str "end")) A9))))) A9)))
 (E9 (D8 (P3 K) [] E0 (A1 (A2 1) #[3,2]))))
def qm7(K:Fg):Sp:=fun vs H Q _=>∃ (Hb:Hp) (z:Str) (L T Rw M:Addr) (as xs:List Addr) (st:Rst) (rwv:List (List Str)) (ms:List Mnd),vs=[.str z,.ref L,.ref T]/\A5 K Hb H L T Rw M as xs st rwv ms/\z.length<=10000/\st.bs≠[]/\st.bs.length<=100/\(∀ b∈st.bs,b.ps.length<=1000000)/\(∀ y∈B5 st,y.length<=8)/\∀ (m:Addr) (us':List V) (as':List Addr) (H':Hp),A5 K Hb H' L T Rw M as' xs {st with bs:=lvN (B5 st).length st.bs} rwv ms->H' m=some (.lst us')->Dvs K H' (((B5 st).reverse.map fun y=>(⟨z.length,z.length,cls y, "end"⟩:Mnd)).map Mnd.da) us'->Q (.ref m) H'
def qq9(K:Fg):TS :=
 (C1 #[121,3]
 (C1 (wb5 (G0 (tOp (xh0 K) (A2 2) (W1 A9)))
 (wk1 K))
 (L6 (A2 3))))
theorem xp6(h:qm7 K vs H Q E):qq9 K {nx:=fun _ H'=>Q .non H',rt:=Q} (E2 ["_law_text","_law_heaps","_law_there","_law_mends"] vs) H:=by
 obtain⟨Hb,z,L,T,Rw,M,as,xs,st,rwv,ms,rfl,a,hz,hne,hbl,hbp,hml,q⟩:=h
 show qq9 K _ [some (.str z),some (.ref L),some (.ref T),none] H
 unfold qq9
 have hnl:(B5 st).length+1=st.bs.length:=by
  unfold B5;rw[length_map,length_tail]
  have:0<st.bs.length:=length_pos_iff.mpr hne
  omega
 lk
 refine⟨E5 (by z_go),fun m hm=>?_⟩
 have a1:=a.loc hm
 walk_at"28"
 rw[<-eH1]
 have hxM:∀ y∈xs,y≠M:=fun y hy e=>a.nx y hy #[118]
 refine J0 ?_
 show C1 _ _ _ [some (.str z),some (.ref L),some (.ref T),some (.ref m)] _
 refine qk5 ?_
 refine⟨fun k σ H'=>∃ j as',k=(B5 st).length-j/\j<=(B5 st).length/\σ=[some (.str z),some (.ref L),some (.ref T),some (.ref m)]/\A5 K H0 H' L T Rw m as' xs {st with bs:=lvN j st.bs} rwv (((B5 st).reverse.take j).map fun y=>(⟨z.length,z.length,cls y, "end"⟩:Mnd))/\∀ y∈as',y∈as,⟨_,0,as,rfl,Nat.zero_le _,rfl,a1.st_eq rfl rfl,fun y hy=>hy⟩,?_⟩
 rintro k σ H' ⟨j,as',rfl,hj,rfl,aj,hsj⟩
 obtain⟨_,_,f2,f3,f4⟩:=qs1 (bs:=st.bs) j #[0]
 have hnj:=zp6 (st:=st) (j:=j) #[0]
 lk
 refine⟨E5 (by z_go),fun e0 he0=>?_⟩
 have s6:=A7.new he0 (.lst [])
 have a6:=aj.same s6
 have et6:=a6.t
 rw[hnj] at et6
 lk
 refine zr7 (ds:=sDa ((B5 st).take ((B5 st).length-j))) (qp2.mpr ⟨T,_,rfl,SqL.of et6,Z9.mpr rfl⟩) A6 ?_
 generalize upd H' e0 (.lst [])=H6 at *
 lk
 rcases Nat.lt_or_ge j (B5 st).length with hlt|hge
 ·obtain⟨m1,hm1⟩:∃ m1,(B5 st)[(B5 st).length-1-j]?=some m1:=⟨_,List.getElem?_eq_getElem #[0]⟩
  have etk:(B5 st).take ((B5 st).length-j)=(B5 st).take ((B5 st).length-1-j)++[m1]:=by
   rw[show(B5 st).length-j=(B5 st).length-1-j+1 by omega,Z5 hm1]
  have eis:(sDa ((B5 st).take ((B5 st).length-j))).isEmpty=false:=by rw[etk];unfold sDa;simp
  rw[eis]
  x_go
  refine⟨fun σ' H''=>∃ as'',σ'=[some (.str z),some (.ref L),some (.ref T),some (.ref m)]/\A5 K H0 H'' L T Rw m as'' xs {st with bs:=lvN (j+1) st.bs} rwv (((B5 st).reverse.take (j+1)).map fun y=>(⟨z.length,z.length,cls y, "end"⟩:Mnd))/\∀ y∈as'',y∈as,?_,?_⟩
  ·rintro σ' H'' ⟨as'',rfl,a'',hs''⟩
   exact⟨_,by omega,j+1,as'',rfl,by omega,rfl,a'',hs''⟩
  rw[etk] at et6
  obtain⟨us,q1',q2'⟩:=a6.m
  have hm8:=hml m1 (mem_of_getElem? hm1)
  show wk1 K _ _ _
  lk
  refine⟨.inl ⟨rfl,_,SqL.of q1'⟩,?_⟩
  lk
  refine wh8 #[42] ?_
  lk
  refine wh8 #[42] ?_
  walk_at"17"
  refine M9 #[52,et6] (v:=.str m1) (Q9 (n:=((B5 st).take ((B5 st).length-1-j)).length) (by unfold B4;simp) (by unfold B4;simp)) ?_
  refine qf5 (by rw[sizeLine_eq];show 2+_<=_;omega) ?_
  lk
  refine qf5 (by rw[sizeLine_eq,qe3];show 2+_+1<=_;omega) ?_
  walk_at"6"
  lk
  refine a6.app (by rw[length_map,length_take];omega) hp fun H8' a8 _=>?_
  lk
  refine a8.closed (by show 2<=(lvN j st.bs).length;omega) (fun b hb=>by have:=wa2 hbp j b hb;omega) fun as2 H4 a4 hs4 bt4=>?_
  refine⟨as2,rfl,?_,fun y hy=>hsj y (hs4 y hy)⟩
  have e1:(B5 st).reverse[j]?=some m1:=by rw[List.getElem?_reverse #[0]];exact hm1
  rw[Z5 e1,map_append]
  exact a4
 ·have ej:j=(B5 st).length:=by omega
  subst ej
  have eis:(sDa ((B5 st).take ((B5 st).length-(B5 st).length))).isEmpty=true:=by rw[Nat.sub_self];rfl
  rw[eis]
  k_go
  rw[take_of_length_le (by rw[length_reverse];exact Nat.le_refl _)] at a6
  obtain⟨us,m1,m2⟩:=a6.m
  lk
  exact q m us as' _ (a.back hm (eH0▸a6) (fun y hy=>.inl (hsj y hy)) hxM) m1 m2
structure V5(rs:List Row)(R:Str)(N:List Str)(st:Rst):Prop where
 ne:st.bs≠[]
 h0:L0 rs (st.bs.headD S5).n=false
 n:∀ m∈B5 st,m∈N
 w:∀ v∈J4 rs st.bs,∀ m∈v,m∈N/\m≠R
section
variable{rs:List Row}{rk:Str->Nat}{R P:Str}{N:List Str}{st:Rst}{i:Int}{g n:Str}
theorem V5.ent(h:V5 rs R N st)(hn:n∈N):V5 rs R N {st with bs:=P4 st.bs n}:=by
 refine⟨by show P4 st.bs n≠[];unfold P4;simp,?_,fun m hm=>?_,fun v hv m hm=>?_⟩
 ·show L0 rs ((P4 st.bs n).headD S5).n=false
  rw[xt5 h.ne];exact h.h0
 ·have hm:m∈(P4 st.bs n).tail.map Brn.n:=hm
  rw[xk7 h.ne] at hm
  rcases mem_append.mp hm with hm|hm
  ·exact h.n m hm
  ·rw[mem_singleton.mp hm];exact hn
 ·have hv:v∈J4 rs (st.bs++[wv2 (S6 st.bs) n]):=hv
  rw[wd7 h.ne] at hv
  rcases mem_append.mp hv with hv|hv
  ·exact h.w v hv m hm
  ·split at hv
   ·rw[mem_singleton.mp hv] at hm;cases hm
   ·cases hv
theorem xu2(hne:st.bs≠[]):(#[80,n].bs.headD S5).n=(st.bs.headD S5).n:=by
 have hp:0<st.bs.length:=length_pos_iff.mpr hne
 walk_at"23"
 unfold O5
 split
 ·rename_i k hk
  have hkl:=wy5 hk
  show((lvB (W3 rs st (k+1) i "left").bs).headD S5).n=_
  have hl:2<=(W3 rs st (k+1) i "left").bs.length:=by rw[wd6,length_take];omega
  rw[yx7 hl]
  show((wUp rs _ _).headD S5).n=_
  rw[xk4]
  obtain⟨c,t,e⟩:=exists_cons_of_ne_nil hne
  rw[e,take_succ_cons];rfl
 ·split
  ·exact xk4
  ·rfl
theorem zh8{bs:List Brn}(h:2<=bs.length):∀ m∈(lvB bs).tail.map Brn.n,m∈bs.tail.map Brn.n:=by
 obtain⟨l,b1,b2,e⟩:=qn7 h
 have e1:bs.map Brn.ps=l.map Brn.ps++[b1.ps,b2.ps]:=by rw[e];simp
 have e2:bs.tail.map Brn.n=(l++[b1]).tail.map Brn.n++[b2.n]:=by
  walk_at"33"
 obtain⟨_,f2,_,_⟩:=xk6 e1 e2
 intro m hm
 rw[f2] at hm
 rw[e2]
 exact mem_append_left _ hm
theorem zh9{bs:List Brn}(h:j<bs.length):∀ m∈(lvN j bs).tail.map Brn.n,m∈bs.tail.map Brn.n:=by
 obtain⟨_,_,h2,_,_⟩:=qs1 (bs:=bs) j h
 intro m hm
 rw[h2] at hm
 exact mem_of_mem_take hm
theorem V5.clo(W:W5 rs rk R P N)(h:V5 rs R N st):V5 rs R N #[80,n]:=by
 have hp:0<st.bs.length:=length_pos_iff.mpr h.ne
 walk_at"23"
 have hh:L0 rs (#[80,n].bs.headD S5).n=false:=by rw[xu2 h.ne];exact h.h0
 obtain⟨pr,epr,hnw,hpr⟩:=wr5 (rs:=rs) (B5 st)
 have hRn:R∉O4 rs (B5 st):=fun z=>by
  have:=hnw R z
  rw[W.w,decide_eq_true rfl] at this;cases this
 have sub:∀ (late pre:List Str) (x:Str),B5 st=pre++x::late->∀ m∈(lvB #[37]).tail.map Brn.n,m∈N:=fun late pre x e m hm=>by
  have hl:late.length+1<=(B5 st).length:=by rw[e,length_append,length_cons];omega
  obtain⟨_,_,_,_,h4⟩:=qs1 (bs:=st.bs) late.length #[0]
  exact h.n m (zh9 #[0] m (zh8 #[0] m hm))
 by_cases h1:n=R/\R∈B5 st
 ·obtain⟨rfl,hRt⟩:=h1
  obtain⟨p,ep⟩:∃ p,pr=p++[n]:=by
   rcases hpr with rfl|⟨p,r,rfl,hr⟩
   ·rw[epr,nil_append] at hRt
    exact absurd hRt hRn
   ·rw[W.w] at hr
    exact⟨p,by rw[of_decide_eq_true hr]⟩
  have hth:B5 st=p++n::O4 rs (B5 st):=by
   have:=epr
   rw[ep,append_assoc] at this;exact this
  obtain⟨f1,f2,f3⟩:=xt8 (i:=i) (g:=g) W h.ne hth hRn
  refine⟨fun e=>?_,hh,fun m hm=>?_,fun v hv m hm=>?_⟩
  ·have:=xu2 (rs:=rs) (rk:=rk) (i:=i) (g:=g) (n:=n) h.ne
   have h3:(J4 rs #[80,n].bs)=(J4 rs st.bs).dropLast:=f3
   have hl:(O4 rs (B5 st)).length+1<=(B5 st).length:=by
    have:=congrArg List.length hth
    rw[length_append,length_cons] at this;omega
   obtain⟨_,_,_,_,h4⟩:=qs1 (bs:=st.bs) (O4 rs (B5 st)).length #[0]
   rw[f1] at e
   obtain⟨l,b1,b2,e5⟩:=qn7 (bs:=lvN (O4 rs (B5 st)).length st.bs) #[0]
   rw[e5,qn6] at e
   simp at e
  ·unfold B5 at hm
   rw[f1] at hm
   exact sub _ _ _ hth m hm
  ·rw[f3] at hv
   exact h.w v (dropLast_subset _ hv) m hm
 by_cases h2:n∈O4 rs (B5 st)
 ·obtain⟨B1,B2,eB,hB⟩:∃ B1 B2,O4 rs (B5 st)=B1++n::B2/\n∉B2:=by
   obtain⟨A,B,e,hx⟩:=append_of_mem (mem_reverse.mpr h2) |> fun⟨a,b,e⟩=>(⟨a,b,e,trivial⟩:∃ a b,(O4 rs (B5 st)).reverse=a++n::b/\True)
   have key:∀ (l:List Str),n∈l->∃ B1 B2,l=B1++n::B2/\n∉B2:=by
    intro l
    induction l with
    | nil=>intro h;cases h
    | cons y l ih =>
      intro h
      by_cases hl:n∈l
      ·obtain⟨B1,B2,e,hx⟩:=ih hl
       exact⟨y::B1,B2,by rw[e];rfl,hx⟩
      ·rcases mem_cons.mp h with rfl|h
       ·exact⟨[],l,rfl,hl⟩
       ·exact absurd h hl
   exact key _ h2
  have hth:B5 st=(pr++B1)++n::B2:=by
   have:=epr
   rw[eB] at this
   rw[this,append_assoc]
  have hmn:∀ y∈n::B2,y∈O4 rs (B5 st):=fun y hy=>by rw[eB];exact mem_append_right _ hy
  have hR:∀ y∈n::B2,y≠R:=fun y hy e=>hRn (e▸hmn y hy)
  have hBN:∀ y∈B2,y∈N:=fun y hy=>h.n y (by rw[hth];simp[hy])
  obtain⟨f1,f2,f3,rp,w,f4,f5⟩:=xt9 (i:=i) (g:=g) W h.ne h.h0 hth hB hR hBN
  have hl:B2.length+1<=(B5 st).length:=by
   have:=congrArg List.length hth
   rw[length_append,length_cons] at this;omega
  refine⟨fun e=>?_,hh,fun m hm=>?_,fun v hv m hm=>?_⟩
  ·have:=congrArg List.length f1
   rw[e,map_nil,length_nil,length_map] at this
   obtain⟨_,_,_,_,h4⟩:=qs1 (bs:=st.bs) B2.length #[0]
   obtain⟨l,b1,b2,e5⟩:=qn7 (bs:=lvN B2.length st.bs) #[0]
   rw[e5,qn6] at this
   simp at this
  ·rw[f2] at hm
   exact sub _ _ _ hth m hm
  ·rw[f5] at hv
   rcases mem_append.mp hv with hv|hv
   ·exact h.w v (by rw[f4];simp[hv]) m hm
   ·rw[mem_singleton.mp hv] at hm
    rcases mem_append.mp hm with hm|hm
    ·exact h.w w (by rw[f4];simp) m hm
    ·have hm:=(mem_filter.mp hm).1
     exact⟨hBN m hm,hR m (by simp[hm])⟩
 have hc0:=xu0 W (n:=n) h2 h1
 obtain⟨rp,hr1,hr2⟩:=wa1 (rs:=rs) h.ne h.h0
 by_cases hwt:n∈lwS rs st.bs
 ·have eo:O5 rs rk st i g n={(qg2 st i g "late") with bs:=wUp rs (fun ws=>woL ws n) st.bs}:=by
   unfold O5;rw[hc0];exact if_pos hwt
  refine⟨by rw[eo];exact wd5 h.ne,hh,fun m hm=>?_,fun v hv m hm=>?_⟩
  ·rw[eo] at hm
   have:B5 {(qg2 st i g "late") with bs:=wUp rs (fun ws=>woL ws n) st.bs}=B5 st:=wd4 _
   rw[this] at hm;exact h.n m hm
  ·have er:J4 rs #[80,n].bs=rp++[woL (lwS rs st.bs) n]:=by rw[eo];exact hr2 fun ws=>woL ws n
   rw[er] at hv
   rcases mem_append.mp hv with hv|hv
   ·exact h.w v (by rw[hr1];simp[hv]) m hm
   ·rw[mem_singleton.mp hv] at hm
    exact h.w (lwS rs st.bs) (by rw[hr1];simp) m (yq2 hm)
 ·have eo:O5 rs rk st i g n=qg2 st i g "stray":=by
   unfold O5;rw[hc0];exact if_neg hwt
  rw[eo]
  exact⟨h.ne,h.h0,h.n,h.w⟩
theorem xu3(W:W5 rs rk R P N):∀ (ns:List Str) {s:Rst},s.bs≠[]->((ns.foldl (J8 rs i) s).bs.headD S5).n=(s.bs.headD S5).n
 | [],s,_=>rfl
 | x :: ns,s,h=>by
   rw[foldl_cons]
   have h2:(J8 rs i s x).bs≠[]/\((J8 rs i s x).bs.headD S5).n=(s.bs.headD S5).n:=by
    unfold J8
    split
    ·refine⟨by show P4 s.bs x≠[];unfold P4;simp,?_⟩
     show((P4 s.bs x).headD S5).n=_
     rw[xt5 h]
    ·exact⟨h,rfl⟩
   rw[xu3 W ns h2.1];exact h2.2
theorem V5.run(W:W5 rs rk R P N)(h:V5 rs R N st)(hl:st.bs.length<=21)(hb:∀ b∈st.bs,b.ps.length<=1000000/\adA b.ps<=1000000):V5 rs R N (txS (N9 rs i st) i g t):=by
 obtain⟨rp,hr1,hr2⟩:=wa1 (rs:=rs) h.ne h.h0
 have hlw:∀ m∈lwS rs st.bs,m∈N/\m≠R:=fun m hm=>h.w (lwS rs st.bs) (by rw[hr1];simp) m hm
 have hJ0:J5 rs R N (rp++[[]]) {st with bs:=wUp rs (fun _=>[]) st.bs}:=by
  refine⟨wd5 h.ne,?_,hr2 _,fun y hy=>h.n y ?_,fun b hb'=>?_⟩
  ·show(wUp rs _ st.bs).length<=21
   rw[wd3];exact hl
  ·have:y∈(wUp rs (fun _=>[]) st.bs).tail.map Brn.n:=hy
   rw[wd4] at this;exact this
  ·obtain⟨c,hc,e|e⟩:=xy1 hb'
   ·rw[e];exact hb c hc
   ·rw[e];exact hb c hc
 have hJ:J5 rs R N (rp++[[]]) (N9 rs i st):=J5.fold W _ hJ0 hlw
 have hh:((N9 rs i st).bs.headD S5).n=(st.bs.headD S5).n:=by
  unfold N9
  rw[xu3 W _ (wd5 h.ne)]
  exact xk4
 generalize N9 rs i st=s5 at *
 obtain⟨l,b,eb⟩:∃ l b,s5.bs=l++[b]:=by
  rcases eq_nil_or_concat s5.bs with e|⟨l,b,e⟩
  ·exact absurd e hJ.ne
  ·exact⟨l,b,by rw[e,concat_eq_append]⟩
 have etx:=wj3 (i:=i) (g:=g) (t:=t) eb
 refine⟨by rw[etx];simp,?_,fun m hm=>hJ.n m ?_,fun v hv m hm=>?_⟩
 ·have:((txS s5 i g t).bs.headD S5).n=(s5.bs.headD S5).n:=by rw[etx,eb];cases l <;> rfl
  rw[this,hh];exact h.h0
 ·have:B5 (txS s5 i g t)=B5 s5:=by unfold B5;rw[etx,eb];cases l <;> simp
  rw[this] at hm;exact hm
 ·have:J4 rs (txS s5 i g t).bs=rp++[[]]:=by rw[<-hJ.r,etx,eb];exact xa0 (by simp)
  rw[this] at hv
  rcases mem_append.mp hv with hv|hv
  ·exact h.w v (by rw[hr1];simp[hv]) m hm
  ·rw[mem_singleton.mp hv] at hm;cases hm
end
theorem zi0{f:α->V}(xs:List α)(lo hi:Option Int):∃ cs:List α,qg4 (xs.map f) lo hi=cs.map f/\cs.length<=xs.length:=by
 unfold qg4
 refine⟨(xs.drop (HT.sIx (xs.map f).length 0 lo)).take (HT.sIx (xs.map f).length (xs.map f).length hi-HT.sIx (xs.map f).length 0 lo),?_,?_⟩
 ·rw[map_take,map_drop]
 ·rw[length_take,length_drop];omega
theorem Ae8{nm:List Str}(hN:Nms nm)(hm:n∈nm):yx6 n:=by
 refine⟨?_,hN.le _ hm,hN.lt _ hm⟩
 have h0:=hN.ne _ hm
 have:n.length≠0:=fun e=>h0 ((W9 _ _).mpr (by
  have e2:=qf2 n
  rw[e] at e2
  rw[eq_nil_of_length_eq_zero e2];rfl))
 omega
theorem zp8{xs:List V}{i:Nat}(h1:i<=c)(h2:c<=xs.length):qg4 xs (some (i:Int)) (some (c:Int))=(xs.drop i).take (c-i):=by
 have e1:HT.sIx xs.length 0 (some (i:Int))=i:=by rw[HT.qp0];omega
 have e2:HT.sIx xs.length xs.length (some (c:Int))=c:=by rw[HT.qp0];omega
 unfold qg4
 rw[e1,e2]
theorem xl4(ps:List Pc)(x:Pc):txP (ps++[x])=txP ps++x.tx:=by unfold txP;rw[flatMap_append];simp
theorem yr6{ps:List Pc}(h:∀ x∈ps,x.tx.length<=11):(txP ps).length<=11*ps.length:=by
 induction ps with
 | nil=>simp[txP]
 | cons x ps ih =>
   have h1:=h x (by simp)
   have h2:=ih fun y hy=>h y (by simp[hy])
   unfold txP at h2 ⊢
   rw[flatMap_cons,length_append,length_cons];omega
theorem yx9{bs:List Brn}{w:List Str}(h:bs≠[])(hw:w∈J4 rs bs):∃ b∈bs,b.ws=w:=by
 obtain⟨c,t,rfl⟩:=exists_cons_of_ne_nil h
 unfold J4 at hw
 rcases mem_cons.mp hw with hw|hw
 ·exact⟨c,by simp,hw.symm⟩
 ·obtain⟨b,hb,e⟩:=mem_map.mp hw
  exact⟨b,mem_cons_of_mem _ (mem_filter.mp hb).1,e⟩
def pw0(rs:List Row)(ps:List Pc):Rst:=pw rs (fun _=>0) 0 ps st0
structure I5(K:Fg)(rs:List Row)(nm:List Str)(c:Nat)(Hb H:Hp)(L T Rw M:Addr)(as xs:List Addr)(z:Str)(ps:List Pc)(i:Nat):Prop where
 a:A5 K Hb H L T Rw M as xs #[68] (J4 rs #[68].bs) #[68].ms
 z:z.cps.toList=txP ps
 ok:∀ x∈ps,x.ok/\x.tx.length<=11
 l:ps.length<=i
 v:V5 rs (gd nm 0) (nm.take c) #[68]
 b:Bg rs (2*ps.length) (20*ps.length) (61*ps.length) ps.length ps.length #[68]
def zz4(n:Str):Row:=⟨n, "anew","",[],[]⟩
def xl5(k:Nat):Str:=if k=0 then "room" else if k=1 then "plain" else "anew"
def rs5(nm:List Str)(c:Nat):List Row:=⟨gd nm 0, "room","",[],[]⟩::⟨gd nm 1, "plain","",[],[]⟩::(((nm.drop 2).take (c-2)).map zz4)
theorem fl5{nm:List Str}(h2:2<=c)(hc:c<=nm.length):FlB nm c xl5 (rs5 nm c):=by
 have hl:((nm.drop 2).take (c-2)).length=c-2:=by rw[length_take,length_drop];omega
 refine⟨?_,fun k r h=>?_,fun k hk=>?_⟩
 ·unfold rs5
  rw[length_cons,length_cons,length_map,hl];omega
 ·match k,h with
  | 0,h=>cases h;rfl
  | 1,h=>cases h;rfl
  | k+2,h =>
    have h:(((nm.drop 2).take (c-2)).map zz4)[k]?=some r:=h
    rw[List.getElem?_map] at h
    obtain⟨n,hn,e⟩:=Option.map_eq_some_iff.mp h
    have hk:k<c-2:=by rw[<-hl];exact(List.getElem?_eq_some_iff.mp hn).1
    rw[List.getElem?_take,if_pos hk,List.getElem?_drop,qk7 #[0]] at hn
    rw[<-e,<-Option.some.inj hn,show 2+k=k+2 by omega]
    have:xl5 (k+2) = "anew":=by unfold xl5;rw[if_neg #[0],if_neg #[0]]
    rw[this];rfl
 ·unfold xl5
  split
  ·exact⟨by unfold xi6;decide,by decide⟩
  ·split
   ·exact⟨by unfold xi6;decide,by decide⟩
   ·exact⟨by unfold xi6;decide,by decide⟩
theorem w5{nm:List Str}(h2:2<=c)(hc:c<=nm.length)(hN:Nms nm):W5 (rs5 nm c) (fun _=>0) (gd nm 0) (gd nm 1) (nm.take c):=by
 have F:=fl5 h2 hc
 have gdm:∀ x∈nm.take c,∃ k,k<c/\x=gd nm k:=fun x hx=>by
  obtain⟨k,hk,e⟩:=List.getElem_of_mem hx
  rw[length_take] at hk
  refine⟨k,by omega,?_⟩
  rw[List.getElem_take] at e
  have e2:=qk7 (l:=nm) (i:=k) #[0]
  rw[List.getElem?_eq_getElem #[0],e] at e2
  exact Option.some.inj e2
 refine⟨fun x=>?_,fun x=>rfl,fun x hx hR=>?_,hN.ne _ (zx6 #[0]),fun x=>⟨F.shuts x,F.bars x⟩⟩
 ·unfold L0
  cases e:qb1 (rs5 nm c) (some x) with
  | none =>
    symm
    refine decide_eq_false fun e2=>?_
    rw[e2,F.rowAt hN hc (k:=0) #[0]] at e;cases e
  | some r =>
    obtain⟨hr1,hr2⟩:=wi7 e
    obtain⟨k,hk,er⟩:=F.mem hr1
    have ex:x=gd nm k:=by rw[<-hr2,er]
    show decide (r.sort∈_)=_
    rw[er]
    show decide (xl5 k∈[("room":Str),#[53]])=_
    by_cases h0:k=0
    ·subst h0
     rw[decide_eq_true ex];decide
    ·have hne:x≠gd nm 0:=fun e2=>h0 (ze6 hN.nd #[0] #[0] (ex.symm.trans e2))
     rw[decide_eq_false hne]
     unfold xl5
     rw[if_neg h0]
     split <;> decide
 ·obtain⟨k,hk,ex⟩:=gdm x hx
  have h0:k≠0:=fun e=>hR (by rw[ex,e])
  rw[ex,F.sort hN hc hk]
  unfold xl5
  rw[if_neg h0]
  by_cases h1:k=1
  ·rw[if_pos h1,h1]
   exact⟨fun z=>absurd z #[10],fun z=>absurd rfl z⟩
  ·rw[if_neg h1]
   exact⟨fun _ e=>h1 (ze6 hN.nd #[0] #[0] e),fun _=>rfl⟩
abbrev yr7(K:Fg):TS :=
 (S3 (G0 (tOp (qd0 K) (A2 11) #[70,1]))
 (E9 (tBM K "list" J9 (A2 7) (A1 (W1 A9) A9))) Q5)
abbrev zp9(K:Fg):TS :=
 (C1 (E9 (tBM K "list" J9 (A2 6) #[3,11]))
 (C1 (E9 (tBM K "list" J9 (A2 5) (A1 (W1 A9) A9)))
 (yr7 K)))
abbrev yr8(K:Fg):TS :=
 (E3 (tOp (J6 K) (tOp (J6 K) (tOp (J6 K) (A2 4) (tC (.str "</"))) (A2 11)) (tC (.str ">"))) (B6 4))
abbrev yr9(K:Fg):TS :=
 (C1 (E9 (tBM K "list" wc0 (A2 8) (A1 (D8 (qm6 K) [] E0 (A1 (A2 4) (A1 (A2 11) (A1 (A2 5) (A1 (A2 6) (A1 (A2 7) #[3,1])))))) A9)))
 (yr8 K))
abbrev ys0(K:Fg):TS :=
 (C1 (E9 (tBM K "list" wc0 (A2 8) (A1 (D8 (qq8 K) [] E0 (A1 (A2 4) (A1 (A2 5) (A1 (A2 6) (A1 (A2 7) (A1 #[70,1] A9)))))) A9)))
 (E3 (tOp (J6 K) (A2 4) (tC (.str "w"))) (B6 4)))
abbrev ys1(K:Fg):TS :=
 (C1 (E3 (tOp (J6 K) (tOp (J6 K) (tOp (J6 K) (A2 4) (tC (.str "<"))) (A2 11)) (tC (.str ">"))) (B6 4))
 (zp9 K))
abbrev ys2(K:Fg):TS :=
 (S3 (G0 (tOp xv7 (tOp #[15] (A2 10) #[2,8]) #[2,6]))
 (yr9 K) (ys0 K))
abbrev ys3(K:Fg):TS :=
 (S3 (xf5 (G0 (tOp xv7 (tOp #[15] (A2 10) #[2,8]) #[2,3])) (G0 (tOp xv7 (tCB (N6 K) #[3,6]) #[2,18])))
 (ys1 K) (ys2 K))
abbrev ys4(K:Fg):TS :=
 (C1 (E3 (tOp (L5 K) (A2 1) (tOp #[15] (tOp (rI ya7 fun i j=>.int (i / j)) (A2 10) #[2,8]) (A2 2))) (B6 11))
 (ys3 K))
abbrev ys5(K:Fg):TS :=
 (C1 (E3 (D8 (X6 K) [] E0 (A1 (A2 9) (A1 #[2,8] A9))) (B6 10))
 (ys4 K))
abbrev yg7(K:Fg):TS :=
 (L6 (tOp (qd0 K) (D8 (qq6 K) [] E0 (A1 (tCB (ql7 K) #[3,3]) #[3,4])) (T7 (A1 (T7 (A1 (tC (.str "")) (A1 (tCB (ql7 K) (A1 #[70,5] A9)) A9))) #[3,8]))))
abbrev yg8(K:Fg):TS :=
 (C1 (E9 (tBM K "list" wc0 (A2 8) (A1 (D8 (qm7 K) [] E0 (A1 (A2 4) (A1 (A2 5) #[3,6]))) A9)))
 (yg7 K))
abbrev zi1(K:Fg):TS :=
 (C1 (qr1 (qy5 K (tSl (wg2 K) (A2 0) (U8 #[2,2]) (U8 #[2,62]))) (B6 9)
 (ys5 K))
 (yg8 K))
abbrev zi2(K:Fg):TS :=
 (C1 (E3 (W1 (A1 (W1 A9) A9)) (B6 7))
 (C1 #[121,8]
 (zi1 K)))
abbrev yg9(K:Fg):TS :=
 (C1 (E3 (W1 (A1 (W1 A9) A9)) (B6 5))
 (C1 #[121,6]
 (zi2 K)))
abbrev zi3(K:Fg):TS :=
 (C1 (E3 (tOp (J6 K) (A2 3) (qu0 [none] (qy5 K (tSl (wg2 K) (A2 1) (U8 #[2,2]) (U8 (A2 2)))) (B6 0) tTT (T7 (A1 (A2 0) (A1 (tC (.str "anew")) (A1 (tC (.str "")) (A1 (T7 A9) (A1 (T7 A9) A9)))))))) (B6 3))
 (C1 (E3 (tC (.str "")) (B6 4))
 (yg9 K)))
abbrev zi4(K:Fg):TS :=
 (C1 (E3 (W1 (A1 (T7 (A1 #[70,1] (A1 (tC (.str "room")) (A1 (tC (.str "")) (A1 (T7 A9) (A1 (T7 A9) A9)))))) (A1 (T7 (A1 #[91,1] (A1 (tC (.str "plain")) (A1 (tC (.str "")) (A1 (T7 A9) (A1 (T7 A9) A9)))))) A9))) (B6 3))
 (zi3 K))
abbrev yh0(K:Fg):TS :=
 (C1 (E3 (tOp (J6 K) #[2,4] (tOp #[15] (D8 (X3 K) [] E0 (A1 (A2 0) (A1 #[2,1] A9))) #[2,2])) (B6 2))
 (zi4 K))
def xa1(K:Fg):Sp:=fun vs H Q _=>∃ (a:Addr) (ns:List Int),vs=[.ref a]/\SqL K H a (ns.map V.int)/\ns.length<=63/\∀ H',Q (.bl true) H'
def ys6(K:Fg):TS :=
 (C1 (E3 (D8 (ql9 K) [] E0 (A1 (D8 (X3 K) [] E0 (A1 (A2 0) (A1 #[2,0] A9))) A9)) (B6 1))
 (yh0 K))
theorem zz5(h:xa1 K vs H Q E):ys6 K {nx:=fun _ H'=>Q .non H',rt:=Q} (E2 ["_law_script","_law_names_here","_law_count","_law_book","_law_text","_law_heaps","_law_there","_law_rows","_law_mends","_law_cell","_law_number","_law_name"] vs) H:=by
 obtain⟨sc,ns,rfl,hS,hn63,q⟩:=h
 show ys6 K _ [some (.ref sc),none,none,none,none,none,none,none,none,none,none,none] H
 unfold ys6
 lk
 refine⟨sc,ns,0,rfl,hS,by decide,fun c0=>?_⟩
 lk
 refine⟨c0,rfl,fun d nm H1 s1 hd0 hd hnl hN=>?_⟩
 show yh0 K _ _ _
 lk
 refine⟨sc,ns,1,rfl,s1.sqL hS,by decide,fun c1=>?_⟩
 lk
 have hm5:=Int.emod_nonneg c1 (show(2:Int)≠0 by decide)
 have hm5b:=Int.emod_lt_of_pos c1 (show(0:Int)<2 by decide)
 obtain⟨c,hc⟩:∃ c:Nat,(4+c1 % 2:Int)=c:=Int.eq_ofNat_of_zero_le #[0]
 have hc2:2<=c:=by omega
 have hc6:c<=6:=by omega
 rw[hc]
 have hcn:c<=nm.length:=by omega
 lk
 refine M9 #[52,hd] (qn4 (i:=0) #[0]) ?_
 lk
 refine⟨E5 (by z_go),fun a1 ha1=>?_⟩
 have ta1:=A7.new ha1 (.tup [])
 have ea1:(upd H1 a1 (.tup [])) a1=_:=A6
 generalize upd H1 a1 (.tup [])=aA at *
 lk
 refine⟨E5 (by z_go),fun a2 ha2=>?_⟩
 have ta2:=A7.new ha2 (.tup [])
 have ea2:(upd aA a2 (.tup [])) a2=_:=A6
 generalize upd aA a2 (.tup [])=aB at *
 lk
 refine⟨E5 (by z_go),fun a3 ha3=>?_⟩
 have ta3:=A7.new ha3 (.tup [.str (gd nm 0),.str "room",.str "",.ref a1,.ref a2])
 have dra:Dv K _ (Row.da ⟨gd nm 0, "room","",[],[]⟩) (.ref a3):=D7.mpr ⟨a3,_,rfl,SqT.of (A6 (H:=aB) (a:=a3) (o:=(.tup [.str (gd nm 0),.str "room",.str "",.ref a1,.ref a2]))),C0 #[76] (C0 #[76] (C0 #[76] (C0 (D7.mpr ⟨a1,_,rfl,SqT.of (ta3 _ _ (ta2 _ _ ea1)),Z9.mpr rfl⟩) (C0 (D7.mpr ⟨a2,_,rfl,SqT.of (ta3 _ _ ea2),Z9.mpr rfl⟩) I9))))⟩
 generalize upd aB a3 (.tup [.str (gd nm 0),.str "room",.str "",.ref a1,.ref a2])=G3 at *
 have ta:=A7.tr (A7.tr ta1 ta2) ta3
 have hd3:=ta _ _ hd
 lk
 refine M9 #[52,hd3] (qn4 (i:=1) #[0]) ?_
 lk
 refine⟨E5 (by z_go),fun b1 hb1=>?_⟩
 have tb1:=A7.new hb1 (.tup [])
 have eb1:(upd G3 b1 (.tup [])) b1=_:=A6
 generalize upd G3 b1 (.tup [])=bA at *
 lk
 refine⟨E5 (by z_go),fun b2 hb2=>?_⟩
 have tb2:=A7.new hb2 (.tup [])
 have eb2:(upd bA b2 (.tup [])) b2=_:=A6
 generalize upd bA b2 (.tup [])=bB at *
 lk
 refine⟨E5 (by z_go),fun b3 hb3=>?_⟩
 have tb3:=A7.new hb3 (.tup [.str (gd nm 1),.str "plain",.str "",.ref b1,.ref b2])
 have drb:Dv K _ (Row.da ⟨gd nm 1, "plain","",[],[]⟩) (.ref b3):=D7.mpr ⟨b3,_,rfl,SqT.of (A6 (H:=bB) (a:=b3) (o:=(.tup [.str (gd nm 1),.str "plain",.str "",.ref b1,.ref b2]))),C0 #[76] (C0 #[76] (C0 #[76] (C0 (D7.mpr ⟨b1,_,rfl,SqT.of (tb3 _ _ (tb2 _ _ eb1)),Z9.mpr rfl⟩) (C0 (D7.mpr ⟨b2,_,rfl,SqT.of (tb3 _ _ eb2),Z9.mpr rfl⟩) I9))))⟩
 generalize upd bB b3 (.tup [.str (gd nm 1),.str "plain",.str "",.ref b1,.ref b2])=G6 at *
 have tb:=A7.tr (A7.tr tb1 tb2) tb3
 have hd6:=tb _ _ hd3
 lk
 refine⟨E5 (by z_go),fun q0 hq0=>?_⟩
 have t4:=A7.new hq0 (.lst [.ref a3,.ref b3])
 have e4:(upd G6 q0 (.lst [.ref a3,.ref b3])) q0=_:=A6
 have hdr:Dvs K (upd G6 q0 (.lst [.ref a3,.ref b3])) [Row.da ⟨gd nm 0, "room","",[],[]⟩,Row.da ⟨gd nm 1, "plain","",[],[]⟩] [.ref a3,.ref b3]:=C0 (Dv.same (A7.tr tb t4) _ _ dra) (C0 (Dv.same t4 _ _ drb) I9)
 have hd7:=t4 _ _ hd6
 have s7:=A7.tr (A7.tr (A7.tr s1 ta) tb) t4
 generalize upd G6 q0 (.lst [.ref a3,.ref b3])=G7 at *
 clear tb
 lk
 refine xc1 #[52,hd7] fun p1 hp1=>?_
 have ecm:qg4 (B4 nm) (some 2) (some (c:Int))=B4 ((nm.drop 2).take (c-2)):=by
  have:=zp8 (xs:=B4 nm) (i:=2) (c:=c) hc2 (by rw[B7];exact hcn)
  refine this.trans ?_
  unfold B4
  rw[map_take,map_drop]
 rw[ecm]
 obtain⟨NN,eNN⟩:∃ NN,NN=(nm.drop 2).take (c-2):=⟨_,rfl⟩
 rw[<-eNN]
 have t1:=A7.new hp1 #[16,NN]
 have e1:(upd G7 p1 #[16,NN]) p1=_:=A6
 have e41:=t1 _ _ e4
 have hdr1:=Dvs.same t1 _ _ hdr
 generalize upd G7 p1 #[16,NN]=H2 at *
 have hkl:NN.length=c-2:=by rw[eNN,length_take,length_drop];omega
 refine wx8 (.inl #[52,e1]) (A7.refl H2) (fun i ys H'=>A7 H2 H'/\Dvs K H' ((NN.take i).map zz4 |>.map Row.da) ys) ⟨A7.refl _,I9⟩ ?_ ?_ ?_ ?_
 ·rintro i ys H' hi ⟨_,hd⟩
  have:=hd.length
  rw[length_map,length_map,length_take] at this
  rw[B7] at hi
  exact E5 #[0]
 ·rintro i ys H' ⟨h,_⟩;exact h
 ·rintro i v ys H' hi ⟨hs2,hd2⟩
  obtain⟨n,hn,rfl⟩:=V4 hi
  refine J0 ?_
  lk
  refine⟨E5 (by z_go),fun p3 hp3=>?_⟩
  have u1:=A7.new hp3 (.tup [])
  lk
  refine⟨E5 (by z_go),fun p4 hp4=>?_⟩
  have u2:=A7.new hp4 (.tup [])
  lk
  refine⟨E5 (by z_go),fun p5 hp5=>?_⟩
  have u3:=A7.new hp5 (.tup [.str n,.str "anew",.str "",.ref p3,.ref p4])
  have u13:=A7.tr (A7.tr u1 u2) u3
  refine⟨A7.tr hs2 u13,?_⟩
  rw[Z5 hn,map_append,map_append]
  refine Dvs.append (Dvs.same u13 _ _ hd2) (Dvs.one ?_)
  exact D7.mpr ⟨p5,_,rfl,SqT.of A6,C0 #[76] (C0 #[76] (C0 #[76] (C0 (D7.mpr ⟨p3,_,rfl,SqT.of (u3 _ _ (u2 _ _ A6)),Z9.mpr rfl⟩) (C0 (D7.mpr ⟨p4,_,rfl,SqT.of (u3 _ _ A6),Z9.mpr rfl⟩) I9))))⟩
 rintro ys H' ⟨hs2,hd2⟩ pl hpl
 rw[B7,take_length] at hd2
 have hyl:ys.length<=4:=by
  have:=hd2.length
  rw[length_map,length_map] at this;omega
 have t2:=A7.new hpl (.lst ys)
 have epl:(upd H' pl (.lst ys)) pl=_:=A6
 have e42:=t2 _ _ (hs2 _ _ e41)
 refine xr6 e42 epl (by rw[sizeLine_eq];simp;omega) fun tb htb=>?_
 have t3:=A7.new htb (.lst #[108])
 obtain⟨rs,ers⟩:∃ rs,rs=rs5 nm c:=⟨_,rfl⟩
 have hdb:Dvs K (upd (upd H' pl (.lst ys)) tb (.lst #[108])) (rs.map Row.da) #[108]:=by
  have h1:=Dvs.same (A7.tr (A7.tr hs2 t2) t3) _ _ hdr1
  have h2:=Dvs.same (A7.tr t2 t3) _ _ hd2
  have:=Dvs.append h1 h2
  rw[ers]
  unfold rs5
  rw[map_cons,map_cons,<-eNN]
  exact this
 have etb:(upd (upd H' pl (.lst ys)) tb (.lst #[108])) tb=_:=A6
 have s13:=A7.tr (A7.tr (A7.tr (A7.tr s7 t1) hs2) t2) t3
 have hd3':=(A7.tr (A7.tr (A7.tr t1 hs2) t2) t3) _ _ hd7
 generalize upd (upd H' pl (.lst ys)) tb (.lst #[108])=H3 at *
 have F:FlB nm c xl5 rs:=by rw[ers];exact fl5 hc2 hcn
 have bk:=F.bok hN hcn #[0] #[0]
 have hW:W5 rs (fun _=>0) (gd nm 0) (gd nm 1) (nm.take c):=by rw[ers];exact w5 hc2 hcn hN
 have hN8:∀ m∈nm.take c,m.length<=8:=fun m hm=>hN.le m (mem_of_mem_take hm)
 have hNok:∀ m∈nm.take c,yx6 m:=fun m hm=>Ae8 hN (mem_of_mem_take hm)
 have hNs:∀ k,k<c->M8 rs (some (gd nm k))=some (xl5 k):=fun k hk=>F.sort hN hcn hk
 lk
 show yg9 K _ _ _
 lk
 refine⟨E5 (by z_go),fun p0 h0=>?_⟩
 lk
 refine⟨E5 (by z_go),fun L hL=>?_⟩
 lk
 refine⟨E5 (by z_go),fun T hT=>?_⟩
 lk
 refine⟨E5 (by z_go),fun r0 hr0=>?_⟩
 lk
 refine⟨E5 (by z_go),fun Rw hRw=>?_⟩
 lk
 refine⟨E5 (by z_go),fun M hM=>?_⟩
 lk
 have w1:=A7.new h0 (.lst [])
 have w2:=A7.new hL (.lst [.ref p0])
 have w3:=A7.new hT (.lst [])
 have w4:=A7.new hr0 (.lst [])
 have w5:=A7.new hRw (.lst [.ref r0])
 have w6:=A7.new hM (.lst [])
 have hL0:=A7.grow w1 _ hL
 have hT0:=A7.grow (A7.tr w1 w2) _ hT
 have hR0:=A7.grow (A7.tr (A7.tr (A7.tr w1 w2) w3) w4) _ hRw
 have hM0:=A7.grow (A7.tr (A7.tr (A7.tr (A7.tr w1 w2) w3) w4) w5) _ hM
 have hh0:=((((Hps.one (K:=K) (w2 _ _ (A6 (H:=H3) (a:=p0) (o:=.lst []))) A6).same w3).same w4).same w5).same w6
 have eT:=w6 _ _ (w5 _ _ (w4 _ _ (A6 (H:=upd (upd H3 p0 (.lst [])) L (.lst [.ref p0])) (a:=T) (o:=.lst []))))
 have er0:=w6 _ _ (w5 _ _ (A6 (H:=upd (upd (upd H3 p0 (.lst [])) L (.lst [.ref p0])) T (.lst [])) (a:=r0) (o:=.lst [])))
 have eR:=w6 _ _ (A6 (H:=upd (upd (upd (upd H3 p0 (.lst [])) L (.lst [.ref p0])) T (.lst [])) r0 (.lst [])) (a:=Rw) (o:=.lst [.ref r0]))
 have eM:=A6 (H:=upd (upd (upd (upd (upd H3 p0 (.lst [])) L (.lst [.ref p0])) T (.lst [])) r0 (.lst [])) Rw (.lst [.ref r0])) (a:=M) (o:=.lst [])
 have nLp:L≠p0:=(C6 hL).1
 have nT1:T≠L:=(C6 hT).1
 have nT2:T≠p0:=(C6 (C6 hT).2).1
 have nr1:r0≠T:=(C6 hr0).1
 have nr2:r0≠L:=(C6 (C6 hr0).2).1
 have nr3:r0≠p0:=(C6 (C6 (C6 hr0).2).2).1
 have nW0:Rw≠r0:=(C6 hRw).1
 have nW1:Rw≠T:=(C6 (C6 hRw).2).1
 have nW2:Rw≠L:=(C6 (C6 (C6 hRw).2).2).1
 have nW3:Rw≠p0:=(C6 (C6 (C6 (C6 hRw).2).2).2).1
 have nM1:M≠Rw:=(C6 hM).1
 have nM0:M≠r0:=(C6 (C6 hM).2).1
 have nM2:M≠T:=(C6 (C6 (C6 hM).2).2).1
 have nM3:M≠L:=(C6 (C6 (C6 (C6 hM).2).2).2).1
 have nM4:M≠p0:=(C6 (C6 (C6 (C6 (C6 hM).2).2).2).2).1
 have s38:=A7.tr (A7.tr (A7.tr (A7.tr (A7.tr w1 w2) w3) w4) w5) w6
 obtain⟨H8,eH8⟩:∃ H8,H8=upd (upd (upd (upd (upd (upd H3 p0 (.lst [])) L (.lst [.ref p0])) T (.lst [])) r0 (.lst [])) Rw (.lst [.ref r0])) M (.lst []):=⟨_,rfl⟩
 rw[<-eH8] at hh0 eT er0 eR eM s38 ⊢
 have a0:A5 K H3 H8 L T Rw M [p0] [r0] st0 [[]] []:=by
  refine⟨s38,hh0,eT,eR,RwB.one er0,⟨[],eM,I9⟩,?_,fun y hy=>?_,fun y hy=>?_⟩
  ·simp only[nodup_cons,mem_cons,not_mem_nil,or_false,not_or]
   exact⟨⟨Ne.symm nW1,Ne.symm nM2,nT1,nT2⟩,⟨Ne.symm nM1,nW2,nW3⟩,⟨nM3,nM4⟩,nLp,fun h=>h,nodup_nil⟩
  ·simp only[mem_cons,not_mem_nil,or_false] at hy
   rcases hy with rfl|rfl|rfl|rfl|rfl
   ·exact hT0
   ·exact hR0
   ·exact hM0
   ·exact hL0
   ·exact h0
  ·rw[mem_singleton.mp hy]
   simp only[mem_cons,not_mem_nil,or_false,not_or]
   exact⟨nr1,Ne.symm nW0,Ne.symm nM0,nr2,nr3⟩
 obtain⟨cs,ecs,hcs⟩:=zi0 (f:=V.int) ns (some 2) (some 62)
 refine xc1 ((A7.tr s13 s38).sqL hS) fun q1 hq1=>?_
 rw[ecs]
 have v1:=A7.new hq1 (.lst (cs.map V.int))
 have eq1:(upd H8 q1 (.lst (cs.map V.int))) q1=_:=A6
 have a1:=a0.same v1
 have nq1:q1∉T::Rw::M::L::[p0]:=fun h=>(a0.mut q1 h).some hq1
 obtain⟨H9,eH9⟩:∃ H9,H9=upd H8 q1 (.lst (cs.map V.int)):=⟨_,rfl⟩
 rw[<-eH9] at eq1 a1 ⊢
 obtain⟨Hb,eHb⟩:∃ Hb,Hb=rml H9 [T,Rw,M,L,p0]:=⟨_,rfl⟩
 have sb9:A7 Hb H9:=by rw[eHb];exact yg3
 have s3b:A7 H3 Hb:=by rw[eHb];exact A7.rml a1.s a1.nw
 have ab:A5 K Hb H9 L T Rw M [p0] [r0] st0 [[]] []:=⟨sb9,a1.h,a1.t,a1.r,a1.rb,a1.m,a1.nd,fun y hy=>by rw[eHb];exact yl9 hy,a1.nx⟩
 have eqb:Hb q1=some (.lst (cs.map V.int)):=by rw[eHb,qh5 nq1];exact eq1
 have hdB:=s3b _ _ hd3'
 refine qr2 #[52,eq1] (fun i σ H'=>∃ as xs z x9 x10 x11 ps,σ=[some (.ref sc),some (.ref d),some (.int c),some (.ref tb),some (.str z),some (.ref L),some (.ref T),some (.ref Rw),some (.ref M),x9,x10,x11]/\I5 K rs nm c Hb H' L T Rw M as xs z ps (i)) ?_ ?_ ?_ ?_
 ·refine⟨[p0],[r0], "",none,none,none,[],rfl,ab,rfl,fun x hx=>(by cases hx),Nat.le_refl _,⟨by show[S5]≠[];simp,?_,fun m hm=>(by cases hm),fun v hv m hm=>?_⟩,bg0 rs⟩
  ·show L0 rs ("":Str)=false
   rw[hW.w]
   exact decide_eq_false (Ne.symm hW.e)
  ·have hv:v∈[[]]:=hv
   rw[mem_singleton.mp hv] at hm;cases hm
 ·rintro i σ H' _ ⟨as,xs,z,x9,x10,x11,ps,rfl,a,_⟩
  exact SqL.of (a.s _ _ eqb)
 ·rintro i v σ H' hi ⟨as,xs,z,x9,x10,x11,ps,rfl,a,ez,hok,hpl,hV,hbg⟩
  have hi63:i<63:=by
   rcases Nat.lt_or_ge i (cs.map V.int).length with h|h
   ·rw[length_map] at h;omega
   ·rw[List.getElem?_eq_none_iff.mpr h] at hi;cases hi
  rw[List.getElem?_map] at hi
  obtain⟨y,hy,rfl⟩:=Option.map_eq_some_iff.mp hi
  have zl:z.length=(txP ps).length:=by rw[<-qf2,ez]
  have zle:z.length<=11*63:=by
   have:=yr6 fun x hx=>(hok x hx).2
   have:=Nat.mul_le_mul_left 11 (show ps.length<=63 by omega)
   omega
  have hsn:∀ x:Pc,pw0 rs (ps++[x])=stP rs (fun _=>0) z.length #[68] x:=fun x=>by unfold pw0;rw[yr4,Nat.zero_add,zl]
  have hb0:=hbg.c
  have hbm:=hbg.m
  have hbl:=hbg.l
  have hnl2:=hbg.nlen
  have bdd:∀ b∈#[68].bs,b.ps.length<=1000000/\adA b.ps<=1000000:=fun b hb=>by
   have h1:=(hb0 b hb).ps
   have h2:=(hb0 b hb).t
   exact⟨by omega,by omega⟩
  have hrl:∀ w∈J4 rs #[68].bs,w.length<=100000:=fun w hw=>by
   obtain⟨b,hb,e⟩:=yx9 hV.ne hw
   have h1:=(hb0 b hb).ws
   rw[e] at h1;omega
  obtain⟨rp,hr1,hr2⟩:=wa1 (rs:=rs) hV.ne hV.h0
  have hcp:(0:Int)<(c:Int):=by omega
  refine J0 ?_
  show ys5 K _ [some (.ref sc),some (.ref d),some (.int c),some (.ref tb),some (.str z),some (.ref L),some (.ref T),some (.ref Rw),some (.ref M),some (.int y),x10,x11] _
  lk
  refine⟨y,8,rfl,by decide,by decide,fun n hn0=>?_⟩
  show ys4 K _ [some (.ref sc),some (.ref d),some (.int c),some (.ref tb),some (.str z),some (.ref L),some (.ref T),some (.ref Rw),some (.ref M),some (.int y),some (.int n),x11] _
  lk
  have g1:=Int.emod_nonneg (n / 8) (show(c:Int)≠0 by omega)
  have g2:=Int.emod_lt_of_pos (n / 8) hcp
  obtain⟨k,hk⟩:=Int.eq_ofNat_of_zero_le g1
  rw[hk]
  have hkc:k<c:=by omega
  refine M9 #[52,a.s _ _ hdB] (qn4 #[0]) ?_
  have hnk:gd nm k∈nm.take c:=by
   have:(nm.take c)[k]?=some (gd nm k):=by rw[List.getElem?_take,if_pos hkc];exact qk7 #[0]
   exact mem_of_getElem? this
  have hsrt:=hNs k hkc
  have hnb:xl5 k≠("bare":Str):=by unfold xl5;split;decide;split <;> decide
  obtain⟨nn,enn⟩:∃ nn,nn=gd nm k:=⟨_,rfl⟩
  rw[<-enn] at hnk hsrt ⊢
  have hnn8:=hN8 nn hnk
  have o1:(("<":Str)).length=1:=rfl
  have o2:((">":Str)).length=1:=rfl
  have o3:(("</":Str)).length=2:=rfl
  refine J0 ?_
  show ys3 K _ [some (.ref sc),some (.ref d),some (.int c),some (.ref tb),some (.str z),some (.ref L),some (.ref T),some (.ref Rw),some (.ref M),some (.int y),some (.int n),some (.str nn)] _
  have rest:∀ DD:qd3,(∀ σ' H'',(∃ as xs z x9 x10 x11 ps,σ'=[some (.ref sc),some (.ref d),some (.int c),some (.ref tb),some (.str z),some (.ref L),some (.ref T),some (.ref Rw),some (.ref M),x9,x10,x11]/\I5 K rs nm c Hb H'' L T Rw M as xs z ps (i+1))->DD.nx σ' H'')->ys2 K DD [some (.ref sc),some (.ref d),some (.int c),some (.ref tb),some (.str z),some (.ref L),some (.ref T),some (.ref Rw),some (.ref M),some (.int y),some (.int n),some (.str nn)] H':=fun DD hDD=>by
   obtain⟨us0,m10,m20⟩:=a.m
   lk
   by_cases h6:n % 8<6
   ·rw[decide_eq_true h6]
    x_go
    show yr9 K _ _ _
    lk
    refine⟨.inl ⟨rfl,_,SqL.of m10⟩,?_⟩
    lk
    refine⟨Hb,z,nn,L,T,Rw,M,d,as,xs,_,_,rs,fun _=>0,gd nm 0,gd nm 1,nm.take c,nm,rfl,a,hdB,by omega,rfl,rfl,hW,by omega,hnn8,hV.ne,by omega,fun b hb=>(bdd b hb).1,fun m hm=>⟨hV.n m hm,hN8 m (hV.n m hm)⟩,hV.h0,fun w hw=>by have:=hrl w hw;omega,fun m us2 as' xs' H2 mds a2 hm2 hd2 hms hml=>?_⟩
    have e:=hsn (.cl nn)
    walk_at"38"
    show yr8 K _ _ _
    lk
    refine qf5 #[42] ?_
    lk
    refine qf5 (by rw[sizeLine_eq,qe3];omega) ?_
    lk
    refine qf5 (by rw[sizeLine_eq,qe3,qe3];omega) ?_
    lk
    refine hDD _ _ ⟨as',xs',_,_,_,_,ps++[.cl nn],rfl,by rw[e];exact a3,?_,fun x hx=>?_,by simp;omega,?_,?_⟩
    ·rw[xl4,<-ez]
     simp only[PySem.Str.cps_append,Array.toList_append,append_assoc];rfl
    ·rcases mem_append.mp hx with h|h
     ·exact hok x h
     ·rw[mem_singleton.mp h];exact⟨hNok nn hnk,by rw[Pc.len];show nn.length+3<=_;omega⟩
    ·rw[e]
     exact V5.clo hW hV
    ·rw[e]
     have:=hbg.clo (rk:=fun _=>0) (i:=z.length) (g:=cls nn) (n:=nn)
     exact this.mono #[86] #[86] #[86] (by simp) (by simp)
   ·rw[decide_eq_false h6]
    k_go
    show ys0 K _ _ _
    lk
    refine⟨.inl ⟨rfl,_,SqL.of m10⟩,?_⟩
    lk
    refine M9 #[52,a.s _ _ hdB] (qn4 (i:=0) #[0]) ?_
    lk
    refine⟨Hb,z,L,T,Rw,M,as,xs,_,_,rs,fun _=>0,gd nm 0,gd nm 1,nm.take c,rfl,a,hW,by omega,⟨hV.ne,hbl,rfl,hV.n,bdd⟩,hN8,hV.h0,fun m hm=>hV.w _ (by rw[hr1];simp) m hm,hrl _ (by rw[hr1];simp),fun m us2 as' xs' H2 mds a2 hm2 hd2 hms hml=>?_⟩
    have e:=hsn (.wd "w")
    have hpw:we8 ("w":Str):=fun c hc=>by
     have:c∈[119]:=hc
     rw[mem_singleton.mp this];decide
    have er:stP rs (fun _=>0) z.length #[68] (.wd "w")=txS (N9 rs z.length #[68]) z.length "w" "w":=by
     show qg5 rs _ _ _ _=_
     rw[F.run hV.ne hbl,xf3 hpw]
    walk_at"38"
    lk
    refine qf5 (by rw[sizeLine_eq];show _+1<=_;omega) ?_
    lk
    refine hDD _ _ ⟨as',xs',_,_,_,_,ps++[.wd "w"],rfl,by rw[e,er];exact a3,?_,fun x hx=>?_,by simp;omega,?_,?_⟩
    ·rw[xl4,<-ez,PySem.Str.cps_append,Array.toList_append];rfl
    ·rcases mem_append.mp hx with h|h
     ·exact hok x h
     ·rw[mem_singleton.mp h];exact⟨⟨hpw,by decide⟩,by decide⟩
    ·rw[e,er]
     exact V5.run hW hV hbl bdd
    ·have hrun:=hbg.run (i:=z.length) (g := "w") (t := "w") bk
     rw[e]
     have o:(("w":Str)).length=1:=rfl
     exact hrun.mono #[86] #[86] (by rw[o];simp;omega) (by simp) (by rw[o];simp)
  lk
  by_cases h3:n % 8<3
  ·rw [decide_eq_true h3]
   x_go
   lk
   refine Q4 (.inl #[52,a.t]) ?_
   rw[B7]
   lk
   by_cases hx:(B5 #[68]).length<18
   ·rw[decide_eq_true (show((B5 #[68]).length:Int)<18 by omega)]
    x_go
    show ys1 K _ _ _
    lk
    refine qf5 #[42] ?_
    lk
    refine qf5 (by rw[sizeLine_eq,qe3];omega) ?_
    lk
    refine qf5 (by rw[sizeLine_eq,qe3,qe3];omega) ?_
    lk
    refine⟨.inl ⟨rfl,_,SqL.of a.t⟩,?_⟩
    lk
    refine L4 a.t (by rw[B7,sizeLine_eq];omega) ?_
    have est:B4 (B5 #[68])++[.str nn]=B4 (B5 #[68]++[nn]):=by simp[B4]
    rw[est]
    have nT:=xt4 a.nd
    have hLT:=E1 (p:=T) (o:=.lst (B4 (B5 #[68]++[nn]))) a.h.l (fun e=>nT (by rw[<-e];simp))
    lk
    refine⟨.inl ⟨rfl,_,SqL.of hLT⟩,?_⟩
    lk
    refine⟨E5 (by z_go),fun p4 hp4=>?_⟩
    lk
    refine L4 (#[78,hp4] _ _ hLT) (by rw[length_map,a.h.b.len,length_map,sizeLine_eq];omega) ?_
    have a4:=a.open (n:=nn) hV.ne hp4
    generalize upd (upd (upd H' T #[16,B5 #[68]++[nn]]) p4 (.lst [])) L (.lst (as.map V.ref++[.ref p4]))=H4 at *
    have e:=hsn (.op nn)
    have er:stP rs (fun _=>0) z.length #[68] (.op nn)={#[68] with bs:=P4 #[68].bs nn}:=by
     show opS rs _ _ _ _ _=_
     rw[F.op hV.ne #[0] (by rw[hsrt];simp),if_neg (by rw[hsrt];exact fun h=>hnb (Option.some.inj h))]
    have erw:J4 rs (P4 #[68].bs nn)=J4 rs #[68].bs++(if nn=gd nm 0 then[[]] else[]):=by
     unfold P4
     rw[wd7 hV.ne,show(wv2 (S6 #[68].bs) nn).n=nn from rfl,hW.w]
     by_cases e0:nn=gd nm 0
     ·rw[if_pos e0,if_pos (decide_eq_true e0)];rfl
     ·rw[if_neg e0,if_neg (by rw[decide_eq_false e0];decide)]
    have done:∀ xs' H5,A5 K Hb H5 L T Rw M (as++[p4]) xs' {#[68] with bs:=P4 #[68].bs nn} (J4 rs (P4 #[68].bs nn)) #[68].ms->∃ as xs z' x9 x10 x11 ps,([some (.ref sc),some (.ref d),some (.int c),some (.ref tb),some (.str (z ++ "<"++nn ++ ">")),some (.ref L),some (.ref T),some (.ref Rw),some (.ref M),some (.int y),some (.int n),some (.str nn)]:St)=[some (.ref sc),some (.ref d),some (.int c),some (.ref tb),some (.str z'),some (.ref L),some (.ref T),some (.ref Rw),some (.ref M),x9,x10,x11]/\I5 K rs nm c Hb H5 L T Rw M as xs z' ps (i+1):=fun xs' H5 a5=>by
     refine⟨as++[p4],xs',_,_,_,_,ps++[.op nn],rfl,by rw[e,er];exact a5,?_,fun x hx=>?_,by simp;omega,?_,?_⟩
     ·rw[xl4,<-ez]
      simp only[PySem.Str.cps_append,Array.toList_append,append_assoc];rfl
     ·rcases mem_append.mp hx with h|h
      ·exact hok x h
      ·rw[mem_singleton.mp h];exact⟨hNok nn hnk,by rw[Pc.len];show nn.length+2<=_;omega⟩
     ·rw[e,er]
      exact hV.ent hnk
     ·rw[e]
      have:=hbg.op (i:=z.length) (g:=opn nn) (n:=nn) bk
      exact this.mono #[86] #[86] #[86] (by simp) (by simp)
    show yr7 K _ _ _
    lk
    refine M9 #[52,a4.s _ _ hdB] (qn4 (i:=0) #[0]) ?_
    lk
    by_cases e0:nn=gd nm 0
    ·rw[decide_eq_true e0]
     x_go
     lk
     refine⟨.inl ⟨rfl,_,SqL.of a4.r⟩,?_⟩
     lk
     refine⟨E5 (by z_go),fun p5 hp5=>?_⟩
     lk
     have s5:=A7.new hp5 (.lst [])
     have ep5:(upd H4 p5 (.lst [])) p5=some (.lst (B4 [])):=A6
     have a5:=a4.same s5
     have np5:p5∉T::Rw::M::L::(as++[p4]):=fun h=>(a4.mut p5 h).some hp5
     have hrl2:xs.length<=100:=by
      rw[a.rb.len]
      unfold J4
      rw[length_cons,length_map]
      have:=length_filter_le (fun b=>L0 rs b.n) #[68].bs.tail
      rw[length_tail] at this
      omega
     refine L4 (s5 _ _ a4.r) (by rw[length_map,sizeLine_eq];omega) ?_
     have a6:=a5.rows (ys:=xs++[p5]) (rwv':=J4 rs #[68].bs++[[]]) (st':={#[68] with bs:=P4 #[68].bs nn}) (a5.rb.app (RwB.one ep5)) (fun y hy=>by
      rcases mem_append.mp hy with h|h
      ·exact a5.nx y h
      ·rw[mem_singleton.mp h];exact np5) rfl rfl
     rw[map_append] at a6
     rw[if_pos e0] at erw
     exact done _ _ (by rw[erw];exact a6)
    ·rw[decide_eq_false e0]
     k_go
     rw[if_neg e0,append_nil] at erw
     have:=done _ _ (by rw[erw];exact a4)
     first|exact this|(lk;exact this)
   ·rw[decide_eq_false (show ¬((B5 #[68]).length:Int)<18 by omega)]
    k_go
    exact rest _ fun _ _ h=>h
  ·rw[decide_eq_false h3]
   k_go
   first|exact rest _ fun _ _ h=>h|(refine qd5 ?_;exact rest _ fun _ _ h=>h)
 rintro σ H' ⟨as,xs,z,x9,x10,x11,ps,rfl,a,ez,hok,hpl,hV,hbg⟩
 rw[length_map] at hpl
 have zl:z.length=(txP ps).length:=by rw[<-qf2,ez]
 have zle:z.length<=11*63:=by
  have:=yr6 fun x hx=>(hok x hx).2
  have:=Nat.mul_le_mul_left 11 (show ps.length<=63 by omega)
  omega
 have hrd:=F.reads bk ez fun x hx=>(hok x hx).1
 have ebs:(we7 rs (fun _=>0) z).bs=#[68].bs:=by have:=congrArg Rst.bs hrd;exact this
 have ems:(we7 rs (fun _=>0) z).ms=#[68].ms:=by have:=congrArg Rst.ms hrd;exact this
 have hml:∀ m∈B5 #[68],m.length<=8:=fun m hm=>hN8 m (hV.n m hm)
 have hnl3:=hbg.nlen
 have hbm:=hbg.m
 have hbp:∀ b∈#[68].bs,b.ps.length<=1000000:=fun b hb=>by have:=(hbg.c b hb).ps;omega
 have hbl:=hbg.l
 have hne:=hV.ne
 obtain⟨us0,m10,m20⟩:=a.m
 generalize pw0 rs ps=X at *
 show yg8 K _ _ _
 lk
 refine⟨.inl ⟨rfl,_,SqL.of m10⟩,?_⟩
 lk
 refine⟨Hb,z,L,T,Rw,M,as,xs,X,_,_,rfl,a,by omega,hne,by omega,hbp,hml,fun m us2 as' H2 a2 hm2 hd2=>?_⟩
 obtain⟨us,m1,m2⟩:=a2.m
 have hul:=A5.mlen m2
 have hul2:=A5.mlen hd2
 rw[length_map,length_reverse] at hul2
 lk
 refine wt6 m1 hm2 (by rw[hul,hul2,sizeLine_eq];omega) ?_
 have a6:=a2.ext (m:=m) m1 m2 hd2
 generalize upd H2 M (.lst (us++us2))=H6 at *
 obtain⟨b0,cl,eb⟩:=exists_cons_of_ne_nil hne
 have hcl:cl.length=(B5 X).length:=by
  have:=hnl3
  rw[eb,length_cons] at this;omega
 have erd:rdS rs (fun _=>0) z={(we7 rs (fun _=>0) z) with bs:=wUp rs #[88] (lvN cl.length X.bs),ms:=X.ms++cl.reverse.map (clM z.length "end")}:=by
  have h1:(we7 rs (fun _=>0) z).bs=[]++b0::cl:=by rw[ebs,eb];rfl
  have:=yg5 (rs:=rs) (i:=z.length) (rule := "end") h1
  rw[ebs,ems] at this
  exact this
 have hlv:lvN (B5 X).length X.bs=[{b0 with ps:=b0.ps++N3 cl}]:=by
  rw[<-hcl,eb];exact wa0 cl [] b0
 have ert:rtS (rdS rs (fun _=>0) z)=b0.ps++N3 cl:=by
  unfold rtS
  rw[erd,hcl,hlv]
  show((wUp rs _ [_]).headD S5).ps=_
  have:=qm4 (rs:=rs) (f:=#[88]) (g:=Brn.ps) #[36] [{b0 with ps:=b0.ps++N3 cl}]
  cases e:wUp rs #[88] [{b0 with ps:=b0.ps++N3 cl}] with
  | nil=>rw[e] at this;cases this
  | cons x t =>
    rw[e] at this
    exact(List.cons.inj this).1
 have emd:(rdS rs (fun _=>0) z).ms=X.ms++((B5 X).reverse.map fun y=>(⟨z.length,z.length,cls y, "end"⟩:Mnd)):=by
  rw[erd]
  show X.ms++_=_
  congr 1
  have e8:B5 X=cl.map Brn.n:=by unfold B5;rw[eb];rfl
  rw[e8,<-map_reverse,map_map];rfl
 have hh6:=a6.h
 have hps6:({X with bs:=lvN (B5 X).length X.bs}:Rst).bs.map Brn.ps=[b0.ps++N3 cl]:=by
  show(lvN (B5 X).length X.bs).map Brn.ps=_
  rw[hlv];rfl
 rw[hps6] at hh6
 obtain⟨x,asx,usx,eas,hx,hxd⟩:=hh6.first
 obtain⟨ms6,q16,q26⟩:=a6.m
 have hL6:=hh6.l
 rw[eas] at hL6
 have etbB:=s3b _ _ etb
 have hdbB:=Dvs.same s3b _ _ hdb
 show yg7 K _ _ _
 lk
 refine⟨_,_,rfl,.inl ⟨SqL.of (a6.s _ _ etbB),fun tt htt=>?_⟩⟩
 have stt:=A7.new htt (.tup #[108])
 have ett:(upd H6 tt (.tup #[108])) tt=_:=A6
 have hbkO:BkO K (upd H6 tt (.tup #[108])) (.ref tt) rs:=⟨tt,_,rfl,SqT.of ett,Dvs.same (A7.tr a6.s stt) _ _ hdbB⟩
 have hL7:=stt _ _ hL6
 have hx7:=stt _ _ hx
 have hxd7:=Dvs.same stt _ _ hxd
 have q17:=stt _ _ q16
 have q27:=Dvs.same stt _ _ q26
 generalize upd H6 tt (.tup #[108])=H7 at *
 lk
 refine⟨.ref tt,z,rs,fun _=>0,rfl,hbkO,bk,by omega,fun v1 p9 q9 us9 H9' hp9 hv9 hq9 hu9 s9 _=>?_⟩
 lk
 refine M9 #[52,s9 _ _ hL7] (v:=.ref x) zf9 ?_
 lk
 refine⟨_,_,rfl,.inl ⟨SqL.of (s9 _ _ hx7),fun l hl=>?_⟩⟩
 lk
 refine⟨E5 (by z_go),fun p10 hp10=>?_⟩
 lk
 refine⟨E5 (by z_go),fun p11 hp11=>?_⟩
 have y1:=A7.new hl (.tup usx)
 have y2:=A7.new hp10 (.tup [.str "",.ref l])
 have y3:=A7.new hp11 (.tup [.ref p10,.ref M])
 have y13:=A7.tr (A7.tr y1 y2) y3
 have y913:=A7.tr s9 y13
 have dt:Dv K _ (Tr.nd "" (b0.ps++N3 cl)).da (.ref p10):=yp5 (SqT.of (y3 _ _ (A6 (H:=upd H9' l (.tup usx)) (a:=p10) (o:=.tup [.str "",.ref l])))) (y3.sqT (y2.sqT (SqT.of A6))) (Dvs.same y913 _ _ hxd7)
 rw[ert] at hv9
 rw[emd] at hu9
 have hhg:=zo4 (rs:=rs) (rk:=fun _=>0) (z:=z) bk
 rw[ert] at hhg
 lk
 refine zo3 (t:=Tr.nd "" (b0.ps++N3 cl)) hhg (D7.mpr ⟨p9,_,rfl,y13.sqT hp9,C0 (Dv.same y13 _ _ hv9) (C0 (qp2.mpr ⟨q9,us9,rfl,SqL.of (y13 _ _ hq9),Dvs.same y13 _ _ hu9⟩) I9)⟩) (D7.mpr ⟨p11,_,rfl,SqT.of A6,C0 dt (C0 (qp2.mpr ⟨M,ms6,rfl,SqL.of (y913 _ _ q17),Dvs.same y913 _ _ q27⟩) I9)⟩) ?_
 exact q _
end
variable{X:Cx}{pos:Pos}{mg:Str->Option Value}{h:Heap}
section
open PyProof.Rows
set_option maxHeartbeats 0
def top(i:Nat):Stmt:=PySem.Challenge.pw_tagmend_k45_walls.main.body.getD i (.Pass ⟨0,0,0,0⟩)
def qk1(s:Stmt)(j:Nat):Stmt:=match s with
 | .ClassDef _ _ _ b _ _ _ _ _ _ _=>b.getD j (.Pass ⟨0,0,0,0⟩)
 | _=>.Pass ⟨0,0,0,0⟩
abbrev S1:Stmt:=top 8
abbrev xl6:Stmt:=top 9
abbrev xa2:Stmt:=top 10
abbrev xa3:Stmt:=top 11
abbrev xa4:Stmt:=top 12
abbrev wr6:Stmt:=top 13
abbrev xa5:Stmt:=top 14
abbrev xa6:Stmt:=top 17
abbrev ql1:Stmt:=top 18
abbrev xa7:Stmt:=top 19
abbrev qh8:Stmt:=top 21
abbrev xa8:Stmt:=top 24
abbrev xa9:Stmt:=top 25
abbrev wk2:Stmt:=top 26
abbrev xl7:Stmt:=top 27
abbrev qh9:Stmt:=top 28
abbrev qn8:Stmt:=top 29
abbrev qs3:Stmt:=top 30
abbrev wk3:Stmt:=top 31
abbrev xb0:Stmt:=top 35
abbrev xb1:Stmt:=top 36
abbrev qv9:Stmt:=top 37
abbrev wk4:Stmt:=top 41
abbrev ql2:Stmt:=top 42
abbrev wk5:Stmt:=top 43
abbrev wd8:Stmt:=top 44
abbrev wr7:Stmt:=top 45
abbrev qx5:Stmt:=top 46
abbrev qs4:Stmt:=top 47
abbrev wd9:Stmt:=top 48
abbrev we0:Stmt:=top 49
abbrev wk6:Stmt:=top 52
abbrev wk7:Stmt:=top 53
abbrev qi0:Stmt:=top 56
abbrev qs5:Stmt:=top 57
abbrev qn9:Stmt:=top 58
abbrev qs6:Stmt:=top 60
abbrev we1:Stmt:=top 61
abbrev qs7:Stmt:=top 62
abbrev qi1:Stmt:=top 63
abbrev qx6:Stmt:=top 64
abbrev wk8:Stmt:=top 65
abbrev qb0:Stmt:=top 66
abbrev wk9:Stmt:=top 67
abbrev we2:Stmt:=top 68
abbrev xl8:Stmt:=top 69
abbrev qo0:Stmt:=qk1 (top 54) 0
abbrev qo1:Stmt:=qk1 (top 55) 0
abbrev qo2:Stmt:=qk1 (top 55) 1
abbrev qo3:Stmt:=qk1 (top 55) 2
abbrev qi2:Stmt:=qk1 (top 55) 3
abbrev V8:Stmt:=qk1 (top 55) 4
abbrev V9:Stmt:=qk1 (top 55) 5
abbrev qd1:Stmt:=qk1 (top 55) 6
abbrev S2:Stmt:=qk1 (top 55) 7
abbrev X2:Stmt:=qk1 (top 55) 8
abbrev U4:Stmt:=qk1 (top 55) 9
abbrev ql3:Stmt:=qk1 (top 55) 10
abbrev ql4:Stmt:=qk1 (top 55) 11
abbrev qo4:Stmt:=qk1 (top 55) 12
abbrev qi3:Stmt:=qk1 (top 55) 13
abbrev W0:Stmt:=qk1 (top 55) 14
abbrev S9:Stmt:=qk1 (top 55) 15
abbrev qd2:Stmt:=qk1 (top 55) 16
set_option genInjectivity false in
structure Fa where
 a:Addr
 d:FuncData
structure Fok(K:Fg)(mg:Str->Option Value)(x:Str)(st:Stmt)(ps:List Str)(f:Fa):Prop where
 F:Fun K x x st f.a f.d
 b:U7 K f.d ps []
 m:mg x=some (.ref f.a)
theorem zcl{CX:CXT}{fa:Fa}{st:Stmt}{ps:List Str}{sp:Sp}{p:Pos}{e:Expr}{es:List Expr}{t:TA}(F:J7 X.prog X.w X.K X.mg X.base CX k fa.a fa.d ps sp)(hr:qk4 j X.A)(f:Fok X.K X.mg x st ps fa)(hx:wh1 CX X E)(ha:PA X (e::es) t)(hk:k<=j:=by walk_at "le")(hg:autoParam (Gl X x) zAr)(hdb:autoParam #[43] zAd)(he:autoParam #[19] zAr)(hpl:autoParam #[50,pos] zAr):PE X (.Call (.Name x p) (e::es) [] pos) (D8 sp [] E t):=zj4 F (hr.mono hk) hg f.m f.F.kp f.b .nil hx ha hdb he hpl
theorem zst{P:List Str}{sc:Scope}{i:Nat}{e:Expr}{pos':Pos}(S:C3 X.N P sc)(he:PE X e te)(hi:autoParam (X.N[i]?=some x) zAr)(hx:Loc X.env.scope x:=by exact Or.inl rfl)(hs:autoParam (swapsWith e (some (.Name x pos')) pos.line X.env=pure false) zAr)(hf:X.fn x=true\/X.env.scope.names.lookup x=some .local:=by walk_at "or"):PS X (.Assign [.Name x pos'] e pos) (E3 te (B6 i)):=qf3 S.nd hi hx he hs hf
set_option genInjectivity false in
structure Adr where
 za:Fa
 zb:Fa
 zc:Fa
 zd:Fa
 ze:Fa
 zf:Fa
 zh:Fa
 zi:Fa
 zj:Fa
 zk:Fa
 zm:Fa
 zn:Fa
 zo:Fa
 zp:Fa
 zr:Fa
 zt:Fa
 zu:Fa
 zv:Fa
 zw:Fa
 zx:Fa
 zy:Fa
 zz:Fa
 ya:Fa
 yb:Fa
 yc:Fa
 yd:Fa
 ye:Fa
 yf:Fa
 yg:Fa
 yh:Fa
 yi:Fa
 yj:Fa
 yk:Fa
 yl:Fa
 ym:Fa
 yn:Fa
 yo:Fa
 yp:Fa
 yq:Fa
 yr:Fa
 yt:Fa
 yu:Fa
 yw:Fa
 yx:Fa
 yy:Fa
 yz:Fa
 a_c_Branch_init:Addr
 d_c_Branch_init:FuncData
 a_c_Reader_init:Addr
 d_c_Reader_init:FuncData
 a_c_Reader_root:Addr
 d_c_Reader_root:FuncData
 a_c_Reader_read:Addr
 d_c_Reader_read:FuncData
 a_c_Reader_finish:Addr
 d_c_Reader_finish:FuncData
 a_c_Reader_read_opening:Addr
 d_c_Reader_read_opening:FuncData
 a_c_Reader_read_closing:Addr
 d_c_Reader_read_closing:FuncData
 a_c_Reader_read_run:Addr
 d_c_Reader_read_run:FuncData
 a_c_Reader_open_names:Addr
 d_c_Reader_open_names:FuncData
 a_c_Reader_is_in_frame:Addr
 d_c_Reader_is_in_frame:FuncData
 a_c_Reader_last_wall:Addr
 d_c_Reader_last_wall:FuncData
 a_c_Reader_enter:Addr
 d_c_Reader_enter:FuncData
 a_c_Reader_leave:Addr
 d_c_Reader_leave:FuncData
 a_c_Reader_drop:Addr
 d_c_Reader_drop:FuncData
 a_c_Reader_put_in:Addr
 d_c_Reader_put_in:FuncData
 a_c_Reader_close_behind:Addr
 d_c_Reader_close_behind:FuncData
 a_c_Reader_put_in_waiting:Addr
 d_c_Reader_put_in_waiting:FuncData
 a_c_Reader_add_text:Addr
 d_c_Reader_add_text:FuncData
 c_WALL_SORTS:Addr
 v_LONGEST_NAME:Value
 v_NAME:Value
 v_SORT:Value
 v_HOST:Value
 v_SHUTS:Value
 v_BARS:Value
 v_ROOT_NAME:Value
 v_MOST_OPEN:Value
 c_TOLD_FOR:Addr
 c_ESCAPED:Addr
 v_START:Value
 v_STOP:Value
 v_BLANKS:Value
 k_Branch:Addr
 k_Reader:Addr
structure Txt(K:Fg)(mg:Str->Option Value)(t:Adr):Prop where
 za:Fok K mg "has_letters_of_name" S1 ["word"] t.za
 zb:Fok K mg "row_of" xl6 ["rows","name"] t.zb
 zc:Fok K mg "sort_of" xa2 ["book","name"] t.zc
 zd:Fok K mg "is_wall" xa3 ["book","name"] t.zd
 ze:Fok K mg "host_of" xa4 ["book","name"] t.ze
 zf:Fok K mg "frame_of" wr6 ["book","name"] t.zf
 zh:Fok K mg "belongs" xa5 ["book","name","frame"] t.zh
 zi:Fok K mg "is_text" xa6 ["part"] t.zi
 zj:Fok K mg "straight_above" ql1 ["names"] t.zj
 zk:Fok K mg "near_of" xa7 ["book","names"] t.zk
 zm:Fok K mg "share_a_name" qh8 ["names","others"] t.zm
 zn:Fok K mg "closing" xa8 ["book","names","name"] t.zn
 zo:Fok K mg "opening" xa9 ["book","names","name"] t.zo
 zp:Fok K mg "hosts_for" wk2 ["book","names"] t.zp
 zr:Fok K mg "wanted" xl7 ["book","names","name"] t.zr
 zt:Fok K mg "wanted_by_guest" qh9 ["book","names","name"] t.zt
 zu:Fok K mg "kept_by_shuts" qn8 ["book","names","name"] t.zu
 zv:Fok K mg "hosts_within" qs3 ["book","name"] t.zv
 zw:Fok K mg "is_barred" wk3 ["book","kept","put"] t.zw
 zx:Fok K mg "escaped" xb0 ["text"] t.zx
 zy:Fok K mg "told_by" xb1 ["run"] t.zy
 zz:Fok K mg "lone_ones" qv9 ["run"] t.zz
 ya:Fok K mg "tokens_of" wk4 ["text"] t.ya
 yb:Fok K mg "settled_tokens" ql2 ["text","settled","searched"] t.yb
 yc:Fok K mg "tags_from" wk5 ["text","searched"] t.yc
 yd:Fok K mg "name_start" wd8 ["text","start"] t.yd
 ye:Fok K mg "tag_stop" wr7 ["text","start"] t.ye
 yf:Fok K mg "tag_between" qx5 ["text","start","stop"] t.yf
 yg:Fok K mg "runs_between" qs4 ["text","start","stop"] t.yg
 yh:Fok K mg "opening_of" wd9 ["name"] t.yh
 yi:Fok K mg "closing_of" we0 ["name"] t.yi
 yj:Fok K mg "read_text" wk6 ["book","text"] t.yj
 yk:Fok K mg "reader_of" wk7 ["book","text"] t.yk
 yl:Fok K mg "those_that_wait" qi0 ["book","closed"] t.yl
 ym:Fok K mg "without_last" qs5 ["names","name"] t.ym
 yn:Fok K mg "may_come_anew" qn9 ["book","names","name"] t.yn
 yo:Fok K mg "_law_cell_at" qs6 ["_law_script","_law_k"] t.yo
 yp:Fok K mg "_law_mixed" we1 ["_law_cell","_law_k"] t.yp
 yq:Fok K mg "_law_letters" qs7 ["_law_number"] t.yq
 yr:Fok K mg "_law_names" qi1 ["_law_cell"] t.yr
 yt:Fok K mg "_law_closed" qx6 ["_law_heaps","_law_there"] t.yt
 yu:Fok K mg "_law_near" wk8 ["_law_there","_law_room"] t.yu
 yw:Fok K mg "_law_close" qb0 ["_law_text","_law_name","_law_heaps","_law_there","_law_rows","_law_names_here"] t.yw
 yx:Fok K mg "_law_said" wk9 ["_law_text","_law_heaps","_law_there","_law_rows","_law_room"] t.yx
 yy:Fok K mg "_law_ended" we2 ["_law_text","_law_heaps","_law_there"] t.yy
 yz:Fok K mg "law" xl8 ["_law_script"] t.yz
 F_c_Branch_init:Fun K "__init__" "Branch.__init__" qo0 t.a_c_Branch_init t.d_c_Branch_init
 b_c_Branch_init:U7 K t.d_c_Branch_init ["self","name","place"] []
 m_c_Branch_init:Mk K t.k_Branch t.a_c_Branch_init
 F_c_Reader_init:Fun K "__init__" "Reader.__init__" qo1 t.a_c_Reader_init t.d_c_Reader_init
 b_c_Reader_init:U7 K t.d_c_Reader_init ["self","book"] []
 m_c_Reader_init:Mk K t.k_Reader t.a_c_Reader_init
 F_c_Reader_root:Fun K "root" "Reader.root" qo2 t.a_c_Reader_root t.d_c_Reader_root
 b_c_Reader_root:U7 K t.d_c_Reader_root ["self"] []
 m_c_Reader_root:wb8 K t.k_Reader "root" t.a_c_Reader_root
 F_c_Reader_read:Fun K "read" "Reader.read" qo3 t.a_c_Reader_read t.d_c_Reader_read
 b_c_Reader_read:U7 K t.d_c_Reader_read ["self","kind","start","signs","told"] []
 m_c_Reader_read:wb8 K t.k_Reader "read" t.a_c_Reader_read
 F_c_Reader_finish:Fun K "finish" "Reader.finish" qi2 t.a_c_Reader_finish t.d_c_Reader_finish
 b_c_Reader_finish:U7 K t.d_c_Reader_finish ["self","size"] []
 m_c_Reader_finish:wb8 K t.k_Reader "finish" t.a_c_Reader_finish
 F_c_Reader_read_opening:Fun K "read_opening" "Reader.read_opening" V8 t.a_c_Reader_read_opening t.d_c_Reader_read_opening
 b_c_Reader_read_opening:U7 K t.d_c_Reader_read_opening ["self","start","signs","name"] []
 m_c_Reader_read_opening:wb8 K t.k_Reader "read_opening" t.a_c_Reader_read_opening
 F_c_Reader_read_closing:Fun K "read_closing" "Reader.read_closing" V9 t.a_c_Reader_read_closing t.d_c_Reader_read_closing
 b_c_Reader_read_closing:U7 K t.d_c_Reader_read_closing ["self","start","signs","name"] []
 m_c_Reader_read_closing:wb8 K t.k_Reader "read_closing" t.a_c_Reader_read_closing
 F_c_Reader_read_run:Fun K "read_run" "Reader.read_run" qd1 t.a_c_Reader_read_run t.d_c_Reader_read_run
 b_c_Reader_read_run:U7 K t.d_c_Reader_read_run ["self","start","signs","told"] []
 m_c_Reader_read_run:wb8 K t.k_Reader "read_run" t.a_c_Reader_read_run
 F_c_Reader_open_names:Fun K "open_names" "Reader.open_names" S2 t.a_c_Reader_open_names t.d_c_Reader_open_names
 b_c_Reader_open_names:U7 K t.d_c_Reader_open_names ["self"] []
 m_c_Reader_open_names:wb8 K t.k_Reader "open_names" t.a_c_Reader_open_names
 F_c_Reader_is_in_frame:Fun K "is_in_frame" "Reader.is_in_frame" X2 t.a_c_Reader_is_in_frame t.d_c_Reader_is_in_frame
 b_c_Reader_is_in_frame:U7 K t.d_c_Reader_is_in_frame ["self"] []
 m_c_Reader_is_in_frame:wb8 K t.k_Reader "is_in_frame" t.a_c_Reader_is_in_frame
 F_c_Reader_last_wall:Fun K "last_wall" "Reader.last_wall" U4 t.a_c_Reader_last_wall t.d_c_Reader_last_wall
 b_c_Reader_last_wall:U7 K t.d_c_Reader_last_wall ["self"] []
 m_c_Reader_last_wall:wb8 K t.k_Reader "last_wall" t.a_c_Reader_last_wall
 F_c_Reader_enter:Fun K "enter" "Reader.enter" ql3 t.a_c_Reader_enter t.d_c_Reader_enter
 b_c_Reader_enter:U7 K t.d_c_Reader_enter ["self","name"] []
 m_c_Reader_enter:wb8 K t.k_Reader "enter" t.a_c_Reader_enter
 F_c_Reader_leave:Fun K "leave" "Reader.leave" ql4 t.a_c_Reader_leave t.d_c_Reader_leave
 b_c_Reader_leave:U7 K t.d_c_Reader_leave ["self"] []
 m_c_Reader_leave:wb8 K t.k_Reader "leave" t.a_c_Reader_leave
 F_c_Reader_drop:Fun K "drop" "Reader.drop" qo4 t.a_c_Reader_drop t.d_c_Reader_drop
 b_c_Reader_drop:U7 K t.d_c_Reader_drop ["self","start","signs","rule"] []
 m_c_Reader_drop:wb8 K t.k_Reader "drop" t.a_c_Reader_drop
 F_c_Reader_put_in:Fun K "put_in" "Reader.put_in" qi3 t.a_c_Reader_put_in t.d_c_Reader_put_in
 b_c_Reader_put_in:U7 K t.d_c_Reader_put_in ["self","name","start","rule"] []
 m_c_Reader_put_in:wb8 K t.k_Reader "put_in" t.a_c_Reader_put_in
 F_c_Reader_close_behind:Fun K "close_behind" "Reader.close_behind" W0 t.a_c_Reader_close_behind t.d_c_Reader_close_behind
 b_c_Reader_close_behind:U7 K t.d_c_Reader_close_behind ["self","kept","start","rule"] []
 m_c_Reader_close_behind:wb8 K t.k_Reader "close_behind" t.a_c_Reader_close_behind
 F_c_Reader_put_in_waiting:Fun K "put_in_waiting" "Reader.put_in_waiting" S9 t.a_c_Reader_put_in_waiting t.d_c_Reader_put_in_waiting
 b_c_Reader_put_in_waiting:U7 K t.d_c_Reader_put_in_waiting ["self","start"] []
 m_c_Reader_put_in_waiting:wb8 K t.k_Reader "put_in_waiting" t.a_c_Reader_put_in_waiting
 F_c_Reader_add_text:Fun K "add_text" "Reader.add_text" qd2 t.a_c_Reader_add_text t.d_c_Reader_add_text
 b_c_Reader_add_text:U7 K t.d_c_Reader_add_text ["self","start","signs","told"] []
 m_c_Reader_add_text:wb8 K t.k_Reader "add_text" t.a_c_Reader_add_text
 g_WALL_SORTS:mg "WALL_SORTS"=some (.ref t.c_WALL_SORTS)
 q_WALL_SORTS:∀ H:Hp,SqT K H t.c_WALL_SORTS [.str "room",.str "frame"]
 g_LONGEST_NAME:mg "LONGEST_NAME"=some t.v_LONGEST_NAME/\L1 (.int 8) t.v_LONGEST_NAME
 g_NAME:mg "NAME"=some t.v_NAME/\L1 (.int 0) t.v_NAME
 g_SORT:mg "SORT"=some t.v_SORT/\L1 (.int 1) t.v_SORT
 g_HOST:mg "HOST"=some t.v_HOST/\L1 (.int 2) t.v_HOST
 g_SHUTS:mg "SHUTS"=some t.v_SHUTS/\L1 (.int 3) t.v_SHUTS
 g_BARS:mg "BARS"=some t.v_BARS/\L1 (.int 4) t.v_BARS
 g_ROOT_NAME:mg "ROOT_NAME"=some t.v_ROOT_NAME/\L1 (.str "") t.v_ROOT_NAME
 g_MOST_OPEN:mg "MOST_OPEN"=some t.v_MOST_OPEN/\L1 (.int 20) t.v_MOST_OPEN
 g_TOLD_FOR:mg "TOLD_FOR"=some (.ref t.c_TOLD_FOR)
 q_TOLD_FOR:∀ H:Hp,SqT K H t.c_TOLD_FOR [.str "&l;",.str "&a;"]
 g_ESCAPED:mg "ESCAPED"=some (.ref t.c_ESCAPED)
 q_ESCAPED:∀ H:Hp,SqT K H t.c_ESCAPED [.str "<",.str "&"]
 g_START:mg "START"=some t.v_START/\L1 (.int 1) t.v_START
 g_STOP:mg "STOP"=some t.v_STOP/\L1 (.int 2) t.v_STOP
 g_BLANKS:mg "BLANKS"=some t.v_BLANKS/\L1 (.str " \n") t.v_BLANKS
 z_all:mg "all"=none
 z_any:mg "any"=none
 z_enumerate:mg "enumerate"=none
 z_int:mg "int"=none
 z_isinstance:mg "isinstance"=none
 z_len:mg "len"=none
 z_max:mg "max"=none
 z_range:mg "range"=none
 z_reversed:mg "reversed"=none
 z_str:mg "str"=none
 z_tuple:mg "tuple"=none
 n_Branch:mg "Branch"=some (.ref t.k_Branch)
 n_Reader:mg "Reader"=some (.ref t.k_Reader)
 cz:Cz K t.k_Branch t.k_Reader
section
variable{P:Program}{w:World}{base:Heap}{t:Adr}
theorem qi4:C3 ["word"] ["word"] (B3 S1):=by walk_at "k"
theorem xu4:C3 ["rows","name","row"] ["rows","name"] (B3 xl6):=by walk_at "k"
theorem xl9:C3 ["book","name","row"] ["book","name"] (B3 xa2):=by walk_at "k"
theorem xm0:C3 ["book","name"] ["book","name"] (B3 xa3):=by walk_at "k"
theorem xm1:C3 ["book","name","row"] ["book","name"] (B3 xa4):=by walk_at "k"
theorem xc6:C3 ["book","name","row"] ["book","name"] (B3 wr6):=by walk_at "k"
theorem xm2:C3 ["book","name","frame","above"] ["book","name","frame"] (B3 xa5):=by walk_at "k"
theorem xm3:C3 ["part"] ["part"] (B3 xa6):=by walk_at "k"
theorem qw0:C3 ["names"] ["names"] (B3 ql1):=by walk_at "k"
theorem xm4:C3 ["book","names","start","number","name"] ["book","names"] (B3 xa7):=by walk_at "k"
theorem wf2:C3 ["names","others"] ["names","others"] (B3 qh8):=by walk_at "k"
theorem xm5:C3 ["book","names","name","number"] ["book","names","name"] (B3 xa8):=by walk_at "k"
theorem xm6:C3 ["book","names","name","plan","kept","put"] ["book","names","name"] (B3 xa9):=by walk_at "k"
theorem wv7:C3 ["book","names","hosts"] ["book","names"] (B3 wk2):=by walk_at "k"
theorem wn0:C3 ["book","names","name","frame","number","plan"] ["book","names","name"] (B3 xl7):=by walk_at "k"
theorem qs8:C3 ["book","names","name","hosts"] ["book","names","name"] (B3 qh9):=by walk_at "k"
theorem wa4:C3 ["book","names","name","shuts","first_near","number"] ["book","names","name"] (B3 qn8):=by walk_at "k"
theorem wf3:C3 ["book","name","hosts","host"] ["book","name"] (B3 qs3):=by walk_at "k"
theorem wv8:C3 ["book","kept","put","number","name","near"] ["book","kept","put"] (B3 wk3):=by walk_at "k"
theorem xm7:C3 ["text"] ["text"] (B3 xb0):=by walk_at "k"
theorem xm8:C3 ["run"] ["run"] (B3 xb1):=by walk_at "k"
theorem wv9:C3 ["run"] ["run"] (B3 qv9):=by walk_at "k"
theorem ww0:C3 ["text","tokens","settled"] ["text"] (B3 wk4):=by walk_at "k"
theorem qw1:C3 ["text","settled","searched","tokens","tag"] ["text","settled","searched"] (B3 ql2):=by walk_at "k"
theorem ww1:C3 ["text","searched","tags","start","stop"] ["text","searched"] (B3 wk5):=by walk_at "k"
theorem wp2:C3 ["text","start"] ["text","start"] (B3 wd8):=by walk_at "k"
theorem xc7:C3 ["text","start","first","end"] ["text","start"] (B3 wr7):=by walk_at "k"
theorem wl0:C3 ["text","start","stop","first","kind"] ["text","start","stop"] (B3 qx5):=by walk_at "k"
theorem wf4:C3 ["text","start","stop"] ["text","start","stop"] (B3 qs4):=by walk_at "k"
theorem wp3:C3 ["name"] ["name"] (B3 wd9):=by walk_at "k"
theorem wp4:C3 ["name"] ["name"] (B3 we0):=by walk_at "k"
theorem ww2:C3 ["book","text","reader"] ["book","text"] (B3 wk6):=by walk_at "k"
theorem ww3:C3 ["book","text","reader","kind","start","stop","told"] ["book","text"] (B3 wk7):=by walk_at "k"
theorem qs9:C3 ["book","closed","waiting","name"] ["book","closed"] (B3 qi0):=by walk_at "k"
theorem wf5:C3 ["names","name","number"] ["names","name"] (B3 qs5):=by walk_at "k"
theorem wa5:C3 ["book","names","name","row","unfit"] ["book","names","name"] (B3 qn9):=by walk_at "k"
theorem wf6:C3 ["_law_script","_law_k"] ["_law_script","_law_k"] (B3 qs6):=by walk_at "k"
theorem wp5:C3 ["_law_cell","_law_k","_law_half","_law_number"] ["_law_cell","_law_k"] (B3 we1):=by walk_at "k"
theorem wf7:C3 ["_law_number","_law_signs","_law_width","_law_j"] ["_law_number"] (B3 qs7):=by walk_at "k"
theorem wp6:C3 ["_law_cell","_law_letters_here","_law_names_here","_law_k","_law_signs","_law_name","_law_spare"] ["_law_cell"] (B3 qi1):=by walk_at "k"
theorem wl1:C3 ["_law_heaps","_law_there","_law_heap"] ["_law_heaps","_law_there"] (B3 qx6):=by walk_at "k"
theorem ww4:C3 ["_law_there","_law_room","_law_near_here","_law_name"] ["_law_there","_law_room"] (B3 wk8):=by walk_at "k"
theorem wp7:C3 ["_law_text","_law_name","_law_heaps","_law_there","_law_rows","_law_names_here","_law_mends","_law_room","_law_start","_law_stop","_law_near_here","_law_other","_law_at","_law_late"] ["_law_text","_law_name","_law_heaps","_law_there","_law_rows","_law_names_here"] (B3 qb0):=by walk_at "k"
theorem ww5:C3 ["_law_text","_law_heaps","_law_there","_law_rows","_law_room","_law_mends","_law_name","_law_word"] ["_law_text","_law_heaps","_law_there","_law_rows","_law_room"] (B3 wk9):=by walk_at "k"
theorem wp8:C3 ["_law_text","_law_heaps","_law_there","_law_mends"] ["_law_text","_law_heaps","_law_there"] (B3 we2):=by walk_at "k"
theorem zi5:C3 ["_law_script","_law_names_here","_law_count","_law_book","_law_text","_law_heaps","_law_there","_law_rows","_law_mends","_law_cell","_law_number","_law_name"] ["_law_script"] (B3 xl8):=by walk_at "k"
theorem wa6:C3 ["self","name","place"] ["self","name","place"] (B3 qo0):=by walk_at "k"
theorem wa7:C3 ["self","book"] ["self","book"] (B3 qo1):=by walk_at "k"
theorem wa8:C3 ["self"] ["self"] (B3 qo2):=by walk_at "k"
theorem wa9:C3 ["self","kind","start","signs","told"] ["self","kind","start","signs","told"] (B3 qo3):=by walk_at "k"
theorem qt0:C3 ["self","size"] ["self","size"] (B3 qi2):=by walk_at "k"
theorem qd9:C3 ["self","start","signs","name","plan","put"] ["self","start","signs","name"] (B3 V8):=by walk_at "k"
theorem qe0:C3 ["self","start","signs","name","number","wall"] ["self","start","signs","name"] (B3 V9):=by walk_at "k"
theorem qn1:C3 ["self","start","signs","told","hosts","host","number","place"] ["self","start","signs","told"] (B3 qd1):=by walk_at "k"
theorem qi5:C3 ["self"] ["self"] (B3 S2):=by walk_at "k"
theorem qg3:C3 ["self"] ["self"] (B3 X2):=by walk_at "k"
theorem qk2:C3 ["self","walls"] ["self"] (B3 U4):=by walk_at "k"
theorem qw2:C3 ["self","name","above"] ["self","name"] (B3 ql3):=by walk_at "k"
theorem qw3:C3 ["self","branch"] ["self"] (B3 ql4):=by walk_at "k"
theorem wb0:C3 ["self","start","signs","rule"] ["self","start","signs","rule"] (B3 qo4):=by walk_at "k"
theorem qt1:C3 ["self","name","start","rule"] ["self","name","start","rule"] (B3 qi3):=by walk_at "k"
theorem qe1:C3 ["self","kept","start","rule","closed","name"] ["self","kept","start","rule"] (B3 W0):=by walk_at "k"
theorem Z6:C3 ["self","start","wall","names","name"] ["self","start"] (B3 S9):=by walk_at "k"
theorem qn2:C3 ["self","start","signs","told","branch","ahead"] ["self","start","signs","told"] (B3 qd2):=by walk_at "k"
theorem we3(T:Txt K mg t):J7 P w K mg base CX0 1 t.za.a t.za.d ["word"] (R0 K):=by
 refine T.za.F.ok qi4 #[4] (fun cdv A outer s H vs Q E hr h=>⟨R9 K,?_,wc8 h⟩)
 have S:=qi4
 refine A8 ?_
 refine D1 ?_
 exact(yy6 (ya8 xv8 xv8 B0 #[1,pv 0] (M4 rfl T.g_LONGEST_NAME.1 T.g_LONGEST_NAME.2)) (yy5 (D6 (yv8 rfl) rfl T.z_all boot_all (A0 (qp1 rfl (R5 (osc:=B3 S1) (ON:=["word"]) (N:=["sign"]) (fr:=[none]) #[21] rfl rfl) (yo5 (pv 0)) (fun _ _ _ _ _ _=>(E8 (i:=0) (show List.Nodup (["sign"]:List Str) by decide +kernel) rfl #[23])) ql5 (fun _ _ _ _ _ _=>ws9) (fun _ _ _ _ _ _=>(ya8 xv8 xv8 C9 (pv 0) C9))) A3))))
theorem wb1(T:Txt K mg t):J7 P w K mg base CX0 1 t.zb.a t.zb.d ["rows","name"] (qf9 K):=by
 refine T.zb.F.ok xu4 (yk0 K) (fun cdv A outer s H vs Q E hr h=>⟨wt8 K,?_,yw4 h⟩)
 have S:=xu4
 walk_at"2"
 ·refine U5 PassesOwn.never rfl ?_ ?_ ?_
  ·exact(X7 (pv 0))
  ·exact(E8 (i:=2) S.nd rfl #[23])
  ·refine A8 ?_
   refine M3 ?_ ?_ ?_
   ·exact(C7 #[82] (E4 #[69] (pv 2) (M4 rfl T.g_NAME.1 T.g_NAME.2) #[36]) (pv 1) (D9 _))
   ·refine A8 ?_
    exact(D1 (pv 2))
   ·exact I0
 refine A8 ?_
 exact(D1 V1)
theorem qw4(T:Txt K mg t):J7 P w K mg base CX0 1 t.zf.a t.zf.d ["book","name"] (qg0 K):=by
 refine T.zf.F.ok xc6 #[4] (fun cdv A outer s H vs Q E hr h=>⟨wq5 K,?_,yd2 h⟩)
 have S:=xc6
 walk_at"2"
 ·refine U5 PassesOwn.never rfl ?_ ?_ ?_
  ·exact(X7 (pv 0))
  ·exact(E8 (i:=2) S.nd rfl #[23])
  ·refine A8 ?_
   refine M3 ?_ ?_ ?_
   ·exact(PW.pt (wb4 (C7 #[82] (E4 #[69] (pv 2) (M4 rfl T.g_SORT.1 T.g_SORT.2) #[36]) C9 (D9 _)) (qo9 (C7 #[82] (E4 #[69] (pv 2) (M4 rfl T.g_HOST.1 T.g_HOST.2) #[36]) (pv 1) (D9 _)))))
   ·refine A8 ?_
    exact(D1 (E4 #[69] (pv 2) (M4 rfl T.g_NAME.1 T.g_NAME.2) #[36]))
   ·exact I0
 refine A8 ?_
 exact(D1 V1)
theorem ym0(T:Txt K mg t):J7 P w K mg base CX0 1 t.zi.a t.zi.d ["part"] (wc3 K):=by
 refine T.zi.F.ok xm3 #[4] (fun cdv A outer s H vs Q E hr h=>⟨wl9 K,?_,yk4 h⟩)
 have S:=xm3
 refine A8 ?_
 exact(D1 (D6 qy6 rfl T.z_isinstance boot_isinstance (A0 (pv 0) (A0 (ym6 rfl T.z_str boot_str rfl) A3))))
theorem qi6(T:Txt K mg t):J7 P w K mg base CX0 1 t.zj.a t.zj.d ["names"] (P5 K):=by
 refine T.zj.F.ok qw0 #[4] (fun cdv A outer s H vs Q E hr h=>⟨qa2 K,?_,wu4 h⟩)
 have S:=qw0
 refine A8 ?_
 exact(D1 (qr0 (C7 wh5 #[1,pv 0] B0 (D9 _)) #[13,pv 0] (M4 rfl T.g_ROOT_NAME.1 T.g_ROOT_NAME.2)))
theorem wf8(T:Txt K mg t):J7 P w K mg base CX0 1 t.zm.a t.zm.d ["names","others"] (X5 K):=by
 refine T.zm.F.ok wf2 #[4] (fun cdv A outer s H vs Q E hr h=>⟨qh0 K,?_,xd7 h⟩)
 have S:=wf2
 refine A8 ?_
 refine D1 ?_
 exact(D6 (yv9 rfl) rfl T.z_any boot_any (A0 (qp1 rfl (R5 (osc:=B3 qh8) (ON:=["names","others"]) (N:=["others","name"]) (fr:=[some 1,none]) #[21] rfl rfl) (X7 (pv 0)) (fun _ _ _ _ _ _=>(E8 (i:=1) (show List.Nodup (["others","name"]:List Str) by decide +kernel) rfl #[23])) ql5 (fun _ _ _ _ _ _=>ws9) (fun _ _ _ _ _ _=>(wb7 (wc1 (D4 hr)) (pv 1) (pv 0) #[46]))) A3))
theorem ym1(T:Txt K mg t):J7 P w K mg base CX0 1 t.zx.a t.zx.d ["text"] (wd0 K):=by
 refine T.zx.F.ok xm7 #[4] (fun cdv A outer s H vs Q E hr h=>⟨wm8 K,?_,yl4 h⟩)
 have S:=xm7
 refine A8 ?_
 exact(D1 (xe9 (xe9 (pv 0))))
theorem ym2(T:Txt K mg t):J7 P w K mg base CX0 1 t.zy.a t.zy.d ["run"] (wc7 K):=by
 refine T.zy.F.ok xm8 #[4] (fun cdv A outer s H vs Q E hr h=>⟨wm7 K,?_,yl2 h⟩)
 have S:=xm8
 refine A8 ?_
 exact(D1 (xe9 (xe9 (pv 0))))
theorem xz3(T:Txt K mg t):J7 P w K mg base CX0 1 t.zz.a t.zz.d ["run"] (qp8 K):=by
 refine T.zz.F.ok wv9 #[4] (fun cdv A outer s H vs Q E hr h=>⟨qu4 K t.c_TOLD_FOR t.c_ESCAPED,?_,xx5 T.q_TOLD_FOR T.q_ESCAPED h⟩)
 have S:=wv9
 refine A8 ?_
 refine D1 ?_
 exact(qp1 rfl (R5 (osc:=B3 qv9) (ON:=["run"]) (N:=["run","number","sign"]) (fr:=[some 0,none,none]) #[21] rfl rfl) (zc2 rfl T.z_enumerate #[14,0]) (fun _ _ _ _ _ _=>(xu7 rfl (qd4 (E8 (i:=1) (show List.Nodup (["run","number","sign"]:List Str) by decide +kernel) rfl #[23]) (qd4 (E8 (i:=2) (show List.Nodup (["run","number","sign"]:List Str) by decide +kernel) rfl #[23]) xe7)))) (zu7 (yn9 rfl (yn9 rfl zu6))) (fun _ _ _ _ _ _=>(wl6 (PW.pt (wb4 (C7 (wc1 (D4 hr)) (pv 2) (M4 rfl T.g_ESCAPED rfl) #[46]) (qo9 (C7 (wx4 (D4 hr)) (N5 qf6 (pv 0) (M5 (pv 1)) (M5 (C5 D3 (pv 1) B0))) (M4 rfl T.g_TOLD_FOR rfl) #[46])))))) (fun _ _ _ _ _ _=>(pv 1)))
theorem wp9(T:Txt K mg t):J7 P w K mg base CX0 1 t.yd.a t.yd.d ["text","start"] (qd8 K):=by
 refine T.yd.F.ok wp2 #[4] (fun cdv A outer s H vs Q E hr h=>⟨qp9 K,?_,xo3 h⟩)
 have S:=wp2
 refine A8 ?_
 exact(D1 (qr0 (qk3 (N2 PySem.F.plainAttrs_str PySem.F.slot_str_startswith PySem.F.type_str_startswith yv5 (pv 0) (A0 C9 #[14,1]))) (C5 D3 (pv 1) B0) (C5 D3 (pv 1) B0)))
theorem xp7(T:Txt K mg t):J7 P w K mg base CX0 1 t.yh.a t.yh.d ["name"] (qm2 K):=by
 refine T.yh.F.ok wp3 #[4] (fun cdv A outer s H vs Q E hr h=>⟨qq2 K,?_,xo6 h⟩)
 have S:=wp3
 refine A8 ?_
 exact(D1 (zr5 (pv 0)))
theorem xp8(T:Txt K mg t):J7 P w K mg base CX0 1 t.yi.a t.yi.d ["name"] (qm3 K):=by
 refine T.yi.F.ok wp4 #[4] (fun cdv A outer s H vs Q E hr h=>⟨qq3 K,?_,xo7 h⟩)
 have S:=wp4
 refine A8 ?_
 exact(D1 (zr5 (pv 0)))
theorem xe6(T:Txt K mg t):J7 P w K mg base CX0 1 t.ym.a t.ym.d ["names","name"] (qf0 K):=by
 refine T.ym.F.ok wf5 #[4] (fun cdv A outer s H vs Q E hr h=>⟨qh4 K,?_,xe0 h⟩)
 have S:=wf5
 walk_at"2"
 ·refine zst (i:=2) S ?_
  exact(C5 xg1 #[1,pv 0] B0)
 walk_at"2"
 ·refine wg8 PassesOwn.never ?_ ?_
  ·exact(C7 (xh1 (qi8 hr)) (E4 #[69] (pv 0) (pv 2) #[36]) (pv 1) (D9 _))
  ·refine A8 ?_
   refine zst (i:=2) S ?_
   exact(C5 xg1 (pv 2) B0)
 refine A8 ?_
 exact(D1 (C5 D3 (N5 qf6 (pv 0) qe2 (M5 (pv 2))) (N5 qf6 (pv 0) (M5 (C5 D3 (pv 2) B0)) qe2)))
theorem wf9(T:Txt K mg t):J7 P w K mg base CX0 1 t.yo.a t.yo.d ["_law_script","_law_k"] (X3 K):=by
 refine T.yo.F.ok wf6 #[4] (fun cdv A outer s H vs Q E hr h=>⟨qg6 K,?_,xd4 h⟩)
 have S:=wf6
 walk_at"2"
 ·refine M3 ?_ ?_ ?_
  ·exact(C7 wq1 (pv 1) #[1,pv 0] (D9 _))
  ·refine A8 ?_
   exact(D1 (E4 #[69] (pv 0) (pv 1) #[36]))
  ·exact I0
 refine A8 ?_
 exact(D1 B0)
theorem qx7(T:Txt K mg t):J7 P w K mg base CX0 1 t.yp.a t.yp.d ["_law_cell","_law_k"] (X6 K):=by
 refine T.yp.F.ok wp5 #[4] (fun cdv A outer s H vs Q E hr h=>⟨qp4 K,?_,xn8 h⟩)
 have S:=wp5
 walk_at"2"
 ·refine zst (i:=2) S ?_
  exact(C5 ws4 (pv 0) B0)
 walk_at"2"
 ·refine M3 ?_ ?_ ?_
  ·exact(C7 #[82] (C5 Z2 (pv 0) B0) B0 (D9 _))
  ·refine A8 ?_
   exact(D1 (C5 Z2 (C5 yz3 (pv 2) (C5 ql6 B0 (pv 1))) (C5 yz2 B0 B0)))
  ·exact I0
 walk_at"2"
 ·refine zst (i:=3) S ?_
  exact(C5 D3 (C5 Z2 (pv 2) B0) (C5 ql6 B0 (C5 D3 (pv 1) B0)))
 walk_at"2"
 ·refine zst (i:=3) S ?_
  exact(C5 Z2 (C5 D3 (C5 ql6 (pv 3) (pv 3)) (C5 ql6 B0 (pv 1))) B0)
 refine A8 ?_
 exact(D1 (C5 Z2 (C5 D3 (C5 D3 (C5 ql6 (pv 3) (pv 3)) (C5 ql6 B0 (pv 1))) B0) B0))
theorem qo5(T:Txt K mg t):J7 P w K mg base CX0 1 t.yq.a t.yq.d ["_law_number"] (T1 K):=by
 refine T.yq.F.ok wf7 #[4] (fun cdv A outer s H vs Q E hr h=>⟨qg7 K,?_,xd5 h⟩)
 have S:=wf7
 walk_at"2"
 ·refine zst (i:=1) S ?_
  exact(L8 A3)
 walk_at"2"
 ·refine zst (i:=2) S ?_
  exact(C5 D3 B0 (C5 Z2 (pv 0) B0))
 walk_at"2"
 ·refine zst (i:=0) S ?_
  exact(C5 ws4 (pv 0) B0)
 walk_at"2"
 ·refine U5 PassesOwn.never rfl ?_ ?_ ?_
  ·exact(wl4 rfl T.z_range #[14,2])
  ·exact#[105]
  ·refine A4 ?_ ?_
   ·exact(C4 (N2 PySem.F.plainAttrs_list PySem.F.slot_list_append PySem.F.type_list_append E6 (pv 1) (A0 (C5 Z2 (pv 0) B0) A3)))
   refine A8 ?_
   refine zst (i:=0) S ?_
   exact(C5 ws4 (pv 0) B0)
 refine A8 ?_
 exact(D1 (pv 1))
theorem Z7(T:Txt K mg t):J7 P w K mg base CX0 1 t.yt.a t.yt.d ["_law_heaps","_law_there"] (P3 K):=by
 refine T.yt.F.ok wl1 #[4] (fun cdv A outer s H vs Q E hr h=>⟨qm5 K,?_,xk5 h⟩)
 have S:=wl1
 walk_at"2"
 ·refine zst (i:=2) S ?_
  exact#[40,pv 0]
 refine A8 ?_
 exact(C4 (N2 PySem.F.plainAttrs_list PySem.F.slot_list_append PySem.F.type_list_append E6 #[13,pv 0] (A0 (G1 (A0 #[40,pv 1] (A0 (V2 T9 rfl T.z_tuple boot_tuple #[14,2]) A3))) A3)))
theorem ww6(T:Txt K mg t):J7 P w K mg base CX0 1 t.yu.a t.yu.d ["_law_there","_law_room"] (qh6 K):=by
 refine T.yu.F.ok ww4 #[4] (fun cdv A outer s H vs Q E hr h=>⟨qv7 K,?_,xz1 h⟩)
 have S:=ww4
 walk_at"2"
 ·refine zst (i:=2) S ?_
  exact(L8 A3)
 walk_at"2"
 ·refine U5 PassesOwn.never rfl ?_ ?_ ?_
  ·exact(X7 (pv 0))
  ·exact#[105]
  ·refine A4 ?_ ?_
   ·exact#[74]
   walk_at"37"
   ·exact(C7 #[82] (pv 3) (pv 1) (D9 _))
   ·refine A8 ?_
    refine zst (i:=2) S ?_
    exact(L8 A3)
   ·exact I0
 refine A8 ?_
 exact(D1 (pv 2))
theorem wb2(T:Txt K mg t):J7 P w K mg base CX0 1 t.a_c_Branch_init t.d_c_Branch_init ["self","name","place"] (V6 K):=by
 refine T.F_c_Branch_init.ok wa6 #[4] (fun cdv A outer s H vs Q E hr h=>⟨qe4 K,?_,wx9 T.cz h⟩)
 have S:=wa6
 walk_at"2"
 ·exact(qw7 (pv 0) (pv 1) rfl)
 walk_at"2"
 ·exact(qw7 (pv 0) (pv 2) rfl)
 walk_at"2"
 ·exact(qw7 (pv 0) (L8 A3) rfl)
 refine A8 ?_
 exact(qw7 (pv 0) (L8 A3) rfl)
theorem xb2(T:Txt K mg t):J7 P w K mg base CX0 1 t.a_c_Reader_root t.d_c_Reader_root ["self"] (qa6 K):=by
 refine T.F_c_Reader_root.ok wa8 #[4] (fun cdv A outer s H vs Q E hr h=>⟨qe8 K,?_,wz4 T.cz h⟩)
 have S:=wa8
 refine A8 ?_
 exact(D1 (G1 (A0 (M4 rfl T.g_ROOT_NAME.1 T.g_ROOT_NAME.2) (A0 (V2 T9 rfl T.z_tuple boot_tuple (A0 (G8 (E4 #[69] #[84,0] B0 #[36]) rfl) A3)) A3))))
theorem M1(T:Txt K mg t):J7 P w K mg base CX0 1 t.a_c_Reader_open_names t.d_c_Reader_open_names ["self"] (E7 K):=by
 refine T.F_c_Reader_open_names.ok qi5 #[4] (fun cdv A outer s H vs Q E hr h=>⟨S0 K,?_,wd1 T.cz h⟩)
 have S:=qi5
 refine A8 ?_
 exact(D1 (V2 T9 rfl T.z_tuple boot_tuple (A0 (qp1 rfl (R5 (osc:=B3 S2) (ON:=["self"]) (N:=["branch"]) (fr:=[none]) #[21] rfl rfl) (X7 (N5 qf6 #[84,0] (M5 B0) qe2)) (fun _ _ _ _ _ _=>(E8 (i:=0) (show List.Nodup (["branch"]:List Str) by decide +kernel) rfl #[23])) ql5 (fun _ _ _ _ _ _=>ws9) (fun _ _ _ _ _ _=>#[84,0])) A3)))
theorem qi7(T:Txt K mg t):J7 P w K mg base CX0 1 t.a_c_Reader_leave t.d_c_Reader_leave ["self"] (P6 K):=by
 refine T.F_c_Reader_leave.ok qw3 #[4] (fun cdv A outer s H vs Q E hr h=>⟨qa7 K,?_,wv1 T.cz h⟩)
 have S:=qw3
 walk_at"2"
 ·refine zst (i:=1) S ?_
  exact#[40,G8 (pv 0) rfl]
 refine A8 ?_
 exact(C4 (N2 PySem.F.plainAttrs_list PySem.F.slot_list_append PySem.F.type_list_append E6 (G8 #[13,G8 (pv 0) rfl] rfl) (A0 (G1 (A0 #[84,1] (A0 (V2 T9 rfl T.z_tuple boot_tuple (A0 #[84,1] A3)) A3))) A3)))
theorem R4(T:Txt K mg t):J7 P w K mg base CX0 1 t.a_c_Reader_drop t.d_c_Reader_drop ["self","start","signs","rule"] (M0 K):=by
 refine T.F_c_Reader_drop.ok wb0 #[4] (fun cdv A outer s H vs Q E hr h=>⟨qe5 K,?_,wy0 T.cz h⟩)
 have S:=wb0
 refine A8 ?_
 exact(C4 #[24,(G1 (A0 (pv 1) (A0 (C5 D3 (pv 1) #[1,pv 2]) (A0 C9 #[14,3]))))])
theorem qt2(T:Txt K mg t):J7 P w K mg base CX0 2 t.zc.a t.zc.d ["book","name"] (Z3 K):=by
 refine T.zc.F.ok xl9 #[4] (fun cdv A outer s H vs Q E hr h=>⟨wx5 K,?_,yk1 h⟩)
 have S:=xl9
 walk_at"2"
 ·refine zst (i:=2) S ?_
  exact(zcl (wb1 T) hr T.zb B9 (A0 (pv 0) #[14,1]))
 refine A8 ?_
 exact(D1 (qr0 (C7 wq2 (pv 2) V1 (D9 _)) V1 (E4 #[69] (pv 2) (M4 rfl T.g_SORT.1 T.g_SORT.2) #[36])))
theorem xm9(T:Txt K mg t):J7 P w K mg base CX0 2 t.ze.a t.ze.d ["book","name"] (qr4 K):=by
 refine T.ze.F.ok xm1 #[4] (fun cdv A outer s H vs Q E hr h=>⟨wx6 K,?_,yk2 h⟩)
 have S:=xm1
 walk_at"2"
 ·refine zst (i:=2) S ?_
  exact(zcl (wb1 T) hr T.zb B9 (A0 (pv 0) #[14,1]))
 walk_at"2"
 ·refine M3 ?_ ?_ ?_
  ·exact(PW.pt (zq1 (C7 wq2 (pv 2) V1 (D9 _)) (yy2 (C7 (xh1 (qi8 hr)) (E4 #[69] (pv 2) (M4 rfl T.g_SORT.1 T.g_SORT.2) #[36]) C9 (D9 _)))))
  ·refine A8 ?_
   exact(D1 V1)
  ·exact I0
 refine A8 ?_
 exact(D1 (E4 #[69] (pv 2) (M4 rfl T.g_HOST.1 T.g_HOST.2) #[36]))
theorem ym3(T:Txt K mg t):J7 P w K mg base CX0 2 t.zh.a t.zh.d ["book","name","frame"] (wc2 K):=by
 refine T.zh.F.ok xm2 #[4] (fun cdv A outer s H vs Q E hr h=>⟨wx7 K,?_,yk3 h⟩)
 have S:=xm2
 walk_at"2"
 ·refine zst (i:=3) S ?_
  exact(zcl (qw4 T) hr T.zf B9 (A0 (pv 0) #[14,1]))
 walk_at"2"
 ·refine wg8 PassesOwn.never ?_ ?_
  ·exact(C7 qy4 (pv 3) V1 (D9 _))
  ·refine A4 ?_ ?_
   ·refine M3 ?_ ?_ ?_
    ·exact(C7 #[82] (pv 3) (pv 2) (D9 _))
    ·refine A8 ?_
     exact(D1 ym5)
    ·exact I0
   refine A8 ?_
   refine zst (i:=3) S ?_
   exact(zcl (qw4 T) hr T.zf B9 #[104,0])
 refine A8 ?_
 exact(D1 ym5)
theorem yh1(T:Txt K mg t):J7 P w K mg base CX0 2 t.ye.a t.ye.d ["text","start"] (qu5 K):=by
 refine T.ye.F.ok xc7 #[4] (fun cdv A outer s H vs Q E hr h=>⟨wc9 K,?_,yf2 h⟩)
 have S:=xc7
 walk_at"2"
 ·refine zst (i:=2) S ?_
  exact(zcl (wp9 T) hr T.yd B9 (A0 (pv 0) #[14,1]))
 walk_at"2"
 ·refine zst (i:=3) S ?_
  exact(N2 PySem.F.plainAttrs_str PySem.F.slot_str_find PySem.F.type_str_find zc6 (pv 0) (A0 C9 (A0 (pv 2) (A0 (C5 D3 (C5 D3 (pv 2) (M4 rfl T.g_LONGEST_NAME.1 T.g_LONGEST_NAME.2)) B0) A3))))
 walk_at"2"
 ·refine M3 ?_ ?_ ?_
  ·exact(PW.pt (zq1 (C7 wq1 (pv 3) B0 (D9 _)) (yy2 (yy3 (qk3 (zcl (we3 T) hr T.za B9 (A0 (N5 qf6 (pv 0) (M5 (pv 2)) (M5 (pv 3))) A3)))))))
  ·refine A8 ?_
   exact(D1 V1)
  ·exact I0
 refine A8 ?_
 exact(D1 (C5 D3 (pv 3) B0))
theorem xn0(T:Txt K mg t):J7 P w K mg base CX0 2 t.yf.a t.yf.d ["text","start","stop"] (qh1 K):=by
 refine T.yf.F.ok wl0 #[4] (fun cdv A outer s H vs Q E hr h=>⟨qm1 K,?_,xj3 h⟩)
 have S:=wl0
 walk_at"2"
 ·refine zst (i:=3) S ?_
  exact(zcl (wp9 T) hr T.yd B9 (A0 (pv 0) #[14,1]))
 walk_at"2"
 ·refine zst (i:=4) S ?_
  exact(qr0 (C7 #[82] (pv 3) (C5 D3 (pv 1) B0) (D9 _)) C9 C9)
 refine A8 ?_
 exact(D1 (G1 (A0 (pv 4) (A0 (pv 1) (A0 (pv 2) (A0 (N5 qf6 (pv 0) (M5 (pv 3)) (M5 (C5 xg1 (pv 2) B0))) A3))))))
theorem wg0(T:Txt K mg t):J7 P w K mg base CX0 2 t.yg.a t.yg.d ["text","start","stop"] (T3 K):=by
 refine T.yg.F.ok wf4 #[4] (fun cdv A outer s H vs Q E hr h=>⟨qh2 K,?_,xd9 h⟩)
 have S:=wf4
 walk_at"2"
 ·refine M3 ?_ ?_ ?_
  ·exact(C7 #[82] (pv 1) (pv 2) (D9 _))
  ·refine A8 ?_
   exact(D1 (L8 A3))
  ·exact I0
 refine A8 ?_
 exact(D1 (L8 (A0 (G1 (A0 C9 (A0 (pv 1) (A0 (pv 2) (A0 (zcl (ym2 T) hr T.zy B9 (A0 (N5 qf6 (pv 0) (M5 (pv 1)) (M5 (pv 2))) A3)) A3))))) A3)))
theorem xp9(T:Txt K mg t):J7 P w K mg base CX0 2 t.yr.a t.yr.d ["_law_cell"] (ql9 K):=by
 refine T.yr.F.ok wp6 #[4] (fun cdv A outer s H vs Q E hr h=>⟨qp5 K,?_,xn9 h⟩)
 have S:=wp6
 walk_at"2"
 ·refine qf3 (i:=1) S.nd rfl (Or.inr rfl) ?_ rfl ?_
  ·exact C9
  ·walk_at "or"
 walk_at"2"
 ·refine qf3 (i:=2) S.nd rfl (Or.inr rfl) ?_ rfl ?_
  ·exact(L8 A3)
  ·walk_at "or"
 walk_at"2"
 ·refine U5 PassesOwn.never rfl ?_ ?_ ?_
  ·exact(wl4 rfl T.z_range (A0 B0 A3))
  ·exact#[105]
  ·refine A4 ?_ ?_
   ·refine qf3 (i:=4) S.nd rfl #[23] ?_ rfl ?_
    ·refine zcl (qo5 T) hr T.yq B9 ?_
     refine A0 ?_ ?_
     ·exact(C5 Z2 (C5 yz3 (C5 ws4 (pv 0) B0) (C5 ql6 B0 (pv 3))) (C5 yz2 B0 B0))
     exact A3
    ·walk_at "or"
   walk_at"2"
   ·refine M3 ?_ ?_ ?_
    ·exact(C7 #[82] (C5 Z2 (pv 0) B0) B0 (D9 _))
    ·refine A4 ?_ ?_
     ·refine qf3 (i:=4) S.nd rfl #[23] ?_ rfl ?_
      ·refine zcl (qo5 T) hr T.yq B9 ?_
       refine A0 ?_ ?_
       ·exact(zcl (qx7 T) hr T.yp B9 (A0 (pv 0) (A0 B0 A3)))
       exact A3
      ·walk_at "or"
     refine A8 ?_
     exact(xf7 (C5 Z2 (C5 D3 #[13,pv 4] (pv 3)) B0) (xf6 (pv 4) (T5 N4 B0) (wh9 (D4 hr))))
    ·exact I0
   walk_at"2"
   ·refine M3 ?_ ?_ ?_
    ·exact(C7 #[82] (C5 Z2 (pv 0) B0) B0 (D9 _))
    ·refine A4 ?_ ?_
     ·refine zst (i:=4) S ?_
      exact(N5 qf6 (zcl (qo5 T) hr T.yq B9 (A0 (C5 D3 B0 (C5 ql6 B0 (zcl (qx7 T) hr T.yp B9 (A0 (pv 0) (A0 B0 A3))))) A3)) qe2 (M5 (C5 D3 (C5 Z2 (pv 3) B0) B0)))
     refine A8 ?_
     exact(xf7 (C5 Z2 (C5 D3 #[11,4] (V2 xr3 rfl T.z_int boot_int (A0 (wb7 wh5 (pv 3) B0 (D9 _)) A3))) B0) (xf6 (pv 4) B0 (wh9 (D4 hr))))
    ·exact I0
   walk_at"2"
   ·refine zst (i:=5) S ?_
    exact(N2 PySem.F.plainAttrs_str PySem.F.slot_str_join PySem.F.type_str_join zk4 C9 (A0 (qp1 rfl (R5 (osc:=B3 qi1) (ON:=["_law_cell","_law_letters_here","_law_names_here","_law_k","_law_signs","_law_name","_law_spare"]) (N:=["_law_letters_here","_law_j"]) (fr:=[some 1,none]) #[21] rfl rfl) (X7 (pv 4)) (fun _ _ _ _ _ _=>(E8 (i:=1) (show List.Nodup (["_law_letters_here","_law_j"]:List Str) by decide +kernel) rfl #[23])) ql5 (fun _ _ _ _ _ _=>ws9) (fun _ _ _ _ _ _=>(E4 #[69] (pv 0) (pv 1) #[36]))) A3))
   walk_at"2"
   ·exact(yo1 (i:=6) S.nd rfl rfl rfl (R5 (osc:=B3 qi1) (ON:=["_law_cell","_law_letters_here","_law_names_here","_law_k","_law_signs","_law_name","_law_spare"]) (N:=["_law_names_here","_law_letter"]) (fr:=[some 2,none]) #[21] rfl rfl) (yo5 (pv 1)) (fun _ _ _ _ _ _=>(E8 (i:=1) (show List.Nodup (["_law_names_here","_law_letter"]:List Str) by decide +kernel) rfl #[23])) ql5 (fun _ _ _ _ _ _=>(wl6 (C7 (wx4 (D4 hr)) (C5 ql6 (pv 1) B0) (pv 0) #[46]))) (fun _ _ _ _ _ _=>(C5 ql6 (pv 1) B0)))
   refine A8 ?_
   exact(C4 (N2 PySem.F.plainAttrs_list PySem.F.slot_list_append PySem.F.type_list_append E6 (pv 2) (A0 (E4 #[69] (L8 (A0 (pv 5) (A0 #[11,6] A3))) (V2 xr3 rfl T.z_int boot_int (A0 (wb7 (wc1 (D4 hr)) (pv 5) (C5 D3 (pv 2) (L8 #[101,C9])) #[46]) A3)) #[36]) A3)))
 refine A8 ?_
 exact(D1 (pv 2))
theorem xq0(T:Txt K mg t):J7 P w K mg base CX0 2 t.yw.a t.yw.d ["_law_text","_law_name","_law_heaps","_law_there","_law_rows","_law_names_here"] (qm6 K):=by
 refine T.yw.F.ok wp7 #[4] (fun cdv A outer s H vs Q E hr h=>⟨qq7 K,?_,xp2 h⟩)
 have S:=wp7
 walk_at"2"
 ·refine zst (i:=6) S ?_
  exact(L8 A3)
 walk_at"2"
 ·refine zst (i:=7) S ?_
  exact#[11,5]
 walk_at"2"
 ·refine zst (i:=8) S ?_
  exact#[1,pv 0]
 walk_at"2"
 ·refine zst (i:=9) S ?_
  exact(C5 D3 (C5 D3 (pv 8) #[1,pv 1]) B0)
 walk_at"2"
 ·refine qf3 (i:=10) S.nd rfl (Or.inr rfl) ?_ rfl ?_
  ·exact(zcl (ww6 T) hr T.yu B9 (A0 (pv 3) #[14,7]))
  ·walk_at "or"
 walk_at"2"
 ·refine M3 ?_ ?_ ?_
  ·exact(PW.pt (wb4 (C7 #[82] (pv 1) (pv 7) (D9 _)) (qo9 (C7 (wc1 (D4 hr)) (pv 7) (pv 3) #[46]))))
  ·refine A4 ?_ ?_
   ·refine U5 PassesOwn.never rfl ?_ ?_ ?_
    ·exact(yp0 rfl T.z_reversed #[14,10])
    ·exact(E8 (i:=11) S.nd rfl #[23])
    ·refine A4 ?_ ?_
     ·exact#[29,A0 (pv 8) #[101,C5 D3 (C5 D3 C9 (pv 11)) C9]]
     refine A8 ?_
     exact(C4 (zcl (Z7 T) hr T.yt B9 #[104,2]))
   walk_at"2"
   ·exact(C4 (zcl (Z7 T) hr T.yt B9 #[104,2]))
   refine A8 ?_
   exact(C4 #[40,pv 4])
  ·refine A8 ?_
   refine M3 ?_ ?_ ?_
   ·exact(C7 (wc1 (D4 hr)) (pv 1) (pv 10) #[46])
   ·refine A4 ?_ ?_
    ·refine zst (i:=12) S ?_
     exact(D6 (xs5 rfl) rfl T.z_max boot_max (A0 (qp1 rfl (R5 (osc:=B3 qb0) (ON:=["_law_text","_law_name","_law_heaps","_law_there","_law_rows","_law_names_here","_law_mends","_law_room","_law_start","_law_stop","_law_near_here","_law_other","_law_at","_law_late"]) (N:=["_law_name","_law_near_here","_law_k"]) (fr:=[some 1,some 10,none]) #[21] rfl rfl) (wl4 rfl T.z_range (A0 #[1,pv 10] A3)) (fun _ _ _ _ _ _=>(E8 (i:=2) (show List.Nodup (["_law_name","_law_near_here","_law_k"]:List Str) by decide +kernel) rfl #[23])) ql5 (fun _ _ _ _ _ _=>(wl6 (C7 #[82] (E4 #[69] (pv 1) (pv 2) #[36]) (pv 0) (D9 _)))) (fun _ _ _ _ _ _=>(pv 2))) A3))
    walk_at"2"
    ·refine zst (i:=13) S ?_
     exact(N5 qf6 (pv 10) (M5 (C5 D3 (pv 12) B0)) qe2)
    walk_at"2"
    ·refine U5 PassesOwn.never rfl ?_ ?_ ?_
     ·exact(yp0 rfl T.z_reversed #[14,13])
     ·exact(E8 (i:=11) S.nd rfl #[23])
     ·refine A4 ?_ ?_
      ·exact#[29,A0 (pv 8) #[101,C5 D3 (C5 D3 C9 (pv 11)) C9]]
      refine A8 ?_
      exact(C4 (zcl (Z7 T) hr T.yt B9 #[104,2]))
    walk_at"2"
    ·exact(C4 (zcl (Z7 T) hr T.yt B9 #[104,2]))
    refine A8 ?_
    exact(xf7 (C5 D3 #[13,pv 4] (qp1 rfl (R5 (osc:=B3 qb0) (ON:=["_law_text","_law_name","_law_heaps","_law_there","_law_rows","_law_names_here","_law_mends","_law_room","_law_start","_law_stop","_law_near_here","_law_other","_law_at","_law_late"]) (N:=["_law_names_here","_law_other"]) (fr:=[some 5,none]) #[21] rfl rfl) (X7 (pv 13)) (fun _ _ _ _ _ _=>(E8 (i:=1) (show List.Nodup (["_law_names_here","_law_other"]:List Str) by decide +kernel) rfl #[23])) ql5 (fun _ _ _ _ _ _=>(wl6 (C7 (xh1 (qi8 hr)) (pv 1) #[11,0] (D9 _)))) (fun _ _ _ _ _ _=>(pv 1)))) (xf6 (pv 4) (T5 N4 B0) (wh9 (D4 hr))))
   ·refine A8 ?_
    refine M3 ?_ ?_ ?_
    ·exact(C7 (wc1 (D4 hr)) (pv 1) #[13,pv 4] #[46])
    ·refine A4 ?_ ?_
     ·exact#[29,A0 (pv 9) #[101,C9]]
     walk_at"2"
     ·refine zst (i:=12) S ?_
      exact(D6 (xs5 rfl) rfl T.z_max boot_max (A0 (qp1 rfl (R5 (osc:=B3 qb0) (ON:=["_law_text","_law_name","_law_heaps","_law_there","_law_rows","_law_names_here","_law_mends","_law_room","_law_start","_law_stop","_law_near_here","_law_other","_law_at","_law_late"]) (N:=["_law_name","_law_rows","_law_k"]) (fr:=[some 1,some 4,none]) #[21] rfl rfl) (wl4 rfl T.z_range (A0 #[1,E4 #[69] (pv 4) (T5 N4 B0) #[36]] A3)) (fun _ _ _ _ _ _=>(E8 (i:=2) (show List.Nodup (["_law_name","_law_rows","_law_k"]:List Str) by decide +kernel) rfl #[23])) ql5 (fun _ _ _ _ _ _=>(wl6 (C7 #[82] (E4 #[69] #[13,pv 1] (pv 2) #[36]) (pv 0) (D9 _)))) (fun _ _ _ _ _ _=>(pv 2))) A3))
     refine A8 ?_
     exact(xf7 (C5 D3 (N5 qf6 #[13,pv 4] qe2 (M5 (pv 12))) (N5 qf6 #[13,pv 4] (M5 (C5 D3 (pv 12) B0)) qe2)) (xf6 (pv 4) (T5 N4 B0) (wh9 (D4 hr))))
    ·refine A8 ?_
     exact#[29,A0 (pv 9) #[101,C9]]
 refine A8 ?_
 exact(D1 (pv 6))
theorem xz4(T:Txt K mg t):J7 P w K mg base CX0 2 t.yx.a t.yx.d ["_law_text","_law_heaps","_law_there","_law_rows","_law_room"] (qq8 K):=by
 refine T.yx.F.ok ww5 #[4] (fun cdv A outer s H vs Q E hr h=>⟨qv8 K,?_,xz2 h⟩)
 have S:=ww5
 walk_at"2"
 ·refine zst (i:=5) S ?_
  exact(L8 A3)
 walk_at"2"
 ·refine U5 PassesOwn.never rfl ?_ ?_ ?_
  ·exact(X7 #[13,pv 3])
  ·exact(E8 (i:=6) S.nd rfl #[23])
  ·refine A8 ?_
   refine M3 ?_ ?_ ?_
   ·exact(PW.pt (wb4 (C7 (wx4 (D4 hr)) (pv 6) (zcl (ww6 T) hr T.yu B9 (A0 (pv 2) #[14,4])) #[46]) (qo9 (C7 wq1 #[1,pv 2] B0 (D9 _)))))
   ·refine A4 ?_ ?_
    ·exact(C4 (N2 PySem.F.plainAttrs_list PySem.F.slot_list_append PySem.F.type_list_append E6 (pv 5) (A0 (G1 (A0 #[1,pv 0] (A0 #[1,pv 0] #[101,C5 D3 (C5 D3 C9 (pv 6)) C9]))) A3)))
    walk_at"2"
    ·exact(C4 (N2 PySem.F.plainAttrs_list PySem.F.slot_list_append PySem.F.type_list_append E6 (pv 2) #[14,6]))
    refine A8 ?_
    exact#[72,1]
   ·exact I0
 walk_at"2"
 ·exact(xf7 (L8 A3) (xf6 (pv 3) (T5 N4 B0) (wh9 (D4 hr))))
 walk_at"2"
 ·refine zst (i:=7) S ?_
  exact C9
 walk_at"2"
 ·refine M3 ?_ ?_ ?_
  ·exact(PW.pt (wb4 (C7 (xh1 (qi8 hr)) #[13,pv 1] (L8 A3) (D9 _)) (qo9 (qk3 (D6 qy6 rfl T.z_isinstance boot_isinstance (A0 #[13,E4 #[69] (pv 1) (T5 N4 B0) #[36]] (A0 (ym6 rfl T.z_str boot_str rfl) A3)))))))
  ·refine A8 ?_
   refine zst (i:=7) S ?_
   exact(C5 D3 (wx0 PySem.F.plainAttrs_list PySem.F.slot_list_pop PySem.F.type_list_pop wx1 #[13,pv 1]) (pv 7))
  ·exact I0
 walk_at"2"
 ·exact(C4 (N2 PySem.F.plainAttrs_list PySem.F.slot_list_append PySem.F.type_list_append E6 #[13,pv 1] #[14,7]))
 refine A8 ?_
 exact(D1 (pv 5))
theorem xq1(T:Txt K mg t):J7 P w K mg base CX0 2 t.yy.a t.yy.d ["_law_text","_law_heaps","_law_there"] (qm7 K):=by
 refine T.yy.F.ok wp8 #[4] (fun cdv A outer s H vs Q E hr h=>⟨qq9 K,?_,xp6 h⟩)
 have S:=wp8
 walk_at"2"
 ·refine zst (i:=3) S ?_
  exact(L8 A3)
 walk_at"2"
 ·refine wg8 PassesOwn.never ?_ ?_
  ·exact(C7 (xh1 (qi8 hr)) (pv 2) (L8 A3) (D9 _))
  ·refine A4 ?_ ?_
   ·exact(C4 (N2 PySem.F.plainAttrs_list PySem.F.slot_list_append PySem.F.type_list_append E6 (pv 3) (A0 (G1 (A0 #[1,pv 0] (A0 #[1,pv 0] #[101,(C5 D3 (C5 D3 C9 #[13,pv 2]) C9)]))) A3)))
   refine A8 ?_
   exact(C4 (zcl (Z7 T) hr T.yt B9 (A0 (pv 1) #[14,2])))
 refine A8 ?_
 exact(D1 (pv 3))
theorem wl2(T:Txt K mg t):J7 P w K mg base CX0 2 t.a_c_Reader_add_text t.d_c_Reader_add_text ["self","start","signs","told"] (U2 K):=by
 refine T.F_c_Reader_add_text.ok qn2 #[4] (fun cdv A outer s H vs Q E hr h=>⟨U9 K,?_,wj1 T.cz h⟩)
 have S:=qn2
 walk_at"2"
 ·refine zst (i:=4) S ?_
  exact#[13,G8 (pv 0) rfl]
 walk_at"2"
 ·refine zst (i:=5) S ?_
  exact C9
 walk_at"2"
 ·refine M3 ?_ ?_ ?_
  ·exact(PW.pt (wb4 (C7 wh5 #[1,G8 (pv 4) rfl] B0 (D9 _)) (qo9 (qk3 (zcl (ym0 T) hr T.zi B9 (A0 #[13,G8 (pv 4) rfl] A3))))))
  ·refine A8 ?_
   refine zst (i:=5) S ?_
   exact#[40,G8 (pv 4) rfl]
  ·exact I0
 walk_at"2"
 ·exact(C4 #[24,(G1 (A0 (pv 1) (A0 (pv 2) (A0 (C5 qa0 #[84,4] (G1 (A0 #[1,G8 (pv 4) rfl] A3))) (A0 #[1,pv 5] A3)))))])
 refine A8 ?_
 exact(C4 (N2 PySem.F.plainAttrs_list PySem.F.slot_list_append PySem.F.type_list_append E6 #[84,4] (A0 (C5 qa0 (pv 5) (pv 3)) A3)))
theorem we4(T:Txt K mg t):J7 P w K mg base CX0 3 t.zd.a t.zd.d ["book","name"] (qf7 K):=by
 refine T.zd.F.ok xm0 #[4] (fun cdv A outer s H vs Q E hr h=>⟨wm1 K t.c_WALL_SORTS,?_,yk5 T.q_WALL_SORTS h⟩)
 have S:=xm0
 refine A8 ?_
 exact(D1 (wb7 (wc1 (D4 hr)) (zcl (qt2 T) hr T.zc B9 (A0 (pv 0) #[14,1])) (M4 rfl T.g_WALL_SORTS rfl) #[46]))
theorem wg1(T:Txt K mg t):J7 P w K mg base CX0 3 t.zv.a t.zv.d ["book","name"] (X4 K):=by
 refine T.zv.F.ok wf3 #[4] (fun cdv A outer s H vs Q E hr h=>⟨qg9 K,?_,xd6 h⟩)
 have S:=wf3
 walk_at"2"
 ·refine zst (i:=2) S ?_
  exact(L8 A3)
 walk_at"2"
 ·refine zst (i:=3) S ?_
  exact(zcl (xm9 T) hr T.ze B9 (A0 (pv 0) #[14,1]))
 walk_at"2"
 ·refine wg8 PassesOwn.never ?_ ?_
  ·exact(C7 qy4 (pv 3) V1 (D9 _))
  ·refine A4 ?_ ?_
   ·exact#[74]
   refine A8 ?_
   refine zst (i:=3) S ?_
   exact(zcl (xm9 T) hr T.ze B9 #[104,0])
 refine A8 ?_
 exact(D1 (V2 T9 rfl T.z_tuple boot_tuple #[14,2]))
theorem xz5(T:Txt K mg t):J7 P w K mg base CX0 3 t.yc.a t.yc.d ["text","searched"] (qq0 K):=by
 refine T.yc.F.ok ww1 #[4] (fun cdv A outer s H vs Q E hr h=>⟨qu6 K,?_,xx9 h⟩)
 have S:=ww1
 walk_at"2"
 ·refine zst (i:=2) S ?_
  exact(L8 A3)
 walk_at"2"
 ·refine zst (i:=3) S ?_
  exact#[106,(A0 C9 #[14,1])]
 walk_at"2"
 ·refine wg8 PassesOwn.never ?_ ?_
  ·exact(C7 zv0 (pv 3) B0 (D9 _))
  ·refine A4 ?_ ?_
   ·refine zst (i:=4) S ?_
    exact(zcl (yh1 T) hr T.ye B9 #[104,0])
   walk_at"37"
   ·exact(C7 wq2 (pv 4) V1 (D9 _))
   ·refine A8 ?_
    refine zst (i:=3) S ?_
    exact#[106,A0 C9 (A0 (C5 D3 (pv 3) B0) A3)]
   ·refine A4 ?_ ?_
    ·exact(C4 (N2 PySem.F.plainAttrs_list PySem.F.slot_list_append PySem.F.type_list_append E6 (pv 2) (A0 (zcl (xn0 T) hr T.yf B9 (A0 (pv 0) (A0 (pv 3) #[14,4]))) A3)))
    refine A8 ?_
    refine zst (i:=3) S ?_
    exact#[106,(A0 C9 #[14,4])]
 refine A8 ?_
 exact(D1 (pv 2))
theorem xb3(T:Txt K mg t):J7 P w K mg base CX0 3 t.a_c_Reader_init t.d_c_Reader_init ["self","book"] (qa5 K):=by
 refine T.F_c_Reader_init.ok wa7 #[4] (fun cdv A outer s H vs Q E hr h=>⟨qe7 K t.k_Branch,?_,wz3 T.cz h⟩)
 have S:=wa7
 walk_at"2"
 ·exact(qw7 (pv 0) (pv 1) rfl)
 walk_at"2"
 ·exact(qw7 (pv 0) (L8 (A0 (xv0 T.m_c_Branch_init (wb2 T) #[8] rfl T.n_Branch T.b_c_Branch_init .nil B9 (A0 (M4 rfl T.g_ROOT_NAME.1 T.g_ROOT_NAME.2) (A0 (G1 A3) A3))) A3)) rfl)
 walk_at"2"
 ·exact(qw7 (pv 0) (L8 A3) rfl)
 refine A8 ?_
 exact(qw7 (pv 0) (L8 A3) rfl)
theorem wb3(T:Txt K mg t):J7 P w K mg base CX0 3 t.a_c_Reader_is_in_frame t.d_c_Reader_is_in_frame ["self"] (P7 K):=by
 refine T.F_c_Reader_is_in_frame.ok qg3 #[4] (fun cdv A outer s H vs Q E hr h=>⟨R1 K t.k_Reader,?_,qz5 T.cz h⟩)
 have S:=qg3
 refine A8 ?_
 refine D1 ?_
 refine wb7 #[82] ?_ ?_ (D9 _)
 ·refine zcl (qt2 T) hr T.zc B9 ?_
  refine A0 ?_ ?_
  ·exact#[84,0]
  refine A0 ?_ ?_
  ·refine zcl (qi6 T) hr T.zj B9 ?_
   refine A0 ?_ ?_
   ·exact#[18]
   exact A3
  exact A3
 ·exact C9
theorem qw5(T:Txt K mg t):J7 P w K mg base CX0 3 t.a_c_Reader_enter t.d_c_Reader_enter ["self","name"] (U0 K):=by
 refine T.F_c_Reader_enter.ok qw2 #[4] (fun cdv A outer s H vs Q E hr h=>⟨qa1 K t.k_Branch,?_,wu3 T.cz h⟩)
 have S:=qw2
 walk_at"2"
 ·refine zst (i:=2) S ?_
  exact#[13,G8 (pv 0) rfl]
 refine A8 ?_
 exact(C4 #[24,(xv0 T.m_c_Branch_init (wb2 T) #[8] rfl T.n_Branch T.b_c_Branch_init .nil B9 (A0 (pv 1) (A0 (C5 qa0 #[84,2] (G1 (A0 #[1,G8 (pv 2) rfl] A3))) A3)))])
theorem wr8(T:Txt K mg t):J7 P w K mg base CX0 4 t.zk.a t.zk.d ["book","names"] (qk9 K):=by
 refine T.zk.F.ok xm4 #[4] (fun cdv A outer s H vs Q E hr h=>⟨wm4 K,?_,yk7 h⟩)
 have S:=xm4
 walk_at"2"
 ·refine zst (i:=2) S ?_
  exact B0
 walk_at"2"
 ·refine U5 PassesOwn.never rfl ?_ ?_ ?_
  ·exact(yc9 rfl T.z_enumerate #[14,1])
  ·exact(xu7 rfl (qd4 #[105] (qd4 (E8 (i:=4) S.nd rfl #[23]) xe7)))
  ·refine A8 ?_
   refine M3 ?_ ?_ ?_
   ·exact(qk3 (zcl (we4 T) hr T.zd B9 (A0 (pv 0) #[14,4])))
   ·refine A8 ?_
    refine zst (i:=2) S ?_
    exact(C5 qa0 (pv 3) B0)
   ·exact I0
 refine A8 ?_
 exact(D1 (V2 T9 rfl T.z_tuple boot_tuple (A0 (N5 wt4 (pv 1) (M5 (pv 2)) qe2) A3)))
theorem wr9(T:Txt K mg t):J7 P w K mg base CX0 4 t.zn.a t.zn.d ["book","names","name"] (qr6 K):=by
 refine T.zn.F.ok xm5 #[4] (fun cdv A outer s H vs Q E hr h=>⟨wm2 K,?_,yk6 h⟩)
 have S:=xm5
 walk_at"2"
 ·refine U5 PassesOwn.never rfl ?_ ?_ ?_
  ·exact(yw0 rfl T.z_range (A0 (C5 xg1 #[1,pv 1] B0) (A0 (T5 N4 B0) (A0 (T5 N4 B0) A3))))
  ·exact#[105]
  ·refine A4 ?_ ?_
   ·refine M3 ?_ ?_ ?_
    ·exact(C7 #[82] (E4 #[69] (pv 1) (pv 3) #[36]) (pv 2) (D9 _))
    ·refine A8 ?_
     exact(D1 (pv 3))
    ·exact I0
   walk_at"37"
   ·exact(PW.pt (wb4 (qk3 (zcl (we4 T) hr T.zd B9 (A0 (pv 0) (A0 (E4 #[69] (pv 1) (pv 3) #[36]) A3)))) (qo9 (yy3 (qk3 (zcl (ym3 T) hr T.zh B9 (A0 (pv 0) (A0 (E4 #[69] (pv 1) (pv 3) #[36]) #[14,2]))))))))
   ·refine A8 ?_
    exact(D1 V1)
   ·exact I0
 refine A8 ?_
 exact(D1 V1)
theorem xz6(T:Txt K mg t):J7 P w K mg base CX0 4 t.zp.a t.zp.d ["book","names"] (qp6 K):=by
 refine T.zp.F.ok wv7 #[4] (fun cdv A outer s H vs Q E hr h=>⟨qu2 K,?_,xx3 h⟩)
 have S:=wv7
 walk_at"2"
 ·refine qf3 (i:=2) S.nd rfl #[23] ?_ rfl ?_
  ·refine zcl (wg1 T) hr T.zv B9 ?_
   refine A0 ?_ ?_
   ·exact(pv 0)
   refine A0 ?_ ?_
   ·exact(zcl (qi6 T) hr T.zj B9 #[14,1])
   exact A3
  ·walk_at "or"
 refine A8 ?_
 exact(D1 (qr0 (C7 wh5 (C5 D3 #[1,pv 1] #[1,pv 2]) (M4 rfl T.g_MOST_OPEN.1 T.g_MOST_OPEN.2) (D9 _)) V1 (pv 2)))
theorem ww7(T:Txt K mg t):J7 P w K mg base CX0 4 t.yb.a t.yb.d ["text","settled","searched"] (Y4 K):=by
 refine T.yb.F.ok qw1 #[4] (fun cdv A outer s H vs Q E hr h=>⟨qa4 K,?_,wu8 h⟩)
 have S:=qw1
 walk_at"2"
 ·refine zst (i:=3) S ?_
  exact(L8 A3)
 walk_at"2"
 ·refine U5 PassesOwn.never rfl ?_ ?_ ?_
  ·exact(X7 (zcl (xz5 T) hr T.yc B9 (A0 (pv 0) #[14,2])))
  ·exact(E8 (i:=4) S.nd rfl #[23])
  ·refine A4 ?_ ?_
   ·exact(C4 (N2 PySem.F.plainAttrs_list PySem.F.slot_list_extend PySem.F.type_list_extend qy2 (pv 3) (A0 (zcl (wg0 T) hr T.yg B9 (A0 (pv 0) (A0 (pv 1) (A0 (E4 #[69] (pv 4) (M4 rfl T.g_START.1 T.g_START.2) #[36]) A3)))) A3)))
   walk_at"2"
   ·exact(C4 (N2 PySem.F.plainAttrs_list PySem.F.slot_list_append PySem.F.type_list_append E6 (pv 3) #[14,4]))
   refine A8 ?_
   refine zst (i:=1) S ?_
   exact(E4 #[69] (pv 4) (M4 rfl T.g_STOP.1 T.g_STOP.2) #[36])
 refine A8 ?_
 exact(D1 (pv 3))
theorem ws0(T:Txt K mg t):J7 P w K mg base CX0 4 t.yl.a t.yl.d ["book","closed"] (X0 K):=by
 refine T.yl.F.ok qs9 #[4] (fun cdv A outer s H vs Q E hr h=>⟨Y7 K,?_,wr3 h⟩)
 have S:=qs9
 walk_at"2"
 ·refine zst (i:=2) S ?_
  exact(L8 A3)
 walk_at"2"
 ·refine U5 PassesOwn.never rfl ?_ ?_ ?_
  ·exact(X7 (pv 1))
  ·exact#[105]
  ·refine A4 ?_ ?_
   ·refine M3 ?_ ?_ ?_
    ·exact(qk3 (zcl (we4 T) hr T.zd B9 #[104,0]))
    ·refine A8 ?_
     exact yy7
    ·exact I0
   walk_at"37"
   ·exact(C7 #[82] (zcl (qt2 T) hr T.zc B9 #[104,0]) C9 (D9 _))
   ·refine A8 ?_
    exact#[74]
   ·exact I0
 refine A8 ?_
 exact(D1 (pv 2))
theorem X8(T:Txt K mg t):J7 P w K mg base CX0 4 t.a_c_Reader_last_wall t.d_c_Reader_last_wall ["self"] (M7 K):=by
 refine T.F_c_Reader_last_wall.ok qk2 #[4] (fun cdv A outer s H vs Q E hr h=>⟨U1 K,?_,wg3 T.cz h⟩)
 have S:=qk2
 walk_at"2"
 ·exact(yo1 (i:=1) S.nd rfl rfl rfl (R5 (osc:=B3 U4) (ON:=["self","walls"]) (N:=["self","branch"]) (fr:=[some 0,none]) #[21] rfl rfl) (X7 #[84,0]) (fun _ _ _ _ _ _=>(E8 (i:=1) (show List.Nodup (["self","branch"]:List Str) by decide +kernel) rfl #[23])) ql5 (fun _ _ _ _ _ _=>(wl6 (qk3 (zcl (we4 T) hr T.zd B9 (A0 #[84,0] (A0 #[84,1] A3)))))) (fun _ _ _ _ _ _=>(pv 1)))
 refine A8 ?_
 refine D1 ?_
 exact(qr0 (C7 wh5 #[1,pv 1] B0 (D9 _)) #[13,pv 1] (E4 #[69] #[84,0] B0 #[36]))
theorem qf8(T:Txt K mg t):J7 P w K mg base CX0 4 t.a_c_Reader_put_in t.d_c_Reader_put_in ["self","name","start","rule"] (O6 K):=by
 refine T.F_c_Reader_put_in.ok qt1 #[4] (fun cdv A outer s H vs Q E hr h=>⟨Y6 K t.k_Reader,?_,wr2 T.cz h⟩)
 have S:=qt1
 walk_at"2"
 ·exact(C4 #[24,(G1 (A0 (pv 2) (A0 (pv 2) (A0 (zcl (xp7 T) hr T.yh B9 #[14,1]) #[14,3]))))])
 refine A8 ?_
 exact(C4 (O7 (pv 0) T.cz.cl_Reader T.m_c_Reader_enter (qw5 T) #[8] T.b_c_Reader_enter .nil B9 #[14,1]))
theorem xb4(T:Txt K mg t):J7 P w K mg base CX0 5 t.zu.a t.zu.d ["book","names","name"] (qa3 K):=by
 refine T.zu.F.ok wa4 #[4] (fun cdv A outer s H vs Q E hr h=>⟨qe6 K,?_,wy7 h⟩)
 have S:=wa4
 walk_at"2"
 ·refine zst (i:=3) S ?_
  exact(E4 #[69] (zcl (wb1 T) hr T.zb B9 (A0 (pv 0) #[14,2])) (M4 rfl T.g_SHUTS.1 T.g_SHUTS.2) #[36])
 walk_at"2"
 ·refine qf3 (i:=4) S.nd rfl #[23] ?_ rfl ?_
  ·refine C5 xg1 ?_ ?_
   ·exact#[1,pv 1]
   ·exact#[1,zcl (wr8 T) hr T.zk B9 (A0 (pv 0) #[14,1])]
  ·walk_at "or"
 walk_at"2"
 ·refine U5 PassesOwn.never rfl ?_ ?_ ?_
  ·exact(yt3 rfl T.z_range (A0 (pv 4) (A0 #[1,pv 1] A3)))
  ·exact(E8 (i:=5) S.nd rfl #[23])
  ·refine A8 ?_
   refine M3 ?_ ?_ ?_
   ·exact(C7 (wc1 (D4 hr)) (E4 #[69] (pv 1) (pv 5) #[36]) (pv 3) #[46])
   ·refine A8 ?_
    exact(D1 (pv 5))
   ·exact I0
 refine A8 ?_
 exact(D1 #[1,pv 1])
theorem xz7(T:Txt K mg t):J7 P w K mg base CX0 5 t.zw.a t.zw.d ["book","kept","put"] (qp7 K):=by
 refine T.zw.F.ok wv8 #[4] (fun cdv A outer s H vs Q E hr h=>⟨qu3 K,?_,xx4 h⟩)
 have S:=wv8
 walk_at"2"
 ·refine U5 PassesOwn.never rfl ?_ ?_ ?_
  ·exact(yc9 rfl T.z_enumerate #[14,2])
  ·exact(xu7 rfl (qd4 #[105] (qd4 (E8 (i:=4) S.nd rfl #[23]) xe7)))
  ·refine A4 ?_ ?_
   ·refine zst (i:=5) S ?_
    exact(zcl (wr8 T) hr T.zk B9 (A0 (pv 0) (A0 (C5 qa0 (pv 1) (N5 wt4 (pv 2) qe2 (M5 (pv 3)))) A3)))
   walk_at"37"
   ·exact(qk3 (zcl (wf8 T) hr T.zm B9 (A0 (pv 5) (A0 (E4 #[69] (zcl (wb1 T) hr T.zb B9 (A0 (pv 0) #[14,4])) (M4 rfl T.g_BARS.1 T.g_BARS.2) #[36]) A3))))
   ·refine A8 ?_
    exact(D1 ym5)
   ·exact I0
 refine A8 ?_
 exact(D1 ym5)
theorem xz8(T:Txt K mg t):J7 P w K mg base CX0 5 t.ya.a t.ya.d ["text"] (qq1 K):=by
 refine T.ya.F.ok ww0 #[4] (fun cdv A outer s H vs Q E hr h=>⟨qu7 K,?_,xy0 h⟩)
 have S:=ww0
 walk_at"2"
 ·refine zst (i:=1) S ?_
  exact(zcl (ww7 T) hr T.yb B9 (A0 (pv 0) (A0 B0 (A0 B0 A3))))
 walk_at"2"
 ·refine zst (i:=2) S ?_
  exact(qr0 (C7 wh5 #[1,pv 1] B0 (D9 _)) (E4 #[69] #[13,pv 1] (M4 rfl T.g_STOP.1 T.g_STOP.2) #[36]) B0)
 refine A8 ?_
 exact(D1 (C5 D3 (pv 1) (zcl (wg0 T) hr T.yg B9 (A0 (pv 0) (A0 (pv 2) (A0 #[1,pv 0] A3))))))
theorem xb5(T:Txt K mg t):J7 P w K mg base CX0 5 t.yn.a t.yn.d ["book","names","name"] (qa8 K):=by
 refine T.yn.F.ok wa5 #[4] (fun cdv A outer s H vs Q E hr h=>⟨qe9 K,?_,wz7 h⟩)
 have S:=wa5
 walk_at"2"
 ·refine zst (i:=3) S ?_
  exact(zcl (wb1 T) hr T.zb B9 (A0 (pv 0) #[14,2]))
 walk_at"2"
 ·refine zst (i:=4) S ?_
  exact(C5 qa0 (C5 qa0 (G1 #[14,2]) (E4 #[69] (pv 3) (M4 rfl T.g_SHUTS.1 T.g_SHUTS.2) #[36])) (E4 #[69] (pv 3) (M4 rfl T.g_BARS.1 T.g_BARS.2) #[36]))
 refine A8 ?_
 refine D1 ?_
 exact(yy6 (wb7 wq1 #[1,pv 1] (M4 rfl T.g_MOST_OPEN.1 T.g_MOST_OPEN.2) (D9 _)) (yy5 (zs9 (zcl (wf8 T) hr T.zm B9 (A0 (zcl (wr8 T) hr T.zk B9 (A0 (pv 0) #[14,1])) #[14,4])))))
theorem U6(T:Txt K mg t):J7 P w K mg base CX0 5 t.a_c_Reader_close_behind t.d_c_Reader_close_behind ["self","kept","start","rule"] (L3 K):=by
 refine T.F_c_Reader_close_behind.ok qe1 #[4] (fun cdv A outer s H vs Q E hr h=>⟨P9 K t.k_Reader,?_,qx0 T.cz h⟩)
 have S:=qe1
 walk_at"2"
 ·refine zst (i:=4) S ?_
  exact(N5 wt4 #[18] (M5 (pv 1)) qe2)
 walk_at"2"
 ·refine U5 PassesOwn.never rfl ?_ ?_ ?_
  ·exact(zm5 rfl T.z_reversed #[14,4])
  ·exact(E8 (i:=5) S.nd rfl #[23])
  ·refine A4 ?_ ?_
   ·exact(C4 #[24,(G1 (A0 (pv 2) (A0 (pv 2) (A0 (zcl (xp8 T) hr T.yi B9 #[14,5]) #[14,3]))))])
   refine A8 ?_
   walk_at"39"
 refine A8 ?_
 exact(C4 (N2 PySem.F.plainAttrs_list PySem.F.slot_list_extend PySem.F.type_list_extend qy2 (G8 #[85] rfl) (A0 (zcl (ws0 T) hr T.yl B9 (A0 #[84,0] #[14,4])) A3)))
theorem qt3(T:Txt K mg t):J7 P w K mg base CX0 6 t.zt.a t.zt.d ["book","names","name"] (W8 K):=by
 refine T.zt.F.ok qs8 #[4] (fun cdv A outer s H vs Q E hr h=>⟨Y3 K,?_,wq9 h⟩)
 have S:=qs8
 walk_at"2"
 ·refine qf3 (i:=3) S.nd rfl #[23] ?_ rfl ?_
  ·refine zcl (wg1 T) hr T.zv B9 ?_
   refine A0 ?_ ?_
   ·exact(pv 0)
   refine A0 ?_ ?_
   ·exact(zcl (qi6 T) hr T.zj B9 #[14,1])
   exact A3
  ·walk_at "or"
 walk_at"2"
 ·refine M3 ?_ ?_ ?_
  ·exact(C7 wh5 #[1,pv 3] B0 (D9 _))
  ·refine A8 ?_
   exact(D1 (G1 (A0 #[1,pv 1] (A0 (C5 qa0 (pv 3) (G1 #[14,2])) A3))))
  ·exact I0
 refine A8 ?_
 exact(D1 (G1 (A0 (zcl (xb4 T) hr T.zu B9 (A0 (pv 0) (A0 (pv 1) #[14,2]))) (A0 (G1 #[14,2]) A3))))
theorem ws1(T:Txt K mg t):J7 P w K mg base CX0 6 t.a_c_Reader_finish t.d_c_Reader_finish ["self","size"] (X1 K):=by
 refine T.F_c_Reader_finish.ok qt0 #[4] (fun cdv A outer s H vs Q E hr h=>⟨Y8 K t.k_Reader,?_,wr4 T.cz h⟩)
 have S:=qt0
 refine A8 ?_
 exact(C4 (O7 (pv 0) T.cz.cl_Reader T.m_c_Reader_close_behind (U6 T) #[8] T.b_c_Reader_close_behind .nil B9 (A0 B0 #[101,pv 1])))
theorem qx8(T:Txt K mg t):J7 P w K mg base CX0 6 t.a_c_Reader_read_closing t.d_c_Reader_read_closing ["self","start","signs","name"] (O9 K):=by
 refine T.F_c_Reader_read_closing.ok qe0 #[4] (fun cdv A outer s H vs Q E hr h=>⟨Q3 K t.k_Reader,?_,qx2 T.cz h⟩)
 have S:=qe0
 walk_at"2"
 ·refine qf3 (i:=4) S.nd rfl #[23] ?_ rfl ?_
  ·refine zcl (wr9 T) hr T.zn B9 ?_
   refine A0 ?_ ?_
   ·exact#[84,0]
   refine A0 ?_ ?_
   ·exact#[18]
   refine A0 ?_ ?_
   ·exact(pv 3)
   exact A3
  ·walk_at "or"
 walk_at"2"
 ·refine zst (i:=5) S ?_
  exact#[85]
 walk_at"37"
 ·exact(C7 qy4 (pv 4) V1 (D9 _))
 ·refine A4 ?_ ?_
  ·exact(C4 (O7 (pv 0) T.cz.cl_Reader T.m_c_Reader_close_behind (U6 T) #[8] T.b_c_Reader_close_behind .nil B9 (A0 (C5 D3 (pv 4) B0) #[101,pv 1])))
  refine A8 ?_
  walk_at"39"
 ·refine A8 ?_
  refine M3 ?_ ?_ ?_
  ·exact(C7 (wc1 (D4 hr)) (pv 3) #[84,5] #[46])
  ·refine A4 ?_ ?_
   ·exact(qw7 (pv 5) (zcl (xe6 T) hr T.ym B9 (A0 #[84,5] #[14,3])) rfl)
   refine A8 ?_
   walk_at"12"
  ·refine A8 ?_
   walk_at"12"
theorem qt4(T:Txt K mg t):J7 P w K mg base CX0 6 t.a_c_Reader_put_in_waiting t.d_c_Reader_put_in_waiting ["self","start"] (O0 K):=by
 refine T.F_c_Reader_put_in_waiting.ok Z6 #[4] (fun cdv A outer s H vs Q E hr h=>⟨O2 K t.k_Reader,?_,qs0 T.cz h⟩)
 have S:=Z6
 walk_at"2"
 ·refine zst (i:=2) S ?_
  exact#[85]
 walk_at"2"
 ·refine zst (i:=3) S ?_
  exact#[84,2]
 walk_at"2"
 ·exact(qw7 (pv 2) (L8 A3) rfl)
 refine A8 ?_
 refine U5 PassesOwn.never rfl ?_ ?_ ?_
 ·exact(X7 (pv 3))
 ·exact(E8 (i:=4) S.nd rfl #[23])
 ·refine A8 ?_
  refine M3 ?_ ?_ ?_
  ·exact(qk3 (zcl (xb5 T) hr T.yn B9 (A0 #[84,0] (A0 #[18] #[14,4]))))
  ·refine A8 ?_
   exact(C4 (O7 (pv 0) T.cz.cl_Reader T.m_c_Reader_put_in (qf8 T) #[8] T.b_c_Reader_put_in .nil B9 (A0 (pv 4) #[101,pv 1])))
  ·exact I0
theorem wl3(T:Txt K mg t):J7 P w K mg base CX0 7 t.a_c_Reader_read_run t.d_c_Reader_read_run ["self","start","signs","told"] (U3 K):=by
 refine T.F_c_Reader_read_run.ok qn1 #[4] (fun cdv A outer s H vs Q E hr h=>⟨V0 K t.k_Reader,?_,wj2 T.cz h⟩)
 have S:=qn1
 walk_at"2"
 ·refine qf3 (i:=4) S.nd rfl #[23] ?_ rfl ?_
  ·refine zcl (xz6 T) hr T.zp B9 ?_
   refine A0 ?_ ?_
   ·exact#[84,0]
   refine A0 ?_ ?_
   ·exact#[18]
   exact A3
  ·walk_at "or"
 walk_at"37"
 ·exact(PW.pt (wb4 (qk3 (T8 (pv 0) T.cz.cl_Reader T.m_c_Reader_is_in_frame (wb3 T) #[8] T.b_c_Reader_is_in_frame .nil B9)) (qo9 (C7 #[82] (N2 PySem.F.plainAttrs_str PySem.F.slot_str_strip PySem.F.type_str_strip yw3 (pv 3) (A0 (M4 rfl T.g_BLANKS.1 T.g_BLANKS.2) A3)) C9 (D9 _)))))
 ·refine A8 ?_
  walk_at"12"
 ·refine A8 ?_
  refine M3 ?_ ?_ ?_
  ·exact(C7 wq2 (pv 4) V1 (D9 _))
  ·refine A8 ?_
   walk_at"12"
  ·refine A4 ?_ ?_
   ·refine U5 PassesOwn.never rfl ?_ ?_ ?_
    ·exact(X7 (pv 4))
    ·exact(E8 (i:=5) S.nd rfl #[23])
    ·refine A8 ?_
     exact(C4 (O7 (pv 0) T.cz.cl_Reader T.m_c_Reader_put_in (qf8 T) #[8] T.b_c_Reader_put_in .nil B9 (A0 (pv 5) #[101,pv 1])))
   walk_at"2"
   ·exact(C4 (O7 (pv 0) T.cz.cl_Reader T.m_c_Reader_put_in_waiting (qt4 T) #[8] T.b_c_Reader_put_in_waiting .nil B9 #[14,1]))
   walk_at"2"
   ·refine U5 PassesOwn.never rfl ?_ ?_ ?_
    ·exact(X7 (zcl (xz3 T) hr T.zz B9 #[14,2]))
    ·exact(E8 (i:=6) S.nd rfl #[23])
    ·refine A4 ?_ ?_
     ·refine zst (i:=7) S ?_
      exact(C5 D3 (pv 1) (pv 6))
     refine A8 ?_
     exact(C4 #[24,G1 (A0 (pv 7) (A0 (C5 D3 (pv 7) B0) #[101,zcl (ym1 T) hr T.zx B9 (A0 (E4 #[69] (pv 2) (pv 6) #[36]) A3)]))])
   refine A8 ?_
   exact(C4 (O7 (pv 0) T.cz.cl_Reader T.m_c_Reader_add_text (wl2 T) #[8] T.b_c_Reader_add_text .nil B9 (A0 (pv 1) #[104,2])))
theorem xn1(T:Txt K mg t):∀ n:Nat,J7 P w K mg base CX0 (7+n) t.zr.a t.zr.d ["book","names","name"] (qr7 n K)
 | 0 => by
   have FR:J7 P w K mg base CX0 6 t.zr.a t.zr.d ["book","names","name"] (qn0 K 0):=⟨fun _ _ _ _ h=>h.elim,fun _ _ _ _ _ _ _ _ _ _ _ _ _ h=>h.elim⟩
   refine T.zr.F.ok (k:=6) wn0 #[4] (fun cdv A outer s H vs Q E hr h=>⟨wi8 K (qn0 K 0),?_,xs8 0 h⟩)
   have S:=wn0
   walk_at"2"
   ·refine zst (i:=3) S ?_
    exact(zcl (qw4 T) hr T.zf B9 (A0 (pv 0) #[14,2]))
   walk_at"2"
   ·refine M3 ?_ ?_ ?_
    ·exact(C7 wq2 (pv 3) V1 (D9 _))
    ·refine A8 ?_
     exact(D1 (zcl (qt3 T) hr T.zt B9 (A0 (pv 0) (A0 (pv 1) #[14,2]))))
    ·exact I0
   walk_at"2"
   ·refine zst (i:=4) S ?_
    exact(zcl (wr9 T) hr T.zn B9 (A0 (pv 0) #[104,1]))
   walk_at"2"
   ·refine M3 ?_ ?_ ?_
    ·exact(C7 qy4 (pv 4) V1 (D9 _))
    ·refine A8 ?_
     exact(D1 (G1 (A0 (C5 qa0 (pv 4) B0) (A0 (G1 #[14,2]) A3))))
    ·exact I0
   walk_at"2"
   ·refine zst (i:=5) S ?_
    exact(zcl FR hr T.zr B9 (A0 (pv 0) #[104,1]))
   refine A8 ?_
   refine D1 ?_
   refine G1 ?_
   refine A0 ?_ ?_
   ·exact#[11,5]
   refine A0 ?_ ?_
   ·exact(C5 qa0 #[11,5] (G1 #[14,2]))
   exact A3
 | n + 1=>by
   have FR:J7 P w K mg base CX0 (7+n) t.zr.a t.zr.d ["book","names","name"] (qn0 K (n+1)):=xn1 T n
   refine T.zr.F.ok (k:=(7+n)) wn0 #[4] (fun cdv A outer s H vs Q E hr h=>⟨wi8 K (qn0 K (n+1)),?_,xs8 (n+1) h⟩)
   have S:=wn0
   walk_at"2"
   ·refine zst (i:=3) S ?_
    exact(zcl (qw4 T) hr T.zf B9 (A0 (pv 0) #[14,2]))
   walk_at"2"
   ·refine M3 ?_ ?_ ?_
    ·exact(C7 wq2 (pv 3) V1 (D9 _))
    ·refine A8 ?_
     exact(D1 (zcl (qt3 T) hr T.zt B9 (A0 (pv 0) (A0 (pv 1) #[14,2]))))
    ·exact I0
   walk_at"2"
   ·refine zst (i:=4) S ?_
    exact(zcl (wr9 T) hr T.zn B9 (A0 (pv 0) #[104,1]))
   walk_at"2"
   ·refine M3 ?_ ?_ ?_
    ·exact(C7 qy4 (pv 4) V1 (D9 _))
    ·refine A8 ?_
     exact(D1 (G1 (A0 (C5 qa0 (pv 4) B0) (A0 (G1 #[14,2]) A3))))
    ·exact I0
   walk_at"2"
   ·refine zst (i:=5) S ?_
    exact(zcl FR hr T.zr B9 (A0 (pv 0) #[104,1]))
   refine A8 ?_
   refine D1 ?_
   refine G1 ?_
   refine A0 ?_ ?_
   ·exact#[11,5]
   refine A0 ?_ ?_
   ·exact(C5 qa0 #[11,5] (G1 #[14,2]))
   exact A3
theorem yy0(T:Txt K mg t):J7 P w K mg base CX0 20 t.zr.a t.zr.d ["book","names","name"] (xs7 K):=xn1 T 13
theorem ym4(T:Txt K mg t):J7 P w K mg base CX0 21 t.zo.a t.zo.d ["book","names","name"] (wc5 K):=by
 refine T.zo.F.ok xm6 #[4] (fun cdv A outer s H vs Q E hr h=>⟨wm5 K,?_,yk8 h⟩)
 have S:=xm6
 walk_at"2"
 ·refine zst (i:=3) S ?_
  exact(zcl (yy0 T) hr T.zr B9 (A0 (pv 0) (A0 (pv 1) #[14,2])))
 walk_at"2"
 ·refine zst (i:=4) S ?_
  exact(V2 T9 rfl T.z_tuple boot_tuple (A0 (N5 wt4 (pv 1) qe2 (M5 #[11,3])) A3))
 walk_at"2"
 ·refine zst (i:=5) S ?_
  exact#[11,3]
 walk_at"2"
 ·refine M3 ?_ ?_ ?_
  ·exact(qk3 (zcl (xz7 T) hr T.zw B9 (A0 (pv 0) (A0 (pv 4) #[14,5]))))
  ·refine A8 ?_
   exact(D1 (G1 #[101,C9]))
  ·exact I0
 walk_at"2"
 ·refine M3 ?_ ?_ ?_
  ·exact(C7 wh5 (C5 qa0 #[1,pv 4] #[1,pv 5]) (M4 rfl T.g_MOST_OPEN.1 T.g_MOST_OPEN.2) (D9 _))
  ·refine A8 ?_
   exact(D1 (G1 #[101,C9]))
  ·exact I0
 refine A8 ?_
 exact(D1 (G1 (A0 C9 (A0 #[1,pv 4] #[14,5]))))
theorem qx9(T:Txt K mg t):J7 P w K mg base CX0 22 t.a_c_Reader_read_opening t.d_c_Reader_read_opening ["self","start","signs","name"] (O8 K):=by
 refine T.F_c_Reader_read_opening.ok qd9 #[4] (fun cdv A outer s H vs Q E hr h=>⟨Q0 K t.k_Reader,?_,qx1 T.cz h⟩)
 have S:=qd9
 walk_at"2"
 ·refine M3 ?_ ?_ ?_
  ·exact(C7 wq2 (zcl (qt2 T) hr T.zc B9 (A0 #[84,0] #[14,3])) V1 (D9 _))
  ·refine A4 ?_ ?_
   ·exact(C4 (O7 (pv 0) T.cz.cl_Reader T.m_c_Reader_drop (R4 T) #[8] T.b_c_Reader_drop .nil B9 (A0 (pv 1) #[101,pv 2])))
   refine A8 ?_
   exact ym9
  ·exact I0
 walk_at"2"
 ·refine qf3 (i:=4) S.nd rfl #[23] ?_ rfl ?_
  ·refine zcl (ym4 T) hr T.zo B9 ?_
   refine A0 ?_ ?_
   ·exact#[84,0]
   refine A0 ?_ ?_
   ·exact#[18]
   refine A0 ?_ ?_
   ·exact(pv 3)
   exact A3
  ·walk_at "or"
 walk_at"2"
 ·refine M3 ?_ ?_ ?_
  ·exact(C7 #[82] #[11,4] C9 (D9 _))
  ·refine A4 ?_ ?_
   ·exact(C4 (O7 (pv 0) T.cz.cl_Reader T.m_c_Reader_drop (R4 T) #[8] T.b_c_Reader_drop .nil B9 (A0 (pv 1) (A0 (pv 2) (A0 #[11,4] A3)))))
   refine A8 ?_
   exact ym9
  ·exact I0
 walk_at"2"
 ·exact(C4 (O7 (pv 0) T.cz.cl_Reader T.m_c_Reader_close_behind (U6 T) #[8] T.b_c_Reader_close_behind .nil B9 (A0 #[11,4] #[101,pv 1])))
 walk_at"2"
 ·refine U5 PassesOwn.never rfl ?_ ?_ ?_
  ·exact(X7 (N5 wt4 #[11,4] qe2 (M5 (T5 N4 B0))))
  ·exact(E8 (i:=5) S.nd rfl #[23])
  ·refine A8 ?_
   exact(C4 (O7 (pv 0) T.cz.cl_Reader T.m_c_Reader_put_in (qf8 T) #[8] T.b_c_Reader_put_in .nil B9 (A0 (pv 5) #[101,pv 1])))
 walk_at"2"
 ·exact(C4 (O7 (pv 0) T.cz.cl_Reader T.m_c_Reader_enter (qw5 T) #[8] T.b_c_Reader_enter .nil B9 #[14,3]))
 walk_at"37"
 ·exact(C7 #[82] (zcl (qt2 T) hr T.zc B9 (A0 #[84,0] #[14,3])) C9 (D9 _))
 ·refine A8 ?_
  walk_at"39"
 ·exact I0
theorem xb6(T:Txt K mg t):J7 P w K mg base CX0 23 t.a_c_Reader_read t.d_c_Reader_read ["self","kind","start","signs","told"] (qa9 K):=by
 refine T.F_c_Reader_read.ok wa9 #[4] (fun cdv A outer s H vs Q E hr h=>⟨qf1 K t.k_Reader,?_,wz9 T.cz h⟩)
 have S:=wa9
 walk_at"37"
 ·exact(C7 #[82] (pv 1) C9 (D9 _))
 ·refine A8 ?_
  exact(C4 (O7 (pv 0) T.cz.cl_Reader T.m_c_Reader_read_opening (qx9 T) #[8] T.b_c_Reader_read_opening .nil B9 (A0 (pv 2) (A0 (pv 3) #[14,4]))))
 ·refine A8 ?_
  refine M3 ?_ ?_ ?_
  ·exact(C7 #[82] (pv 1) C9 (D9 _))
  ·refine A8 ?_
   exact(C4 (O7 (pv 0) T.cz.cl_Reader T.m_c_Reader_read_closing (qx8 T) #[8] T.b_c_Reader_read_closing .nil B9 (A0 (pv 2) (A0 (pv 3) #[14,4]))))
  ·refine A8 ?_
   exact(C4 (O7 (pv 0) T.cz.cl_Reader T.m_c_Reader_read_run (wl3 T) #[8] T.b_c_Reader_read_run .nil B9 (A0 (pv 2) (A0 (pv 3) #[14,4]))))
theorem xz9(T:Txt K mg t):J7 P w K mg base CX0 24 t.yk.a t.yk.d ["book","text"] (qq5 K):=by
 refine T.yk.F.ok ww3 #[4] (fun cdv A outer s H vs Q E hr h=>⟨qv5 K t.k_Reader,?_,xy7 T.cz h⟩)
 have S:=ww3
 walk_at"2"
 ·refine zst (i:=2) S ?_
  exact(xv0 T.m_c_Reader_init (xb3 T) #[8] rfl T.n_Reader T.b_c_Reader_init .nil B9 #[14,0])
 walk_at"2"
 ·refine U5 PassesOwn.never rfl ?_ ?_ ?_
  ·exact(X7 (zcl (xz8 T) hr T.ya B9 #[14,1]))
  ·exact(xu7 rfl (qd4 #[105] (qd4 (E8 (i:=4) S.nd rfl #[23]) (qd4 (E8 (i:=5) S.nd rfl #[23]) (qd4 (E8 (i:=6) S.nd rfl #[23]) xe7)))))
  ·refine A8 ?_
   exact(C4 (O7 (pv 2) T.cz.cl_Reader T.m_c_Reader_read (xb6 T) #[8] T.b_c_Reader_read .nil B9 (A0 (pv 3) (A0 (pv 4) (A0 (N5 qf6 (pv 1) (M5 (pv 4)) (M5 (pv 5))) #[14,6])))))
 walk_at"2"
 ·exact(C4 (O7 (pv 2) T.cz.cl_Reader T.m_c_Reader_finish (ws1 T) #[8] T.b_c_Reader_finish .nil B9 (A0 #[1,pv 1] A3)))
 refine A8 ?_
 exact(D1 (pv 2))
theorem ya0(T:Txt K mg t):J7 P w K mg base CX0 25 t.yj.a t.yj.d ["book","text"] (qq6 K):=by
 refine T.yj.F.ok ww2 #[4] (fun cdv A outer s H vs Q E hr h=>⟨qv6 K t.k_Reader,?_,xy8 T.cz h⟩)
 have S:=ww2
 walk_at"2"
 ·refine zst (i:=2) S ?_
  exact(zcl (xz9 T) hr T.yk B9 (A0 (pv 0) #[14,1]))
 refine A8 ?_
 exact(D1 (G1 (A0 (T8 (pv 2) T.cz.cl_Reader T.m_c_Reader_root (xb2 T) #[8] T.b_c_Reader_root .nil B9) (A0 #[84,2] A3))))
theorem zz6(T:Txt K mg t):J7 P w K mg base CX0 26 t.yz.a t.yz.d ["_law_script"] (xa1 K):=by
 refine T.yz.F.ok zi5 #[4] (fun cdv A outer s H vs Q E hr h=>⟨ys6 K,?_,zz5 h⟩)
 have S:=zi5
 walk_at"2"
 ·refine qf3 (i:=1) S.nd rfl #[23] ?_ rfl ?_
  ·refine zcl (xp9 T) hr T.yr B9 ?_
   refine A0 ?_ ?_
   ·exact(zcl (wf9 T) hr T.yo B9 (A0 (pv 0) (A0 B0 A3)))
   exact A3
  ·walk_at "or"
 walk_at"2"
 ·refine zst (i:=2) S ?_
  exact(C5 D3 B0 (C5 Z2 (zcl (wf9 T) hr T.yo B9 (A0 (pv 0) (A0 B0 A3))) B0))
 walk_at"2"
 ·refine qf3 (i:=3) S.nd rfl #[23] ?_ rfl ?_
  ·refine L8 ?_
   refine A0 ?_ ?_
   ·exact(G1 (A0 #[11,1] (A0 C9 (A0 C9 (A0 (G1 A3) (A0 (G1 A3) A3))))))
   refine A0 ?_ ?_
   ·exact(G1 (A0 #[11,1] (A0 C9 (A0 C9 (A0 (G1 A3) (A0 (G1 A3) A3))))))
   exact A3
  ·walk_at "or"
 walk_at"2"
 ·refine qf3 (i:=3) S.nd rfl #[23] ?_ rfl ?_
  ·refine C5 D3 ?_ ?_
   ·exact(pv 3)
   ·exact(qp1 rfl (R5 (osc:=B3 xl8) (ON:=["_law_script","_law_names_here","_law_count","_law_book","_law_text","_law_heaps","_law_there","_law_rows","_law_mends","_law_cell","_law_number","_law_name"]) (N:=["_law_name"]) (fr:=[none]) #[21] rfl rfl) (X7 (N5 qf6 (pv 1) (M5 B0) (M5 (pv 2)))) (fun _ _ _ _ _ _=>(E8 (i:=0) (show List.Nodup (["_law_name"]:List Str) by decide +kernel) rfl #[23])) ql5 (fun _ _ _ _ _ _=>ws9) (fun _ _ _ _ _ _=>(G1 (A0 (pv 0) (A0 C9 (A0 C9 (A0 (G1 A3) (A0 (G1 A3) A3))))))))
  ·walk_at "or"
 walk_at"2"
 ·refine zst (i:=4) S ?_
  exact C9
 walk_at"2"
 ·refine zst (i:=5) S ?_
  exact(L8 (A0 (L8 A3) A3))
 walk_at"2"
 ·refine zst (i:=6) S ?_
  exact(L8 A3)
 walk_at"2"
 ·refine zst (i:=7) S ?_
  exact(L8 (A0 (L8 A3) A3))
 walk_at"2"
 ·refine zst (i:=8) S ?_
  exact(L8 A3)
 walk_at"2"
 ·refine U5 PassesOwn.never rfl ?_ ?_ ?_
  ·exact(X7 (N5 qf6 (pv 0) (M5 B0) (M5 B0)))
  ·exact(E8 (i:=9) S.nd rfl #[23])
  ·refine A4 ?_ ?_
   ·refine zst (i:=10) S ?_
    exact(zcl (qx7 T) hr T.yp B9 (A0 (pv 9) (A0 B0 A3)))
   walk_at"2"
   ·refine zst (i:=11) S ?_
    exact(E4 #[69] (pv 1) (C5 Z2 (C5 ws4 (pv 10) B0) (pv 2)) #[36])
   walk_at"37"
   ·exact(PW.pt (wb4 (C7 wq1 (C5 Z2 (pv 10) B0) B0 (D9 _)) (qo9 (C7 wq1 #[1,pv 6] B0 (D9 _)))))
   ·refine A4 ?_ ?_
    ·refine zst (i:=4) S ?_
     exact(C5 D3 (C5 D3 (C5 D3 (pv 4) C9) (pv 11)) C9)
    walk_at"2"
    ·exact(C4 (N2 PySem.F.plainAttrs_list PySem.F.slot_list_append PySem.F.type_list_append E6 (pv 6) #[14,11]))
    walk_at"2"
    ·exact#[72,5]
    walk_at"37"
    ·exact(C7 #[82] (pv 11) #[11,1] (D9 _))
    ·refine A8 ?_
     exact#[72,7]
    ·exact I0
   ·refine A8 ?_
    refine M3 ?_ ?_ ?_
    ·exact(C7 wq1 (C5 Z2 (pv 10) B0) B0 (D9 _))
    ·refine A4 ?_ ?_
     ·exact#[79,(zcl (xq0 T) hr T.yw B9 (A0 (pv 4) (A0 (pv 11) (A0 (pv 5) (A0 (pv 6) (A0 (pv 7) #[14,1]))))))]
     refine A8 ?_
     refine zst (i:=4) S ?_
     exact(C5 D3 (C5 D3 (C5 D3 (pv 4) C9) (pv 11)) C9)
    ·refine A4 ?_ ?_
     ·exact#[79,(zcl (xz4 T) hr T.yx B9 (A0 (pv 4) (A0 (pv 5) (A0 (pv 6) (A0 (pv 7) (A0 #[11,1] A3))))))]
     refine A8 ?_
     refine zst (i:=4) S ?_
     exact(C5 D3 (pv 4) C9)
 walk_at"2"
 ·exact#[79,(zcl (xq1 T) hr T.yy B9 (A0 (pv 4) (A0 (pv 5) #[14,6])))]
 refine A8 ?_
 exact(D1 (wb7 #[82] (zcl (ya0 T) hr T.yj B9 (A0 (V2 T9 rfl T.z_tuple boot_tuple #[14,3]) #[14,4])) (G1 (A0 (G1 (A0 C9 (A0 (V2 T9 rfl T.z_tuple boot_tuple (A0 #[11,5] A3)) A3))) #[14,8])) (D9 _)))
end
theorem ln1{us:List Value}(h:us.length=1):∃ x0,us=[x0]:=by
 rcases us with _|⟨x0,_|⟨y,us⟩⟩
 ·cases h
 ·exact⟨x0,rfl⟩
 ·cases h
theorem ln2{us:List Value}(h:us.length=2):∃ x0 x1,us=[x0,x1]:=by
 rcases us with _|⟨x0,_|⟨x1,_|⟨y,us⟩⟩⟩
 ·cases h
 ·cases h
 ·exact⟨x0,x1,rfl⟩
 ·cases h
theorem ln3{us:List Value}(h:us.length=3):∃ x0 x1 x2,us=[x0,x1,x2]:=by
 rcases us with _|⟨x0,_|⟨x1,_|⟨x2,_|⟨y,us⟩⟩⟩⟩
 ·cases h
 ·cases h
 ·cases h
 ·exact⟨x0,x1,x2,rfl⟩
 ·cases h
theorem ln4{us:List Value}(h:us.length=4):∃ x0 x1 x2 x3,us=[x0,x1,x2,x3]:=by
 rcases us with _|⟨x0,_|⟨x1,_|⟨x2,_|⟨x3,_|⟨y,us⟩⟩⟩⟩⟩
 ·cases h
 ·cases h
 ·cases h
 ·cases h
 ·exact⟨x0,x1,x2,x3,rfl⟩
 ·cases h
theorem ln5{us:List Value}(h:us.length=5):∃ x0 x1 x2 x3 x4,us=[x0,x1,x2,x3,x4]:=by
 rcases us with _|⟨x0,_|⟨x1,_|⟨x2,_|⟨x3,_|⟨x4,_|⟨y,us⟩⟩⟩⟩⟩⟩
 ·cases h
 ·cases h
 ·cases h
 ·cases h
 ·cases h
 ·exact⟨x0,x1,x2,x3,x4,rfl⟩
 ·cases h
theorem ln6{us:List Value}(h:us.length=6):∃ x0 x1 x2 x3 x4 x5,us=[x0,x1,x2,x3,x4,x5]:=by
 rcases us with _|⟨x0,_|⟨x1,_|⟨x2,_|⟨x3,_|⟨x4,_|⟨x5,_|⟨y,us⟩⟩⟩⟩⟩⟩⟩
 ·cases h
 ·cases h
 ·cases h
 ·cases h
 ·cases h
 ·cases h
 ·exact⟨x0,x1,x2,x3,x4,x5,rfl⟩
 ·cases h
theorem all_mk{l:PySem.W.OpenLaw}{w:World}{fa f0 f1 f2 f3 f4 f5 f6 f7 f8 f9 f10 f11 f12 f13 f14 f15 f16 f17 f18 f19 f20 f21 f22 f23 f24 f25 f26 f27 f28 f29 f30 f31 f32 f33 f34 f35 f36 f37 f38 f39 f40 f41 f42 f43 f44 f45 f46 f47 f48 f49 f50 f51 f52 f53 f54 f55 f56 f57 f58 f59 f60 f61 f62 f63:Addr}(X:K.In h)(G:h.Ns mainGlobals mg)(hfa:mg "law"=some (.ref fa)){d0 d1 d2 d3 d4 d5 d6 d7 d8 d9 d10 d11 d12 d13 d14 d15 d16 d17 d18 d19 d20 d21 d22 d23 d24 d25 d26 d27 d28 d29 d30 d31 d32 d33 d34 d35 d36 d37 d38 d39 d40 d41 d42 d43 d44 d45 d46 d47 d48 d49 d50 d51 d52 d53 d54 d55 d56 d57 d58 d59 d60 d61 d62 d63:FuncData}{k_LONGEST_NAME k_NAME k_SORT k_HOST k_SHUTS k_BARS k_ROOT_NAME k_MOST_OPEN k_START k_STOP k_BLANKS:Tok}{c_WALL_SORTS:Addr}{d_WALL_SORTS:Option Addr}{n_WALL_SORTS:Nat}{sl_WALL_SORTS:Array (Option Value)}{k_WALL_SORTS_0 k_WALL_SORTS_1:Tok}{c_TOLD_FOR:Addr}{d_TOLD_FOR:Option Addr}{n_TOLD_FOR:Nat}{sl_TOLD_FOR:Array (Option Value)}{k_TOLD_FOR_0 k_TOLD_FOR_1:Tok}{d_ESCAPED:Option Addr}{n_ESCAPED:Nat}{sl_ESCAPED:Array (Option Value)}{k_ESCAPED_0 k_ESCAPED_1:Tok}(eBranch:PySem.W.nsIn K mainGlobals "Branch"=some #[5,k_Branch])(eReader:PySem.W.nsIn K mainGlobals "Reader"=some #[5,k_Reader])(a0:PySem.W.nsIn K mainGlobals "has_letters_of_name"=some #[5,f0])(F0:Fun K "has_letters_of_name" "has_letters_of_name" S1 f0 d0)(a1:PySem.W.nsIn K mainGlobals "row_of"=some #[5,f1])(F1:Fun K "row_of" "row_of" xl6 f1 d1)(a2:PySem.W.nsIn K mainGlobals "sort_of"=some #[5,f2])(F2:Fun K "sort_of" "sort_of" xa2 f2 d2)(a3:PySem.W.nsIn K mainGlobals "is_wall"=some #[5,f3])(F3:Fun K "is_wall" "is_wall" xa3 f3 d3)(a4:PySem.W.nsIn K mainGlobals "host_of"=some #[5,f4])(F4:Fun K "host_of" "host_of" xa4 f4 d4)(a5:PySem.W.nsIn K mainGlobals "frame_of"=some #[5,f5])(F5:Fun K "frame_of" "frame_of" wr6 f5 d5)(a6:PySem.W.nsIn K mainGlobals "belongs"=some #[5,f6])(F6:Fun K "belongs" "belongs" xa5 f6 d6)(a7:PySem.W.nsIn K mainGlobals "is_text"=some #[5,f7])(F7:Fun K "is_text" "is_text" xa6 f7 d7)(a8:PySem.W.nsIn K mainGlobals "straight_above"=some #[5,f8])(F8:Fun K "straight_above" "straight_above" ql1 f8 d8)(a9:PySem.W.nsIn K mainGlobals "near_of"=some #[5,f9])(F9:Fun K "near_of" "near_of" xa7 f9 d9)(a10:PySem.W.nsIn K mainGlobals "share_a_name"=some #[5,f10])(F10:Fun K "share_a_name" "share_a_name" qh8 f10 d10)(a11:PySem.W.nsIn K mainGlobals "closing"=some #[5,f11])(F11:Fun K "closing" "closing" xa8 f11 d11)(a12:PySem.W.nsIn K mainGlobals "opening"=some #[5,f12])(F12:Fun K "opening" "opening" xa9 f12 d12)(a13:PySem.W.nsIn K mainGlobals "hosts_for"=some #[5,f13])(F13:Fun K "hosts_for" "hosts_for" wk2 f13 d13)(a14:PySem.W.nsIn K mainGlobals "wanted"=some #[5,f14])(F14:Fun K "wanted" "wanted" xl7 f14 d14)(a15:PySem.W.nsIn K mainGlobals "wanted_by_guest"=some #[5,f15])(F15:Fun K "wanted_by_guest" "wanted_by_guest" qh9 f15 d15)(a16:PySem.W.nsIn K mainGlobals "kept_by_shuts"=some #[5,f16])(F16:Fun K "kept_by_shuts" "kept_by_shuts" qn8 f16 d16)(a17:PySem.W.nsIn K mainGlobals "hosts_within"=some #[5,f17])(F17:Fun K "hosts_within" "hosts_within" qs3 f17 d17)(a18:PySem.W.nsIn K mainGlobals "is_barred"=some #[5,f18])(F18:Fun K "is_barred" "is_barred" wk3 f18 d18)(a19:PySem.W.nsIn K mainGlobals "escaped"=some #[5,f19])(F19:Fun K "escaped" "escaped" xb0 f19 d19)(a20:PySem.W.nsIn K mainGlobals "told_by"=some #[5,f20])(F20:Fun K "told_by" "told_by" xb1 f20 d20)(a21:PySem.W.nsIn K mainGlobals "lone_ones"=some #[5,f21])(F21:Fun K "lone_ones" "lone_ones" qv9 f21 d21)(a22:PySem.W.nsIn K mainGlobals "tokens_of"=some #[5,f22])(F22:Fun K "tokens_of" "tokens_of" wk4 f22 d22)(a23:PySem.W.nsIn K mainGlobals "settled_tokens"=some #[5,f23])(F23:Fun K "settled_tokens" "settled_tokens" ql2 f23 d23)(a24:PySem.W.nsIn K mainGlobals "tags_from"=some #[5,f24])(F24:Fun K "tags_from" "tags_from" wk5 f24 d24)(a25:PySem.W.nsIn K mainGlobals "name_start"=some #[5,f25])(F25:Fun K "name_start" "name_start" wd8 f25 d25)(a26:PySem.W.nsIn K mainGlobals "tag_stop"=some #[5,f26])(F26:Fun K "tag_stop" "tag_stop" wr7 f26 d26)(a27:PySem.W.nsIn K mainGlobals "tag_between"=some #[5,f27])(F27:Fun K "tag_between" "tag_between" qx5 f27 d27)(a28:PySem.W.nsIn K mainGlobals "runs_between"=some #[5,f28])(F28:Fun K "runs_between" "runs_between" qs4 f28 d28)(a29:PySem.W.nsIn K mainGlobals "opening_of"=some #[5,f29])(F29:Fun K "opening_of" "opening_of" wd9 f29 d29)(a30:PySem.W.nsIn K mainGlobals "closing_of"=some #[5,f30])(F30:Fun K "closing_of" "closing_of" we0 f30 d30)(a31:PySem.W.nsIn K mainGlobals "read_text"=some #[5,f31])(F31:Fun K "read_text" "read_text" wk6 f31 d31)(a32:PySem.W.nsIn K mainGlobals "reader_of"=some #[5,f32])(F32:Fun K "reader_of" "reader_of" wk7 f32 d32)(a33:PySem.W.nsIn K mainGlobals "those_that_wait"=some #[5,f33])(F33:Fun K "those_that_wait" "those_that_wait" qi0 f33 d33)(a34:PySem.W.nsIn K mainGlobals "without_last"=some #[5,f34])(F34:Fun K "without_last" "without_last" qs5 f34 d34)(a35:PySem.W.nsIn K mainGlobals "may_come_anew"=some #[5,f35])(F35:Fun K "may_come_anew" "may_come_anew" qn9 f35 d35)(a36:PySem.W.nsIn K mainGlobals "_law_cell_at"=some #[5,f36])(F36:Fun K "_law_cell_at" "_law_cell_at" qs6 f36 d36)(a37:PySem.W.nsIn K mainGlobals "_law_mixed"=some #[5,f37])(F37:Fun K "_law_mixed" "_law_mixed" we1 f37 d37)(a38:PySem.W.nsIn K mainGlobals "_law_letters"=some #[5,f38])(F38:Fun K "_law_letters" "_law_letters" qs7 f38 d38)(a39:PySem.W.nsIn K mainGlobals "_law_names"=some #[5,f39])(F39:Fun K "_law_names" "_law_names" qi1 f39 d39)(a40:PySem.W.nsIn K mainGlobals "_law_closed"=some #[5,f40])(F40:Fun K "_law_closed" "_law_closed" qx6 f40 d40)(a41:PySem.W.nsIn K mainGlobals "_law_near"=some #[5,f41])(F41:Fun K "_law_near" "_law_near" wk8 f41 d41)(a42:PySem.W.nsIn K mainGlobals "_law_close"=some #[5,f42])(F42:Fun K "_law_close" "_law_close" qb0 f42 d42)(a43:PySem.W.nsIn K mainGlobals "_law_said"=some #[5,f43])(F43:Fun K "_law_said" "_law_said" wk9 f43 d43)(a44:PySem.W.nsIn K mainGlobals "_law_ended"=some #[5,f44])(F44:Fun K "_law_ended" "_law_ended" we2 f44 d44)(a45:PySem.W.nsIn K mainGlobals "law"=some #[5,f45])(F45:Fun K "law" "law" xl8 f45 d45)(a46:PySem.W.findIn K (.ref k_Branch) "__init__"=some #[5,f46])(F46:Fun K "__init__" "Branch.__init__" qo0 f46 d46)(fn46:PySem.W.isFn K (.ref f46)=true)(a47:PySem.W.findIn K #[45] "__init__"=some #[5,f47])(F47:Fun K "__init__" "Reader.__init__" qo1 f47 d47)(fn47:PySem.W.isFn K (.ref f47)=true)(a48:PySem.W.findIn K #[45] "root"=some #[5,f48])(F48:Fun K "root" "Reader.root" qo2 f48 d48)(fn48:PySem.W.isFn K (.ref f48)=true)(a49:PySem.W.findIn K #[45] "read"=some #[5,f49])(F49:Fun K "read" "Reader.read" qo3 f49 d49)(fn49:PySem.W.isFn K (.ref f49)=true)(a50:PySem.W.findIn K #[45] "finish"=some #[5,f50])(F50:Fun K "finish" "Reader.finish" qi2 f50 d50)(fn50:PySem.W.isFn K (.ref f50)=true)(a51:PySem.W.findIn K #[45] "read_opening"=some #[5,f51])(F51:Fun K "read_opening" "Reader.read_opening" V8 f51 d51)(fn51:PySem.W.isFn K (.ref f51)=true)(a52:PySem.W.findIn K #[45] "read_closing"=some #[5,f52])(F52:Fun K "read_closing" "Reader.read_closing" V9 f52 d52)(fn52:PySem.W.isFn K (.ref f52)=true)(a53:PySem.W.findIn K #[45] "read_run"=some #[5,f53])(F53:Fun K "read_run" "Reader.read_run" qd1 f53 d53)(fn53:PySem.W.isFn K (.ref f53)=true)(a54:PySem.W.findIn K #[45] "open_names"=some #[5,f54])(F54:Fun K "open_names" "Reader.open_names" S2 f54 d54)(fn54:PySem.W.isFn K (.ref f54)=true)(a55:PySem.W.findIn K #[45] "is_in_frame"=some #[5,f55])(F55:Fun K "is_in_frame" "Reader.is_in_frame" X2 f55 d55)(fn55:PySem.W.isFn K (.ref f55)=true)(a56:PySem.W.findIn K #[45] "last_wall"=some #[5,f56])(F56:Fun K "last_wall" "Reader.last_wall" U4 f56 d56)(fn56:PySem.W.isFn K (.ref f56)=true)(a57:PySem.W.findIn K #[45] "enter"=some #[5,f57])(F57:Fun K "enter" "Reader.enter" ql3 f57 d57)(fn57:PySem.W.isFn K (.ref f57)=true)(a58:PySem.W.findIn K #[45] "leave"=some #[5,f58])(F58:Fun K "leave" "Reader.leave" ql4 f58 d58)(fn58:PySem.W.isFn K (.ref f58)=true)(a59:PySem.W.findIn K #[45] "drop"=some #[5,f59])(F59:Fun K "drop" "Reader.drop" qo4 f59 d59)(fn59:PySem.W.isFn K (.ref f59)=true)(a60:PySem.W.findIn K #[45] "put_in"=some #[5,f60])(F60:Fun K "put_in" "Reader.put_in" qi3 f60 d60)(fn60:PySem.W.isFn K (.ref f60)=true)(a61:PySem.W.findIn K #[45] "close_behind"=some #[5,f61])(F61:Fun K "close_behind" "Reader.close_behind" W0 f61 d61)(fn61:PySem.W.isFn K (.ref f61)=true)(a62:PySem.W.findIn K #[45] "put_in_waiting"=some #[5,f62])(F62:Fun K "put_in_waiting" "Reader.put_in_waiting" S9 f62 d62)(fn62:PySem.W.isFn K (.ref f62)=true)(a63:PySem.W.findIn K #[45] "add_text"=some #[5,f63])(F63:Fun K "add_text" "Reader.add_text" qd2 f63 d63)(fn63:PySem.W.isFn K (.ref f63)=true)(uLONGEST_NAME:PySem.W.nsIn K mainGlobals "LONGEST_NAME"=some (some (.int 8 k_LONGEST_NAME)))(uNAME:PySem.W.nsIn K mainGlobals "NAME"=some (some (.int 0 k_NAME)))(uSORT:PySem.W.nsIn K mainGlobals "SORT"=some (some (.int 1 k_SORT)))(uHOST:PySem.W.nsIn K mainGlobals "HOST"=some (some (.int 2 k_HOST)))(uSHUTS:PySem.W.nsIn K mainGlobals "SHUTS"=some (some (.int 3 k_SHUTS)))(uBARS:PySem.W.nsIn K mainGlobals "BARS"=some (some (.int 4 k_BARS)))(uROOT_NAME:PySem.W.nsIn K mainGlobals "ROOT_NAME"=some (some (.str "" k_ROOT_NAME)))(uMOST_OPEN:PySem.W.nsIn K mainGlobals "MOST_OPEN"=some (some (.int 20 k_MOST_OPEN)))(uSTART:PySem.W.nsIn K mainGlobals "START"=some (some (.int 1 k_START)))(uSTOP:PySem.W.nsIn K mainGlobals "STOP"=some (some (.int 2 k_STOP)))(uBLANKS:PySem.W.nsIn K mainGlobals "BLANKS"=some (some (.str " \n" k_BLANKS)))(uWALL_SORTS:PySem.W.nsIn K mainGlobals "WALL_SORTS"=some #[5,c_WALL_SORTS])(wWALL_SORTS:K.lookup c_WALL_SORTS=some ⟨.type "tuple",d_WALL_SORTS,.seq #[.str "room" k_WALL_SORTS_0,.str "frame" k_WALL_SORTS_1] n_WALL_SORTS,sl_WALL_SORTS⟩)(uTOLD_FOR:PySem.W.nsIn K mainGlobals "TOLD_FOR"=some #[5,c_TOLD_FOR])(wTOLD_FOR:K.lookup c_TOLD_FOR=some ⟨.type "tuple",d_TOLD_FOR,.seq #[.str "&l;" k_TOLD_FOR_0,.str "&a;" k_TOLD_FOR_1] n_TOLD_FOR,sl_TOLD_FOR⟩)(uESCAPED:PySem.W.nsIn K mainGlobals "ESCAPED"=some #[5,c_ESCAPED])(wESCAPED:K.lookup c_ESCAPED=some ⟨.type "tuple",d_ESCAPED,.seq #[.str "<" k_ESCAPED_0,.str "&" k_ESCAPED_1] n_ESCAPED,sl_ESCAPED⟩)(pg0Branch:PySem.W.plainGet K k_Branch Str.empty=true)(hd0Branch:PySem.W.hasDictIn K k_Branch=true)(po0Branch:PySem.W.plainOver K k_Branch=true)(sa0Branch:PySem.W.findIn K (.ref k_Branch) "__setattr__"=some #[89])(ns0Branch:PySem.W.nsIn K mainGlobals "Branch"=some #[5,k_Branch])(na0Branch0name:PySem.W.findIn K (.ref k_Branch) "name"=some none)(na0Branch0place:PySem.W.findIn K (.ref k_Branch) "place"=some none)(na0Branch0parts:PySem.W.findIn K (.ref k_Branch) "parts"=some none)(na0Branch0waiting:PySem.W.findIn K (.ref k_Branch) "waiting"=some none)(pg0Reader:PySem.W.plainGet K k_Reader Str.empty=true)(hd0Reader:PySem.W.hasDictIn K k_Reader=true)(po0Reader:PySem.W.plainOver K k_Reader=true)(sa0Reader:PySem.W.findIn K #[45] "__setattr__"=some #[89])(ns0Reader:PySem.W.nsIn K mainGlobals "Reader"=some #[5,k_Reader])(na0Reader0book:PySem.W.findIn K #[45] "book"=some none)(na0Reader0branches:PySem.W.findIn K #[45] "branches"=some none)(na0Reader0mends:PySem.W.findIn K #[45] "mends"=some none)(na0Reader0laid:PySem.W.findIn K #[45] "laid"=some none)(mk0Branch:PySem.W.makesIn K k_Branch=true)(kp0Branch:PySem.W.keepIn K (.ref k_Branch)=true)(mk0Reader:PySem.W.makesIn K k_Reader=true)(kp0Reader:PySem.W.keepIn K #[45]=true)(zall:PySem.W.nsIn K mainGlobals "all"=some none)(zany:PySem.W.nsIn K mainGlobals "any"=some none)(zenumerate:PySem.W.nsIn K mainGlobals "enumerate"=some none)(zint:PySem.W.nsIn K mainGlobals "int"=some none)(zisinstance:PySem.W.nsIn K mainGlobals "isinstance"=some none)(zlen:PySem.W.nsIn K mainGlobals "len"=some none)(zmax:PySem.W.nsIn K mainGlobals "max"=some none)(zrange:PySem.W.nsIn K mainGlobals "range"=some none)(zreversed:PySem.W.nsIn K mainGlobals "reversed"=some none)(zstr:PySem.W.nsIn K mainGlobals "str"=some none)(ztuple:PySem.W.nsIn K mainGlobals "tuple"=some none) :
 ∃ fd:FuncData,(∀ (s:Shared) (v:Value),BindsTo s fd ⟨[v],[]⟩ [("_law_script",v)])/\∀ base:Heap,K.In base->base.Ns mainGlobals mg->J7 l.prog w K mg base CX0 26 fa fd ["_law_script"] (xa1 K):=by
 have e:=hfa.symm.trans (PySem.W.mg_of X G a45)
 have e:f45=fa:=by cases e;rfl
 subst e
 obtain⟨_,_,kV,dc,pm,an,cd,ct,_,rfl,_,_⟩:=id F45.ex
 have b0:=F0.binds (ps:=["word"]) #[7]
 have b1:=F1.binds (ps:=["rows","name"]) #[7]
 have b2:=F2.binds (ps:=["book","name"]) #[7]
 have b3:=F3.binds (ps:=["book","name"]) #[7]
 have b4:=F4.binds (ps:=["book","name"]) #[7]
 have b5:=F5.binds (ps:=["book","name"]) #[7]
 have b6:=F6.binds (ps:=["book","name","frame"]) #[7]
 have b7:=F7.binds (ps:=["part"]) #[7]
 have b8:=F8.binds (ps:=["names"]) #[7]
 have b9:=F9.binds (ps:=["book","names"]) #[7]
 have b10:=F10.binds (ps:=["names","others"]) #[7]
 have b11:=F11.binds (ps:=["book","names","name"]) #[7]
 have b12:=F12.binds (ps:=["book","names","name"]) #[7]
 have b13:=F13.binds (ps:=["book","names"]) #[7]
 have b14:=F14.binds (ps:=["book","names","name"]) #[7]
 have b15:=F15.binds (ps:=["book","names","name"]) #[7]
 have b16:=F16.binds (ps:=["book","names","name"]) #[7]
 have b17:=F17.binds (ps:=["book","name"]) #[7]
 have b18:=F18.binds (ps:=["book","kept","put"]) #[7]
 have b19:=F19.binds (ps:=["text"]) #[7]
 have b20:=F20.binds (ps:=["run"]) #[7]
 have b21:=F21.binds (ps:=["run"]) #[7]
 have b22:=F22.binds (ps:=["text"]) #[7]
 have b23:=F23.binds (ps:=["text","settled","searched"]) #[7]
 have b24:=F24.binds (ps:=["text","searched"]) #[7]
 have b25:=F25.binds (ps:=["text","start"]) #[7]
 have b26:=F26.binds (ps:=["text","start"]) #[7]
 have b27:=F27.binds (ps:=["text","start","stop"]) #[7]
 have b28:=F28.binds (ps:=["text","start","stop"]) #[7]
 have b29:=F29.binds (ps:=["name"]) #[7]
 have b30:=F30.binds (ps:=["name"]) #[7]
 have b31:=F31.binds (ps:=["book","text"]) #[7]
 have b32:=F32.binds (ps:=["book","text"]) #[7]
 have b33:=F33.binds (ps:=["book","closed"]) #[7]
 have b34:=F34.binds (ps:=["names","name"]) #[7]
 have b35:=F35.binds (ps:=["book","names","name"]) #[7]
 have b36:=F36.binds (ps:=["_law_script","_law_k"]) #[7]
 have b37:=F37.binds (ps:=["_law_cell","_law_k"]) #[7]
 have b38:=F38.binds (ps:=["_law_number"]) #[7]
 have b39:=F39.binds (ps:=["_law_cell"]) #[7]
 have b40:=F40.binds (ps:=["_law_heaps","_law_there"]) #[7]
 have b41:=F41.binds (ps:=["_law_there","_law_room"]) #[7]
 have b42:=F42.binds (ps:=["_law_text","_law_name","_law_heaps","_law_there","_law_rows","_law_names_here"]) #[7]
 have b43:=F43.binds (ps:=["_law_text","_law_heaps","_law_there","_law_rows","_law_room"]) #[7]
 have b44:=F44.binds (ps:=["_law_text","_law_heaps","_law_there"]) #[7]
 have b45:=F45.binds (ps:=["_law_script"]) #[7]
 have b46:=F46.binds (ps:=["self","name","place"]) #[7]
 have b47:=F47.binds (ps:=["self","book"]) #[7]
 have b48:=F48.binds (ps:=["self"]) #[7]
 have b49:=F49.binds (ps:=["self","kind","start","signs","told"]) #[7]
 have b50:=F50.binds (ps:=["self","size"]) #[7]
 have b51:=F51.binds (ps:=["self","start","signs","name"]) #[7]
 have b52:=F52.binds (ps:=["self","start","signs","name"]) #[7]
 have b53:=F53.binds (ps:=["self","start","signs","told"]) #[7]
 have b54:=F54.binds (ps:=["self"]) #[7]
 have b55:=F55.binds (ps:=["self"]) #[7]
 have b56:=F56.binds (ps:=["self"]) #[7]
 have b57:=F57.binds (ps:=["self","name"]) #[7]
 have b58:=F58.binds (ps:=["self"]) #[7]
 have b59:=F59.binds (ps:=["self","start","signs","rule"]) #[7]
 have b60:=F60.binds (ps:=["self","name","start","rule"]) #[7]
 have b61:=F61.binds (ps:=["self","kept","start","rule"]) #[7]
 have b62:=F62.binds (ps:=["self","start"]) #[7]
 have b63:=F63.binds (ps:=["self","start","signs","told"]) #[7]
 let t:Adr:={za:=⟨f0,d0⟩,zb:=⟨f1,d1⟩,zc:=⟨f2,d2⟩,zd:=⟨f3,d3⟩,ze:=⟨f4,d4⟩,zf:=⟨f5,d5⟩,zh:=⟨f6,d6⟩,zi:=⟨f7,d7⟩,zj:=⟨f8,d8⟩,zk:=⟨f9,d9⟩,zm:=⟨f10,d10⟩,zn:=⟨f11,d11⟩,zo:=⟨f12,d12⟩,zp:=⟨f13,d13⟩,zr:=⟨f14,d14⟩,zt:=⟨f15,d15⟩,zu:=⟨f16,d16⟩,zv:=⟨f17,d17⟩,zw:=⟨f18,d18⟩,zx:=⟨f19,d19⟩,zy:=⟨f20,d20⟩,zz:=⟨f21,d21⟩,ya:=⟨f22,d22⟩,yb:=⟨f23,d23⟩,yc:=⟨f24,d24⟩,yd:=⟨f25,d25⟩,ye:=⟨f26,d26⟩,yf:=⟨f27,d27⟩,yg:=⟨f28,d28⟩,yh:=⟨f29,d29⟩,yi:=⟨f30,d30⟩,yj:=⟨f31,d31⟩,yk:=⟨f32,d32⟩,yl:=⟨f33,d33⟩,ym:=⟨f34,d34⟩,yn:=⟨f35,d35⟩,yo:=⟨f36,d36⟩,yp:=⟨f37,d37⟩,yq:=⟨f38,d38⟩,yr:=⟨f39,d39⟩,yt:=⟨f40,d40⟩,yu:=⟨f41,d41⟩,yw:=⟨f42,d42⟩,yx:=⟨f43,d43⟩,yy:=⟨f44,d44⟩,yz:=⟨f45,PySem.W.fnOf "law" "law" (ws8 xl8) (wl5 xl8) (B3 xl8) .none kV dc pm an cd ct⟩,a_c_Branch_init:=f46,d_c_Branch_init:=d46,a_c_Reader_init:=f47,d_c_Reader_init:=d47,a_c_Reader_root:=f48,d_c_Reader_root:=d48,a_c_Reader_read:=f49,d_c_Reader_read:=d49,a_c_Reader_finish:=f50,d_c_Reader_finish:=d50,a_c_Reader_read_opening:=f51,d_c_Reader_read_opening:=d51,a_c_Reader_read_closing:=f52,d_c_Reader_read_closing:=d52,a_c_Reader_read_run:=f53,d_c_Reader_read_run:=d53,a_c_Reader_open_names:=f54,d_c_Reader_open_names:=d54,a_c_Reader_is_in_frame:=f55,d_c_Reader_is_in_frame:=d55,a_c_Reader_last_wall:=f56,d_c_Reader_last_wall:=d56,a_c_Reader_enter:=f57,d_c_Reader_enter:=d57,a_c_Reader_leave:=f58,d_c_Reader_leave:=d58,a_c_Reader_drop:=f59,d_c_Reader_drop:=d59,a_c_Reader_put_in:=f60,d_c_Reader_put_in:=d60,a_c_Reader_close_behind:=f61,d_c_Reader_close_behind:=d61,a_c_Reader_put_in_waiting:=f62,d_c_Reader_put_in_waiting:=d62,a_c_Reader_add_text:=f63,d_c_Reader_add_text:=d63,v_LONGEST_NAME:=.int 8 k_LONGEST_NAME,v_NAME:=.int 0 k_NAME,v_SORT:=.int 1 k_SORT,v_HOST:=.int 2 k_HOST,v_SHUTS:=.int 3 k_SHUTS,v_BARS:=.int 4 k_BARS,v_ROOT_NAME:=.str "" k_ROOT_NAME,v_MOST_OPEN:=.int 20 k_MOST_OPEN,v_START:=.int 1 k_START,v_STOP:=.int 2 k_STOP,v_BLANKS:=.str " \n" k_BLANKS,c_WALL_SORTS:=c_WALL_SORTS,c_TOLD_FOR:=c_TOLD_FOR,c_ESCAPED:=c_ESCAPED,k_Branch:=k_Branch,k_Reader:=k_Reader}
 have T:Txt K mg t:=⟨⟨F0,b0,PySem.W.mg_of X G a0⟩,⟨F1,b1,PySem.W.mg_of X G a1⟩,⟨F2,b2,PySem.W.mg_of X G a2⟩,⟨F3,b3,PySem.W.mg_of X G a3⟩,⟨F4,b4,PySem.W.mg_of X G a4⟩,⟨F5,b5,PySem.W.mg_of X G a5⟩,⟨F6,b6,PySem.W.mg_of X G a6⟩,⟨F7,b7,PySem.W.mg_of X G a7⟩,⟨F8,b8,PySem.W.mg_of X G a8⟩,⟨F9,b9,PySem.W.mg_of X G a9⟩,⟨F10,b10,PySem.W.mg_of X G a10⟩,⟨F11,b11,PySem.W.mg_of X G a11⟩,⟨F12,b12,PySem.W.mg_of X G a12⟩,⟨F13,b13,PySem.W.mg_of X G a13⟩,⟨F14,b14,PySem.W.mg_of X G a14⟩,⟨F15,b15,PySem.W.mg_of X G a15⟩,⟨F16,b16,PySem.W.mg_of X G a16⟩,⟨F17,b17,PySem.W.mg_of X G a17⟩,⟨F18,b18,PySem.W.mg_of X G a18⟩,⟨F19,b19,PySem.W.mg_of X G a19⟩,⟨F20,b20,PySem.W.mg_of X G a20⟩,⟨F21,b21,PySem.W.mg_of X G a21⟩,⟨F22,b22,PySem.W.mg_of X G a22⟩,⟨F23,b23,PySem.W.mg_of X G a23⟩,⟨F24,b24,PySem.W.mg_of X G a24⟩,⟨F25,b25,PySem.W.mg_of X G a25⟩,⟨F26,b26,PySem.W.mg_of X G a26⟩,⟨F27,b27,PySem.W.mg_of X G a27⟩,⟨F28,b28,PySem.W.mg_of X G a28⟩,⟨F29,b29,PySem.W.mg_of X G a29⟩,⟨F30,b30,PySem.W.mg_of X G a30⟩,⟨F31,b31,PySem.W.mg_of X G a31⟩,⟨F32,b32,PySem.W.mg_of X G a32⟩,⟨F33,b33,PySem.W.mg_of X G a33⟩,⟨F34,b34,PySem.W.mg_of X G a34⟩,⟨F35,b35,PySem.W.mg_of X G a35⟩,⟨F36,b36,PySem.W.mg_of X G a36⟩,⟨F37,b37,PySem.W.mg_of X G a37⟩,⟨F38,b38,PySem.W.mg_of X G a38⟩,⟨F39,b39,PySem.W.mg_of X G a39⟩,⟨F40,b40,PySem.W.mg_of X G a40⟩,⟨F41,b41,PySem.W.mg_of X G a41⟩,⟨F42,b42,PySem.W.mg_of X G a42⟩,⟨F43,b43,PySem.W.mg_of X G a43⟩,⟨F44,b44,PySem.W.mg_of X G a44⟩,⟨F45,b45,PySem.W.mg_of X G a45⟩,F46,b46,⟨mk0Branch,a46,fn46,kp0Branch⟩,F47,b47,⟨mk0Reader,a47,fn47,kp0Reader⟩,F48,b48,⟨a48,fn48,F48.kp⟩,F49,b49,⟨a49,fn49,F49.kp⟩,F50,b50,⟨a50,fn50,F50.kp⟩,F51,b51,⟨a51,fn51,F51.kp⟩,F52,b52,⟨a52,fn52,F52.kp⟩,F53,b53,⟨a53,fn53,F53.kp⟩,F54,b54,⟨a54,fn54,F54.kp⟩,F55,b55,⟨a55,fn55,F55.kp⟩,F56,b56,⟨a56,fn56,F56.kp⟩,F57,b57,⟨a57,fn57,F57.kp⟩,F58,b58,⟨a58,fn58,F58.kp⟩,F59,b59,⟨a59,fn59,F59.kp⟩,F60,b60,⟨a60,fn60,F60.kp⟩,F61,b61,⟨a61,fn61,F61.kp⟩,F62,b62,⟨a62,fn62,F62.kp⟩,F63,b63,⟨a63,fn63,F63.kp⟩,PySem.W.mg_of X G uWALL_SORTS,fun _=>.inr ⟨_,_,_,wWALL_SORTS,rfl,rfl,by rw[sizeLine_eq];show 2<=_;decide,(.cons ⟨_,rfl⟩ (.cons ⟨_,rfl⟩ .nil))⟩,⟨PySem.W.mg_of X G uLONGEST_NAME,⟨_,rfl⟩⟩,⟨PySem.W.mg_of X G uNAME,⟨_,rfl⟩⟩,⟨PySem.W.mg_of X G uSORT,⟨_,rfl⟩⟩,⟨PySem.W.mg_of X G uHOST,⟨_,rfl⟩⟩,⟨PySem.W.mg_of X G uSHUTS,⟨_,rfl⟩⟩,⟨PySem.W.mg_of X G uBARS,⟨_,rfl⟩⟩,⟨PySem.W.mg_of X G uROOT_NAME,⟨_,rfl⟩⟩,⟨PySem.W.mg_of X G uMOST_OPEN,⟨_,rfl⟩⟩,PySem.W.mg_of X G uTOLD_FOR,fun _=>.inr ⟨_,_,_,wTOLD_FOR,rfl,rfl,by rw[sizeLine_eq];show 2<=_;decide,(.cons ⟨_,rfl⟩ (.cons ⟨_,rfl⟩ .nil))⟩,PySem.W.mg_of X G uESCAPED,fun _=>.inr ⟨_,_,_,wESCAPED,rfl,rfl,by rw[sizeLine_eq];show 2<=_;decide,(.cons ⟨_,rfl⟩ (.cons ⟨_,rfl⟩ .nil))⟩,⟨PySem.W.mg_of X G uSTART,⟨_,rfl⟩⟩,⟨PySem.W.mg_of X G uSTOP,⟨_,rfl⟩⟩,⟨PySem.W.mg_of X G uBLANKS,⟨_,rfl⟩⟩,PySem.W.mg_none_of X G zall,PySem.W.mg_none_of X G zany,PySem.W.mg_none_of X G zenumerate,PySem.W.mg_none_of X G zint,PySem.W.mg_none_of X G zisinstance,PySem.W.mg_none_of X G zlen,PySem.W.mg_none_of X G zmax,PySem.W.mg_none_of X G zrange,PySem.W.mg_none_of X G zreversed,PySem.W.mg_none_of X G zstr,PySem.W.mg_none_of X G ztuple,PySem.W.mg_of X G eBranch,PySem.W.mg_of X G eReader,⟨pg0Branch,hd0Branch,po0Branch,sa0Branch,ns0Branch,na0Branch0name,na0Branch0place,na0Branch0parts,na0Branch0waiting,pg0Reader,hd0Reader,po0Reader,sa0Reader,ns0Reader,na0Reader0book,na0Reader0branches,na0Reader0mends,na0Reader0laid⟩⟩
 exact⟨_,fun s v=>.of_eq rfl,fun base _ _=>zz6 T⟩
theorem walk{l:PySem.W.OpenLaw}{q:Program}{loose:List Str}{XP:(Str->Option Value)->Heap->Prop}{z t:Nat}{d:DefRec}{K:Params->Fg}(hn:l.most=some 63)(hdf:d.params.defaults=[])(hk:∀ P,as=(K P).map (·.1))(h0:0<t) (F:∀ (w:World) (mg:Str->Option Value) (fa:Addr) (h:Heap),(K w.params).In h->h.Ns mainGlobals mg->mg d.name=some (.ref fa) ->
  ∃ fd:FuncData,(∀ (s:Shared) (u:Value),BindsTo s fd ⟨[u],[]⟩ [("_law_script",u)])/\∀ base:Heap,(K w.params).In base->base.Ns mainGlobals mg->J7 l.prog w (K w.params) mg base CX0 26 fa fd ["_law_script"] (xa1 (K w.params))) :
 PySem.W.WalkX q loose XP (PySem.W.X.obsZ as) (PySem.W.X.valZ K z t) l.row.toRowW d [] (fun f vs=>PySem.call f vs) :=
 L2.zk2 (n:=63) (k:=26) (x := "_law_script") (CX:=fun _=>CX0) (sp:=fun w=>xa1 (K w.params)) hn #[10] hdf ⟨rfl,by decide,by decide,rfl⟩ hk h0 F (fun _ _ a ns hl _ hS=>⟨a,ns,rfl,hS,hl,fun _=>rfl⟩) fun _ _ _ _ _ z=>z
end
end My
open PySem PySem.W PyProof.Rows
local macro_rules | `(tactic| x_go) => `(tactic| (refine' L2.zu5 ?l ?c ?k; (case l => k_is); (case c => k_is); (case k => k_is)))
set_option maxRecDepth 100000 in
set_option maxHeartbeats 0 in
theorem PySem.Challenge.cw_tagmend_k45_walls_holds : PySem.Challenge.rw_tagmend_k45_walls.Holds := by
 w_on;o_law;z_head;(case hw=>w_witness2)
 k_fill
 refine My.walk (l:=PySem.Challenge.rw_tagmend_k45_walls) rfl rfl (fun _=>rfl) #[10] ?F
 case F =>
  intro w mg fa h KX G hmg
  refine' My.all_mk KX G hmg ?eBranch ?eReader ?a0 ?F0 ?a1 ?F1 ?a2 ?F2 ?a3 ?F3 ?a4 ?F4 ?a5 ?F5 ?a6 ?F6 ?a7 ?F7 ?a8 ?F8 ?a9 ?F9 ?a10 ?F10 ?a11 ?F11 ?a12 ?F12 ?a13 ?F13 ?a14 ?F14 ?a15 ?F15 ?a16 ?F16 ?a17 ?F17 ?a18 ?F18 ?a19 ?F19 ?a20 ?F20 ?a21 ?F21 ?a22 ?F22 ?a23 ?F23 ?a24 ?F24 ?a25 ?F25 ?a26 ?F26 ?a27 ?F27 ?a28 ?F28 ?a29 ?F29 ?a30 ?F30 ?a31 ?F31 ?a32 ?F32 ?a33 ?F33 ?a34 ?F34 ?a35 ?F35 ?a36 ?F36 ?a37 ?F37 ?a38 ?F38 ?a39 ?F39 ?a40 ?F40 ?a41 ?F41 ?a42 ?F42 ?a43 ?F43 ?a44 ?F44 ?a45 ?F45 ?a46 ?F46 ?fn46 ?a47 ?F47 ?fn47 ?a48 ?F48 ?fn48 ?a49 ?F49 ?fn49 ?a50 ?F50 ?fn50 ?a51 ?F51 ?fn51 ?a52 ?F52 ?fn52 ?a53 ?F53 ?fn53 ?a54 ?F54 ?fn54 ?a55 ?F55 ?fn55 ?a56 ?F56 ?fn56 ?a57 ?F57 ?fn57 ?a58 ?F58 ?fn58 ?a59 ?F59 ?fn59 ?a60 ?F60 ?fn60 ?a61 ?F61 ?fn61 ?a62 ?F62 ?fn62 ?a63 ?F63 ?fn63 ?uWALL_SORTS ?wWALL_SORTS ?uLONGEST_NAME ?uNAME ?uSORT ?uHOST ?uSHUTS ?uBARS ?uROOT_NAME ?uMOST_OPEN ?uTOLD_FOR ?wTOLD_FOR ?uESCAPED ?wESCAPED ?uSTART ?uSTOP ?uBLANKS ?pg0Branch ?hd0Branch ?po0Branch ?sa0Branch ?ns0Branch ?na0Branch0name ?na0Branch0place ?na0Branch0parts ?na0Branch0waiting ?pg0Reader ?hd0Reader ?po0Reader ?sa0Reader ?ns0Reader ?na0Reader0book ?na0Reader0branches ?na0Reader0mends ?na0Reader0laid ?mk0Branch ?kp0Branch ?mk0Reader ?kp0Reader ?zall ?zany ?zenumerate ?zint ?zisinstance ?zlen ?zmax ?zrange ?zreversed ?zstr ?ztuple
  (case eBranch=>k_is);(case eReader=>k_is);(case a0=>k_is);(case F0=>x_go)
  (case a1=>k_is);(case F1=>x_go);(case a2=>k_is);(case F2=>x_go)
  (case a3=>k_is);(case F3=>x_go);(case a4=>k_is);(case F4=>x_go)
  (case a5=>k_is);(case F5=>x_go);(case a6=>k_is);(case F6=>x_go)
  (case a7=>k_is);(case F7=>x_go);(case a8=>k_is);(case F8=>x_go)
  (case a9=>k_is);(case F9=>x_go);(case a10=>k_is);(case F10=>x_go)
  (case a11=>k_is);(case F11=>x_go);(case a12=>k_is);(case F12=>x_go)
  (case a13=>k_is);(case F13=>x_go);(case a14=>k_is);(case F14=>x_go)
  (case a15=>k_is);(case F15=>x_go);(case a16=>k_is);(case F16=>x_go)
  (case a17=>k_is);(case F17=>x_go);(case a18=>k_is);(case F18=>x_go)
  (case a19=>k_is);(case F19=>x_go);(case a20=>k_is);(case F20=>x_go)
  (case a21=>k_is);(case F21=>x_go);(case a22=>k_is);(case F22=>x_go)
  (case a23=>k_is);(case F23=>x_go);(case a24=>k_is);(case F24=>x_go)
  (case a25=>k_is);(case F25=>x_go);(case a26=>k_is);(case F26=>x_go)
  (case a27=>k_is);(case F27=>x_go);(case a28=>k_is);(case F28=>x_go)
  (case a29=>k_is);(case F29=>x_go);(case a30=>k_is);(case F30=>x_go)
  (case a31=>k_is);(case F31=>x_go);(case a32=>k_is);(case F32=>x_go)
  (case a33=>k_is);(case F33=>x_go);(case a34=>k_is);(case F34=>x_go)
  (case a35=>k_is);(case F35=>x_go);(case a36=>k_is);(case F36=>x_go)
  (case a37=>k_is);(case F37=>x_go);(case a38=>k_is);(case F38=>x_go)
  (case a39=>k_is);(case F39=>x_go);(case a40=>k_is);(case F40=>x_go)
  (case a41=>k_is);(case F41=>x_go);(case a42=>k_is);(case F42=>x_go)
  (case a43=>k_is);(case F43=>x_go);(case a44=>k_is);(case F44=>x_go)
  (case a45=>k_is);(case F45=>x_go);(case a46=>k_is);(case F46=>x_go)
  (case fn46=>k_is);(case a47=>k_is);(case F47=>x_go);(case fn47=>k_is)
  (case a48=>k_is);(case F48=>x_go);(case fn48=>k_is);(case a49=>k_is)
  (case F49=>x_go);(case fn49=>k_is);(case a50=>k_is);(case F50=>x_go)
  (case fn50=>k_is);(case a51=>k_is);(case F51=>x_go);(case fn51=>k_is)
  (case a52=>k_is);(case F52=>x_go);(case fn52=>k_is);(case a53=>k_is)
  (case F53=>x_go);(case fn53=>k_is);(case a54=>k_is);(case F54=>x_go)
  (case fn54=>k_is);(case a55=>k_is);(case F55=>x_go);(case fn55=>k_is)
  (case a56=>k_is);(case F56=>x_go);(case fn56=>k_is);(case a57=>k_is)
  (case F57=>x_go);(case fn57=>k_is);(case a58=>k_is);(case F58=>x_go)
  (case fn58=>k_is);(case a59=>k_is);(case F59=>x_go);(case fn59=>k_is)
  (case a60=>k_is);(case F60=>x_go);(case fn60=>k_is);(case a61=>k_is)
  (case F61=>x_go);(case fn61=>k_is);(case a62=>k_is);(case F62=>x_go)
  (case fn62=>k_is);(case a63=>k_is);(case F63=>x_go);(case fn63=>k_is)
  (case uWALL_SORTS=>k_is);(case wWALL_SORTS=>k_is);(case uLONGEST_NAME=>k_is);(case uNAME=>k_is)
  (case uSORT=>k_is);(case uHOST=>k_is);(case uSHUTS=>k_is);(case uBARS=>k_is)
  (case uROOT_NAME=>k_is);(case uMOST_OPEN=>k_is);(case uTOLD_FOR=>k_is);(case wTOLD_FOR=>k_is)
  (case uESCAPED=>k_is);(case wESCAPED=>k_is);(case uSTART=>k_is);(case uSTOP=>k_is)
  (case uBLANKS=>k_is);(case pg0Branch=>k_is);(case hd0Branch=>k_is);(case po0Branch=>k_is)
  (case sa0Branch=>k_is);(case ns0Branch=>k_is);(case na0Branch0name=>k_is);(case na0Branch0place=>k_is)
  (case na0Branch0parts=>k_is);(case na0Branch0waiting=>k_is);(case pg0Reader=>k_is);(case hd0Reader=>k_is)
  (case po0Reader=>k_is);(case sa0Reader=>k_is);(case ns0Reader=>k_is);(case na0Reader0book=>k_is)
  (case na0Reader0branches=>k_is);(case na0Reader0mends=>k_is);(case na0Reader0laid=>k_is);(case mk0Branch=>k_is)
  (case kp0Branch=>k_is);(case mk0Reader=>k_is);(case kp0Reader=>k_is);(case zall=>k_is)
  (case zany=>k_is);(case zenumerate=>k_is);(case zint=>k_is);(case zisinstance=>k_is)
  (case zlen=>k_is);(case zmax=>k_is);(case zrange=>k_is);(case zreversed=>k_is)
  (case zstr=>k_is);(case ztuple=>k_is)
end
