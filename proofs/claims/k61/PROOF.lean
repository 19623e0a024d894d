import PyProof.Rows.All
import Wide.All
import OpenK.AllK
import Wide.FinOn
import Lean
import PyProof.EqAt
import PyProof.EqKinds
import PyProof.TupleCall
import PyProof.NeData
import PyProof.Rows.StrJoin2
import PyProof.Rows.SortStr
import PyProof.Rows.SortWalk
import KE.KRevIter
import PyProof.Rows.RuleN_isinstance
import PyProof.StrReplace2
import PyProof.StrWalks
import PyProof.Draws
import PyProof.EnumMake
import PyProof.Rows.StrNews2
import PyProof.StrLawsTight
import PyProof.StrLawsReplace
import PyProof.ConsumeWalk
import PyProof.StrLawsFrom
import PyProof.DictValues
import PyProof.Rows.SumAny
import PyProof.SeqI3
import PyProof.NoPylong
import PyProof.Rows.FStrParts
import PyProof.ListRange
import PyProof.ListStr
import PyProof.DictWalks
import PyProof.DictItemsLoops
import PyProof.FactsAll.dict_itemiterator_1
import PyProof.Rows.RegStrFacts
import KE.KDictList
import KE.KDictOf
import PyProof.AttrMissSeq
import PyProof.TupleIter
import PyProof.StrLawsFirst
import PyProof.ReprHeadsTuple
import PyProof.ReprLen
import PyProof.Rows.StrMul
import PySem.Challenge.RW_tagmend_k61_mends_as_they_come
set_option Elab.async false
set_option hygiene false
set_option linter.all false
set_option compiler.extract_closed false
set_option genSizeOf false
set_option bootstrap.genMatcherCode false
open List PySem
local macro_rules|`(#[0])=>`((by omega))|`(#[1,$x])=>`((tC (.int $x)))|`(#[2])=>`((rI (λ_ j=>0<j) λi j=>.int (i % j)))|`(#[3])=>`((hr.mono (by walk_at "le")))|`(#[4,$x])=>`((A1 (A0 $x) A5))
local macro_rules|`(#[5])=>`((by walk_at "n"))|`(#[6])=>`((Nat.le_refl _))|`(#[7])=>`((by decide))|`(#[8])=>`((model X.prog X.w))|`(#[9])=>`((room_here hu))
local macro_rules|`(#[10])=>`((model prog w))|`(#[11])=>`((by decide +kernel))|`(#[12])=>`((tUn (rU λi=>.int (-i)) #[1,1]))|`(#[13])=>`((rI qy1 λi j=>.int (i / j)))|`(#[14])=>`((starEach (e::es) X.env=(false,eval e X.env)::starEach es X.env))
local macro_rules|`(#[15])=>`((k == NameKind.free && env.scope.kind == .function && env.kindOf n == some .cell))|`(#[16])=>`((by rw[sizeLine_eq];omega))|`(#[17])=>`((TX.toks z.cps.toList 0 0))|`(#[18,$x])=>`((J4 rs rk (L7 st) 13 $x))|`(#[19])=>`((by with_unfolding_all rfl))
local macro_rules|`(#[20])=>`((J.go i H/\∃N:St->Hp->Prop,(∀σ' H',N σ' H'->∃m',m'<m/\W (i+1) m' σ' H')/\∀x H',J.yld i H x H'->g x σ H' λσ2 H2=>tb {D with nx:=N,ct:=N,bk:=D.nx} σ2 H2))|`(#[21])=>`((.ins qA x.x [(("name":Str),.str b.n),(("place":Str),.ref x.p),(("parts":Str),.ref x.q),(("waiting":Str),.ref w)]))|`(#[22,$x])=>`((Nat.ne_of_lt (Nat.lt_of_lt_of_le (Heap.lt_size e) $x)))|`(#[23,$x])=>`((.lst (B0 $x)))|`(#[24,$x])=>`((N1 R1 rfl T.z_len boot_len (A4 $x B4)))
local macro_rules | `(tactic| omega) => `(tactic| lia)
local macro_rules | `(tactic| walk_at "tk") => `(tactic| first | exact Nat.succ_pos _ | assumption | exact L2.Inv.tk ‹_› | omega)
local macro_rules | `(tactic| z_go) => `(tactic| first | exact Nat.le_of_ble_eq_true rfl | simp)
local macro_rules | `(tactic| walk_at "or") => `(tactic| first | exact .inl rfl | exact .inr rfl)
local macro_rules | `(tactic| walk_at "le") => `(tactic| first | decide | omega)
local macro_rules | `(tactic| walk_at "k") => `(tactic| exact ⟨rfl, rfl, rfl, by decide +kernel, rfl, by decide +kernel, by decide +kernel⟩)
local macro_rules | `(tactic| walk_at "n") => `(tactic| (intro _ _ _ _ zh; repeat (first | (obtain ⟨rfl, _⟩ := zh; rfl) | obtain ⟨_, zh⟩ := zh)))
local macro_rules|`(tactic|walk_at"0")=>`(tactic|(
 intro X hP hw hK hc i pins s σ H E I hf st hg
 subst hP hw hK))
local macro_rules|`(tactic|walk_at"1")=>`(tactic|(
 intro pins s σ H x y v u Q I rx ry h
 obtain⟨i,j,rfl,rfl,q⟩:=h
 obtain⟨t,rfl⟩:=rx
 obtain⟨t',rfl⟩:=ry))
local macro_rules|`(tactic|walk_at"2")=>`(tactic|(
 lk
 refine C2 ?_
 lk))
local macro_rules|`(tactic|walk_at"3")=>`(tactic|(
 lk
 refine C5 ?_
 lk
 refine⟨r,_,_,rfl,h.o,rfl,?_⟩
 lk))
local macro_rules|`(tactic|walk_at"4")=>`(tactic|(
 obtain rfl:=E2 cz.ns_Reader h.kr
 obtain rfl:=E2 cz.ns_Branch h.kb))
local macro_rules|`(tactic|walk_at"5")=>`(tactic|(
 have q:=qe9 xs ys A.in1 s _ _ _ _ h4 k4 ha hb (room_in hu) j (by simpa using h1) (by simpa using h2)
 rw[Array.getElem_toList,Array.getElem_toList] at q
 exact q))
local macro_rules|`(tactic|walk_at"6")=>`(tactic|(
 show wpAny _ _ (field (.ref it) 0 >>= _) _ _ s
 refine wpAny_bind (wpAny_field ho hd (x:=.ref l) rfl ?_)
 show wpAny _ _ (if(Value.ref l == Value.none)=true then _ else _) _ _ s
 rw[if_neg (show ¬((Value.ref l == Value.none)=true) from Bool.false_ne_true)]
 show wpAny _ _ (field (.ref it) 1 >>= _) _ _ s
 refine wpAny_bind (wpAny_field ho hd (x:=.int i 0) rfl ?_)
 show wpAny _ _ (seqItems? (.ref l) >>= _) _ _ s
 refine wpAny_bind (wpAny_seqItems hol hdl ?_)))
local macro_rules|`(tactic|walk_at"7")=>`(tactic|intro pins s σ H x y v u Q I rx ry h)
local macro_rules|`(tactic|walk_at"8")=>`(tactic|(
 have l1:vs.size=xs.length:=by simpa using G4 h4
 have l2:ws.size=ys.length:=by simpa using G4 k4
 rw[L2.nd] at ha hb
 rw[PyData.depth,PyData.depth] at hu))
local macro_rules|`(tactic|walk_at"9")=>`(tactic|have gl:z.cps.toList.length=z.length:=Array.length_toList)
local macro_rules|`(tactic|walk_at"10")=>`(tactic|(
 rw[Dvs] at hwd;obtain⟨v0,r0,rfl,d0,hwd⟩:=hwd
 rw[Dvs] at hwd;obtain⟨v1,r1,rfl,d1,hwd⟩:=hwd
 rw[Dvs] at hwd;obtain⟨v2,r2,rfl,d2,hwd⟩:=hwd))
local macro_rules|`(tactic|walk_at"11")=>`(tactic|(
 refine⟨x.o,_,x.x,_,_,rfl,hx.o,cz.cl_Branch,cz.na_Branch_parts,rfl,?_⟩
 lk))
local macro_rules|`(tactic|walk_at"12")=>`(tactic|obtain⟨f0,f1,f2,f3,f4,f5⟩:=hf it (by simp))
local macro_rules|`(tactic|walk_at"13")=>`(tactic|(
 obtain⟨b0,bs0,eb0⟩:=exists_cons_of_ne_nil bg.ne
 have hnm:L7 st=bs0.map Brn.n:=by unfold L7;rw[eb0];rfl
 have hbl:=bg.l
 have hl0:bs0.length<=20:=by rw[eb0] at hbl;simp at hbl;omega
 have hms:=bg.m))
local macro_rules|`(tactic|walk_at"14")=>`(tactic|refine⟨r,_,a.x,_,_,rfl,h.o,cz.cl_Reader,cz.na_Reader_branches,rfl,?_⟩)
local macro_rules|`(tactic|walk_at"15")=>`(tactic|(
 have ne:p≠s.heap.objs.size:=Nat.ne_of_lt (by obtain⟨o,e,_⟩:=pl.isList;exact Heap.lt_size e)
 refine⟨_,_,_,_,_,_,λi=>(bs[i]?).getD false,rfl,Walks.list (show X.A.in1.handled=none from I.ok.hd hc) s.heap.objs.size p ne _,⟨⟨_,Heap.get?_push_size _ rfl,rfl,rfl⟩,pl.isList.at λo e=>Heap.get?_push_of_some _ e⟩,?_,λh' tk hk ht=>?_⟩))
local macro_rules|`(tactic|walk_at"16")=>`(tactic|(
 lk
 refine⟨C7 (by z_go),λp hp=>?_⟩))
local macro_rules|`(tactic|walk_at"17")=>`(tactic|(
 lk
 refine⟨.inl ⟨rfl,_,SqL.of e2⟩,?_⟩
 lk
 refine E7 e2 (by rw[B2,hkl,sizeLine_eq];omega) ?_
 lk
 exact .mk (A3.put s2 hl _) (by rw[A2,hks,ez];unfold B0;rw[map_append];rfl)))
local macro_rules|`(tactic|walk_at"18")=>`(tactic|(
 lk
 refine C5 ?_
 lk))
local macro_rules|`(tactic|walk_at"19")=>`(tactic|have hl:z.cps.toList.length=z.length:=Array.length_toList)
local macro_rules|`(tactic|walk_at"20")=>`(tactic|(
 have e:b=s1.heap.objs.size:=by simpa using hb
 subst e
 exact I1.fpOk #[6] (I1.hok.fresh #[6])))
local macro_rules|`(tactic|walk_at"21")=>`(tactic|(
 refine wpAny_bind ?_
 simp only[newExc,newTuple]
 refine wpAny_bind (wpAny_newObj_type ?_ (by size_fits))
 refine wpAny_bind (m:=firstArgMember _ _) (wpAny_of_eq (a:=Value.none) (by first|rfl|(simp only[firstArgMember];rfl)) ?_)
 refine wpAny_newObj_type ?_ (by size_fits)
 simp only[raiseNew]
 refine wpAny_bind (wpAny_handled ?_)))
local macro_rules|`(tactic|walk_at"22")=>`(tactic|intro pins s σ H Q I h)
local macro_rules|`(tactic|walk_at"23")=>`(tactic|refine⟨r,_,a.x,_,_,rfl,h.o,cz.cl_Reader,cz.na_Reader_book,rfl,?_⟩)
local macro_rules|`(tactic|walk_at"24")=>`(tactic|(
 lk
 refine⟨C7 (by z_go),λt ht=>?_⟩
 have s2:=A3.tr s1 (A3.new ht (.tup [.str "plain",.str "anew"]))
 have e2:(upd H' t (.tup [.str "plain",.str "anew"])) t=some (.tup [.str "plain",.str "anew"]):=A2
 refine .inl (yi6 (xs:=B0 [("plain":Str), "anew"]) (.inr (SqT.of e2)) rfl (W7 _) ?_)))
local macro_rules|`(tactic|walk_at"25")=>`(tactic|(
 intro pins s σ H x v vl vu lo hi sl Q I rx hs pl pu h
 obtain⟨a,xs,rfl,hx,hw,q⟩:=h
 cases rx
 obtain⟨its,r,ht,hz⟩:=I.tuple hx
 have hlen:its.toArray.size=xs.length:=by rw[size_toArray];exact r.length.symm
 refine⟨"tuple",_,PyProof.Rows.slot_tuple_getitem.lookup,ht.typeIs,?_⟩))
local macro_rules|`(tactic|walk_at"26")=>`(tactic|refine A9 ?_ ?_)
local macro_rules|`(tactic|walk_at"27")=>`(tactic|(
 refine⟨o,_,x,_,_,rfl,u8.ok.ob,cf.cl_Feed,cf.na_Feed_reader,rfl,?_⟩
 lk
 refine⟨r,_,a8.x,_,_,rfl,u8.ok.rd.o,cz.cl_Reader,cz.na_Reader_mends,rfl,?_⟩
 lk
 obtain⟨dm,em⟩:=mx
 obtain⟨us8,m1,m2⟩:=u8.ok.rd.m
 rw[em,map_append] at m2
 obtain⟨w1,w2,rfl,m3,m4⟩:=xp5.mp m2))
local macro_rules|`(tactic|walk_at"28")=>`(tactic|(
 obtain⟨v1,r1,rfl,w1,dv4⟩:=(show ∃v r,vs4=v::r/\_ from by rw[Dvs] at dv4;exact dv4)
 obtain⟨v2,r2,rfl,w2,dv4⟩:=(show ∃v r,r1=v::r/\_ from by rw[Dvs] at dv4;exact dv4)
 obtain⟨v3,r3,rfl,w3,dv4⟩:=(show ∃v r,r2=v::r/\_ from by rw[Dvs] at dv4;exact dv4)))
local macro_rules|`(tactic|walk_at"29")=>`(tactic|(
 have hb:=h.b
 rw[ea,eb] at hb
 have hx:=(hb.split hl).2.1
 have xnd:=h.xnd ea
 have no:x.o≠x.q:=by simp[BA.fp] at xnd;exact xnd.1.1))
local macro_rules|`(tactic|walk_at"30")=>`(tactic|(
 have e5:=yk8 (rs:=rs) (st:=sj) (pre:=[]) (cl:=cl) (b:=b0) (i:=z.length) (rule := "end") eb
 have e6:rdS rs rk z={sj with bs:=wUp rs (·++qa6 rs (cl.map Brn.n)) [{b0 with ps:=b0.ps++X4 cl}],ms:=sj.ms++cl.reverse.map (clM z.length "end")}:=erd.trans e5))
local macro_rules|`(tactic|walk_at"31")=>`(tactic|(
 refine wpAny_with_toks (n:=1) I.tk (W.item i s _ _ hg st λv h' tk hv st' kk ht=>?_)
 have ht:0<tk:=ht
 obtain⟨t,rfl⟩:=hv
 have I1:Inv X pins σ H {s with heap:=h',toks:=tk}:=I.turned (λb o hb e=>kk b o (by simpa using hb) e) f0 f1 f3 f4 f5))
local macro_rules|`(tactic|walk_at"32")=>`(tactic|obtain⟨x,H1,I1,r1,q1⟩:=zq)
local macro_rules|`(tactic|walk_at"33")=>`(tactic|intro pins s σ H x vs v us Q I rx rv h)
local macro_rules|`(tactic|walk_at"34")=>`(tactic|(
 have erd:rdS rs rk z=qg7 rs (qp4 rs rk z) 0 z.length "end":=rfl
 generalize qp4 rs rk z=sj at *
 obtain⟨b0,cl,eb⟩:=exists_cons_of_ne_nil bj'.ne
 have hl:=bj'.l
 have hm:=bj'.m
 have hcl:cl.length<=20:=by rw[eb] at hl;simp at hl;omega))
local macro_rules|`(tactic|walk_at"35")=>`(tactic|intro pins s σ H xs us Q I r h)
local macro_rules|`(tactic|walk_at"36")=>`(tactic|have hc:=ql9 (l:=z.cps.toList) n 0 0 (by omega))
local macro_rules|`(tactic|walk_at"37")=>`(tactic|(
 refine C2 ?_
 refine C2 ?_
 lk
 refine⟨o,_,x,_,_,rfl,u1.ok.ob,cf.cl_Feed,cf.na_Feed_reader,rfl,?_⟩
 lk
 refine⟨r,_,a.x,_,_,rfl,u1.ok.rd.o,cz.cl_Reader,cz.na_Reader_mends,rfl,?_⟩
 lk
 obtain⟨us1,n1,n2⟩:=u1.ok.rd.m))
local macro_rules|`(tactic|walk_at"38")=>`(tactic|(
 have e:b=it:=by simpa using hb
 subst e
 obtain⟨o,e,c,d⟩:=st
 exact⟨o,e,λv z=>by rw[d] at z;cases z⟩))
local macro_rules|`(tactic|walk_at"39")=>`(tactic|(
 obtain⟨d,e,hx,hy,hz,q⟩:=h
 obtain⟨as,ra⟩:=Dv.reads I d x v hx rx
 obtain⟨bs,rb⟩:=Dv.reads I e y u hy ry
 have hroom:X.A.units+min d.depth e.depth<cLine:=Nat.lt_of_le_of_lt (Nat.add_le_add_left hz _) hu))
theorem zAu(a:True:=by rfl)(b:True:=by decide)(c:0<1:=by walk_at "tk")(d:True:=by intro _;rfl)(e:True:=by first|exact .inl rfl|exact .inr rfl|assumption):True:=a
def zAr:Lean.Syntax:=zAu._auto_1
def zAd:Lean.Syntax:=zAu._auto_2
def zAt:Lean.Syntax:=zAu._auto_3
def zAi:Lean.Syntax:=zAu._auto_4
def zAf:Lean.Syntax:=zAu._auto_5
namespace PySem.W.Fast
theorem tw8791948757560935535:True:=⟨⟩
theorem tw14951558176387371781:True:=⟨⟩
theorem tw1945399273646352741:True:=⟨⟩
theorem tw7171466348317675429:True:=⟨⟩
theorem tw6684890076279502197:True:=⟨⟩
theorem tw15488485609080474960:True:=⟨⟩
theorem tw13918879696919072704:True:=⟨⟩
theorem tw15302657048901719888:True:=⟨⟩
theorem tw3207520371612479299:True:=⟨⟩
theorem tw9116778033673867119:True:=⟨⟩
theorem tw8064629825275901282:True:=⟨⟩
theorem tw10605731467209029330:True:=⟨⟩
theorem tw16089105844065838811:True:=⟨⟩
theorem tw14026986169500705479:True:=⟨⟩
theorem tw16826621907252895129:True:=⟨⟩
theorem tw17140854300344884302:True:=⟨⟩
theorem tw5253634122882922766:True:=⟨⟩
theorem tw17920527922338387790:True:=⟨⟩
theorem tw717389680999932633:True:=⟨⟩
theorem tw8519794899239689179:True:=⟨⟩
theorem tw1663594086263371538:True:=⟨⟩
theorem tw5800300656001106918:True:=⟨⟩
theorem tw6682442023348413745:True:=⟨⟩
theorem tw10222690303272684349:True:=⟨⟩
theorem tw10114986084223585742:True:=⟨⟩
theorem tw1218993968242592094:True:=⟨⟩
theorem tw6409727031652119450:True:=⟨⟩
theorem tw12911095300926401171:True:=⟨⟩
theorem tw17093247950297259490:True:=⟨⟩
theorem tw10538686552432398965:True:=⟨⟩
theorem tw10442835624104889757:True:=⟨⟩
theorem tw12608275582767092656:True:=⟨⟩
theorem tw14851012853544744420:True:=⟨⟩
theorem tw10347228069676293700:True:=⟨⟩
theorem tw13303554460268475047:True:=⟨⟩
theorem tw3321726836362161482:True:=⟨⟩
theorem tw17402362451693894032:True:=⟨⟩
theorem tw6026282896414905780:True:=⟨⟩
theorem tw7631973962739329903:True:=⟨⟩
theorem tw17134529178426267089:True:=⟨⟩
theorem tw6337228717072941094:True:=⟨⟩
theorem tw9313281210547473672:True:=⟨⟩
theorem tw6747382781573503218:True:=⟨⟩
theorem tw5829732624555463626:True:=⟨⟩
theorem tw8606231913763359880:True:=⟨⟩
theorem tw13133198511997369454:True:=⟨⟩
theorem tw12907500512268662868:True:=⟨⟩
theorem tw4760611926706728925:True:=⟨⟩
theorem tw47274436621491519:True:=⟨⟩
theorem tw14838681375117732890:True:=⟨⟩
theorem tw727886251023542151:True:=⟨⟩
theorem tw741874901641866063:True:=⟨⟩
theorem tw16566348497277992341:True:=⟨⟩
theorem tw7649145269470151296:True:=⟨⟩
theorem tw12774593210345551011:True:=⟨⟩
theorem tw9200667090163907188:True:=⟨⟩
theorem tw3982421733105513375:True:=⟨⟩
theorem tw822844029679342130:True:=⟨⟩
theorem tw2316528556047992671:True:=⟨⟩
theorem tw12941691122289853152:True:=⟨⟩
theorem tw12575312879146671931:True:=⟨⟩
theorem tw11376669774989164389:True:=⟨⟩
theorem tw5894561660163902215:True:=⟨⟩
theorem tw8391750871025793894:True:=⟨⟩
theorem tw2333653297333042175:True:=⟨⟩
theorem tw379720660182519542:True:=⟨⟩
theorem tw13771952236344780253:True:=⟨⟩
theorem tw3941007397245516180:True:=⟨⟩
theorem tw4469719582748182629:True:=⟨⟩
theorem tw3805584199225355555:True:=⟨⟩
theorem tw12383696155108391370:True:=⟨⟩
theorem tw5004390172539107596:True:=⟨⟩
theorem tw2877870124222324877:True:=⟨⟩
theorem tw6348989728407056248:True:=⟨⟩
theorem tw8576723761293611356:True:=⟨⟩
theorem tw4858006957796704508:True:=⟨⟩
theorem tw7979197852661438178:True:=⟨⟩
theorem tw2246629913008089497:True:=⟨⟩
theorem tw13238357582740936755:True:=⟨⟩
theorem tw14911425126765525855:True:=⟨⟩
theorem tw15377299897333462301:True:=⟨⟩
theorem tw15033936958913477066:True:=⟨⟩
theorem tw10524723819371816680:True:=⟨⟩
theorem tw7720655237944052567:True:=⟨⟩
theorem tw17699703336937046250:True:=⟨⟩
theorem tw1659508562184020313:True:=⟨⟩
theorem tw11502785876614735722:True:=⟨⟩
theorem tw11839766418426879252:True:=⟨⟩
theorem tw1617558631702020132:True:=⟨⟩
theorem tw812846984944559846:True:=⟨⟩
theorem tw153907380539405905:True:=⟨⟩
theorem tw17567096225031258558:True:=⟨⟩
theorem tw15039350710608230569:True:=⟨⟩
theorem tw12083582219605385882:True:=⟨⟩
theorem tw16523875901909079139:True:=⟨⟩
theorem tw12515261376068053678:True:=⟨⟩
theorem tw11265037378042792110:True:=⟨⟩
theorem tw8000279146242344909:True:=⟨⟩
theorem tw2295737904334497384:True:=⟨⟩
theorem tw6173439182063277225:True:=⟨⟩
theorem tw2641465720103733148:True:=⟨⟩
theorem tw6938518004439666376:True:=⟨⟩
theorem tw8836702280642287708:True:=⟨⟩
theorem tw2319300408738311335:True:=⟨⟩
theorem tw15031492147975190512:True:=⟨⟩
theorem tw1761257671225552210:True:=⟨⟩
theorem tw17660605484643481328:True:=⟨⟩
theorem tw11034993325245371736:True:=⟨⟩
theorem tw11495327243606114356:True:=⟨⟩
theorem tw5071014676272857610:True:=⟨⟩
theorem tw3257766130025968813:True:=⟨⟩
theorem tw5318696745714122684:True:=⟨⟩
theorem tw1837189913077669144:True:=⟨⟩
theorem tw17695485369523225900:True:=⟨⟩
theorem tw3206877264656882776:True:=⟨⟩
theorem tw1345265055856618805:True:=⟨⟩
theorem tw13917711038899772629:True:=⟨⟩
theorem tw628746129534371335:True:=⟨⟩
theorem tw4178818615365738513:True:=⟨⟩
theorem tw10142044223401737330:True:=⟨⟩
theorem tw1359542900185764096:True:=⟨⟩
theorem tw16195102152700802023:True:=⟨⟩
theorem tw3515261402128711849:True:=⟨⟩
theorem tw7892539619756041338:True:=⟨⟩
theorem tw17605391407410032688:True:=⟨⟩
theorem tw13781959975846770772:True:=⟨⟩
theorem tw7601258485986021528:True:=⟨⟩
theorem tw518502898938489657:True:=⟨⟩
theorem tw10433894628035005296:True:=⟨⟩
theorem tw2299807568426057843:True:=⟨⟩
theorem tw12773236172987469784:True:=⟨⟩
theorem tw11778866059609607398:True:=⟨⟩
theorem tw55407758991350511:True:=⟨⟩
theorem tw3977170578219940337:True:=⟨⟩
theorem tw8136853402827723624:True:=⟨⟩
theorem tw15995604929464977182:True:=⟨⟩
theorem tw6193737144213684610:True:=⟨⟩
theorem tw5075561455364224616:True:=⟨⟩
theorem tw16362622149374029502:True:=⟨⟩
theorem tw16553620868142175881:True:=⟨⟩
theorem tw15478654175916561487:True:=⟨⟩
theorem tw342903554869254238:True:=⟨⟩
theorem tw12976802669960135732:True:=⟨⟩
theorem tw5942698242973770087:True:=⟨⟩
theorem tw2708185738891275613:True:=⟨⟩
theorem tw610677151376424483:True:=⟨⟩
theorem tw2479961672238443416:True:=⟨⟩
theorem tw14991530075335600878:True:=⟨⟩
theorem tw6970205018287592460:True:=⟨⟩
theorem tw318369995511225859:True:=⟨⟩
theorem tw9500418270836960132:True:=⟨⟩
theorem tw17060676153770181383:True:=⟨⟩
theorem tw3404395692485669772:True:=⟨⟩
theorem tw1799463135915357298:True:=⟨⟩
theorem tw2599459277299124438:True:=⟨⟩
theorem tw13814276038310712410:True:=⟨⟩
theorem tw6109672209690334551:True:=⟨⟩
theorem tw3101149180744987470:True:=⟨⟩
theorem tw14397701910229619295:True:=⟨⟩
theorem tw12361311203202175021:True:=⟨⟩
theorem tw16579905467749534988:True:=⟨⟩
theorem tw12168107659855176943:True:=⟨⟩
theorem tw12450253422905000921:True:=⟨⟩
theorem tw14352550733549931186:True:=⟨⟩
theorem tw6835950982145849808:True:=⟨⟩
theorem tw7800556591539875721:True:=⟨⟩
theorem tw16185234575977057132:True:=⟨⟩
theorem tw9819426829909895321:True:=⟨⟩
theorem tw10025032509778864469:True:=⟨⟩
theorem tw8122338547537188827:True:=⟨⟩
theorem tw10027364423046334803:True:=⟨⟩
theorem tw4998376979593936984:True:=⟨⟩
theorem tw4324915604457930998:True:=⟨⟩
theorem tw9647671451764191219:True:=⟨⟩
theorem tw17805039746663032727:True:=⟨⟩
theorem tw9020467339892432554:True:=⟨⟩
theorem tw13607233590111639192:True:=⟨⟩
theorem tw5779576066061806325:True:=⟨⟩
theorem tw5608883201691321080:True:=⟨⟩
theorem tw10495526886287144748:True:=⟨⟩
theorem tw4972940924151765165:True:=⟨⟩
theorem tw13264421513768491294:True:=⟨⟩
theorem tw3578843117447557275:True:=⟨⟩
theorem tw17167232070565595249:True:=⟨⟩
theorem tw11813749278075010015:True:=⟨⟩
theorem tw12239390672477150677:True:=⟨⟩
theorem tw10737230659164508525:True:=⟨⟩
theorem tw10793565958135926682:True:=⟨⟩
theorem tw15844942087947718857:True:=⟨⟩
theorem tw5119752137497422816:True:=⟨⟩
theorem tw9998189619730534523:True:=⟨⟩
theorem tw2821326987836515593:True:=⟨⟩
theorem tw7326551606671672316:True:=⟨⟩
theorem tw17173691946662932647:True:=⟨⟩
theorem tw15258568082712933024:True:=⟨⟩
theorem tw16453379667401020129:True:=⟨⟩
theorem tw7041363320801087632:True:=⟨⟩
theorem tw10760177463252348062:True:=⟨⟩
theorem tw1001277714954257974:True:=⟨⟩
theorem tw10928284693123565730:True:=⟨⟩
end PySem.W.Fast
noncomputable section
abbrev Fg:=PySem.W.Frag
set_option maxRecDepth 100000
namespace L2
open PySem PySem.Spec PyProof.Rows
abbrev Key:=Sum Int Str
noncomputable def xp6:Key->Value->Bool
 | .inl k,v=>Value.isInt k v
 | .inr x,v=>Value.isStrOf x v
noncomputable def At7(w:World):Key->Int
 | .inl k=>hashInt k
 | .inr x=>hashStr w x
theorem P5:∀{k:Key} {v:Value},xp6 k v=true->(∃i t,k=Sum.inl i/\v=Value.int i t)\/(∃x t,k=Sum.inr x/\v=Value.str x t)
 | .inl i,v,h=>by
   obtain⟨t,e⟩:=Value.isInt_shape (k:=i) (v:=v) h;exact .inl ⟨i,t,rfl,e⟩
 | .inr x,v,h=>by
   obtain⟨t,e⟩:=Value.isStrOf_shape (x:=x) (v:=v) h;exact .inr ⟨x,t,rfl,e⟩
theorem zf3(i:Int)(t:Tok):xp6 (.inl i) (.int i t)=true:=by simp[xp6,Value.isInt]
theorem zf4(x:Str)(t:Tok):xp6 (.inr x) (.str x t)=true:=by simp[xp6,Value.isStrOf]
theorem Ah0(a b:Int):decide ((Sum.inl a:Key)=Sum.inl b)=(a == b):=by
 by_cases e:a=b
 ·subst e;simp
 ·have h:¬(Sum.inl a:Key)=Sum.inl b:=λq=>e (Sum.inl.inj q);rw[decide_eq_false h];exact(beq_eq_false_iff_ne.mpr e).symm
theorem Ah1(a b:Str):decide ((Sum.inr a:Key)=Sum.inr b)=decide (a=b):=by
 by_cases e:a=b
 ·subst e;simp
 ·have h:¬(Sum.inr a:Key)=Sum.inr b:=λq=>e (Sum.inr.inj q);rw[decide_eq_false h,decide_eq_false e]
theorem Ah2(a:Int)(b:Str):decide ((Sum.inl a:Key)=Sum.inr b)=false:=decide_eq_false (λq=>nomatch q)
theorem Ah3(a:Str)(b:Int):decide ((Sum.inr a:Key)=Sum.inl b)=false:=decide_eq_false (λq=>nomatch q)
noncomputable def R4(prog:Program)(w:World):PySem.KeyKind prog w Key where
 is:=xp6
 hash:=At7 w
 inj:=λv a b ha hb=>by
  rcases P5 ha with⟨i,t,rfl,rfl⟩|⟨x,t,rfl,rfl⟩
  ·rcases P5 hb with⟨j,u,rfl,e⟩|⟨y,u,rfl,e⟩
   ·injection e with e1 _;rw[e1]
   ·exact nomatch e
  ·rcases P5 hb with⟨j,u,rfl,e⟩|⟨y,u,rfl,e⟩
   ·exact nomatch e
   ·injection e with e1 _;rw[e1]
 byValue:=λk v h=>by
  rcases P5 h with⟨i,t,rfl,rfl⟩|⟨x,t,rfl,rfl⟩ <;> rfl
 pyHash:=λhv h=>by
  rcases P5 hv with⟨i,t,rfl,rfl⟩|⟨x,t,rfl,rfl⟩
  ·exact wpAny_pyHash_int h
  ·exact wpAny_pyHash_str h
 eqBool:=λhu hv h=>by
  rcases P5 hu with⟨i,t,rfl,rfl⟩|⟨x,t,rfl,rfl⟩
  ·rcases P5 hv with⟨j,u,rfl,rfl⟩|⟨y,u,rfl,rfl⟩
   ·rw[Ah0] at h;exact wpAny_eqBool_int h
   ·rw[Ah2] at h;exact SeqAt.EqAt.int_str i t y u _ _ _ _ h
  ·rcases P5 hv with⟨j,u,rfl,rfl⟩|⟨y,u,rfl,rfl⟩
   ·rw[Ah3] at h;exact SeqAt.EqAt.str_int x t j u _ _ _ _ h
   ·rw[Ah1] at h;exact wpAny_eqBool_str h
 «strs»:=λk x t v h=>by
  rcases P5 h with⟨i,u,rfl,e⟩|⟨y,u,rfl,e⟩
  ·exact nomatch e
  ·injection e with e1 _;subst e1;cases v <;> rfl
theorem yn1(prog:Program)(w:World)(i:Int)(t:Tok):(R4 prog w).is (.inl i) (.int i t)=true:=zf3 i t
theorem yn2(prog:Program)(w:World)(x:Str)(t:Tok):(R4 prog w).is (.inr x) (.str x t)=true:=zf4 x t
inductive V where
 | non|bl (b:Bool)|int (i:Int)|str (x:Str)|byt (b:Array UInt8)|flt (b:UInt64)|ref (a:Addr)|ty (n:String)
 deriving DecidableEq
def D8:V->Value->Prop
 | .non,u=>u=Value.none
 | .bl b,u=>u=Value.bool b
 | .int i,u=>∃t,u=Value.int i t
 | .str x,u=>∃t,u=Value.str x t
 | .byt b,u=>∃t,u=Value.bytes b t
 | .flt b,u=>∃t,u=Value.float b t
 | .ref a,u=>u=Value.ref a
 | .ty n,u=>u=Value.type n
abbrev D3:List V->List Value->Prop:=Paired D8
variable{us:List Value}{xs:List V}
theorem D3.length(r:D3 xs us):xs.length=us.length:=Paired.length r
theorem D3.get:∀{xs:List V} {us:List Value} {i:Nat} {x:V},D3 xs us->xs[i]?=some x->∃u,us[i]?=some u/\D8 x u
 | _,_,_,_,.nil,e=>by simp at e
 | _,_,0,_,.cons r _,e=>by simp at e;subst e;exact⟨_,rfl,r⟩
 | _,_,i+1,x,.cons _ t,e=>by
   obtain⟨u,h1,h2⟩:=D3.get (i:=i) (x:=x) t (by simpa using e);exact⟨u,by simpa using h1,h2⟩
theorem D3.set{x:V}{u:Value}(r:D8 x u):∀{xs:List V} {us:List Value} (i:Nat),D3 xs us->D3 (xs.set i x) (us.set i u)
 | _,_,_,.nil=>.nil
 | _,_,0,.cons _ t=>.cons r t
 | _,_,i+1,.cons q t=>.cons q (D3.set r i t)
theorem D3.append:∀{xs ys:List V} {us ws:List Value},D3 xs us->D3 ys ws->D3 (xs++ys) (us++ws)
 | _,_,_,_,.nil,s=>s
 | _,_,_,_,.cons r t,s=>.cons r (D3.append t s)
theorem D3.take:∀{xs:List V} {us:List Value} (n:Nat),D3 xs us->D3 (xs.take n) (us.take n)
 | _,_,0,_=>.nil
 | _,_,_+1,.nil=>.nil
 | _,_,n+1,.cons r t=>.cons r (D3.take n t)
theorem D3.drop:∀{xs:List V} {us:List Value} (n:Nat),D3 xs us->D3 (xs.drop n) (us.drop n)
 | _,_,0,r=>r
 | _,_,_+1,.nil=>.nil
 | _,_,n+1,.cons _ t=>D3.drop n t
def wq0:Option V->Option Value->Prop
 | some v,some u=>D8 v u
 | none,none=>True
 | _,_=>False
def KV{κ:Type}:List (κ×V)->List (κ×Value)->Prop:=Paired λ(p:κ×V) (q:κ×Value)=>p.1=q.1/\D8 p.2 q.2
noncomputable def kV:Key->V
 | .inl i=>.int i
 | .inr x=>.str x
set_option genInjectivity false in
inductive HO where
 /-- a list -/
 | lst (xs:List V)
 /-- a tuple (never changes) -/
 | tup (xs:List V)
 /-- a dict whose keys are ints and texts;one whose keys are tuples of ints and texts (the empty one is both) -/
 | dK (kvs:List (Key×V))|dT (kvs:List (List Key×V))
 /-- a set of ints: its members,its size -/
 | set (S:Int->Bool) (n:Nat)
 /-- an instance of the class at C,its dict at dx,its attributes -/
 | ins (C dx:Addr) (fs:List (Str×V))
 /-- the dict of the instance at x -/
 | own (x:Addr)
 /-- the dict of an exception -/
 | xd (fs:List (Str×V))
 /-- a bound method,f of x -/
 | met (f x:Addr)
 /-- a range object lo,lo+1,.. below hi -/
 | rng (lo hi:Int)
 /-- a thing that is known to the object (the script;a dict while a loop walks it): read,never written while it is so -/
 | frz (o:Obj) (u:HO)
 /-- a code object's table -/
 | tbl (ps:Array Value)
 /-- any other thing,by what is true of its one object (a def of one's own: SetO a S n:=HO.ext λh=>..) -/
 | ext (φ:Heap->Prop)
abbrev Hp:=Addr->Option HO
noncomputable def upd(H:Hp)(a:Addr)(o:HO):Hp:=λb=>if b=a then some o else H b
variable{H:Hp}{a:Addr}
theorem A2{o:HO}:upd H a o a=some o:=by unfold upd;rw[if_pos rfl]
variable{b:Addr}
theorem A8{o:HO}(h:b≠a):upd H a o b=H b:=by unfold upd;rw[if_neg h]
theorem Ao2{o u:HO}(h:H a=some o)(h':H b=some u)(d:o≠u):a≠b:=by
 intro e;subst e;rw[h] at h';exact d (Option.some.inj h')
theorem U8{o:HO}(h:H a=some o)(h':H b=none):a≠b:=by
 intro e;subst e;rw[h] at h';cases h'
section
variable(P:Program)(w:World)
def Q8(H:Hp)(h:Heap)(a:Addr):HO->Prop
 | .lst xs=>xs.length<=sizeLine/\∃(its:List Value) (n:Nat),D3 xs its/\h.get? a=some {cls:=.type "list",data:=.seq its.toArray n}
 | .tup xs=>xs.length<=sizeLine/\∃its:List Value,D3 xs its/\IsTup h a its.toArray
 | .dK kvs=>kvs.length<=sizeLine/\(a == sysModules)=false/\∃vs,KV kvs vs/\h.DictOf (R4 P w) a vs
 | .dT kvs=>kvs.length<=sizeLine/\(a == sysModules)=false/\∃xs:List (List Key×Addr×Value),
  Paired (λ(p:List Key×V) (q:List Key×Addr×Value)=>p.1=q.1/\H q.2.1=some (.tup (p.1.map kV))/\D8 p.2 q.2.2) kvs xs /\
  ∃o es ep,h.get? a=some o/\o.ExactDict/\o.data=.dict es ep/\es.toList=xs.map (entryOfKey (tupleKind (R4 P w)))/\(xs.map (·.1)).Nodup
 | .set S n=>h.SetOf (intKind P w) a S n
 | .ins C dx fs=>H dx=some (.own a)/\fs.length<=1000/\dx≠a/\h.get? a=some (PySem.W.instObj C dx) /\
  ∃mA,h.Ns1 dx mA/\(∀f,wq0 (fs.lookup f) (mA f))/\PySem.Within mA (fs.map (·.1))
 | .own _=>∃o,h.get? a=some o
 | .xd fs=>∃mA,h.Ns1 a mA/\∀f,wq0 (fs.lookup f) (mA f)
 | .rng lo hi=>∃t u v,h.get? a=some {cls:=.type "range",data:=.fields #[.int lo t,.int hi u,.int 1 v]}
 | .frz o u=>h.get? a=some o/\Q8 H h a u
 | .tbl ps=>h.get? a=some {cls:=.none,data:=.fields ps}
 | .met f x=>h.get? a=some (PySem.W.methodObj (.ref f) (.ref x))
 | .ext φ=>φ h/\(∃o,h.get? a=some o)/\∀h1 h2:Heap,φ h1->(∀o,h1.get? a=some o->h2.get? a=some o)->φ h2
def HOk(H:Hp)(h:Heap):Prop:=∀a o,H a=some o->Q8 P w H h a o
end
variable{H':Hp}{P:Program}{h h':Heap}{w:World}
section
variable{o:HO}
theorem Q8.lt(x:Q8 P w H h a o):a<h.objs.size:=by
 cases o with
 | lst xs=>obtain⟨_,_,_,_,e⟩:=x;exact Heap.lt_size e
 | tup xs=>obtain⟨_,_,_,p⟩:=x;exact p.lt
 | dK kvs=>obtain⟨_,_,_,_,o,_,_,e,_⟩:=x;exact Heap.lt_size e
 | dT kvs=>obtain⟨_,_,_,_,o,_,_,e,_⟩:=x;exact Heap.lt_size e
 | set S n=>obtain⟨o,_,_,_,e,_⟩:=x;exact Heap.lt_size e
 | ins C dx fs=>obtain⟨_,_,_,e,_⟩:=x;exact Heap.lt_size e
 | own y=>obtain⟨_,e⟩:=x;exact Heap.lt_size e
 | xd fs=>obtain⟨_,⟨_,_,_,e,_⟩,_⟩:=x;exact Heap.lt_size e
 | rng lo hi=>obtain⟨_,_,_,e⟩:=x;exact Heap.lt_size e
 | frz ob u=>obtain⟨e,_⟩:=x;exact Heap.lt_size e
 | tbl ps=>exact Heap.lt_size (show h.get? a=some _ from x)
 | met f y=>exact Heap.lt_size (show h.get? a=some _ from x)
 | ext φ=>obtain⟨_,⟨_,e⟩,_⟩:=x;exact Heap.lt_size e
theorem Paired.mapP{α β:Type}{F G:α->β->Prop}:∀{l₁:List α} {l₂:List β},Paired F l₁ l₂->(∀a b,F a b->G a b)->Paired G l₁ l₂
 | _,_,.nil,_=>.nil
 | _,_,.cons r t,f=>.cons (f _ _ r) (Paired.mapP t f)
theorem Q8.stay(x:Q8 P w H h a o)(k:∀b u,(b=a\/H b=some (.own a))->h.get? b=some u->h'.get? b=some u)(ho:∀b,H b=some (.own a)->H' b=some (.own a))(ht:∀b xs,H b=some (.tup xs)->H' b=some (.tup xs)):Q8 P w H' h' a o:=by
 induction o with
 | lst xs=>obtain⟨z,its,n,r,e⟩:=x;exact⟨z,its,n,r,k _ _ (.inl rfl) e⟩
 | tup xs=>obtain⟨z,its,r,ob,e,c⟩:=x;exact⟨z,its,r,ob,k _ _ (.inl rfl) e,c⟩
 | dK kvs=>obtain⟨z,y,vs,r,ob,es,ep,e,c⟩:=x;exact⟨z,y,vs,r,ob,es,ep,k _ _ (.inl rfl) e,c⟩
 | dT kvs =>
   obtain⟨z,y,xs,r,ob,es,ep,e,c⟩:=x
   exact⟨z,y,xs,Paired.mapP r λp q z=>⟨z.1,ht _ _ z.2.1,z.2.2⟩,ob,es,ep,k _ _ (.inl rfl) e,c⟩
 | set S n=>obtain⟨ob,es,ep,t,e,c⟩:=x;exact⟨ob,es,ep,t,k _ _ (.inl rfl) e,c⟩
 | ins C dx fs =>
   obtain⟨d,z,ne,e,mA,⟨od,es,ep,e2,c⟩,r⟩:=x
   exact⟨ho _ d,z,ne,k _ _ (.inl rfl) e,mA,⟨od,es,ep,k _ _ (.inr d) e2,c⟩,r⟩
 | own y=>obtain⟨ob,e⟩:=x;exact⟨ob,k _ _ (.inl rfl) e⟩
 | xd fs=>obtain⟨mA,⟨od,es,ep,e,c⟩,r⟩:=x;exact⟨mA,⟨od,es,ep,k _ _ (.inl rfl) e,c⟩,r⟩
 | rng lo hi=>obtain⟨t,u,v,e⟩:=x;exact⟨t,u,v,k _ _ (.inl rfl) e⟩
 | frz ob u ih=>obtain⟨e,q⟩:=x;exact⟨k _ _ (.inl rfl) e,ih q⟩
 | tbl ps =>
   have e:h.get? a=some {cls:=.none,data:=.fields ps}:=x
   show h'.get? a=some {cls:=.none,data:=.fields ps}
   exact k a _ (.inl rfl) e
 | met f y =>
   have e:h.get? a=some (PySem.W.methodObj (.ref f) (.ref y)):=x
   show h'.get? a=some (PySem.W.methodObj (.ref f) (.ref y))
   exact k a _ (.inl rfl) e
 | ext φ=>obtain⟨p,⟨o,e⟩,st⟩:=x;exact⟨st _ _ p λo q=>k _ _ (.inl rfl) q,⟨o,k _ _ (.inl rfl) e⟩,st⟩
theorem HOk.lt(x:HOk P w H h)(e:H a=some o):a<h.objs.size:=(x a o e).lt
theorem HOk.fresh(x:HOk P w H h)(e:h.objs.size<=a):H a=none:=by
 cases q:H a with
 | none=>rfl
 | some u=>exact absurd (Nat.lt_of_lt_of_le (x.lt q) e) (Nat.lt_irrefl _)
theorem HOk.kept(x:HOk P w H h)(k:∀b u,h.get? b=some u->h'.get? b=some u):HOk P w H h':=λa o e =>
 (x a o e).stay (λb u _ q=>k b u q) (λ_ q=>q) λ_ _ q=>q
theorem HOk.laid(x:HOk P w H h)(k:∀b u,h.get? b=some u->h'.get? b=some u)(hp:h.objs.size<=a)(new:Q8 P w (upd H a o) h' a o):HOk P w (upd H a o) h':=λb u e=>by
 have hn:=x.fresh hp
 by_cases hb:b=a
 ·subst hb;rw[A2] at e;cases e;exact new
 ·rw[A8 hb] at e
  exact(x b u e).stay (λc v _ q=>k c v q) (λc q=>by rw[A8 (U8 q hn)];exact q) λc xs q=>by rw[A8 (U8 q hn)];exact q
end
def Rd(H:Hp)(a:Addr)(u:HO):Prop:=H a=some u\/∃o,H a=some (.frz o u)
theorem Rd.ok{u:HO}(r:Rd H a u)(x:HOk P w H h):Q8 P w H h a u:=by
 rcases r with r|⟨o,r⟩
 ·exact x a u r
 ·obtain⟨_,q⟩:=x a _ r;exact q
def Mut:Option HO->Prop
 | some (.lst _)=>True
 | some (.dK _)=>True
 | some (.dT _)=>True
 | some (.set _ _)=>True
 | some (.ins _ _ _)=>True
 | some (.ext _)=>True
 | some (.xd _)=>True
 | _=>False
section
variable{x e:Addr}{o':HO}
theorem HOk.write(ok:HOk P w H h)(mu:Mut (H x))(he:e=x\/H e=some (.own x))(k:∀b u,b≠e->h.get? b=some u->h'.get? b=some u)(heo:∃u,h'.get? e=some u)(new:Q8 P w (upd H x o') h' x o'):HOk P w (upd H x o') h':=λb u q=>by
 have nown:∀c y,H c=some (.own y)->c≠x:=λc y r z=>by subst z;rw[r] at mu;exact mu
 have ntup:∀c xs,H c=some (.tup xs)->c≠x:=λc xs r z=>by subst z;rw[r] at mu;exact mu
 by_cases hb:b=x
 ·subst hb;rw[A2] at q;cases q;exact new
 ·rw[A8 hb] at q
  by_cases hbe:b=e
  ·have q':H b=some (.own x):=by
    rcases he with z|z
    ·exact absurd (hbe.trans z) hb
    ·rw[hbe];exact z
   rw[q] at q';cases q'
   obtain⟨v,hv⟩:=heo
   exact⟨v,by rw[hbe];exact hv⟩
  ·refine(ok b u q).stay (λc v hc r=>k c v ?_ r) (λc r=>by rw[A8 (nown c b r)];exact r) λc xs r=>by rw[A8 (ntup c xs r)];exact r
   rcases hc with rfl|hc
   ·exact hbe
   ·rintro rfl
    rcases he with z|z
    ·exact nown c b hc z
    ·rw[hc] at z;cases z;exact hb rfl
end
structure Un(fs ex:List Addr)(H H':Hp)(h h':Heap):Prop where
 keep:∀b o,h.get? b=some o->H b=none->b∉fs->b∉ex->h'.get? b=some o
 slot:∀b o,h.get? b=some o->H b=none->b∈fs->b∉ex->∃sl,h'.get? b=some {o with slots:=sl}
 free:∀b o,h.get? b=some o->H b=none->b∉ex->H' b=none
 there:∀b o,h.get? b=some o->b∉ex->∃o',h'.get? b=some o'
 tups:∀b xs,H b=some (.tup xs)->H' b=some (.tup xs)
 frzs:∀b o u,H b=some (.frz o u)->H' b=some (.frz o u)
 tbls:∀b ps,H b=some (.tbl ps)->∃more,H' b=some (.tbl (ps++more))
variable{H1 H2:Hp}
section
variable{fs fs' ex ex':List Addr}{h1 h2:Heap}{x e:Addr}{o:HO}
theorem Un.any(u:Un fs ex H H1 h h1){ob:Obj}(q:h.get? b=some ob)(n:H b=none)(hx:b∉ex):∃sl,h1.get? b=some {ob with slots:=sl}:=by
 by_cases hb:b∈fs
 ·exact u.slot b ob q n hb hx
 ·exact⟨ob.slots,u.keep b ob q n hb hx⟩
theorem Un.kept(k:∀b u,h.get? b=some u->h'.get? b=some u):Un fs ex H H h h' :=
 ⟨λb ob q _ _ _=>k b ob q,λb ob q _ _ _=>⟨ob.slots,k b ob q⟩,λ_ _ _ n _=>n,λb ob q _=>⟨ob,k b ob q⟩,λ_ _ q=>q,λ_ _ _ q=>q,λ_ ps q=>⟨#[],by rw[q];simp⟩⟩
theorem Un.refl:Un fs ex H H h h:=Un.kept λ_ _ q=>q
theorem Un.laid(k:∀b u,h.get? b=some u->h'.get? b=some u)(hp:h.objs.size<=a)(hn:H a=none):Un fs ex H (upd H a o) h h' where
 keep:=λb u q _ _ _=>k b u q
 slot:=λb u q _ _ _=>⟨u.slots,k b u q⟩
 free:=λb u q n _=>by rw[A8 (Nat.ne_of_lt (Nat.lt_of_lt_of_le (Heap.lt_size q) hp))];exact n
 there:=λb u q _=>⟨u,k b u q⟩
 tups:=λb xs q=>by rw[A8 (U8 q hn)];exact q
 frzs:=λb u xs q=>by rw[A8 (U8 q hn)];exact q
 tbls:=λb ps q=>⟨#[],by rw[A8 (U8 q hn),q];simp⟩
theorem Un.write(mu:Mut (H x))(he:e=x\/H e=some (.own x))(k:∀b u,b≠e->h.get? b=some u->h'.get? b=some u)(heo:∃u,h'.get? e=some u):Un fs ex H (upd H x o) h h':=by
 have hx:∀b,H b=none->b≠x:=λb n z=>by subst z;rw[n] at mu;exact mu
 have hb:∀b,H b=none->b≠e:=λb n z=>by
  subst z;rcases he with r|r
  ·exact hx b n r
  ·rw[n] at r;cases r
 have hm:∀b u,H b=some u->¬Mut (some u)->b≠x:=λb u q nm z=>by subst z;rw[q] at mu;exact nm mu
 refine⟨λb u q n _ _=>k b u (hb b n) q,λb u q n _ _=>⟨u.slots,k b u (hb b n) q⟩,λb u q n _=>by rw[A8 (hx b n)];exact n,λb u q _=>?_,
  λb xs q=>by rw[A8 (hm b _ q λz=>z)];exact q,λb u xs q=>by rw[A8 (hm b _ q λz=>z)];exact q,λb ps q=>⟨#[],by rw[A8 (hm b _ q λz=>z),q];simp⟩⟩;by_cases hbe:b=e
 ·subst hbe;exact heo
 ·exact⟨u,k b u hbe q⟩
end
noncomputable def trk(h:Heap)(H:Hp):List Addr:=(List.range h.objs.size).filter λa=>(H a).isSome
noncomputable def yg4(h:Heap)(H:Hp):Heap:=PySem.W.hideAll h (trk h H)
theorem zf5(h:Heap)(H:Hp):(yg4 h H).objs.size=h.objs.size:=PySem.W.hideAll_size _ _
theorem zl4{o:Obj}(e:h.get? b=some o)(n:H b=none):(yg4 h H).get? b=some o :=
 PySem.W.hideAll_get _ e λhm=>by
  have q:(H b).isSome=true:=(mem_filter.mp hm).2;rw[n] at q;simp at q
theorem zw4{o:Obj}(e:(yg4 h H).get? b=some o):h.get? b=some o/\H b=none:=by
 have e':h.get? b=some o:=PySem.W.of_hideAll (trk h H) e;refine⟨e',?_⟩;cases q:H b with
 | none=>rfl
 | some x =>
   have hm:b∈trk h H:=mem_filter.mpr ⟨mem_range.mpr (Heap.lt_size e'),by simp[q]⟩
   have z:(yg4 h H).get? b=none:=PySem.W.hideAll_none (trk h H) hm
   rw[z] at e;cases e
structure Mod(K:Fg)(mg:Str->Option Value)(base:Heap):Prop where
 kin:K.In base
 glob:base.Ns mainGlobals mg
 blt:∃mb,base.Ns builtinsNs mb/\∀x:Str,x ≠ "__name__"->mb x=bootBuiltins x
 nolimit:base.NoLimit
set_option genInjectivity false in
structure Cx where
 prog:Program
 w:World
 K:Fg
 mg:Str->Option Value
 base:Heap
 A:Around
 N:List Str
 s₀:Shared
 H₀:Hp
 env:Env
 outer:List Env
 stack:List Env
 ex:List Addr
 fn:Str->Bool
 calm:Bool
 pn:List (Addr×Obj)
 xe:Value->Shared->Prop
noncomputable def frs(l:List Env):List Addr:=l.filterMap (·.frame)
noncomputable abbrev Cx.fs(X:Cx):List Addr:=frs X.outer
def Vis(sc:Scope)(x:Str):Prop:=sc.names.lookup x=some .local\/sc.names.lookup x=some .cell\/sc.names.lookup x=some .free
def Loc(sc:Scope)(x:Str):Prop:=sc.names.lookup x=some .local\/sc.names.lookup x=some .cell
def At8(env:Env)(h:Heap)(m:Str->Option Value)(x:Str)(u:Value):Prop :=
 (env.kindOf x=some .local/\m x=some u)\/((env.kindOf x=some .cell\/env.kindOf x=some .free)/\∃c,env.cells.lookup x=some c/\h.IsCell c (some u))
structure Cx.Ok(X:Cx):Prop where
 mod:Mod X.K X.mg X.base
 kind:X.env.scope.kind=.function
 glob:X.env.globals=mainGlobals
 blt:X.env.builtins=builtinsNs
 above:X.s₀.heap.objs.size<=X.env.locals
 inj:∀x y c,X.env.cells.lookup x=some c->X.env.cells.lookup y=some c->x=y
 has:∀x,(X.env.kindOf x=some .cell\/X.env.kindOf x=some .free)->∃c,X.env.cells.lookup x=some c
 cab:∀x c,X.fn x=true->X.env.cells.lookup x=some c->X.s₀.heap.objs.size<=c
 hd:X.calm=true->X.A.handled=none
 frames:X.A.frames=some X.stack
 stk:X.stack=X.outer\/(X.stack=X.env::X.outer/\X.env.frame=some X.env.locals)
 exf:∀b∈X.ex,b≠X.env.locals/\∀x c,X.env.cells.lookup x=some c->c≠b
 bs:∀b o,X.base.get? b=some o->X.s₀.heap.get? b=some o/\X.H₀ b=none
 bsz:X.base.objs.size<=X.s₀.heap.objs.size
 noex:∀b o,X.base.get? b=some o->b∉X.ex
 exfs:∀b∈X.ex,b∉X.fs
 funs:X.s₀.heap.FunFrames X.base X.outer
 frf:∀b∈X.fs,X.H₀ b=none
structure Inv(X:Cx)(pins:List (Addr×Obj))(σ:List (Option V))(H:Hp)(s:Shared):Prop where
 ok:X.Ok
 os:s.os=X.s₀.os
 bare:AllBare s.gens
 base:Un X.fs X.ex X.H₀ H X.s₀.heap s.heap
 loc:∃m,s.heap.Ns X.env.locals m/\∀(i:Nat) (x:Str) (v:V),X.N[i]?=some x->σ[i]?=some (some v)->Vis X.env.scope x->∃u,D8 v u/\At8 X.env s.heap m x u
 cell:∀x c,X.env.cells.lookup x=some c->∃v,s.heap.IsCell c v
 free:H X.env.locals=none
 freeC:∀x c,X.env.cells.lookup x=some c->H c=none
 pin:∀p∈X.pn++pins,s.heap.get? p.1=some p.2/\H p.1=none/\p.1≠X.env.locals/\p.1∉X.fs/\∀v,p.2.data≠.cell v
 hok:HOk X.prog X.w H s.heap
 len:σ.length=X.N.length
 tk:0<s.toks
variable{X:Cx}{pins:List (Addr×Obj)}{s:Shared}{ch:List Addr}{d':Drawn}{g':Array GenState}{t':Nat}{it:Addr}{N:List Str}{x:Str}{A:Around}{E:Value->Shared->Prop}{M:Model}{u:Value}{v:V}
section
variable{σ:List (Option V)}
theorem Cx.Ok.nofr(ok:X.Ok){o:Obj}(e:X.base.get? b=some o):b∉X.fs:=λhb=>by
 have:=(ok.funs.mem hb).1
 rw[e] at this;cases this
theorem Inv.bs(I:Inv X pins σ H s):∀b o,X.base.get? b=some o->s.heap.get? b=some o/\H b=none:=λb o e =>
 ⟨I.base.keep b o (I.ok.bs b o e).1 (I.ok.bs b o e).2 (I.ok.nofr e) (I.ok.noex b o e),I.base.free b o (I.ok.bs b o e).1 (I.ok.bs b o e).2 (I.ok.noex b o e)⟩
theorem Inv.bk(I:Inv X pins σ H s):∀b o,X.base.get? b=some o->s.heap.get? b=some o:=λb o e=>(I.bs b o e).1
theorem Inv.mod(I:Inv X pins σ H s):Mod X.K X.mg X.base:=I.ok.mod
theorem Inv.kIn(I:Inv X pins σ H s):X.K.In s.heap:=I.ok.mod.kin.keeps I.bk
theorem Inv.lt(I:Inv X pins σ H s):X.env.locals<s.heap.objs.size:=let ⟨_,hn,_⟩:=I.loc;hn.lt
theorem Inv.sz(I:Inv X pins σ H s):X.s₀.heap.objs.size<=s.heap.objs.size:=Nat.le_trans I.ok.above (Nat.le_of_lt I.lt)
theorem Inv.nofs(I:Inv X pins σ H s)(h:s.heap.objs.size<=a):a∉X.fs:=λhb=>by
 obtain⟨_,o,ho,_⟩:=I.ok.funs.mem hb
 exact absurd (Nat.lt_of_lt_of_le (Heap.lt_size ho) (Nat.le_trans I.sz h)) (Nat.lt_irrefl _)
theorem Inv.cne(I:Inv X pins σ H s):∀x c,X.env.cells.lookup x=some c->c≠X.env.locals:=λx c e z=>by
 obtain⟨v,o,ho,hd⟩:=I.cell x c e
 obtain⟨m,⟨o',es,ep,ho',hd',_⟩,_⟩:=I.loc
 rw[z,ho'] at ho;cases ho;rw[hd'] at hd;cases hd
theorem Inv.funs(I:Inv X pins σ H s):s.heap.FunFrames X.base X.outer:=by
 have all:∀(l:List Env),(∀b∈frs l,b∈X.fs)->X.s₀.heap.FunFrames X.base l->s.heap.FunFrames X.base l:=by
  intro l
  induction l with
  | nil=>intro _ _;trivial
  | cons env r ih =>
    intro hs hl
    obtain⟨hk,⟨L,o,hf,hn,ho,hd⟩,hr⟩:=hl
    have hL:L∈X.fs:=hs L (by unfold frs;rw[filterMap_cons,hf];exact mem_cons_self)
    obtain⟨sl,e⟩:=I.base.slot L o ho (I.ok.frf L hL) hL λz=>I.ok.exfs L z hL
    exact⟨hk,⟨L,_,hf,hn,e,hd⟩,ih (λb hb=>hs b (by unfold frs;rw[filterMap_cons,hf];exact mem_cons_of_mem _ hb)) hr⟩
 exact all X.outer (λ_ hb=>hb) I.ok.funs
theorem Inv.stack(I:Inv X pins σ H s):s.heap.FunFrames X.base X.stack:=by
 rcases I.ok.stk with e|⟨e,hf⟩
 ·rw[e];exact I.funs
 ·rw[e];obtain⟨m,hn,_⟩:=I.loc;refine .cons (by rw[I.ok.kind];decide) hf hn ?_ I.funs;exact Heap.get?_none_of_le (Nat.le_trans I.ok.bsz I.ok.above)
theorem Inv.stkSub(I:Inv X pins σ H s):∀b∈frs X.stack,b∈X.env.locals::X.fs:=λb hb=>by
 rcases I.ok.stk with e|⟨e,hf⟩
 ·rw[e] at hb;exact mem_cons_of_mem _ hb
 ·rw[e] at hb
  unfold frs at hb
  rw[filterMap_cons,hf] at hb
  exact hb
theorem Inv.stkFree(I:Inv X pins σ H s):∀b∈frs X.stack,H b=none:=λb hb=>by
 rcases mem_cons.mp (I.stkSub b hb) with e|hb
 ·rw[e];exact I.free
 ·obtain⟨_,o,ho,_⟩:=I.ok.funs.mem hb
  exact I.base.free b o ho (I.ok.frf b hb) λz=>I.ok.exfs b z hb
theorem Inv.step(I:Inv X pins σ H s)(hch:∀b∈ch,(b∈X.ex\/X.s₀.heap.objs.size<=b)/\b≠X.env.locals/\(∀x c,X.env.cells.lookup x=some c->c≠b)/\∀p∈X.pn++pins,p.1≠b)(keep:∀b o,b≠X.env.locals->b∉X.fs->b∉ch->s.heap.get? b=some o->H b=none->h'.get? b=some o)(slot:∀b o,b≠X.env.locals->b∈X.fs->b∉ch->s.heap.get? b=some o->H b=none->∃sl,h'.get? b=some {o with slots:=sl})(free:∀b o,b∉ch->s.heap.get? b=some o->H b=none->H' b=none)(there:∀b o,b∉ch->s.heap.get? b=some o->∃o',h'.get? b=some o')(tups:∀b xs,H b=some (.tup xs)->H' b=some (.tup xs))(frzs:∀b o u,H b=some (.frz o u)->H' b=some (.frz o u))(tbls:∀b ps,H b=some (.tbl ps)->∃more,H' b=some (.tbl (ps++more)))(ns:∀m,s.heap.Ns X.env.locals m->h'.Ns X.env.locals m)(hok:HOk X.prog X.w H' h')(hg:AllBare g')(ht:autoParam (0<t') zAt) :
 Inv X pins σ H' {s with heap:=h',gens:=g',drawn:=d',toks:=t'}:=by
 have neL:∀b o,X.s₀.heap.get? b=some o->b≠X.env.locals:=λb o e=>Nat.ne_of_lt (Nat.lt_of_lt_of_le (Heap.lt_size e) I.ok.above)
 have neC:∀b o,X.s₀.heap.get? b=some o->b∉X.ex->b∉ch:=λb o e hx hb=>by
  rcases(hch b hb).1 with z|z
  ·exact hx z
  ·exact absurd (Nat.lt_of_lt_of_le (Heap.lt_size e) z) (Nat.lt_irrefl _)
 have cellK:∀x c,X.env.cells.lookup x=some c->∀v,s.heap.IsCell c v->h'.IsCell c v:=λx c e v ⟨o,ho,hd⟩=>by
  have nch:c∉ch:=λz=>(hch c z).2.2.1 x c e rfl;by_cases hc:c∈X.fs
  ·obtain⟨sl,q⟩:=slot c o (I.cne x c e) hc nch ho (I.freeC x c e);exact⟨_,q,hd⟩
  ·exact⟨o,keep c o (I.cne x c e) hc nch ho (I.freeC x c e),hd⟩
 refine⟨I.ok,I.os,hg,⟨λb o e n hb hx=>?_,λb o e n hb hx=>?_,λb o e n hx=>?_,λb o e hx=>?_,λb xs e=>tups b xs (I.base.tups b xs e),λb o xs e=>frzs b o xs (I.base.frzs b o xs e),λb ps e=>?_⟩,?_,λx c e=>?_,?_,λx c e=>?_,λp hp=>?_,hok,I.len,ht⟩
 ·exact keep b o (neL b o e) hb (neC b o e hx) (I.base.keep b o e n hb hx) (I.base.free b o e n hx)
 ·obtain⟨sl,e1⟩:=I.base.slot b o e n hb hx
  obtain⟨sl',e2⟩:=slot b _ (neL b o e) hb (neC b o e hx) e1 (I.base.free b o e n hx)
  exact⟨sl',e2⟩
 ·obtain⟨o',e1⟩:=I.base.there b o e hx
  exact free b o' (neC b o e hx) e1 (I.base.free b o e n hx)
 ·obtain⟨o',e1⟩:=I.base.there b o e hx
  exact there b o' (neC b o e hx) e1
 ·obtain⟨m1,e1⟩:=I.base.tbls b ps e
  obtain⟨m2,e2⟩:=tbls b _ e1
  exact⟨m1++m2,by rw[e2,Array.append_assoc]⟩
 ·obtain⟨m,hn,hl⟩:=I.loc
  refine⟨m,ns m hn,λi x v e1 e2 e3=>?_⟩
  obtain⟨u,r,l⟩:=hl i x v e1 e2 e3
  refine⟨u,r,?_⟩
  rcases l with l|⟨k,c,e,z⟩
  ·exact .inl l
  ·exact .inr ⟨k,c,e,cellK x c e _ z⟩
 ·obtain⟨v,z⟩:=I.cell x c e
  exact⟨v,cellK x c e v z⟩
 ·obtain⟨m,⟨o,_,_,ho,_⟩,_⟩:=I.loc
  exact free _ o (λz=>(hch _ z).2.1 rfl) ho I.free
 ·obtain⟨v,o,ho,hd⟩:=I.cell x c e
  exact free c o (λz=>(hch c z).2.2.1 x c e rfl) ho (I.freeC x c e)
 ·obtain⟨e,n,ne,nf,d⟩:=I.pin p hp
  have nch:p.1∉ch:=λz=>(hch p.1 z).2.2.2 p hp rfl
  exact⟨keep p.1 p.2 ne nf nch e n,free p.1 p.2 nch e n,ne,nf,d⟩
theorem Inv.un(I:Inv X pins σ H s)(u:Un X.fs [] H H' s.heap h')(hok:HOk X.prog X.w H' h')(ht:autoParam (0<t') zAt):Inv X pins σ H' {s with heap:=h',toks:=t'}:=by
 obtain⟨m,⟨o,es,ep,ho,r⟩,_⟩:=id I.loc;obtain⟨sl,hL⟩:=u.any ho I.free (by simp);exact I.step (g':=s.gens) (d':=s.drawn) (ch:=[]) (λ_ z=>nomatch z) (λb o _ hb _ e n=>u.keep b o e n hb (by simp)) (λb o _ hb _ e n=>u.slot b o e n hb (by simp)) (λb o _ e n=>u.free b o e n (by simp)) (λb o _ e=>u.there b o e (by simp)) u.tups u.frzs u.tbls (λm' hm=>by
  obtain⟨o',es',ep',ho',r'⟩:=hm;rw[ho] at ho';cases ho';exact⟨_,es',ep',hL,r'⟩) hok I.bare
theorem Inv.call(I:Inv X pins σ H s)(u:Un (frs X.stack) ch H H' s.heap h')(hok:HOk X.prog X.w H' h')(hg:AllBare g')(hch:∀b∈ch,(b∈X.ex\/X.s₀.heap.objs.size<=b)/\b≠X.env.locals/\(∀x c,X.env.cells.lookup x=some c->c≠b)/\∀p∈X.pn++pins,p.1≠b)(ht:autoParam (0<t') zAt) :
 Inv X pins σ H' {s with heap:=h',gens:=g',drawn:=d',toks:=t'}:=by
 obtain⟨m,⟨o,es,ep,ho,r⟩,_⟩:=id I.loc
 obtain⟨sl,hL⟩:=u.any ho I.free λz=>(hch _ z).2.1 rfl
 exact I.step (ch:=ch) hch (λb o hL hb hc e n=>u.keep b o e n (λz=>(mem_cons.mp (I.stkSub b z)).elim hL hb) hc) (λb o _ _ hc e n=>u.any e n hc) (λb o hc e n=>u.free b o e n hc) (λb o hc e=>u.there b o e hc) u.tups u.frzs u.tbls (λm' hm=>by
  obtain⟨o',es',ep',ho',r'⟩:=hm;rw[ho] at ho';cases ho';exact⟨_,es',ep',hL,r'⟩) hok hg
theorem Inv.turned(I:Inv X pins σ H s)(k:∀b o,b≠it->s.heap.get? b=some o->h'.get? b=some o)(hn:H it=none)(hL:it≠X.env.locals)(h1:it∈X.ex\/X.s₀.heap.objs.size<=it)(h2:∀x c,X.env.cells.lookup x=some c->c≠it)(h3:∀p∈X.pn++pins,p.1≠it)(ht:autoParam (0<t') zAt):Inv X pins σ H {s with heap:=h',toks:=t'}:=by
 have nit:∀b u,H b=some u->b≠it:=λb u e z=>by rw[z,hn] at e;cases e
 refine I.step (g':=s.gens) (d':=s.drawn) (ch:=[it]) (λb hb=>?_) (λb o _ _ hc e _=>k b o (λz=>hc (by simp[z])) e) (λb o _ _ hc e _=>⟨o.slots,k b o (λz=>hc (by simp[z])) e⟩) (λ_ _ _ _ n=>n)
  (λb o hc e=>⟨o,k b o (λz=>hc (by simp[z])) e⟩) (λ_ _ e=>e) (λ_ _ _ e=>e) (λb ps e=>⟨#[],by rw[e];simp⟩) (λm hm=>?_) (λb u e=>?_) I.bare
 ·have e:b=it:=by simpa using hb
  subst e;exact⟨h1,hL,h2,h3⟩
 ·obtain⟨o,es,ep,ho,r⟩:=hm;exact⟨o,es,ep,k _ o (Ne.symm hL) ho,r⟩
 ·refine(I.hok b u e).stay (λc v hc q=>k c v ?_ q) (λ_ q=>q) λ_ _ q=>q;rcases hc with z|z
  ·rw[z];exact nit b u e
  ·exact nit c _ z
theorem Inv.tok(I:Inv X pins σ H s)(t':Nat)(ht:autoParam (0<t') zAt):Inv X pins σ H {s with toks:=t'}:=I.un (h':=s.heap) (t':=t') Un.refl I.hok
theorem Inv.kept(I:Inv X pins σ H s)(k:∀b u,s.heap.get? b=some u->h'.get? b=some u)(ht:autoParam (0<t') zAt):Inv X pins σ H {s with heap:=h',toks:=t'}:=I.un (Un.kept k) (I.hok.kept k)
theorem Inv.laid{o:HO}(I:Inv X pins σ H s)(k:∀b u,s.heap.get? b=some u->h'.get? b=some u)(hp:s.heap.objs.size<=a)(new:Q8 X.prog X.w (upd H a o) h' a o)(ht:autoParam (0<t') zAt) :
 Inv X pins σ (upd H a o) {s with heap:=h',toks:=t'}:=I.un (Un.laid k hp (I.hok.fresh hp)) (I.hok.laid k hp new)
theorem Inv.write{x e:Addr}{o:HO}(I:Inv X pins σ H s)(mu:Mut (H x))(he:e=x\/H e=some (.own x))(k:∀b u,b≠e->s.heap.get? b=some u->h'.get? b=some u)(heo:∃u,h'.get? e=some u)(new:Q8 X.prog X.w (upd H x o) h' x o)(ht:autoParam (0<t') zAt):Inv X pins σ (upd H x o) {s with heap:=h',toks:=t'}:=I.un (Un.write mu he k heo) (I.hok.write mu he k heo new)
theorem Inv.weak{σ':List (Option V)}(I:Inv X pins σ H s)(hl:σ'.length=σ.length)(w:∀(i:Nat) v,σ'[i]?=some (some v)->σ[i]?=some (some v)):Inv X pins σ' H s :=
 ⟨I.ok,I.os,I.bare,I.base,let ⟨m,hn,hl'⟩:=I.loc;⟨m,hn,λi x v e1 e2 e3=>hl' i x v e1 (w i v e2) e3⟩,I.cell,I.free,I.freeC,I.pin,I.hok,hl.trans I.len,I.tk⟩
theorem Inv.pins_of{pins':List (Addr×Obj)}(I:Inv X pins σ H s)(h:∀p∈pins',s.heap.get? p.1=some p.2/\H p.1=none/\p.1≠X.env.locals/\p.1∉X.fs/\∀v,p.2.data≠.cell v):Inv X pins' σ H s :=
 ⟨I.ok,I.os,I.bare,I.base,I.loc,I.cell,I.free,I.freeC,λp hp=>(mem_append.mp hp).elim (λz=>I.pin p (mem_append_left _ z)) (h p),I.hok,I.len,I.tk⟩
theorem yn3(hN:N.Nodup){i j:Nat}(a:N[i]?=some x)(b:N[j]?=some x):i=j:=by
 obtain⟨h1,e1⟩:=List.getElem?_eq_some_iff.mp a;obtain⟨h2,e2⟩:=List.getElem?_eq_some_iff.mp b;exact(List.getElem_inj hN).mp (e1.trans e2.symm)
theorem yc8{i:Nat}{Q:Unit->Shared->Prop}(I:Inv X pins σ H s)(hN:X.N.Nodup)(hi:X.N[i]?=some x)(hx:Loc X.env.scope x)(r:D8 v u)(h:∀s',Inv X pins (σ.set i (some v)) H s'->(∃a,Heap.SameBut a s.heap s'.heap/\(a=X.env.locals\/X.env.cells.lookup x=some a))->Q () s')(hf:autoParam (X.fn x=true\/X.env.scope.names.lookup x=some .local) zAf):wpAny M A (storeName X.env x u) Q E s:=by
 obtain⟨m,hn,hl⟩:=id I.loc;have hcls:(X.env.scope.kind == .class || (X.env.scope.kind == .module && X.env.locals != X.env.globals))=false:=by rw[I.ok.kind];rfl
 have hiσ:i<σ.length:=by rw[I.len];exact(List.getElem?_eq_some_iff.mp hi).1
 have cne:=I.cne;have tracked:∀{a:Addr} {h':Heap},(∃o,s.heap.get? a=some o/\H a=none)->Heap.SameBut a s.heap h'->HOk X.prog X.w H h':=λ{a h'} ha hs b ob e=>by
  obtain⟨_,_,hfree⟩:=ha;refine(I.hok b ob e).stay (λc w' hc q=>(hs.2 c ?_).trans q) (λ_ q=>q) λ_ _ q=>q;rintro rfl;rcases hc with rfl|hc
  ·rw[hfree] at e;cases e
  ·rw[hfree] at hc;cases hc
 rcases hx with hk|hk
 ·refine wpAny_storeName_local hk hn (λh' hn' hs=>?_) hcls;obtain⟨oL,_,_,hoL,_⟩:=id hn;refine h _ ⟨I.ok,I.os,I.bare,⟨λb o e n hb hx=>?_,λb o e n hb hx=>?_,I.base.free,λb o e hx=>?_,I.base.tups,I.base.frzs,I.base.tbls⟩,⟨_,hn',λj y v' e1 e2 e3=>?_⟩,λy c e=>?_,I.free,I.freeC,λp hp=>?_,tracked ⟨oL,hoL,I.free⟩ hs,by simpa using I.len,by first|exact I.tk|exact Nat.succ_pos _⟩ ⟨_,hs,.inl rfl⟩
  ·exact(hs.2 b #[22,I.ok.above]).trans (I.base.keep b o e n hb hx)
  ·obtain⟨sl,e1⟩:=I.base.slot b o e n hb hx;exact⟨sl,(hs.2 b #[22,I.ok.above]).trans e1⟩
  ·obtain⟨o',e1⟩:=I.base.there b o e hx;exact⟨o',(hs.2 b #[22,I.ok.above]).trans e1⟩
  ·by_cases hj:j=i
   ·subst hj;rw[hi] at e1;cases e1;rw[List.getElem?_set_self hiσ] at e2;cases e2;exact⟨u,r,.inl ⟨hk,by simp⟩⟩
   ·rw[List.getElem?_set_ne (Ne.symm hj)] at e2;obtain⟨u',r',q⟩:=hl j y v' e1 e2 e3;refine⟨u',r',?_⟩;rcases q with⟨k,e⟩|⟨k,c,e,z⟩
    ·refine .inl ⟨k,?_⟩;have:y≠x:=λe=>hj (yn3 hN e1 (e▸hi));simp[this,e]
    ·exact .inr ⟨k,c,e,z.sameBut hs (cne y c e)⟩
  ·obtain⟨w',z⟩:=I.cell y c e;exact⟨w',z.sameBut hs (cne y c e)⟩
  ·obtain⟨e,n,ne,nf,d⟩:=I.pin p hp;exact⟨(hs.2 p.1 ne).trans e,n,ne,nf,d⟩
 ·have hfn:X.fn x=true:=by
   rcases hf with z|z
   ·exact z
   ·rw[z] at hk;cases hk
  obtain⟨c,hc⟩:=I.ok.has x (.inl hk);obtain⟨w',z⟩:=I.cell x c hc;refine wpAny_storeName_cell I.ok.kind hk hc z (λh' hc' hs=>?_);obtain⟨oc,hoc,hocd⟩:=id z;refine h {s with heap:=h'} ⟨I.ok,I.os,I.bare,⟨λb o e n hb hx=>?_,λb o e n hb hx=>?_,I.base.free,λb o e hx=>?_,I.base.tups,I.base.frzs,I.base.tbls⟩,⟨m,hn.sameBut hs (Ne.symm (cne x c hc)),λj y v' e1 e2 e3=>?_⟩,λy c' e=>?_,I.free,I.freeC,λp hp=>?_,tracked ⟨oc,hoc,I.freeC x c hc⟩ hs,by simpa using I.len,by first|exact I.tk|exact Nat.succ_pos _⟩ ⟨c,hs,.inr hc⟩
  ·exact(hs.2 b #[22,I.ok.cab x c hfn hc]).trans (I.base.keep b o e n hb hx)
  ·obtain⟨sl,e1⟩:=I.base.slot b o e n hb hx;exact⟨sl,(hs.2 b #[22,I.ok.cab x c hfn hc]).trans e1⟩
  ·obtain⟨o',e1⟩:=I.base.there b o e hx;exact⟨o',(hs.2 b #[22,I.ok.cab x c hfn hc]).trans e1⟩
  ·by_cases hj:j=i
   ·subst hj;rw[hi] at e1;cases e1;rw[List.getElem?_set_self hiσ] at e2;cases e2;exact⟨u,r,.inr ⟨.inl hk,c,hc,hc'⟩⟩
   ·rw[List.getElem?_set_ne (Ne.symm hj)] at e2;obtain⟨u',r',q⟩:=hl j y v' e1 e2 e3;refine⟨u',r',?_⟩;rcases q with q|⟨k,c',e,z'⟩
    ·exact .inl q
    ·refine .inr ⟨k,c',e,z'.sameBut hs ?_⟩;rintro rfl;exact hj (yn3 hN e1 (I.ok.inj _ _ _ e hc▸hi))
  ·by_cases hcc:c'=c
   ·subst hcc;exact⟨_,hc'⟩
   ·obtain⟨w2,z2⟩:=I.cell y c' e;exact⟨w2,z2.sameBut hs hcc⟩
  ·obtain⟨e,n,ne,nf,d⟩:=I.pin p hp;refine⟨(hs.2 p.1 ?_).trans e,n,ne,nf,d⟩;intro q;rw[q,hoc] at e;have q':oc=p.2:=Option.some.inj e;exact d w' (by rw[<-q'];exact hocd)
theorem yn4{i:Nat}{Q:Unit->Shared->Prop}(I:Inv X pins σ H s)(hN:X.N.Nodup)(hi:X.N[i]?=some x)(hx:Loc X.env.scope x)(r:D8 v u)(h:∀s',Inv X pins (σ.set i (some v)) H s'->Q () s')(hf:autoParam (X.fn x=true\/X.env.scope.names.lookup x=some .local) zAf):wpAny M A (storeName X.env x u) Q E s :=
 yc8 I hN hi hx r (λs' I' _=>h s' I') hf
end
abbrev XK:=Value->Option Addr->Hp->Prop
abbrev St:=List (Option V)
abbrev VK:=V->Hp->Prop
abbrev TE:=St->Hp->VK->Prop
abbrev TT:=St->Hp->(Bool->Hp->Prop)->Prop
abbrev TA:=St->Hp->(List V->Hp->Prop)->Prop
set_option genInjectivity false in
structure W8 where
 nx:St->Hp->Prop
 rt:VK
 bk:St->Hp->Prop:=λ_ _=>False
 ct:St->Hp->Prop:=λ_ _=>False
abbrev TS:=W8->St->Hp->Prop
def EP(X:Cx)(pins:List (Addr×Obj))(σ:St)(Q:VK)(u:Value)(s':Shared):Prop:=∃v H',Inv X pins σ H' s'/\D8 v u/\Q v H'
def TP(X:Cx)(pins:List (Addr×Obj))(σ:St)(Q:Bool->Hp->Prop)(b:Bool)(s':Shared):Prop:=∃H',Inv X pins σ H' s'/\Q b H'
def AP(X:Cx)(pins:List (Addr×Obj))(σ:St)(Q:List V->Hp->Prop)(us:List Value)(s':Shared):Prop:=∃vs H',Inv X pins σ H' s'/\D3 vs us/\Q vs H'
def SP(X:Cx)(pins:List (Addr×Obj))(D:W8)(f:Flow)(s':Shared):Prop :=
 match f with
 | .next=>∃σ' H',Inv X pins σ' H' s'/\D.nx σ' H'
 | .brk=>∃σ' H',Inv X pins σ' H' s'/\D.bk σ' H'
 | .cont=>∃σ' H',Inv X pins σ' H' s'/\D.ct σ' H'
 | .ret u=>∃v σ' H',Inv X pins σ' H' s'/\D8 v u/\D.rt v H'
def PE(X:Cx)(e:Expr)(t:TE):Prop :=
 ∀(pins:List (Addr×Obj)) (s:Shared) (σ:St) (H:Hp) (Q:VK),Inv X pins σ H s->t σ H Q->wpAny #[8] X.A (eval e X.env) (EP X pins σ Q) X.xe s
def PT(X:Cx)(e:Expr)(t:TT):Prop :=
 ∀(pins:List (Addr×Obj)) (s:Shared) (σ:St) (H:Hp) (Q:Bool->Hp->Prop),Inv X pins σ H s->t σ H Q->wpAny #[8] X.A (isTrue e X.env (eval e X.env)) (TP X pins σ Q) X.xe s
def PW(X:Cx)(e:Expr)(t:TT):Prop :=
 ∀(whole:Sem Value) (pins:List (Addr×Obj)) (s:Shared) (σ:St) (H:Hp) (Q:Bool->Hp->Prop),Inv X pins σ H s->t σ H Q->wpAny #[8] X.A (isTrue e X.env whole) (TP X pins σ Q) X.xe s
variable{e:Expr}
theorem PW.pt{t:TT}(h:PW X e t):PT X e t:=h _
def PA(X:Cx)(es:List Expr)(t:TA):Prop :=
 ∀(pos:Pos) (pins:List (Addr×Obj)) (s:Shared) (σ:St) (H:Hp) (Q:List V->Hp->Prop),Inv X pins σ H s->t σ H Q->wpAny #[8] X.A (spliced (backTo pos (starEach es X.env))) (AP X pins σ Q) X.xe s
def PS(X:Cx)(st:Stmt)(t:TS):Prop :=
 ∀(pins:List (Addr×Obj)) (s:Shared) (σ:St) (H:Hp) (D:W8),Inv X pins σ H s->t D σ H->wpAny #[8] X.A (exec st X.env) (SP X pins D) X.xe s
def PSs(X:Cx)(st:List Stmt)(t:TS):Prop :=
 ∀(pins:List (Addr×Obj)) (s:Shared) (σ:St) (H:Hp) (D:W8),Inv X pins σ H s->t D σ H->wpAny #[8] X.A (execs st X.env) (SP X pins D) X.xe s
variable{α:Type}
theorem thn{t:Sem α}{Q Q':α->Shared->Prop}(h:wpAny M A t Q E s)(hQ:∀a s,Q a s->Q' a s):wpAny M A t Q' E s:=wpAny_mono h hQ λ_ _ x=>x
variable{pos:Pos}{Q:Value->Shared->Prop}{σ:St}{ta:TE}{c:Expr}
section
def A0(i:Nat):TE:=λσ H Q=>∃v,σ[i]?=some (some v)/\Q v H
def tC(v:V):TE:=λ_ H Q=>Q v H
theorem Ah4{i:Nat}(hN:X.N[i]?=some x)(hv:Vis X.env.scope x)(hd:autoParam ((x == ("__debug__":Str))=false) zAd)(hcd:autoParam ((x == ("__classdict__":Str))=false) zAd):PE X (.Name x pos) (A0 i):=by
 walk_at"22";obtain⟨v,e,h⟩:=h;obtain⟨m,hn,hl⟩:=I.loc;obtain⟨u,r,l⟩:=hl i x v hN e hv;have fin:EP X pins σ Q u s:=⟨v,H,I,r,h⟩;rcases l with⟨hk,hm⟩|⟨hk,c,hc,hcell⟩
 ·exact wpAny_Name (wpAny_loadName_local I.ok.kind hk hn hm fin) hd
 ·rcases hk with hk|hk
  ·exact wpAny_Name (wpAny_loadName_cell I.ok.kind hk hc hcell fin) hd
  ·exact wpAny_Name (wpAny_loadName_free I.ok.kind hk hc hcell fin hcd) hd
theorem B7{i j pos}:PE X (.Constant (.int i) j pos) #[1,i]:=λ_ _ _ H _ I h=>wpAny_Constant_int ⟨.int i,H,I.tok _,⟨_,rfl⟩,h⟩
theorem zb8{b j pos}:PE X (.Constant (.bool b) j pos) (tC (.bl b)):=λ_ _ _ H _ I h=>Constant_bool ⟨.bl b,H,I,rfl,h⟩
theorem xp7{j pos}:PE X (.Constant .none j pos) (tC .non):=λ_ _ _ H _ I h=>Constant_none ⟨.non,H,I,rfl,h⟩
theorem N7{x j pos}:PE X (.Constant (.str x) j pos) (tC (.str x)):=λ_ _ _ H _ I h=>Calls.Constant_str ⟨.str x,H,I.tok _,⟨_,rfl⟩,h⟩
def Gl(X:Cx)(x:Str):Prop:=X.env.kindOf x=some .globalImplicit
theorem yg5(I:Inv X pins σ H s)(hg:Gl X x)(hm:X.mg x=some u)(h:Q u s)(hd:autoParam ((x == ("__debug__":Str))=false) zAd):wpAny #[8] X.A (eval (.Name x pos) X.env) Q E s :=
 Calls.Name_function_global I.ok.kind hg (Calls.loadGlobal_global (by rw[I.ok.glob];exact I.mod.glob.keeps I.bk) hm h) hd
theorem qr6(I:Inv X pins σ H s)(hg:Gl X x)(hm:X.mg x=none)(hv:bootBuiltins x=some u)(h:Q u s)(hn:autoParam (x ≠ "__name__") zAd)(hd:autoParam ((x == ("__debug__":Str))=false) zAd):wpAny #[8] X.A (eval (.Name x pos) X.env) Q E s:=by
 obtain⟨mb,h1,h2⟩:=I.mod.blt;exact Calls.Name_function_global I.ok.kind hg (Calls.loadGlobal_builtin (by rw[I.ok.glob];exact I.mod.glob.keeps I.bk) hm (by rw[I.ok.blt];exact h1.keeps I.bk) ((h2 x hn).trans hv) h) hd
theorem G1(hg:Gl X x)(hm:X.mg x=some u)(r:D8 v u)(hd:autoParam ((x == ("__debug__":Str))=false) zAd):PE X (.Name x pos) (tC v) :=
 λ_ _ _ H _ I h=>yg5 I hg hm ⟨v,H,I,r,h⟩ hd
theorem zw5(hg:Gl X x)(hm:X.mg x=none)(hv:bootBuiltins x=some u)(r:D8 v u)(hn:autoParam (x ≠ "__name__") zAd)(hd:autoParam ((x == ("__debug__":Str))=false) zAd):PE X (.Name x pos) (tC v) :=
 λ_ _ _ H _ I h=>qr6 I hg hm hv ⟨v,H,I,r,h⟩ hn hd
variable{a b:Expr}{tb:TE}
def tB(t:TE):TT:=λσ H Q=>t σ H λx H1=>∃c,x=.bl c/\Q c H1
theorem yt7{t:TE}(h:PE X e t)(he:autoParam (∀whole,isTrue e X.env whole=(do let v<-whole;standAt e.pos;holding [v] (truthy v))) zAi):PT X e (tB t):=by
 intro pins s σ H Q I hw;refine isTrue_plain (thn (h pins s σ H _ I hw) λv s1 zq=>?_) (he _);walk_at"32";obtain⟨d,rfl,q⟩:=q1;cases r1;exact wpAny_truthy_bool ⟨H1,I1,q⟩
variable{tA tB':TT}{rest:List Expr}
def xc1(t u:TT):TT:=λσ H Q=>t σ H λc H1=>if c=true then u σ H1 Q else Q false H1
def tOr(t u:TT):TT:=λσ H Q=>t σ H λc H1=>if c=true then Q true H1 else u σ H1 Q
def zl5(t:TT):TT:=λσ H Q=>t σ H λc H1=>Q (!c) H1
theorem xo2(ha:PT X a tA):PW X (.BoolOp .And [a] pos) tA:=by
 intro wh pins s σ H Q I h;refine isTrue_and (thn (ha pins s σ H Q I h) λc s1 e=>?_);cases c with
 | true=>exact isTrue_and_nil e
 | false=>exact e
theorem zl6(ha:PT X a tA):PW X (.BoolOp .Or [a] pos) tA:=by
 intro wh pins s σ H Q I h;refine isTrue_or (thn (ha pins s σ H Q I h) λc s1 e=>?_);cases c with
 | false=>exact isTrue_or_nil e
 | true=>exact e
theorem yg6(ha:PT X a tA)(hb:PW X (.BoolOp .And (b::rest) pos) tB'):PW X (.BoolOp .And (a::b::rest) pos) (xc1 tA tB'):=by
 intro wh pins s σ H Q I h;refine isTrue_and (thn (ha pins s σ H _ I h) λc s1 zq=>?_);obtain⟨H1,I1,q1⟩:=zq;cases c with
 | true=>exact hb wh pins s1 σ H1 Q I1 q1
 | false=>exact⟨H1,I1,q1⟩
theorem Ae5(ha:PT X a tA)(hb:PW X (.BoolOp .Or (b::rest) pos) tB'):PW X (.BoolOp .Or (a::b::rest) pos) (tOr tA tB'):=by
 intro wh pins s σ H Q I h;refine isTrue_or (thn (ha pins s σ H _ I h) λc s1 zq=>?_);obtain⟨H1,I1,q1⟩:=zq;cases c with
 | true=>exact⟨H1,I1,q1⟩
 | false=>exact hb wh pins s1 σ H1 Q I1 q1
theorem Ah5(ha:PT X a tA):PT X (.UnaryOp .Not a pos) (zl5 tA):=by
 walk_at"22";exact isTrue_not (ha pins s σ H (λc H1=>Q (!c) H1) I h)
def yn5(ta tb:TE):TE:=λσ H Q=>ta σ H λx H1=>∃c,x=.bl c/\if c=true then tb σ H1 Q else Q (.bl false) H1
def zb9(ta:TE):TE:=λσ H Q=>ta σ H λx H1=>∃c,x=.bl c/\Q (.bl (!c)) H1
theorem yt8{op}{t:TE}(h:PE X a t):PE X (.BoolOp op [a] pos) t:=λpins s σ H Q I hw=>BoolOp_one (h pins s σ H Q I hw)
theorem yt9(ha:PE X a ta)(hb:PE X (.BoolOp .And (b::rest) pos) tb):PE X (.BoolOp .And (a::b::rest) pos) (yn5 ta tb):=by
 walk_at"22";refine BoolOp_and (thn (ha pins s σ H _ I h) λv s1 zq=>?_);walk_at"32";obtain⟨c,rfl,q1⟩:=q1;cases r1;refine wpAny_truthy_bool ?_;cases c with
 | true=>exact hb pins s1 σ H1 Q I1 q1
 | false=>exact⟨.bl false,H1,I1,rfl,q1⟩
theorem Ah6(ha:PE X a ta):PE X (.UnaryOp .Not a pos) (zb9 ta):=by
 walk_at"22";refine UnaryOp_ (thn (ha pins s σ H _ I h) λv s1 zq=>?_);walk_at"32";obtain⟨c,rfl,q1⟩:=q1;cases r1;exact not_of (wpAny_truthy_bool ⟨.bl (!c),H1,I1,rfl,q1⟩)
def tIf(t:TT)(ta tb:TE):TE:=λσ H Q=>t σ H λc H1=>if c=true then ta σ H1 Q else tb σ H1 Q
theorem yn6(hc:PT X c tA)(ha:PE X a ta)(hb:PE X b tb):PE X (.IfExp c a b pos) (tIf tA ta tb):=by
 walk_at"22";refine wpAny_IfExp (thn (hc pins s σ H _ I h) λd s1 zq=>?_);obtain⟨H1,I1,q1⟩:=zq;cases d with
 | true=>exact ha pins s1 σ H1 Q I1 q1
 | false=>exact hb pins s1 σ H1 Q I1 q1
end
def SqL(K:Fg)(H:Hp)(a:Addr)(xs:List V):Prop :=
 Rd H a (.lst xs) \/
  ∃(o:Obj) (its:Array Value) (n:Nat),K.lookup a=some o/\o.cls=.type "list"/\o.dict=none/\o.data=.seq its n/\its.size<=sizeLine/\D3 xs its.toList
def SqT(K:Fg)(H:Hp)(a:Addr)(xs:List V):Prop :=
 Rd H a (.tup xs) \/
  ∃(o:Obj) (its:Array Value) (n:Nat),K.lookup a=some o/\o.cls=.type "tuple"/\o.data=.seq its n/\its.size<=sizeLine/\D3 xs its.toList
noncomputable def At9:Value->Option V
 | .none=>some .non
 | .bool b=>some (.bl b)
 | .int i _=>some (.int i)
 | .str x _=>some (.str x)
 | .bytes b _=>some (.byt b)
 | .float b _=>some (.flt b)
 | .ref a=>some (.ref a)
 | .type n=>some (.ty n)
 | _=>none
theorem D8.abs{x:V}(r:D8 x u):At9 u=some x:=by
 cases x with
 | non=>cases r;rfl
 | bl _=>cases r;rfl
 | int _=>obtain⟨t,rfl⟩:=r;rfl
 | str _=>obtain⟨t,rfl⟩:=r;rfl
 | byt _=>obtain⟨t,rfl⟩:=r;rfl
 | flt _=>obtain⟨t,rfl⟩:=r;rfl
 | ref _=>cases r;rfl
 | ty _=>cases r;rfl
variable{y:V}
theorem D8.inj{x:V}(r:D8 x u)(q:D8 y u):x=y:=Option.some.inj (r.abs.symm.trans q.abs)
theorem D3.inj{xs ys:List V}{us:List Value}(h:D3 xs us):D3 ys us->xs=ys:=by
 induction h generalizing ys with
 | nil=>intro k;cases k;rfl
 | cons r t ih=>intro k;cases k with|cons r' t'=>rw[r.inj r',ih t']
variable{ys:List V}
variable{K:Fg}
theorem SqL.of(h:H a=some (.lst xs)):SqL K H a xs:=.inl (.inl h)
theorem SqT.of(h:H a=some (.tup xs)):SqT K H a xs:=.inl (.inl h)
theorem Inv.list(I:Inv X pins σ H s)(h:SqL X.K H a xs):∃its:List Value,D3 xs its/\PlainL s.heap a its.toArray/\xs.length<=sizeLine:=by
 rcases h with h|⟨o,its,n,hk,hc,hd,hs,hz,r⟩
 ·obtain⟨z,its,n,r,e⟩:=h.ok I.hok;exact⟨its,r,⟨_,n,e,rfl,rfl,rfl⟩,z⟩
 ·refine⟨its.toList,r,⟨o,n,I.kIn a o hk,hc,hd,by simpa using hs⟩,?_⟩;have e:=r.length;simp only[Array.length_toList] at e;omega
theorem Inv.tuple(I:Inv X pins σ H s)(h:SqT X.K H a xs):∃its:List Value,D3 xs its/\IsTup s.heap a its.toArray/\xs.length<=sizeLine:=by
 rcases h with h|⟨o,its,n,hk,hc,hs,hz,r⟩
 ·obtain⟨z,its,r,p⟩:=h.ok I.hok;exact⟨its,r,p,z⟩
 ·refine⟨its.toList,r,⟨o,I.kIn a o hk,hc,n,by simpa using hs⟩,?_⟩;have e:=r.length;simp only[Array.length_toList] at e;omega
theorem Inv.list_inj(I:Inv X pins σ H s)(h:SqL X.K H a xs)(h':SqL X.K H a ys):xs=ys:=by
 obtain⟨its,r,⟨o,n,e,_,_,d⟩,_⟩:=I.list h;obtain⟨its',r',⟨o',n',e',_,_,d'⟩,_⟩:=I.list h';rw[e] at e';cases e';rw[d] at d';injection d' with d1 _;have:its=its':=by simpa using congrArg Array.toList d1
 subst this;exact r.inj r'
theorem Inv.tuple_inj(I:Inv X pins σ H s)(h:SqT X.K H a xs)(h':SqT X.K H a ys):xs=ys:=by
 obtain⟨its,r,⟨o,e,_,n,d⟩,_⟩:=I.tuple h;obtain⟨its',r',⟨o',e',_,n',d'⟩,_⟩:=I.tuple h';rw[e] at e';cases e';rw[d] at d';injection d' with d1 _;have:its=its':=by simpa using congrArg Array.toList d1
 subst this;exact r.inj r'
noncomputable abbrev Cx.wish(X:Cx)(E:Value->Shared->Prop):Cx:={X with xe:=E}
noncomputable abbrev Cx.nox(X:Cx):Cx:=X.wish λ_ _=>False
theorem Cx.Ok.wish(ok:X.Ok)(E:Value->Shared->Prop):(X.wish E).Ok :=
 ⟨ok.mod,ok.kind,ok.glob,ok.blt,ok.above,ok.inj,ok.has,ok.cab,ok.hd,ok.frames,ok.stk,ok.exf,ok.bs,ok.bsz,ok.noex,ok.exfs,ok.funs,ok.frf⟩
theorem Cx.Ok.unwish(ok:(X.wish E).Ok):X.Ok :=
 ⟨ok.mod,ok.kind,ok.glob,ok.blt,ok.above,ok.inj,ok.has,ok.cab,ok.hd,ok.frames,ok.stk,ok.exf,ok.bs,ok.bsz,ok.noex,ok.exfs,ok.funs,ok.frf⟩
theorem Inv.wish(I:Inv X pins σ H s)(E:Value->Shared->Prop):Inv (X.wish E) pins σ H s:=⟨I.ok.wish E,I.os,I.bare,I.base,I.loc,I.cell,I.free,I.freeC,I.pin,I.hok,I.len,I.tk⟩
theorem Inv.unwish(I:Inv (X.wish E) pins σ H s):Inv X pins σ H s:=⟨I.ok.unwish,I.os,I.bare,I.base,I.loc,I.cell,I.free,I.freeC,I.pin,I.hok,I.len,I.tk⟩
theorem SP.unwish{D:W8}{f:Flow}{s':Shared}(h:SP (X.wish E) pins D f s'):SP X pins D f s':=by
 cases f with
 | next=>obtain⟨σ',H',I,q⟩:=h;exact⟨σ',H',I.unwish,q⟩
 | brk=>obtain⟨σ',H',I,q⟩:=h;exact⟨σ',H',I.unwish,q⟩
 | cont=>obtain⟨σ',H',I,q⟩:=h;exact⟨σ',H',I.unwish,q⟩
 | ret u=>obtain⟨v,σ',H',I,r,q⟩:=h;exact⟨v,σ',H',I.unwish,r,q⟩
theorem PSs.nox{st:List Stmt}{t:TS}(h:PSs X.nox st t):PSs X st t:=λpins s σ H D I hw =>
 wpAny_mono (h pins s σ H D (I.wish _) hw) (λ_ _ q=>q.unwish) λ_ _ z=>False.elim z
variable{st:Stmt}{te:TE}
section
variable{rest:List Stmt}{t u:TS}
def J8:TS:=λD σ H=>D.nx σ H
def B1(t u:TS):TS:=λD σ H=>t {D with nx:=u D} σ H
theorem qf8:PSs X [] J8:=λ_ _ σ H _ I h=>wpAny_execs_nil ⟨σ,H,I,h⟩
theorem A9(h1:PS X st t)(h2:PSs X rest u):PSs X (st::rest) (B1 t u):=by
 intro pins s σ H D I h;refine wpAny_execs_cons (thn (h1 pins s σ H {D with nx:=u D} I h) λf s1 q=>?_);cases f with
 | next =>
   obtain⟨σ',H',I',q⟩:=q
   exact h2 pins s1 σ' H' D I' q
 | ret v=>exact q
 | brk=>exact q
 | cont=>exact q
theorem C4(h1:PS X st t):PSs X [st] t:=by
 intro pins s σ H D I h;refine wpAny_execs_cons (thn (h1 pins s σ H D I h) λf s1 q=>?_);cases f with
 | next=>exact wpAny_execs_nil q
 | ret v=>exact q
 | brk=>exact q
 | cont=>exact q
def yu0:TS:=λD σ H=>D.bk σ H
theorem zl7:PS X (.Break pos) yu0:=λ_ _ σ H _ I h=>wpAny_Break ⟨σ,H,I,h⟩
theorem Inv.quiet(I:Inv X pins σ H s):interactive X.env=false:=by simp[interactive,I.ok.kind]
def D2(te:TE):TS:=λD σ H=>te σ H λ_ H1=>D.nx σ H1
theorem X2(he:PE X e te)(hs:autoParam (swapsWith e none pos.line X.env=pure false) zAr):PS X (.Expr e pos) (D2 te):=by
 intro pins s σ H D I h;exact wpAny_Expr_any (thn (he pins s σ H _ I h) λv s1 ⟨x,H1,I1,r1,q1⟩=>⟨σ,H1,I1,q1⟩) I.quiet hs
def E1(te:TE):TS:=λD σ H=>te σ H D.rt
theorem N2(he:PE X e te):PS X (.Return (some e) pos) (E1 te):=by
 intro pins s σ H D I h;exact wpAny_Return_some (thn (he pins s σ H _ I h) λv s1 ⟨x,H1,I1,r1,q1⟩=>⟨x,σ,H1,I1,r1,q1⟩)
def yn7:TS:=λD _ H=>D.rt .non H
theorem zw6:PS X (.Return none pos) yn7:=λ_ _ σ H _ I h=>wpAny_Return_none ⟨.non,σ,H,I,rfl,h⟩
def M4(c:TT)(t u:TS):TS:=λD σ H=>c σ H λb H1=>if b=true then t D σ H1 else u D σ H1
theorem wa0{a b:List Stmt}{tc:TT}(hc:PT X c tc)(ha:PSs X a t)(hb:PSs X b u):PS X (.If c a b pos) (M4 tc t u):=by
 intro pins s σ H D I h;refine wpAny_If (thn (hc pins s σ H _ I h) λd s1 zq=>?_);obtain⟨H1,I1,q1⟩:=zq;cases d with
 | true=>exact ha pins s1 σ H1 D I1 q1
 | false=>exact hb pins s1 σ H1 D I1 q1
def zl8:TS:=λ_ _ _=>False
theorem zl9:PS X st zl8:=λ_ _ _ _ _ _ h=>h.elim
end
abbrev TG:=V->St->Hp->(St->Hp->Prop)->Prop
abbrev TGs:=List V->St->Hp->(St->Hp->Prop)->Prop
def PG(X:Cx)(target:Expr)(t:TG):Prop :=
 ∀(pins:List (Addr×Obj)) (s:Shared) (σ:St) (H:Hp) (v:V) (u:Value) (Q:St->Hp->Prop),Inv X pins σ H s->D8 v u->t v σ H Q ->
  wpAny #[8] X.A (assign target X.env u) (λ_ s'=>∃σ' H',Inv X pins σ' H' s'/\Q σ' H') X.xe s
def PGs(X:Cx)(ts:List Expr)(t:TGs):Prop :=
 ∀(pins:List (Addr×Obj)) (s:Shared) (σ:St) (H:Hp) (vs:List V) (us:List Value) (Q:St->Hp->Prop),Inv X pins σ H s->D3 vs us->t vs σ H Q ->
  wpAny #[8] X.A (assignInOrder ((assignEach ts X.env).map (·.2)) us) (λ_ s'=>∃σ' H',Inv X pins σ' H' s'/\Q σ' H') X.xe s
abbrev zm0:=V->V->V->Hp->(Hp->Prop)->Prop
def Ah7(X:Cx)(t:zm0):Prop :=
 ∀(pins:List (Addr×Obj)) (s:Shared) (σ:St) (H:Hp) (o i v:V) (ov iv u:Value) (Q:Hp->Prop),Inv X pins σ H s->D8 o ov->D8 i iv->D8 v u->t o i v H Q ->
  wpAny #[8] X.A (setItem ov iv u) (λ_ s'=>∃H',Inv X pins σ H' s'/\Q H') X.xe s
def A6(i:Nat):TG:=λv σ H Q=>Q (σ.set i (some v)) H
theorem G2{i:Nat}(hN:X.N.Nodup)(hi:X.N[i]?=some x)(hx:Loc X.env.scope x)(hf:autoParam (X.fn x=true\/X.env.scope.names.lookup x=some .local) zAf):PG X (.Name x pos) (A6 i):=by
 intro pins s σ H v u Q I r h;exact wpAny_assign_Name (yn4 I hN hi hx r (λs' I'=>⟨_,H,I',h⟩) hf)
def yg7:TGs:=λvs σ H Q=>vs=[]/\Q σ H
def qf2(t:TG)(u:TGs):TGs:=λvs σ H Q=>∃v r,vs=v::r/\t v σ H λσ' H'=>u r σ' H' Q
theorem xo3:PGs X [] yg7:=by
 intro pins s σ H vs us Q I r h;obtain⟨e,h⟩:=h;subst e;cases r;exact assignInOrder_nil ⟨σ,H,I,h⟩
variable{es:List Expr}
theorem qr7{t:TG}{u:TGs}(h1:PG X e t)(h2:PGs X es u)(hs:autoParam ((assignEach (e::es) X.env).map (·.2)=assign e X.env::(assignEach es X.env).map (·.2)) zAr):PGs X (e::es) (qf2 t u):=by
 intro pins s σ H vs us Q I r h;obtain⟨v,vr,e1,h⟩:=h;subst e1;cases r with
 | cons r rr =>
   rw[hs]
   refine assignInOrder_cons (thn (h1 pins s σ H _ _ _ I r h) λ_ s1 zq=>?_)
   obtain⟨σ1,H1,I1,q1⟩:=zq
   exact h2 pins s1 σ1 H1 _ _ Q I1 rr q1
def xz4(K:Fg)(n:Nat)(t:TGs):TG:=λv σ H Q=>∃a xs,v=.ref a/\SqT K H a xs/\xs.length=n/\t xs σ H Q
variable{n:Nat}
theorem yg8{k:Nat}{t:TGs}(hc:X.calm=true)(h:PGs X es t)(hn:autoParam ((assignEach es X.env).length=n) zAr)(hst:autoParam ((assignEach es X.env).findIdx? (·.1)=none) zAr):PG X (.Tuple es k pos) (xz4 X.K n t):=by
 intro pins s σ H v u Q I r hw;obtain⟨a,xs,e1,hq,hl,hw⟩:=hw;subst e1;cases r;obtain⟨its,rv,ht,hz⟩:=I.tuple hq;refine assign_Tuple_tuple (I.ok.hd hc) ht (by simp[hn,<-hl,rv.length]) hst λh' hx=>?_;have I1:Inv X pins σ H {s with heap:=h'}:=I.kept (t':=s.toks) λb o e=>hx b o (Nat.ne_of_lt (Heap.lt_size e)) e;exact h pins _ σ H xs _ Q I1 (by simpa using rv) hw
def yg9(to ti:TE)(t:zm0):TG:=λv σ H Q=>to σ H λo H1=>ti σ H1 λi H2=>t o i v H2 λH3=>Q σ H3
variable{o:Expr}{ti to:TE}
theorem xp8{i:Expr}{t:zm0}(ho:PE X o to)(hi:PE X i ti)(hs:Ah7 X t) (ha:∀v,assign (.Subscript o i pos) X.env v=(do
  let ov<-holding [v] (eval o X.env)
  let iv<-holding [v,ov] (eval i X.env)
  standAt pos
  holding [v,ov,iv] (setItem ov iv v)
  release [v,ov,iv] []):=by intro _;rfl):PG X (.Subscript o i pos) (yg9 to ti t):=by
 intro pins s σ H v u Q I r h
 rw[ha]
 refine wpAny_bind (wpAny_holding (thn (ho pins s σ H _ I h) λov s1 zq=>?_))
 walk_at"32"
 refine wpAny_bind (wpAny_holding (thn (hi pins s1 σ H1 _ I1 q1) λiv s2 zq=>?_))
 obtain⟨y,H2,I2,r2,q2⟩:=zq
 refine wpAny_bind (wpAny_standAt (wpAny_bind (wpAny_holding (thn (hs pins s2 σ H2 x y v ov iv u _ I2 r1 r2 r q2) λ_ s3 zq=>?_))))
 obtain⟨H3,I3,q3⟩:=zq
 exact wpAny_release ⟨σ,H3,I3,q3⟩
def B8(te:TE)(g:TG):TS:=λD σ H=>te σ H λx H1=>g x σ H1 D.nx
variable{g:TG}
theorem xc2{tg:Expr}(he:PE X e te)(hg:PG X tg g)(hs:autoParam (swapsWithSole [tg] e pos.line X.env=pure false) zAr)(hw:autoParam (swappedStores [tg] e X.env=pure none) zAr)(h1:autoParam ((assignEach [tg] X.env).map (·.2)=[assign tg X.env]) zAr):PS X (.Assign [tg] e pos) (B8 te g):=by
 intro pins s σ H D I h;refine wpAny_Assign_stores (thn (he pins s σ H _ I h) λv s1 zq=>?_) hs hw;walk_at"32";rw[h1];exact thn (hg pins s1 σ H1 x v _ I1 r1 q1) λ_ s2 q=>q
variable{pos':Pos}
theorem qe7{i:Nat}(hN:X.N.Nodup)(hi:X.N[i]?=some x)(hx:Loc X.env.scope x)(he:PE X e te)(hs:autoParam (swapsWith e (some (.Name x pos')) pos.line X.env=pure false) zAr)(hf:autoParam (X.fn x=true\/X.env.scope.names.lookup x=some .local) zAf) :
 PS X (.Assign [.Name x pos'] e pos) (B8 te (A6 i)):=by
 intro pins s σ H D I h
 refine wpAny_Assign_Name (thn (he pins s σ H _ I h) λv s1 zq=>?_) hs
 obtain⟨y,H1,I1,r1,q1⟩:=zq
 exact yn4 I1 hN hi hx r1 (λs2 I2=>⟨_,H1,I2,q1⟩) hf
def wd9(c:TT)(tb:TS):TS:=λD σ H=>∃W:Nat->St->Hp->Prop,(∃m,W m σ H)/\∀m σ H,W m σ H ->
 c σ H λb H1=>if b=true then ∃N:St->Hp->Prop,(∀σ' H',N σ' H'->∃m',m'<m/\W m' σ' H')/\tb {D with nx:=N,ct:=N,bk:=D.nx} σ H1 else D.nx σ H1
variable{body:List Stmt}{tb:TS}
theorem zm1{tc:TT}(hp:PassesOwn #[8] X.A X.env X.xe)(hc:PT X c tc)(hb:PSs X body tb):PS X (.While c body [] pos) (wd9 tc tb):=by
 intro pins s σ H D I h;obtain⟨W,⟨m0,w0⟩,turn⟩:=h;refine wpAny_While (codeAny_whileLoop (λn s'=>∃σ' H',Inv X pins σ' H' s'/\W n σ' H') ?_ m0 ⟨σ,H,I,w0⟩);rintro n s1 ⟨σ1,H1,I1,w1⟩;refine wpAny_passesOwn hp (thn (hc pins s1 σ1 H1 _ I1 (turn n σ1 H1 w1)) λb s2 zq=>?_);obtain⟨H2,I2,q2⟩:=zq;cases b with
 | true =>
   obtain⟨N,hN,q2⟩:=q2
   rw[if_pos rfl]
   refine wpAny_passesOwn hp (thn (hb pins s2 σ1 H2 _ I2 q2) λf s3 q3=>?_)
   cases f with
   | next =>
     obtain⟨σ3,H3,I3,n3⟩:=q3
     obtain⟨m',hm,w3⟩:=hN σ3 H3 n3
     exact⟨m',hm,σ3,H3,I3,w3⟩
   | cont =>
     obtain⟨σ3,H3,I3,n3⟩:=q3
     obtain⟨m',hm,w3⟩:=hN σ3 H3 n3
     exact⟨m',hm,σ3,H3,I3,w3⟩
   | brk=>exact q3
   | ret v=>exact q3
 | false =>
   rw[if_neg Bool.false_ne_true]
   exact wpAny_execs_nil ⟨σ1,H2,I2,q2⟩
set_option genInjectivity false in
structure It where
 go:Nat->Hp->Prop
 yld:Nat->Hp->V->Hp->Prop
 stop:Nat->Hp->Prop
def xz5(X:Cx)(pins:List (Addr×Obj))(H:Hp)(b:Addr):Prop :=
 H b=none/\b≠X.env.locals/\b∉X.fs/\(b∈X.ex\/X.s₀.heap.objs.size<=b)/\(∀x c,X.env.cells.lookup x=some c->c≠b)/\∀p∈X.pn++pins,p.1≠b
theorem Inv.fpOk(I:Inv X pins σ H s)(hb:s.heap.objs.size<=b)(hn:H' b=none):xz5 X pins H' b:=by
 refine⟨hn,Nat.ne_of_gt (Nat.lt_of_lt_of_le I.lt hb),I.nofs hb,.inr (Nat.le_trans I.sz hb),λx c e z=>?_,λp hp z=>?_⟩
 ·obtain⟨v,q⟩:=I.cell x c e;exact absurd (Nat.lt_of_lt_of_le q.lt (by rw[z];exact hb)) (Nat.lt_irrefl _)
 ·exact absurd (Nat.lt_of_lt_of_le (Heap.lt_size (I.pin p hp).1) (by rw[z];exact hb)) (Nat.lt_irrefl _)
structure xj4(P:Program)(w:World)(K:Fg)(tg:Expr)(J:It)(fp:List Addr)(it:Addr)(tn:Nat->Heap->Prop):Prop where
 mem:it∈fp
 obj:∀i h,tn i h->∀b∈fp,∃o,h.get? b=some o/\∀v,o.data≠.cell v
 keep:∀i h h',tn i h->(∀b∈fp,∀o,h.get? b=some o->h'.get? b=some o)->tn i h'
 item:∀(X:Cx),X.prog=P->X.w=w->X.K=K->X.calm=true->∀(i:Nat) (pins:List (Addr×Obj)) (s:Shared) (σ:St) (H:Hp) (E:Value->Shared->Prop),Inv X pins σ H s->(∀b∈fp,xz5 X pins H b)->tn i s.heap->J.go i H ->
  wpAny (model P w) X.A (pyNext (.ref it)) (λr s1=>∃u,r=some u /\
   wpAny (model P w) X.A (letOwnedTupleGo tg (.ref it) u) (λ_ s2=>∃x H',Inv X pins σ H' s2/\D8 x u/\J.yld i H x H'/\tn (i+1) s2.heap/\∀b∈fp,H' b=none) E s1) E s
 done:∀(X:Cx),X.prog=P->X.w=w->X.K=K->X.calm=true->∀(i:Nat) (pins:List (Addr×Obj)) (s:Shared) (σ:St) (H:Hp) (E:Value->Shared->Prop),Inv X pins σ H s->(∀b∈fp,xz5 X pins H b)->tn i s.heap->J.stop i H ->
  wpAny (model P w) X.A (pyNext (.ref it)) (λr s1=>r=none/\Inv X pins σ H s1) E s
 self:∀(A:Around) (i:Nat) (s:Shared) (Q:Value->Shared->Prop) (E:Value->Shared->Prop),tn i s.heap->Q (.ref it) s->wpAny (model P w) A (pyIter (.ref it)) Q E s
abbrev TI:=St->Hp->(It->Hp->Prop)->Prop
def PIE(X:Cx)(pins:List (Addr×Obj))(σ:St)(tg:Expr)(R:It->Hp->Prop)(itv:Value)(s2:Shared):Prop :=
 ∃(it:Addr) (fp:List Addr) (tn:Nat->Heap->Prop) (J:It) (H':Hp),itv=.ref it/\Inv X pins σ H' s2/\xj4 X.prog X.w X.K tg J fp it tn/\tn 0 s2.heap/\(∀b∈fp,xz5 X pins H' b)/\R J H'
def PI(X:Cx)(tg iter:Expr)(wi:TI):Prop :=
 ∀(pins:List (Addr×Obj)) (s:Shared) (σ:St) (H:Hp) (R:It->Hp->Prop),Inv X pins σ H s->wi σ H R ->
  wpAny #[8] X.A (eval iter X.env) (λv s1=>wpAny #[8] X.A (pyIter v) (PIE X pins σ tg R) X.xe s1) X.xe s
theorem yc9{tg:Expr}{o:Obj}{n:String}{vs:Array Value}{Q:Unit->Shared->Prop}(ho:s.heap.get? it=some o)(hc:o.cls=.type n)(hd:o.data=.fields vs)(hn:["enumerate","zip","dict_itemiterator","dict_reverseitemiterator","odict_iterator","itertools.zip_longest","itertools.pairwise"].contains n=false)(hQ:Q () s):wpAny M A (letOwnedTupleGo tg (.ref it) u) Q E s:=by
 unfold letOwnedTupleGo;cases tg <;> first
  | exact wpAny_pure hQ
  | (cases u <;> first
   | exact wpAny_pure hQ
   | (refine wpAny_bind (wpAny_load ho ?_)
      rw[hc,hd]
      show wpAny M A (if(["enumerate","zip","dict_itemiterator","dict_reverseitemiterator","odict_iterator","itertools.zip_longest","itertools.pairwise"].contains n && vs[0]? == some (rawInt _))=true then _ else _) Q E s
      rw[if_neg (by intro h;rw[hn,Bool.false_and] at h;cases h)]
      exact wpAny_pure hQ))
noncomputable def Itl(K:Fg)(a:Addr):It :=
 ⟨λi H=>∃xs x,SqL K H a xs/\xs[i]?=some x,λi H x H'=>H'=H/\∀xs,SqL K H a xs->xs[i]?=some x,λi H=>∃xs,SqL K H a xs/\xs.length<=i⟩
noncomputable def Itt(K:Fg)(a:Addr):It :=
 ⟨λi H=>∃xs x,SqT K H a xs/\xs[i]?=some x,λi H x H'=>H'=H/\∀xs,SqT K H a xs->xs[i]?=some x,λi H=>∃xs,SqT K H a xs/\xs.length<=i⟩
noncomputable def Itr(lo:Int)(n:Nat):It:=⟨λi _=>i<n,λi H x H'=>H'=H/\x=.int (lo+i),λi _=>n<=i⟩
theorem zf6{tg:Expr}(a it:Addr):xj4 P w K tg (Itl K a) [it] it (λi h=>h.IsListIter it a i) where
 mem:=by simp
 obj:=λi h st b hb=>by
  walk_at"38"
 keep:=λi h h' st k=>st.at λo e=>k it (by simp) o e
 item:=by
  walk_at"0";obtain⟨xs,x,hq,hx⟩:=hg;obtain⟨its,rv,p,hz⟩:=I.list hq;obtain⟨u,hu,ru⟩:=rv.get hx;walk_at"12";refine wpAny_pyNext_list_item st p.isList (x:=u) (by simpa using hu) λh' st' sb=>?_;have I1:Inv X pins σ H {s with heap:=h'}:=I.turned (t':=s.toks) (λb o hb e=>(sb.2 b hb).trans e) f0 f1 f3 f4 f5;obtain⟨o,e,c,d⟩:=id st';exact⟨u,rfl,yc9 (s:={s with heap:=h'}) e c d #[7] ⟨x,H,I1,ru,⟨rfl,λys hy=>by rw[I.list_inj hy hq];exact hx⟩,st',λb hb=>(hf b hb).1⟩⟩
 done:=by
  walk_at"0";obtain⟨xs,hq,hx⟩:=hg;obtain⟨its,rv,p,hz⟩:=I.list hq;walk_at"12";have hl:=rv.length;exact wpAny_pyNext_list_end (I.ok.hd hc) st p.isList (by simp;omega) λh' eb=>⟨rfl,I.turned (t':=s.toks) (λb o hb e=>eb b o hb e) f0 f1 f3 f4 f5⟩
 self:=λ_ _ _ _ _ st h=>wpAny_pyIter_listiter st h
theorem yu1{tg:Expr}(a it:Addr):xj4 P w K tg (Itt K a) [it] it (λi h=>h.IsTupleIter it a i) where
 mem:=by simp
 obj:=λi h st b hb=>by
  walk_at"38"
 keep:=λi h h' st k=>st.at λo e=>k it (by simp) o e
 item:=by
  walk_at"0";obtain⟨xs,x,hq,hx⟩:=hg;obtain⟨its,rv,p,hz⟩:=I.tuple hq;obtain⟨u,hu,ru⟩:=rv.get hx;walk_at"12";refine wpAny_pyNext_tuple_item st (show s.heap.IsTuple a its.toArray from p) (x:=u) (by simpa using hu) λh' st' sb=>?_;have I1:Inv X pins σ H {s with heap:=h'}:=I.turned (t':=s.toks) (λb o hb e=>(sb.2 b hb).trans e) f0 f1 f3 f4 f5;obtain⟨o,e,c,d⟩:=id st';exact⟨u,rfl,yc9 (s:={s with heap:=h'}) e c d #[7] ⟨x,H,I1,ru,⟨rfl,λys hy=>by rw[I.tuple_inj hy hq];exact hx⟩,st',λb hb=>(hf b hb).1⟩⟩
 done:=by
  walk_at"0";obtain⟨xs,hq,hx⟩:=hg;obtain⟨its,rv,p,hz⟩:=I.tuple hq;walk_at"12";have hl:=rv.length;exact wpAny_pyNext_tuple_end (I.ok.hd hc) st (show s.heap.IsTuple a its.toArray from p) (by simp;omega) λh' eb=>⟨rfl,I.turned (t':=s.toks) (λb o hb e=>eb b o hb e) f0 f1 f3 f4 f5⟩
 self:=λ_ _ _ _ _ st h=>wpAny_pyIter_tupleiter st h
theorem yu2{tg:Expr}(it:Addr)(lo:Int)(n:Nat):xj4 P w K tg (Itr lo n) [it] it (λi h=>IsRangeIter h it (lo+(i:Nat)*1) ((n:Int)-(i:Nat)) 1) where
 mem:=by simp
 obj:=λi h st b hb=>by
  have e:b=it:=by simpa using hb
  subst e;exact⟨_,st,λv z=>by
   have z':Data.fields _=Data.cell v:=z;cases z'⟩
 keep:=λi h h' st k=>k it (by simp) _ st
 item:=by
  walk_at"0";walk_at"12";have W:=Walks.range (prog:=X.prog) (w:=X.w) (I.ok.hd hc) it lo 1 n;walk_at"31";refine⟨_,rfl,yc9 (s:={s with heap:=h',toks:=tk}) (n := "range_iterator") st' rfl rfl #[7] ⟨.int (lo+i),H,I1,⟨t,?_⟩,⟨rfl,rfl⟩,st',λb hb=>(hf b hb).1⟩⟩;rw[Int.mul_one]
 done:=by
  walk_at"0";walk_at"12";exact wpAny_pyNext_range_end (I.ok.hd hc) st (by have:n<=i:=hg;omega) λh' eb=>⟨rfl,I.turned (t':=s.toks) (λb o hb e=>eb b o hb e) f0 f1 f3 f4 f5⟩
 self:=λ_ _ _ _ _ st h=>wpAny_pyIter_rangeiter st h
variable{R:It->Hp->Prop}{iter:Expr}{wi:TI}
section
variable{tg:Expr}
theorem yn8{lo hi:Int}{t u v:Tok}{tk:Nat}(I:Inv X pins σ H s)(h1:-(2 ^ 62)<=lo)(h2:lo<2 ^ 62)(h3:-(2 ^ 62)<=hi)(h4:hi<2 ^ 62)(q:R (Itr lo (hi-lo).toNat) H)(ht:autoParam (0<tk) zAt):wpAny #[8] X.A (pyIter (.ref s.heap.objs.size)) (PIE X pins σ tg R) E {s with heap:=s.heap.push {cls:=.type "range",data:=.fields #[.int lo t,.int hi u,.int 1 v]},toks:=tk}:=by
 refine wpAny_pyIter_range (IsRange.new ..) (small_one h1 h2 h3 h4) ?_;have I1:Inv X pins σ H {s with heap:=s.heap.push {cls:=.type "range",data:=.fields #[.int lo t,.int hi u,.int 1 v]},toks:=tk}:=I.kept λb o e=>Heap.get?_push_of_some _ e;refine⟨(s.heap.push {cls:=.type "range",data:=.fields #[.int lo t,.int hi u,.int 1 v]}).objs.size,[(s.heap.push {cls:=.type "range",data:=.fields #[.int lo t,.int hi u,.int 1 v]}).objs.size],_,_,H,rfl,
  I1.kept (t':=tk) λb o e=>Heap.get?_push_of_some _ e,yu2 _ lo (hi-lo).toNat,?_,λb hb=>?_,q⟩
 ·have e1:lo+((0:Nat):Int)*1=lo:=by simp
  have e2:(((hi-lo).toNat:Nat):Int)-((0:Nat):Int)=Builtin.Range.rangeSize lo hi 1:=by rw[rangeSize_one];split <;> omega
  show IsRangeIter _ _ (lo+((0:Nat):Int)*1) ((((hi-lo).toNat:Nat):Int)-((0:Nat):Int)) 1;rw[e1,e2];exact Heap.get?_push_size _ rfl
 ·have e:b=(s.heap.push {cls:=.type "range",data:=.fields #[.int lo t,.int hi u,.int 1 v]}).objs.size:=by simpa using hb
  subst e;exact I1.fpOk #[6] (I1.hok.fresh #[6])
def wa1(ta:TA):TI:=λσ H R=>ta σ H λvs H1=>∃j:Int,vs=[.int j]/\-(2 ^ 62)<=j/\j<2 ^ 62/\R (Itr 0 j.toNat) H1
def zc0(ta:TA):TI:=λσ H R=>ta σ H λvs H1=>∃i j:Int,vs=[.int i,.int j]/\(-(2 ^ 62)<=i/\i<2 ^ 62/\-(2 ^ 62)<=j/\j<2 ^ 62)/\R (Itr i (j-i).toNat) H1
theorem Z5{a:Expr}{ta:TA}{p:Pos}(hg:Gl X "range")(hm:X.mg "range"=none)(ha:PA X [a] ta)(hs:autoParam (starEach [a] X.env=[(false,eval a X.env)]) zAr):PI X tg (.Call (.Name "range" p) [a] [] pos) (wa1 ta):=by
 intro pins s σ H R I h;refine Call_ (qr6 I hg hm boot_range (PyProof.Rows.callWith_type1 (thn (ha pos pins s σ H _ I h) λus s1 zq=>?_) hs rfl));obtain⟨vs,H1,I1,r1,q1⟩:=zq;obtain⟨j,e,q1,q2,q⟩:=q1;subst e;cases r1 with
 | cons r rr =>
   cases rr
   obtain⟨t,rfl⟩:=r
   exact call_range_1 (yn8 I1 #[0] #[0] q1 q2 (by simpa using q))
theorem yd0{a b:Expr}{ta:TA}{p:Pos}(hg:Gl X "range")(hm:X.mg "range"=none)(ha:PA X [a,b] ta)(hs:autoParam (starEach [a,b] X.env=[(false,eval a X.env),(false,eval b X.env)]) zAr)(hs2:autoParam (starEach [b] X.env=[(false,eval b X.env)]) zAr) :
 PI X tg (.Call (.Name "range" p) [a,b] [] pos) (zc0 ta):=by
 intro pins s σ H R I h
 refine Call_ (qr6 I hg hm boot_range (PyProof.Rows.callWith_type1 (thn (ha pos pins s σ H _ I h) λus s1 zq=>?_) (by rw[hs,hs2]) (by rw[hs2];rfl)))
 obtain⟨vs,H1,I1,r1,q1⟩:=zq
 obtain⟨i,j,e,⟨q1,q2,q3,q4⟩,q⟩:=q1
 subst e
 cases r1 with
 | cons r rr =>
   cases rr with
   | cons r' rr =>
     cases rr
     obtain⟨t,rfl⟩:=r
     obtain⟨t',rfl⟩:=r'
     exact call_range_2 (yn8 I1 q1 q2 q3 q4 q)
def qc8(wi:TI)(g:TG)(tb:TS):TS:=λD σ H=>wi σ H λJ H1=>∃W:Nat->Nat->St->Hp->Prop,(∃m,W 0 m σ H1)/\∀i m σ H,W i m σ H ->
 (J.stop i H/\D.nx σ H)\/#[20]
noncomputable def xp9(fp:List Addr)(h:Heap):List (Addr×Obj):=fp.filterMap λb=>(h.get? b).map λo=>(b,o)
theorem we0{fp:List Addr}{o:Obj}(hb:b∈fp)(e:h.get? b=some o):(b,o)∈xp9 fp h:=mem_filterMap.mpr ⟨b,hb,by rw[e];rfl⟩
theorem zf7{fp:List Addr}{p:Addr×Obj}(hp:p∈xp9 fp h):p.1∈fp/\h.get? p.1=some p.2:=by
 obtain⟨b,hb,e⟩:=mem_filterMap.mp hp;cases q:h.get? b with
 | none=>rw[q] at e;cases e
 | some o =>
   rw[q] at e
   have e':(b,o)=p:=Option.some.inj e
   subst e'
   exact⟨hb,q⟩
theorem Inv.pinned{fp:List Addr}(I:Inv X pins σ H s)(hf:∀b∈fp,xz5 X pins H b)(ho:∀b∈fp,∃o,s.heap.get? b=some o/\∀v,o.data≠.cell v):Inv X (pins++xp9 fp s.heap) σ H s :=
 I.pins_of λp hp=>(mem_append.mp hp).elim (λz=>I.pin p (mem_append_right _ z)) λz=>by
  obtain⟨hb,e⟩:=zf7 z;obtain⟨f0,f1,f2,_⟩:=hf p.1 hb;obtain⟨o,e',d⟩:=ho p.1 hb;rw[e] at e';cases e';exact⟨e,f0,f1,f2,d⟩
theorem Inv.unpinned{pl:List (Addr×Obj)}(I:Inv X (pins++pl) σ H s):Inv X pins σ H s:=I.pins_of λp hp=>I.pin p (mem_append_right _ (mem_append_left _ hp))
theorem qy0(hp:PassesOwn #[8] X.A X.env X.xe)(hc:X.calm=true)(hi:PI X tg iter wi)(hg:PG X tg g)(hb:PSs X body tb)(hs:autoParam (∀x,foldedSetIterable iter X.env x=pure x) zAi):PS X (.For tg iter body [] pos) (qc8 wi g tb):=by
 intro pins s σ H D I h;refine wpAny_For (thn (hi pins s σ H _ I h) λv s1 h1=>thn h1 λitv s2 h2=>?_) hs;obtain⟨it,fp,tn,J,H2,e,I2,T,st2,f2,W,⟨m0,w0⟩,turn⟩:=h2;subst e;have stat:∀{H':Hp},(∀b∈fp,H' b=none)->∀b∈fp,xz5 X pins H' b:=λhn b hb=>⟨hn b hb,(f2 b hb).2⟩;refine codeAny_forLoop_any (λn s'=>∃i σ' H',Inv X pins σ' H' s'/\tn i s'.heap/\(∀b∈fp,H' b=none)/\W i n σ' H') ?_ m0 ⟨0,σ,H2,I2,st2,λb hb=>(f2 b hb).1,w0⟩;rintro n s3 ⟨i,σ3,H3,I3,st3,fr3,w3⟩;rcases turn i n σ3 H3 w3 with⟨stop,qn⟩|⟨go,N,hN,step⟩
 ·refine wpAny_passesOwn hp (thn (T.done X rfl rfl rfl hc i pins s3 σ3 H3 X.xe I3 (stat fr3) st3 stop) λr s4 zq=>?_);obtain⟨hr,I4⟩:=zq;subst hr;exact wpAny_execs_nil ⟨σ3,H3,I4,qn⟩
 ·refine wpAny_passesOwn hp (thn (T.item X rfl rfl rfl hc i pins s3 σ3 H3 X.xe I3 (stat fr3) st3 go) λr s4 zq=>?_);obtain⟨u,hr,h4⟩:=zq;subst hr;refine wpAny_passesOwn hp (thn h4 λ_ s5 zq=>?_);obtain⟨x,H5,I5,r5,y5,st5,fr5⟩:=zq;have I5':=I5.pinned (stat fr5) (T.obj _ _ st5);refine wpAny_passesOwn hp (thn (hg _ s5 σ3 H5 x u _ I5' r5 (step x H5 y5)) λ_ s6 zq=>?_);obtain⟨σ6,H6,I6,q6⟩:=zq;refine wpAny_passesOwn hp (thn (hb _ s6 σ6 H6 _ I6 q6) λf s7 q7=>?_);have again:∀{σ7:St} {H7:Hp},Inv X (pins++xp9 fp s5.heap) σ7 H7 s7->N σ7 H7->∃m,m<n/\∃i σ' H',Inv X pins σ' H' s7/\tn i s7.heap/\(∀b∈fp,H' b=none)/\W i m σ' H':=λ{σ7 H7} I7 n7=>by
   obtain⟨m',hm,w7⟩:=hN σ7 H7 n7;refine⟨m',hm,i+1,σ7,H7,I7.unpinned,T.keep _ _ _ st5 λb hb o e=>(I7.pin (b,o) (mem_append_right _ (mem_append_right _ (we0 hb e)))).1,λb hb=>?_,w7⟩;obtain⟨o,e,d⟩:=T.obj _ _ st5 b hb;exact(I7.pin (b,o) (mem_append_right _ (mem_append_right _ (we0 hb e)))).2.1
  cases f with
  | next=>obtain⟨σ7,H7,I7,n7⟩:=q7;exact again I7 n7
  | cont=>obtain⟨σ7,H7,I7,n7⟩:=q7;exact again I7 n7
  | brk=>obtain⟨σ7,H7,I7,q7⟩:=q7;exact⟨σ7,H7,I7.unpinned,q7⟩
  | ret v=>obtain⟨x7,σ7,H7,I7,r7,q7⟩:=q7;exact⟨x7,σ7,H7,I7.unpinned,r7,q7⟩
end
abbrev PAt{α:Type}(P:Nat->α->Hp->Prop)(i:Nat):α->Hp->Prop:=P i
variable{D:W8}
theorem xq0(Pv:Nat->St->Hp->Prop)(h0:Pv 0 σ H)(hl:∀i σ H,i<=xs.length->Pv i σ H->SqL K H a xs)(hs:∀i x σ H,xs[i]?=some x->Pv i σ H->g x σ H λσ2 H2=>tb {D with nx:=PAt Pv (i+1),ct:=PAt Pv (i+1),bk:=D.nx} σ2 H2)(hd:∀σ H,Pv xs.length σ H->D.nx σ H) :
 ∃W:Nat->Nat->St->Hp->Prop,(∃m,W 0 m σ H)/\∀i m σ H,W i m σ H ->
  ((Itl K a).stop i H/\D.nx σ H)\/((Itl K a).go i H/\∃N:St->Hp->Prop,(∀σ' H',N σ' H'->∃m',m'<m/\W (i+1) m' σ' H')/\∀x H',(Itl K a).yld i H x H'->g x σ H' λσ2 H2=>tb {D with nx:=N,ct:=N,bk:=D.nx} σ2 H2):=by
 refine⟨λi m σ H=>m=xs.length-i/\i<=xs.length/\Pv i σ H,⟨xs.length,by simp,Nat.zero_le _,h0⟩,?_⟩
 rintro i m σ H ⟨rfl,hi,p⟩
 have q:=hl i σ H hi p
 by_cases hlt:i<xs.length
 ·refine .inr ⟨⟨xs,xs[i],q,by simp[hlt]⟩,Pv (i+1),λσ' H' p'=>⟨xs.length-(i+1),by omega,rfl,hlt,p'⟩,λx H' y=>?_⟩
  obtain⟨e,y⟩:=y
  subst e
  exact hs i x σ _ (y xs q) p
 ·have e:i=xs.length:=by omega
  subst e
  exact .inl ⟨⟨xs,q,Nat.le_refl _⟩,hd σ H p⟩
theorem yh0(Pv:Nat->St->Hp->Prop)(h0:Pv 0 σ H)(hl:∀i σ H,i<=xs.length->Pv i σ H->SqT K H a xs)(hs:∀i x σ H,xs[i]?=some x->Pv i σ H->g x σ H λσ2 H2=>tb {D with nx:=PAt Pv (i+1),ct:=PAt Pv (i+1),bk:=D.nx} σ2 H2)(hd:∀σ H,Pv xs.length σ H->D.nx σ H) :
 ∃W:Nat->Nat->St->Hp->Prop,(∃m,W 0 m σ H)/\∀i m σ H,W i m σ H ->
  ((Itt K a).stop i H/\D.nx σ H)\/((Itt K a).go i H/\∃N:St->Hp->Prop,(∀σ' H',N σ' H'->∃m',m'<m/\W (i+1) m' σ' H')/\∀x H',(Itt K a).yld i H x H'->g x σ H' λσ2 H2=>tb {D with nx:=N,ct:=N,bk:=D.nx} σ2 H2):=by
 refine⟨λi m σ H=>m=xs.length-i/\i<=xs.length/\Pv i σ H,⟨xs.length,by simp,Nat.zero_le _,h0⟩,?_⟩
 rintro i m σ H ⟨rfl,hi,p⟩
 have q:=hl i σ H hi p
 by_cases hlt:i<xs.length
 ·refine .inr ⟨⟨xs,xs[i],q,by simp[hlt]⟩,Pv (i+1),λσ' H' p'=>⟨xs.length-(i+1),by omega,rfl,hlt,p'⟩,λx H' y=>?_⟩
  obtain⟨e,y⟩:=y
  subst e
  exact hs i x σ _ (y xs q) p
 ·have e:i=xs.length:=by omega
  subst e
  exact .inl ⟨⟨xs,q,Nat.le_refl _⟩,hd σ H p⟩
theorem yd1{lo:Int}(Pv:Nat->St->Hp->Prop)(h0:Pv 0 σ H)(hs:∀i σ H,i<n->Pv i σ H->g (.int (lo+i)) σ H λσ2 H2=>tb {D with nx:=PAt Pv (i+1),ct:=PAt Pv (i+1),bk:=D.nx} σ2 H2)(hd:∀σ H,Pv n σ H->D.nx σ H) :
 ∃W:Nat->Nat->St->Hp->Prop,(∃m,W 0 m σ H)/\∀i m σ H,W i m σ H ->
  ((Itr lo n).stop i H/\D.nx σ H)\/((Itr lo n).go i H/\∃N:St->Hp->Prop,(∀σ' H',N σ' H'->∃m',m'<m/\W (i+1) m' σ' H')/\∀x H',(Itr lo n).yld i H x H'->g x σ H' λσ2 H2=>tb {D with nx:=N,ct:=N,bk:=D.nx} σ2 H2):=by
 refine⟨λi m σ H=>m=n-i/\i<=n/\Pv i σ H,⟨n,by simp,Nat.zero_le _,h0⟩,?_⟩
 rintro i m σ H ⟨rfl,hi,p⟩
 by_cases hlt:i<n
 ·refine .inr ⟨hlt,Pv (i+1),λσ' H' p'=>⟨n-(i+1),by omega,rfl,hlt,p'⟩,λx H' y=>?_⟩
  obtain⟨e,y⟩:=y
  subst e y
  exact hs i σ _ hlt p
 ·have e:i=n:=by omega
  subst e
  exact .inl ⟨Nat.le_refl _,hd σ H p⟩
theorem yn9{c:TT}(Pv:St->Hp->Prop)(μ:St->Hp->Nat)(h0:Pv σ H)(hs:∀σ H,Pv σ H->c σ H λb H1=>if b=true then tb {D with nx:=λσ' H'=>Pv σ' H'/\μ σ' H'<μ σ H,ct:=λσ' H'=>Pv σ' H'/\μ σ' H'<μ σ H,bk:=D.nx} σ H1 else D.nx σ H1)(mono:∀σ H Q Q',(∀b H1,Q b H1->Q' b H1)->c σ H Q->c σ H Q'):wd9 c tb D σ H:=by
 refine⟨λm σ H=>m=μ σ H/\Pv σ H,⟨_,rfl,h0⟩,?_⟩;rintro m σ H ⟨rfl,p⟩;refine mono σ H _ _ (λb H1 q=>?_) (hs σ H p);cases b with
 | true=>exact⟨_,λσ' H' ⟨p',l⟩=>⟨_,l,rfl,p'⟩,q⟩
 | false=>exact q
abbrev R2:=V->V->Hp->VK->Prop
def OpR(X:Cx)(f:Value->Value->Sem Value)(r:R2):Prop :=
 ∀(pins:List (Addr×Obj)) (s:Shared) (σ:St) (H:Hp) (x y:V) (v u:Value) (Q:VK),Inv X pins σ H s->D8 x v->D8 y u->r x y H Q ->
  wpAny #[8] X.A (f v u) (EP X pins σ Q) X.xe s
def UnR(X:Cx)(f:Value->Sem Value)(r:V->Hp->VK->Prop):Prop :=
 ∀(pins:List (Addr×Obj)) (s:Shared) (σ:St) (H:Hp) (x:V) (v:Value) (Q:VK),Inv X pins σ H s->D8 x v->r x H Q ->
  wpAny #[8] X.A (f v) (EP X pins σ Q) X.xe s
def Y0(X:Cx)(f:Value)(r:List V->Hp->VK->Prop):Prop :=
 ∀(pins:List (Addr×Obj)) (s:Shared) (σ:St) (H:Hp) (xs:List V) (us:List Value) (Q:VK),Inv X pins σ H s->D3 xs us->r xs H Q ->
  wpAny #[8] X.A (call f us) (EP X pins σ Q) X.xe s
def tOp(r:R2)(ta tb:TE):TE:=λσ H Q=>ta σ H λx H1=>tb σ H1 λy H2=>r x y H2 Q
def tUn(r:V->Hp->VK->Prop)(ta:TE):TE:=λσ H Q=>ta σ H λx H1=>r x H1 Q
def rI(C:Int->Int->Prop)(g:Int->Int->V):R2:=λx y H Q=>∃i j,x=.int i/\y=.int j/\C i j/\Q (g i j) H
def rI0(g:Int->Int->V):R2:=λx y H Q=>∃i j,x=.int i/\y=.int j/\Q (g i j) H
def rU(g:Int->V):V->Hp->VK->Prop:=λx H Q=>∃i,x=.int i/\Q (g i) H
variable{tc:TE}{f:Value->Value->Sem Value}{i j:Int}
section
variable{a b:Expr}{tb:TE}
theorem Ah8(ha:PE X a ta)(hb:PE X b tb){R:V->V->Hp->Prop}(I:Inv X pins σ H s)(h:ta σ H λx H1=>tb σ H1 λy H2=>R x y H2)(hf:∀v u s2 x y H2,Inv X pins σ H2 s2->D8 x v->D8 y u->R x y H2->wpAny #[8] X.A (f v u) Q X.xe s2) :
 wpAny #[8] X.A (eval a X.env) (λv s₁=>wpAny #[8] X.A (eval b X.env) (λu s₂=>wpAny #[8] X.A (f v u) Q X.xe s₂) X.xe s₁) X.xe s:=by
 refine thn (ha pins s σ H _ I h) λv s1 zq=>?_
 walk_at"32"
 refine thn (hb pins s1 σ H1 _ I1 q1) λu s2 zq=>?_
 obtain⟨y,H2,I2,r2,q2⟩:=zq
 exact hf v u s2 x y H2 I2 r1 r2 q2
theorem C9{op:Operator}{r:R2}(ho:OpR X (binaryOp op) r)(ha:PE X a ta)(hb:PE X b tb):PE X (.BinOp a op b pos) (tOp r ta tb):=by
 walk_at"22";exact wpAny_BinOp (Ah8 ha hb I h λv u s2 x y H2 I2 rx ry q=>ho pins s2 σ H2 x y v u Q I2 rx ry q)
theorem zm2{op:UnaryOp}{r:V->Hp->VK->Prop}(ho:UnR X (unaryOp op) r)(ha:PE X a ta):PE X (.UnaryOp op a pos) (tUn r ta):=by
 walk_at"22";exact UnaryOp_ (thn (ha pins s σ H _ I h) λv s1 ⟨x,H1,I1,r1,q1⟩=>ho pins s1 σ H1 x v Q I1 r1 q1)
theorem opI{C:Int->Int->Prop}{g:Int->Int->Int}(rule:∀(i j:Int) (t u:Tok) (s:Shared) (Q:Value->Shared->Prop) (E:Value->Shared->Prop),C i j->Q (.int (g i j) s.toks) {s with toks:=s.toks+1}->wpAny #[8] X.A (f (.int i t) (.int j u)) Q E s) :
 OpR X f (rI C λi j=>.int (g i j)):=by
 walk_at"7"
 obtain⟨i,j,rfl,rfl,hc,q⟩:=h
 obtain⟨t,rfl⟩:=rx
 obtain⟨t',rfl⟩:=ry
 exact rule i j t t' s _ _ hc ⟨.int (g i j),H,I.tok _,⟨_,rfl⟩,q⟩
theorem Ao3{g:Int->Int->Int}(rule:∀(i j:Int) (t u:Tok) (s:Shared) (Q:Value->Shared->Prop) (E:Value->Shared->Prop),Q (.int (g i j) s.toks) {s with toks:=s.toks+1}->wpAny #[8] X.A (f (.int i t) (.int j u)) Q E s) :
 OpR X f (rI0 λi j=>.int (g i j)):=by
 walk_at"1"
 exact rule i j t t' s _ _ ⟨.int (g i j),H,I.tok _,⟨_,rfl⟩,q⟩
theorem zw7{g:Int->Int->Bool}(rule:∀(i j:Int) (t u:Tok) (s:Shared) (Q:Value->Shared->Prop) (E:Value->Shared->Prop),Q (.bool (g i j)) s->wpAny #[8] X.A (f (.int i t) (.int j u)) Q E s) :
 OpR X f (rI0 λi j=>.bl (g i j)):=by
 walk_at"1"
 exact rule i j t t' s _ _ ⟨.bl (g i j),H,I,rfl,q⟩
def qy1(i j:Int):Prop:=0<j/\j<1073741824
def zm3(i j:Int):Prop:=0<=j/\j<=1000000/\i.natAbs<2 ^ 64
def zf8(i j:Int):Prop:=(-(2 ^ 64)<i/\i<2 ^ 64)\/(-(2 ^ 64)<j/\j<2 ^ 64)
theorem zf8.ok(h:zf8 i j):IntMulOk i j:=by
 rcases h with⟨h1,h2⟩|⟨h1,h2⟩
 ·exact .of_left (intBits_le_64 h1 h2)
 ·exact .of_right (intBits_le_64 h1 h2)
theorem Ah9:OpR X (binaryOp .Add) (rI0 λi j=>.int (i+j)):=Ao3 λ_ _ _ _ _ _ _ q=>add_int q
theorem zm4:OpR X (binaryOp .Sub) (rI0 λi j=>.int (i-j)):=Ao3 λ_ _ _ _ _ _ _ q=>sub_int q
theorem Ai0:OpR X (binaryOp .Mult) (rI zf8 λi j=>.int (i*j)):=opI λ_ _ _ _ _ _ _ hc q=>mul_int q hc.ok
theorem we1:OpR X (binaryOp .FloorDiv) #[13]:=opI λi j _ _ _ _ _ hc q=>by
 have h1:(0:Int)<j:=hc.1
 have h2:j<1073741824:=hc.2
 exact floordiv_int #[0] (by rw[Int.fdiv_eq_ediv_of_nonneg i #[0]];exact q) (.inl (PyProof.noPylong_small #[0]))
theorem W9:OpR X (binaryOp .Mod) #[2]:=opI λi j _ _ _ _ _ hc q=>by
 have h1:(0:Int)<j:=hc
 exact mod_int' #[0] (by rw[Int.fmod_eq_emod_of_nonneg i #[0]];exact q)
theorem yu3:OpR X (binaryOp .Pow) (rI zm3 λi j=>.int (i ^ j.toNat)):=opI λ_ _ _ _ _ _ _ hc q=>pow_int_small hc.1 hc.2.1 hc.2.2 q
theorem unI{f:Value->Sem Value}{g:Int->Int}(rule:∀(i:Int) (t:Tok) (s:Shared) (Q:Value->Shared->Prop) (E:Value->Shared->Prop),Q (.int (g i) s.toks) {s with toks:=s.toks+1}->wpAny #[8] X.A (f (.int i t)) Q E s) :
 UnR X f (rU λi=>.int (g i)):=by
 intro pins s σ H x v Q I rx h
 obtain⟨i,rfl,q⟩:=h
 obtain⟨t,rfl⟩:=rx
 exact rule i t s _ _ ⟨.int (g i),H,I.tok _,⟨_,rfl⟩,q⟩
theorem yu4:UnR X (unaryOp .USub) (rU λi=>.int (-i)):=unI λ_ _ _ _ _ q=>neg_int q
end
noncomputable def zw8:V->V->Bool
 | .non,.non=>true | .non,.int _=>true | .int _,.non=>true | .non,.bl _=>true | .bl _,.non=>true | .non,.str _=>true | .str _,.non=>true
 | .int _,.int _=>true | .bl _,.bl _=>true | .str _,.str _=>true | .byt _,.byt _=>true
 | .int _,.str _=>true | .str _,.int _=>true | .bl _,.str _=>true | .str _,.bl _=>true
 | _,_=>false
def rEq:R2:=λx y H Q=>zw8 x y=true/\Q (.bl (decide (x=y))) H
def rNe:R2:=λx y H Q=>zw8 x y=true/\Q (.bl (!decide (x=y))) H
theorem zc1:decide (V.int i=V.int j)=(i == j):=by
 rw[Bool.eq_iff_iff];simp
theorem zm5{i j:Bool}:decide (V.bl i=V.bl j)=(i == j):=by
 rw[Bool.eq_iff_iff];simp
theorem zc2{i j:Str}:decide (V.str i=V.str j)=(i == j):=by
 rw[Bool.eq_iff_iff];simp
theorem zc3{i j:Array UInt8}:decide (V.byt i=V.byt j)=(i.toList == j.toList):=by
 rw[Bool.eq_iff_iff];cases i;cases j;simp
section
variable{a b:Expr}{tb:TE}
theorem G3{Q:VK}{k k':Bool}(I:Inv X pins σ H s)(q:Q (.bl k) H)(e:k=k'):EP X pins σ Q (.bool k') s:=by
 subst e;exact⟨.bl k,H,I,rfl,q⟩
theorem Ao4:OpR X (compareOp .Eq) rEq:=by
 walk_at"7";obtain⟨hs,q⟩:=h;cases x with
 | non =>
   cases rx
   cases y with
   | non=>cases ry;exact PySem.EqNone.eq_none_none (G3 I q (by simp))
   | bl j=>cases ry;exact PySem.EqNone.eq_none_bool (G3 I q (by simp))
   | int j=>obtain⟨t',rfl⟩:=ry;exact PySem.EqNone.eq_none_int (G3 I q (by simp))
   | str j=>obtain⟨t',rfl⟩:=ry;exact PySem.EqNone.eq_none_str (G3 I q (by simp))
   | _=>exact absurd (show false=true from hs) Bool.false_ne_true
 | bl i =>
   cases rx
   cases y with
   | non=>cases ry;exact PySem.EqNone.eq_bool_none (G3 I q (by simp))
   | bl j=>cases ry;exact eq_bool (G3 I q zm5)
   | str j=>obtain⟨t',rfl⟩:=ry;exact PySem.EqMixed.eq_bool_str (G3 I q (by simp))
   | _=>exact absurd (show false=true from hs) Bool.false_ne_true
 | int i =>
   obtain⟨t,rfl⟩:=rx
   cases y with
   | non=>cases ry;exact PySem.EqNone.eq_int_none (G3 I q (by simp))
   | int j=>obtain⟨t',rfl⟩:=ry;exact eq_int (G3 I q zc1)
   | str j=>obtain⟨t',rfl⟩:=ry;exact PySem.EqMixed.eq_int_str (G3 I q (by simp))
   | _=>exact absurd (show false=true from hs) Bool.false_ne_true
 | str i =>
   obtain⟨t,rfl⟩:=rx
   cases y with
   | non=>cases ry;exact PySem.EqNone.eq_str_none (G3 I q (by simp))
   | bl j=>cases ry;exact PySem.EqMixed.eq_str_bool (G3 I q (by simp))
   | int j=>obtain⟨t',rfl⟩:=ry;exact PySem.EqMixed.eq_str_int (G3 I q (by simp))
   | str j=>obtain⟨t',rfl⟩:=ry;exact eq_str (G3 I q zc2)
   | _=>exact absurd (show false=true from hs) Bool.false_ne_true
 | byt i =>
   obtain⟨t,rfl⟩:=rx
   cases y with
   | byt j=>obtain⟨t',rfl⟩:=ry;exact PySem.W.eq_bytes (G3 I q zc3)
   | _=>exact absurd (show false=true from hs) Bool.false_ne_true
 | _=>cases y <;> exact absurd (show false=true from hs) Bool.false_ne_true
theorem Ao5:OpR X (compareOp .NotEq) rNe:=by
 walk_at"7";obtain⟨hs,q⟩:=h;cases x with
 | non =>
   cases rx
   cases y with
   | non=>cases ry;exact PySem.EqNone.ne_none_none (G3 I q (by simp))
   | bl j=>cases ry;exact PySem.EqNone.ne_none_bool (G3 I q (by simp))
   | int j=>obtain⟨t',rfl⟩:=ry;exact PySem.EqNone.ne_none_int (G3 I q (by simp))
   | str j=>obtain⟨t',rfl⟩:=ry;exact PySem.EqNone.ne_none_str (G3 I q (by simp))
   | _=>exact absurd (show false=true from hs) Bool.false_ne_true
 | bl i =>
   cases rx
   cases y with
   | non=>cases ry;exact PySem.EqNone.ne_bool_none (G3 I q (by simp))
   | bl j=>cases ry;exact ne_bool (G3 I q (congrArg not zm5))
   | str j=>obtain⟨t',rfl⟩:=ry;exact PySem.EqMixed.ne_bool_str (G3 I q (by simp))
   | _=>exact absurd (show false=true from hs) Bool.false_ne_true
 | int i =>
   obtain⟨t,rfl⟩:=rx
   cases y with
   | non=>cases ry;exact PySem.EqNone.ne_int_none (G3 I q (by simp))
   | int j=>obtain⟨t',rfl⟩:=ry;exact ne_int (G3 I q (congrArg not zc1))
   | str j=>obtain⟨t',rfl⟩:=ry;exact PySem.EqMixed.ne_int_str (G3 I q (by simp))
   | _=>exact absurd (show false=true from hs) Bool.false_ne_true
 | str i =>
   obtain⟨t,rfl⟩:=rx
   cases y with
   | non=>cases ry;exact PySem.EqNone.ne_str_none (G3 I q (by simp))
   | bl j=>cases ry;exact PySem.EqMixed.ne_str_bool (G3 I q (by simp))
   | int j=>obtain⟨t',rfl⟩:=ry;exact PySem.EqMixed.ne_str_int (G3 I q (by simp))
   | str j=>obtain⟨t',rfl⟩:=ry;exact ne_str (G3 I q (congrArg not zc2))
   | _=>exact absurd (show false=true from hs) Bool.false_ne_true
 | byt i =>
   obtain⟨t,rfl⟩:=rx
   cases y with
   | byt j=>obtain⟨t',rfl⟩:=ry;exact PySem.W.ne_bytes (G3 I q (congrArg not zc3))
   | _=>exact absurd (show false=true from hs) Bool.false_ne_true
 | _=>cases y <;> exact absurd (show false=true from hs) Bool.false_ne_true
theorem Ao6:OpR X (compareOp .Lt) (rI0 λi j=>.bl (decide (i<j))):=zw7 λ_ _ _ _ _ _ _ q=>lt_int q
theorem Ao7:OpR X (compareOp .LtE) (rI0 λi j=>.bl (decide (i<=j))):=zw7 λ_ _ _ _ _ _ _ q=>le_int q
theorem Ao8:OpR X (compareOp .Gt) (rI0 λi j=>.bl (decide (j<i))):=zw7 λ_ _ _ _ _ _ _ q=>gt_int q
theorem Ao9:OpR X (compareOp .GtE) (rI0 λi j=>.bl (decide (j<=i))):=zw7 λ_ _ _ _ _ _ _ q=>ge_int q
theorem zf9:OpR X (compareOp .Lt) (λx y H Q=>∃i j,x=.str i/\y=.str j/\Q (.bl (decide (i.cps.toList<j.cps.toList))) H):=by
 walk_at"1";exact lt_str (G3 I q rfl)
theorem zg0:OpR X (compareOp .In) (λx y H Q=>∃i j,x=.str i/\y=.str j/\Q (.bl (!(Builtin.Str.occurrences j i 0 j.length 1).isEmpty)) H):=by
 walk_at"1";exact in_str (G3 I q rfl)
theorem Ai1:OpR X (compareOp .Is) (λx y H Q=>y=.non/\Q (.bl (decide (x=.non))) H):=by
 walk_at"7";obtain⟨rfl,q⟩:=h;cases ry;refine is_none_gen (G3 I q ?_);cases x <;> first
  | (cases rx;rfl)
  | (obtain⟨t,rfl⟩:=rx;rfl)
theorem zw9:OpR X (compareOp .IsNot) (λx y H Q=>y=.non/\Q (.bl (!decide (x=.non))) H):=by
 walk_at"7";obtain⟨rfl,q⟩:=h;cases ry;refine isnot_none_gen (G3 I q ?_);cases x <;> first
  | (cases rx;rfl)
  | (obtain⟨t,rfl⟩:=rx;rfl)
theorem OpR.or{r r':R2}(h:OpR X f r)(h':OpR X f r'):OpR X f (λx y H Q=>r x y H Q\/r' x y H Q):=by
 intro pins s σ H x y v u Q I rx ry q;rcases q with q|q
 ·exact h pins s σ H x y v u Q I rx ry q
 ·exact h' pins s σ H x y v u Q I rx ry q
theorem M5(b:Expr){op:CmpOp}(h:autoParam (op≠.In) zAd)(h2:autoParam (op≠.NotIn) zAd):behindInMarks op b=false:=by
 have e1:(op == CmpOp.In)=false:=by cases op <;> first|rfl|exact absurd rfl h
 have e2:(op == CmpOp.NotIn)=false:=by cases op <;> first|rfl|exact absurd rfl h2
 cases b <;> simp[behindInMarks,e1,e2]
theorem Z6{op:CmpOp}{r:R2}(ho:OpR X (compareOp op) r)(ha:PE X a ta)(hb:PE X b tb)(hm:behindInMarks op b=false):PE X (.Compare a [op] [b] pos) (tOp r ta tb):=by
 walk_at"22";exact wpAny_Compare1 (Ah8 ha hb I h λv u s2 x y H2 I2 rx ry q=>ho pins s2 σ H2 x y v u Q I2 rx ry q) hm
def C1(t:TE):TT:=λσ H Q=>t σ H λx H'=>∃k,x=.bl k/\Q k H'
theorem E5{op:CmpOp}{r:R2}(ho:OpR X (compareOp op) r)(ha:PE X a ta)(hb:PE X b tb)(hm:behindInMarks op b=false):PT X (.Compare a [op] [b] pos) (C1 (tOp r ta tb)):=by
 walk_at"22";refine wpAny_isTrue_Compare1 (thn (ha pins s σ H _ I h) λv s1 ⟨x,H1,I1,r1,q1⟩=>thn (hb pins s1 σ H1 _ I1 q1) λu s2 ⟨y,H2,I2,r2,q2⟩ =>
  thn (ho pins s2 σ H2 x y v u _ I2 r1 r2 q2) λc s3 ⟨z,H3,I3,r3,k,e,q3⟩=>?_) hm;subst e;cases r3;exact wpAny_truthy_bool ⟨H3,I3,q3⟩
def yh1(r r':R2)(ta tb tc:TE):TE:=λσ H Q=>ta σ H λx H1=>tb σ H1 λy H2=>r x y H2 λz H3=>∃k,z=.bl k /\
 (if k=true then tc σ H3 λw' H4=>r' y w' H4 Q else Q (.bl false) H3)
theorem yo0{op op':CmpOp}{r r':R2}(ho:OpR X (compareOp op) r)(ho':OpR X (compareOp op') r')(ha:PE X a ta)(hb:PE X b tb)(hc:PE X c tc)(hm:lastMarks [op,op'] [b,c]=false:=by with_unfolding_all rfl):PE X (.Compare a [op,op'] [b,c] pos) (yh1 r r' ta tb tc):=by
 walk_at"22";refine Compare_chain (thn (ha pins s σ H _ I h) λv s1 ⟨x,H1,I1,r1,q1⟩=>chain_link (thn (hb pins s1 σ H1 _ I1 q1) λu s2 ⟨y,H2,I2,r2,q2⟩ =>
  thn (ho pins s2 σ H2 x y v u _ I2 r1 r2 q2) λd s3 ⟨z,H3,I3,r3,k,e,q3⟩=>?_)) hm;subst e;cases r3;refine wpAny_truthy_bool ?_;cases k with
 | false=>exact ite_ff ⟨.bl false,H3,I3,rfl,q3⟩
 | true=>exact ite_tt (chain_last (thn (hc pins s3 σ H3 _ I3 q3) λw' s4 ⟨z',H4,I4,r4,q4⟩=>ho' pins s4 σ H4 y z' u w' Q I4 r2 r4 q4))
theorem xc3:(sizeLine:Nat)<2 ^ 63:=by rw[sizeLine_eq];decide
theorem yu5:OpR X (binaryOp .Add) (λx y H Q=>∃i j,x=.str i/\y=.str j/\i.length+j.length<=sizeLine/\Q (.str (i++j)) H):=by
 walk_at"7";obtain⟨i,j,rfl,rfl,hz,q⟩:=h;obtain⟨t,rfl⟩:=rx;obtain⟨t',rfl⟩:=ry;exact wpAny_with_toks (n:=1) I.tk (add_str (λt' tk ht=>⟨.str (i++j),H,I.tok _ ht,⟨_,rfl⟩,q⟩) hz)
theorem qv2{x:V}(r:D3 [x] us):∃u,us=[u]/\D8 x u:=by
 cases r with
 | cons r1 r2=>cases r2;exact⟨_,rfl,r1⟩
theorem xq1{x:V}(r:D3 [x,y] us):∃u w',us=[u,w']/\D8 x u/\D8 y w':=by
 cases r with
 | cons r1 r2 =>
   cases r2 with
   | cons r3 r4=>cases r4;exact⟨_,_,rfl,r1,r3⟩
theorem zg1(hc:X.calm=true):Y0 X (.builtin "max") (λxs H Q=>∃i j,xs=[.int i,.int j]/\Q (.int (if j > i then j else i)) H):=by
 walk_at"35";obtain⟨i,j,rfl,q⟩:=h;obtain⟨u,w',rfl,⟨t,rfl⟩,⟨t',rfl⟩⟩:=xq1 r;refine wpAny_with_toks (n:=1) I.tk (max_two_ints (I.ok.hd hc) λh' tk k ht=>⟨_,H,I.kept k ht,?_,q⟩);by_cases hj:j > i
 ·rw[if_pos hj,if_pos hj];exact⟨_,rfl⟩
 ·rw[if_neg hj,if_neg hj];exact⟨_,rfl⟩
theorem zg2(hc:X.calm=true):Y0 X (.builtin "min") (λxs H Q=>∃i j,xs=[.int i,.int j]/\Q (.int (if j<i then j else i)) H):=by
 walk_at"35";obtain⟨i,j,rfl,q⟩:=h;obtain⟨u,w',rfl,⟨t,rfl⟩,⟨t',rfl⟩⟩:=xq1 r;refine wpAny_with_toks (n:=1) I.tk (min_two_ints (I.ok.hd hc) λh' tk k ht=>⟨_,H,I.kept k ht,?_,q⟩);by_cases hj:j<i
 ·rw[if_pos hj,if_pos hj];exact⟨_,rfl⟩
 ·rw[if_neg hj,if_neg hj];exact⟨_,rfl⟩
theorem zg3:Y0 X (.type "int") (λxs H Q=>(∃i,xs=[.int i]/\Q (.int i) H)\/∃k,xs=[.bl k]/\Q (.int (if k then 1 else 0)) H):=by
 walk_at"35";rcases h with⟨i,rfl,q⟩|⟨k,rfl,q⟩
 ·obtain⟨u,rfl,t,rfl⟩:=qv2 r;exact call_int_int ⟨.int i,H,I,⟨_,rfl⟩,q⟩
 ·obtain⟨u,rfl,r1⟩:=qv2 r;cases r1;exact call_int_bool ⟨.int (if k then 1 else 0),H,I.tok _,⟨_,rfl⟩,q⟩
end
structure yu6(h:Heap)(x dx C:Addr)(mA:Str->Option Value):Prop where
 obj:h.get? x=some (PySem.W.instObj C dx)
 ns:h.Ns1 dx mA
 ne:dx≠x
variable{dx:Addr}{mA:Str->Option Value}
theorem zg4(n:h.Ns1 dx mA):∃od,h.get? dx=some od/\∀name,PySem.W.lookIn name od=some (mA name):=by
 obtain⟨o,es,ep,ho,hd,hk,_,hm⟩:=n;refine⟨o,ho,λname=>?_⟩;have e:=hm name;unfold nsFind findBy at e;rw[<-Array.find?_toList] at e;unfold PySem.W.lookIn;rw[hd];dsimp only;split
 ·rename_i y q;rw[q] at e;exact congrArg some e
 ·rename_i q;rw[q] at e;have a:es.toList.any (·.refKey)=false:=by
   rw[any_eq_false];intro y hy;obtain⟨z,t,hkey⟩:=hk y (Array.mem_toList_iff.mp hy);simp[DictEntry.refKey,hkey]
  have a':¬es.toList.any (·.refKey)=true:=by rw[a];exact Bool.false_ne_true
  rw[if_neg a'];exact congrArg some e
variable{C:Addr}
theorem yu6.look{x:Addr}(I:yu6 h x dx C mA):∃od,PySem.W.InstAt h x (PySem.W.instObj C dx) C (some od)/\∀name,PySem.W.lookIn name od=some (mA name) :=
 let ⟨od,ho,hl⟩:=zg4 I.ns
 ⟨od,⟨I.obj,rfl,rfl,ho⟩,hl⟩
variable{name:Str}{prog:Program}{pl:Sem Bool}{kw:List (Str×Value)}
section
variable{x f:Addr}{v:Value}
theorem zx0{expr:Bool}(X:K.In s.heap)(I:yu6 s.heap x dx C mA)(hg:PySem.W.plainGet K C name=true)(hh:PySem.W.hasDictIn K C=true)(ha:PySem.W.findIn K (.ref C) name=some none)(hv:mA name=some v)(hv':PySem.W.handedIn v=true)(h:Q v {s with toks:=s.toks+1}) :
 wpAny #[10] A (getAttr (.ref x) name expr) Q E s:=by
 obtain⟨od,J,hl⟩:=I.look
 exact PySem.W.get_value X J (PySem.W.plainGet_of hg).1 (PySem.W.findObj_own hh ha rfl (by rw[hl,hv])) hv' h
theorem zm6{Q:Value×List Value->Shared->Prop}(X:K.In s.heap)(I:yu6 s.heap x dx C mA)(hg:PySem.W.plainGet K C name=true)(hf:PySem.W.findIn K (.ref C) name=some (some (.ref f)))(ht:PySem.W.isFn K (.ref f)=true)(hv:mA name=none)(h:Q (.ref f,[.ref x]) s) :
 wpAny #[10] A (getMethod (.ref x) name pl) Q E s:=by
 obtain⟨od,J,hl⟩:=I.look
 exact PySem.W.method_fn X J (PySem.W.plainGet_of hg).1 (PySem.W.plainGet_of hg).2 hf (beq_iff_eq.mp ht) (by show(PySem.W.lookIn name od).map (·.isSome)=some false;rw[hl,hv];rfl) h
theorem zx1{ns:List Str}{Q:Unit->Shared->Prop}(X:K.In s.heap)(I:yu6 s.heap x dx C mA)(hs:PySem.W.findIn K (.ref C) "__setattr__"=some (some (.builtin "object.__setattr__")))(hp:PySem.W.plainOver K C=true)(ht:PySem.W.takerIn K C name=some none)(hh:PySem.W.hasDictIn K C=true)(hw:PySem.Within mA ns)(hsz:ns.length<=sizeLine)(h:∀h',yu6 h' x dx C (λy=>if y=name then some v else mA y)->Heap.SameBut dx s.heap h'->Q () {s with heap:=h',toks:=s.toks+2}) :
 wpAny #[10] A (setAttr (.ref x) name v) Q E s:=by
 obtain⟨od,J,hl⟩:=I.look
 refine PySem.W.set_plain X J hs (PySem.W.osa_open (s:={s with toks:=s.toks+1}) (r:=none) X J hp ht λb=>?_)
 obtain⟨cd,hc,hd'⟩:=PySem.W.any_some hh
 have hx:s.heap.get? x=some ⟨.ref C,some dx,.plain,#[]⟩:=I.obj
 refine wpAny_bind (wpAny_pure (wpAny_bind (wpAny_bind (wpAny_loadPart hx (wpAny_bind (PySem.W.Looks.here (s:={s with toks:=s.toks+1}) (PySem.W.looks_clsIn X hc) ?_))))))
 rw[hd']
 refine wpAny_pure (a:=some dx) (wpAny_bind (wpAny_pure (wpAny_bind ?_)))
 refine wpAny_nsSet1 (s:={s with toks:=s.toks+1}) I.ns λh' hn2 hs2=>?_
 obtain⟨oD,esD,epD,hoD,hdD,hcD⟩:=hn2.count (PySem.Within.cons name v hw)
 refine wpAny_bind (wpAny_lookBehind hoD (by rw[hdD];exact pastItsLine_dict (Nat.le_trans hcD (by rw[length_cons];omega))) ?_)
 exact wpAny_pure (h _ ⟨(hs2.2 _ (Ne.symm I.ne)).trans I.obj,hn2,I.ne⟩ hs2)
theorem zm7{R:Result->Shared->Prop}{vs:List Value}(X:K.In s.heap)(hm:PySem.W.makesIn K C=true)(hi:PySem.W.findIn K (.ref C) "__init__"=some (some (.ref f)))(hf:PySem.W.typeIn K (.ref f)=some (.type "function")) (h:codeAny #[10] (A.under (.builtin "type.__call__" ⟨.ref C::vs,kw⟩)) (.call (.ref f) ⟨.ref (s.heap.objs.size+1)::vs,kw⟩) (PySem.W.InitBack (s.heap.objs.size+1) R)
  {s with heap:=(s.heap.push PySem.W.emptyDict).push (PySem.W.instObj C s.heap.objs.size)}) :
 codeAny #[10] A (.call (.ref C) ⟨vs,kw⟩) R s:=by
 obtain⟨hh,g,d,t,os⟩:=s
 exact PySem.W.make_core (PySem.W.makes_of X hm) (PySem.W.looks_findIn X hi) (λself=>PySem.W.bind_fn X self hf) (.inl rfl) h
end
noncomputable def qf6(f:Str)(v:V):List (Str×V)->List (Str×V)
 | []=>[(f,v)]
 | (g,x)::r=>if g=f then(g,v)::r else(g,x)::qf6 f v r
theorem xi1(f g:Str)(v:V):∀fs:List (Str×V),(qf6 f v fs).lookup g=if g=f then some v else fs.lookup g
 | []=>by
   show List.lookup g [(f,v)]=_;by_cases h:g=f
   ·have hb:(g == f)=true:=beq_iff_eq.mpr h;simp only[List.lookup,hb,if_pos h]
   ·have hb:(g == f)=false:=beq_eq_false_iff_ne.mpr h;simp only[List.lookup,hb,if_neg h]
 | (k,x)::r=>by
   have ih:=xi1 f g v r;rw[show qf6 f v ((k,x)::r)=(if k=f then(k,v)::r else(k,x)::qf6 f v r) from rfl];by_cases hk:k=f
   ·rw[if_pos hk];by_cases h:g=k
    ·have hb:(g == k)=true:=beq_iff_eq.mpr h;simp only[List.lookup,hb,if_pos (h.trans hk)]
    ·have hb:(g == k)=false:=beq_eq_false_iff_ne.mpr h;simp only[List.lookup,hb,if_neg (λe:g=f=>h (e.trans hk.symm))]
   ·rw[if_neg hk];by_cases h:g=k
    ·have hb:(g == k)=true:=beq_iff_eq.mpr h;simp only[List.lookup,hb,if_neg (λe:g=f=>hk (h.symm.trans e))]
    ·have hb:(g == k)=false:=beq_eq_false_iff_ne.mpr h;simp only[List.lookup,hb];exact ih
theorem xc4(f:Str)(v:V):∀fs:List (Str×V),f∈(qf6 f v fs).map (·.1)/\∀g,g∈fs.map (·.1)->g∈(qf6 f v fs).map (·.1)
 | []=>⟨by simp[qf6],λg h=>by simp at h⟩
 | (k,x)::r=>by
   obtain⟨i1,i2⟩:=xc4 f v r;rw[show qf6 f v ((k,x)::r)=(if k=f then(k,v)::r else(k,x)::qf6 f v r) from rfl];by_cases hk:k=f
   ·rw[if_pos hk];subst hk;exact⟨by simp,λg h=>by simpa using h⟩
   ·rw[if_neg hk];refine⟨?_,λg h=>?_⟩
    ·rw[map_cons];exact mem_cons_of_mem _ i1
    ·rw[map_cons] at h ⊢;rcases mem_cons.mp h with e|e
     ·exact mem_cons.mpr (.inl e)
     ·exact mem_cons_of_mem _ (i2 g e)
theorem xi2(f:Str)(v:V):∀fs:List (Str×V),(qf6 f v fs).length<=fs.length+1
 | []=>by simp[qf6]
 | (k,x)::r=>by
   have ih:=xi2 f v r;rw[show qf6 f v ((k,x)::r)=(if k=f then(k,v)::r else(k,x)::qf6 f v r) from rfl];by_cases hk:k=f
   ·rw[if_pos hk,length_cons,length_cons];omega
   ·rw[if_neg hk,length_cons,length_cons];omega
theorem wq0.some_of{o:Option Value}(r:wq0 (some v) o):∃u,o=some u/\D8 v u:=by
 cases o with
 | none=>exact(show False from r).elim
 | some u=>exact⟨u,rfl,r⟩
theorem wq0.none_of{o:Option Value}(r:wq0 none o):o=none:=by
 cases o with
 | none=>rfl
 | some u=>exact(show False from r).elim
theorem zg5(r:D8 v u):PySem.W.handedIn u=true:=by
 cases v with
 | non=>cases (show u=Value.none from r);rfl
 | bl b=>cases (show u=Value.bool b from r);rfl
 | int i=>obtain⟨t,e⟩:=(show ∃t,u=Value.int i t from r);cases e;rfl
 | str x=>obtain⟨t,e⟩:=(show ∃t,u=Value.str x t from r);cases e;rfl
 | byt b=>obtain⟨t,e⟩:=(show ∃t,u=Value.bytes b t from r);cases e;rfl
 | flt b=>obtain⟨t,e⟩:=(show ∃t,u=Value.float b t from r);cases e;rfl
 | ref a=>cases (show u=Value.ref a from r);rfl
 | ty n=>cases (show u=Value.type n from r);rfl
section
variable{fs fs':List (Str×V)}
theorem xo4(hok:HOk P w H h)(e:H a=some (.ins C dx fs)):∃mA,yu6 h a dx C mA/\(∀f,wq0 (fs.lookup f) (mA f))/\PySem.Within mA (fs.map (·.1))/\fs.length<=1000/\H dx=some (.own a):=by
 obtain⟨d,z,ne,ob,mA,n,r,q⟩:=(show Q8 P w H h a (.ins C dx fs) from hok a _ e);exact⟨mA,⟨ob,n,ne⟩,r,q,z,d⟩
end
structure Cls(K:Fg)(C:Addr):Prop where
 pg:PySem.W.plainGet K C Str.empty=true
 hd:PySem.W.hasDictIn K C=true
 po:PySem.W.plainOver K C=true
 sa:PySem.W.findIn K (.ref C) "__setattr__"=some (some (.builtin "object.__setattr__"))
theorem Cls.get(c:Cls K C)(f:Str):PySem.W.plainGet K C f=true:=c.pg
def wj4(K:Fg)(C:Addr)(f:Str):Prop:=PySem.W.findIn K (.ref C) f=some none
theorem wj4.taker{f:Str}(n:wj4 K C f):PySem.W.takerIn K C f=some none:=by
 unfold PySem.W.takerIn;rw[show PySem.W.findIn K (.ref C) f=some none from n];rfl
structure qr8(K:Fg)(C:Addr)(m:Str)(f:Addr):Prop where
 at_:PySem.W.findIn K (.ref C) m=some (some (.ref f))
 fn:PySem.W.isFn K (.ref f)=true
 kp:PySem.W.keepIn K (.ref f)=true
variable{m:Str}{env:Env}
section
variable{fs:List (Str×V)}{f:Str}
theorem yu7{b:Bool}(I:Inv X pins σ H s)(e:H a=some (.ins C dx fs))(c:Cls X.K C)(n:wj4 X.K C f)(l:fs.lookup f=some v)(h:∀u s',Inv X pins σ H s'->D8 v u->Q u s'):wpAny #[8] A (getAttr (.ref a) f b) Q E s:=by
 obtain⟨mA,O,r,_,_,_⟩:=xo4 I.hok e;obtain⟨u,hu,ru⟩:=wq0.some_of (v:=v) (o:=mA f) (by rw[<-l];exact r f);exact zx0 I.kIn O (c.get f) c.hd n hu (zg5 ru) (h u _ (I.tok _) ru)
theorem xq2{g:Addr}{Q:Value×List Value->Shared->Prop}(I:Inv X pins σ H s)(e:H a=some (.ins C dx fs))(c:Cls X.K C)(k:qr8 X.K C m g)(l:fs.lookup m=none)(h:Q (.ref g,[.ref a]) s):wpAny #[8] A (getMethod (.ref a) m pl) Q E s:=by
 obtain⟨mA,O,r,_,_,_⟩:=xo4 I.hok e;have hn:mA m=none:=wq0.none_of (by rw[<-l];exact r m);exact zm6 I.kIn O (c.get m) k.at_ k.fn hn h
theorem yu8{Q:Unit->Shared->Prop}(I:Inv X pins σ H s)(e:H a=some (.ins C dx fs))(c:Cls X.K C)(n:wj4 X.K C f)(hl:fs.length<1000)(ry:D8 y u)(h:∀s',Inv X pins σ (upd H a (.ins C dx (qf6 f y fs))) s'->Q () s'):wpAny #[8] A (setAttr (.ref a) f u) Q E s:=by
 obtain⟨mA,O,r,wi,_,ho⟩:=xo4 I.hok e;have hz:(fs.map (·.1)).length<=sizeLine:=by rw[length_map,sizeLine_eq];omega
 refine zx1 I.kIn O c.sa c.po n.taker c.hd wi hz λh' O' sb=>h _ ?_;have hd:∃o,h'.get? dx=some o:=let ⟨o,_,_,e',_⟩:=O'.ns;⟨o,e'⟩;refine I.write (x:=a) (e:=dx) (by rw[e];exact True.intro) (.inr ho) (λb q hb z=>(sb.2 b hb).trans z) hd ?_;refine⟨by rw[A8 O.ne];exact ho,?_,O.ne,O'.obj,_,O'.ns,λg=>?_,λg hg=>?_⟩
 ·have:=xi2 f y fs;omega
 ·show wq0 ((qf6 f y fs).lookup g) (if g=f then some u else mA g);rw[xi1];by_cases q:g=f
  ·rw[if_pos q,if_pos q];exact ry
  ·rw[if_neg q,if_neg q];exact r g
 ·by_cases q:g=f
  ·rw[q];exact(xc4 f y fs).1
  ·refine(xc4 f y fs).2 g (wi g λz=>hg ?_);show(if g=f then some u else mA g)=none;rw[if_neg q];exact z
theorem Inv.made(I:Inv X pins σ H s):Inv X pins σ (upd (upd H s.heap.objs.size (.own (s.heap.objs.size+1))) (s.heap.objs.size+1) (.ins C s.heap.objs.size []))
 {s with heap:=(s.heap.push PySem.W.emptyDict).push (PySem.W.instObj C s.heap.objs.size)}:=by
 have e1:(s.heap.push PySem.W.emptyDict).get? s.heap.objs.size=some PySem.W.emptyDict:=Heap.get?_push_size s.heap rfl
 have e2:((s.heap.push PySem.W.emptyDict).push (PySem.W.instObj C s.heap.objs.size)).get? (s.heap.objs.size+1)=some (PySem.W.instObj C s.heap.objs.size):=by
  have:=Heap.get?_push_size (s.heap.push PySem.W.emptyDict) (o:=PySem.W.instObj C s.heap.objs.size) rfl
  rwa [Heap.size_push] at this
 have e3:(s.heap.push PySem.W.emptyDict).Ns s.heap.objs.size (λ_=>none):=⟨PySem.W.emptyDict,#[],_,e1,rfl,(λe he=>absurd he (by simp)),λ_=>rfl⟩
 have I1:=I.laid (a:=s.heap.objs.size) (o:=.own (s.heap.objs.size+1)) (h':=s.heap.push PySem.W.emptyDict) (t':=s.toks) (λb u q=>Heap.get?_push_of_some _ q) #[6] ⟨_,e1⟩
 refine I1.laid (a:=s.heap.objs.size+1) (o:=.ins C s.heap.objs.size []) (t':=s.toks) (λb u q=>Heap.get?_push_of_some _ q) (Nat.le_of_eq (Heap.size_push _ _)) ?_
 have ne:s.heap.objs.size≠s.heap.objs.size+1:=Nat.ne_of_lt (Nat.lt_succ_self _)
 refine⟨by rw[A8 ne,A2],Nat.zero_le _,ne,e2,λ_=>none,(Heap.Ns1.of_empty e3).at λo q=>Heap.get?_push_of_some _ q,λ_=>True.intro,λy hy=>absurd rfl hy⟩
theorem zx2{f:Str}(hb:attributeBase e f env (eval e env)=eval e env)(h:wpAny #[10] A (eval e env) (λo s₁=>wpAny #[10] A (getAttr o f true) Q E s₁) E s):wpAny #[10] A (eval (.Attribute e f pos) env) Q E s :=
 Attribute_any_ h (by rw[arm_eval_Attribute,hb])
end
def I0(K:Fg)(ta:TE)(f:Str):TE:=λσ H Q=>ta σ H λx H1=>∃a C dx fs v,x=.ref a/\H1 a=some (.ins C dx fs)/\Cls K C/\wj4 K C f/\fs.lookup f=some v/\Q v H1
def qi5(K:Fg)(ta tv:TE)(f:Str):TS:=λD σ H=>tv σ H λy H1=>ta σ H1 λx H2=>∃a C dx fs,x=.ref a/\H2 a=some (.ins C dx fs)/\Cls K C/\wj4 K C f/\fs.length<1000 /\
 D.nx σ (upd H2 a (.ins C dx (qf6 f y fs)))
variable{tpos:Pos}{tv:TE}{value:Expr}
section
variable{f:Str}
theorem N8(he:PE X e ta)(hb:attributeBase e f X.env (eval e X.env)=eval e X.env):PE X (.Attribute e f pos) (I0 X.K ta f):=by
 walk_at"22";refine zx2 hb (thn (he pins s σ H _ I h) λu s1 zq=>?_);obtain⟨x,H1,I1,rx,a,C,dx,fs,v,ex,ea,c,n,l,q⟩:=zq;subst ex;obtain rfl:u=Value.ref a:=rx;exact yu7 I1 ea c n l λu' s2 I2 ru=>⟨v,H1,I2,ru,q⟩
theorem yu9(ha:PE X o ta)(hv:PE X value tv)(hs:swapsWith value (some (.Attribute o f pos')) pos.line X.env=pure false):PS X (.Assign [.Attribute o f pos'] value pos) (qi5 X.K ta tv f):=by
 intro pins s σ H D I h;refine plainObj_wpAny_Assign_Attribute (thn (hv pins s σ H _ I h) λu s1 ⟨y,H1,I1,ry,q⟩=>thn (ha pins s1 σ H1 _ I1 q) λov s2 zq=>?_) hs;obtain⟨x,H2,I2,rx,a,C,dx,fs,ex,ea,c,n,l,q2⟩:=zq;subst ex;obtain rfl:ov=Value.ref a:=rx;exact yu8 I2 ea c n l ry λs3 I3=>⟨σ,_,I3,q2⟩
end
section
variable{c:Value}{b:Bool}
inductive wv9(K:Fg)(H:Hp):V->Value->Prop where
 | non:wv9 K H .non (.type "NoneType")
 | bl (x:Bool):wv9 K H (.bl x) (.type "bool")
 | int (i:Int):wv9 K H (.int i) (.type "int")
 | str (x:Str):wv9 K H (.str x) (.type "str")
 | flt (x:UInt64):wv9 K H (.flt x) (.type "float")
 | lst {a:Addr} {xs:List V} (e:H a=some (.lst xs)):wv9 K H (.ref a) (.type "list")
 | frz {a:Addr} {o:Obj} {xs:List V} (e:H a=some (.frz o (.lst xs))):wv9 K H (.ref a) (.type "list")
 | tup {a:Addr} {xs:List V} (e:H a=some (.tup xs)):wv9 K H (.ref a) (.type "tuple")
 | dK {a:Addr} {kvs:List (Key×V)} (e:H a=some (.dK kvs)):wv9 K H (.ref a) (.type "dict")
 | dT {a:Addr} {kvs:List (List Key×V)} (e:H a=some (.dT kvs)):wv9 K H (.ref a) (.type "dict")
 | ins {a C dx:Addr} {fs:List (Str×V)} (e:H a=some (.ins C dx fs)) (cl:Cls K C) (ha:PySem.W.findIn K (.ref C) "__class__"=some (some (.builtin "object.__class__")))
  (hn:PySem.W.specialIn K (.builtin "object.__class__") "__get__"=some (some (.builtin "getset_descriptor.__get__"))) (htk:PySem.W.takesIn K (.builtin "object.__class__")=some true)
  (hm:PySem.W.mroIn K C (.type "object")=some true):wv9 K H (.ref a) (.ref C)
theorem zg6{x:V}{t:Value}(I:Inv X pins σ H s)(rx:D8 x u)(ty:wv9 X.K H x t)(e:PySem.W.kitOne X.K t c=some b)(h:∀tk,Q (.bool b) {s with toks:=tk}) :
 wpAny #[8] A (call (.builtin "isinstance") [u,c]) Q E s:=by
 cases ty with
 | non=>cases (show u=Value.none from rx);exact PySem.W.kia_one PySem.W.kitx_none I.kIn True.intro e (λz=>nomatch z) h
 | bl y=>cases (show u=Value.bool y from rx);exact PySem.W.kia_one PySem.W.kitx_bool I.kIn True.intro e (λz=>nomatch z) h
 | int i=>obtain⟨t,q⟩:=(show ∃t,u=Value.int i t from rx);cases q;exact PySem.W.kia_one PySem.W.kitx_int I.kIn True.intro e (λz=>nomatch z) h
 | str y=>obtain⟨t,q⟩:=(show ∃t,u=Value.str y t from rx);cases q;exact PySem.W.kia_one PySem.W.kitx_str I.kIn True.intro e (λz=>nomatch z) h
 | flt y=>obtain⟨t,q⟩:=(show ∃t,u=Value.float y t from rx);cases q;exact PySem.W.kia_one PySem.W.kitx_float I.kIn True.intro e (λz=>nomatch z) h
 | @lst a xs ea =>
   cases (show u=Value.ref a from rx)
   obtain⟨_,_,n,_,h1⟩:=(show Q8 X.prog X.w H s.heap a (.lst xs) from I.hok a _ ea)
   exact PySem.W.kia_one PySem.W.kitx_list I.kIn ⟨_,h1,rfl⟩ e (λz=>nomatch z) h
 | @frz a ob xs ea =>
   cases (show u=Value.ref a from rx)
   obtain⟨_,_,_,n,_,h1⟩:=(show Q8 X.prog X.w H s.heap a (.frz ob (.lst xs)) from I.hok a _ ea)
   exact PySem.W.kia_one PySem.W.kitx_list I.kIn ⟨_,h1,rfl⟩ e (λz=>nomatch z) h
 | @tup a xs ea =>
   cases (show u=Value.ref a from rx)
   obtain⟨_,_,_,p⟩:=(show Q8 X.prog X.w H s.heap a (.tup xs) from I.hok a _ ea)
   obtain⟨o,h1,h2,_⟩:=p
   exact PySem.W.kia_one PySem.W.kitx_tuple I.kIn ⟨o,h1,h2⟩ e (λz=>nomatch z) h
 | @dK a kvs ea =>
   cases (show u=Value.ref a from rx)
   obtain⟨_,_,vs,_,p⟩:=(show Q8 X.prog X.w H s.heap a (.dK kvs) from I.hok a _ ea)
   obtain⟨o,es,ep,h1,h2,_⟩:=p
   exact PySem.W.kia_one PySem.W.kitx_dict I.kIn ⟨o,h1,h2.1⟩ e (λz=>nomatch z) h
 | @dT a kvs ea =>
   cases (show u=Value.ref a from rx)
   obtain⟨_,_,xs,_,o,es,ep,h1,h2,_⟩:=(show Q8 X.prog X.w H s.heap a (.dT kvs) from I.hok a _ ea)
   exact PySem.W.kia_one PySem.W.kitx_dict I.kIn ⟨o,h1,h2.1⟩ e (λz=>nomatch z) h
 | @ins a C dx fs ea cl ha hn htk hm =>
   cases (show u=Value.ref a from rx)
   obtain⟨mA,O,_⟩:=xo4 I.hok ea
   obtain⟨od,J,_⟩:=O.look
   exact PySem.W.kia_one (PySem.W.kitx_own (cl.get _) cl.hd ha hn htk hm) I.kIn J e (λz=>nomatch z) h
end
structure qk3(k:Nat)(A:Around):Prop where
 hd:A.handled=none
 dp:A.depth+3*k+5<recursionLimit
 un:A.units+16*k+200<cLine
 gd:A.guards=some []
theorem qk3.mono{j k:Nat}(r:qk3 k A)(h:j<=k):qk3 j A:=⟨r.hd,by have:=r.dp;omega,by have:=r.un;omega,r.gd⟩
theorem qk3.deeper{k:Nat}(r:qk3 (k+1) A)(env:Env):qk3 k (A.deeper env) :=
 ⟨r.hd,by have:=r.dp;show A.depth+1+3*k+5<_;omega,by have:=r.un;show A.units+3+16*k+200<_;omega,r.gd⟩
theorem yv0:(A.under (.builtin "type.__call__" ⟨.ref C::us,kw⟩)).depth=A.depth+1:=by
 first|rfl|simp[Around.under,Code.weight,Code.isCreation,Code.isGuard,Code.isCaller,Code.frames,Code.isFrame,guardIds]
theorem yv1:(A.under (.builtin "type.__call__" ⟨.ref C::us,kw⟩)).units=A.units+1:=by
 first|rfl|simp[Around.under,Code.cUnits,Code.frames,Code.isFrame]
theorem yo1:(A.under (.builtin "type.__call__" ⟨.ref C::us,kw⟩)).guards=pushGuards [] A.guards:=by
 first|rfl|simp[Around.under,Code.guards,Code.isGuard,guardIds]
theorem qk3.make{k:Nat}(r:qk3 (k+1) A)(C:Addr)(us:List Value)(kw:List (Str×Value)):qk3 k (A.under (.builtin "type.__call__" ⟨.ref C::us,kw⟩)) :=
 ⟨r.hd,by have:=r.dp;rw[yv0];omega,by have:=r.un;rw[yv1];omega,by rw[yo1,r.gd];rfl⟩
theorem qk3.depth{k:Nat}(r:qk3 k A):A.depth<recursionLimit:=by have:=r.dp;omega
theorem qk3.units{k:Nat}(r:qk3 k A):A.units+64<cLine:=by have:=r.un;omega
def A5:TA:=λ_ H Q=>Q [] H
def A1(ta:TE)(tr:TA):TA:=λσ H Q=>ta σ H λx H1=>tr σ H1 λxs H2=>Q (x::xs) H2
variable{t:TA}
theorem B4:PA X [] A5:=λ_ _ _ _ H Q I h=>Calls.spliced_nil ⟨[],H,I,.nil,h⟩
theorem A4(ha:PE X e te)(hr:PA X es t)(hs:autoParam #[14] zAr):PA X (e::es) (A1 te t):=by
 intro pos pins s σ H Q I h;rw[hs];show wpAny _ _ (spliced ((false,eval e X.env)::backTo pos (starEach es X.env))) _ _ s;refine Calls.spliced_cons (thn (ha pins s σ H _ I h) λu s1 zq=>?_);walk_at"32";exact thn (hr pos pins s1 σ H1 _ I1 q1) λus s2 ⟨xs,H2,I2,r2,q2⟩=>⟨x::xs,H2,I2,.cons r1 r2,q2⟩
def Y1(t:TA):TE:=λσ H Q=>t σ H λxs H1=>xs.length<=sizeLine/\∀p,H1 p=none->Q (.ref p) (upd H1 p (.tup xs))
def T2(t:TA):TE:=λσ H Q=>t σ H λxs H1=>xs.length<=sizeLine/\∀p,H1 p=none->Q (.ref p) (upd H1 p (.lst xs))
theorem qc4{x1}(h:PA X es t):PE X (.Tuple es x1 pos) (Y1 t):=by
 intro pins s σ H Q I hq;refine wpAny_Tuple_spliced (thn (h pos pins s σ H _ I hq) λus s1 ⟨xs,H1,I1,r,z,q⟩=>⟨by rw[<-r.length];exact z,?_⟩);have hf:H1 s1.heap.objs.size=none:=I1.hok.fresh #[6];refine⟨.ref s1.heap.objs.size,upd H1 s1.heap.objs.size (.tup xs),I1.laid (t':=s1.toks) (λb u e=>Heap.get?_push_of_some _ e) #[6] ?_,rfl,q _ hf⟩;exact⟨z,us,r,⟨_,Heap.get?_push_size _ rfl,rfl,_,rfl⟩⟩
theorem qk4(h:PA X es t):PE X (.List es pos) (T2 t):=by
 intro pins s σ H Q I hq;refine wpAny_List_spliced (thn (h pos pins s σ H _ I hq) λus s1 ⟨xs,H1,I1,r,z,q⟩=>⟨by rw[<-r.length];exact z,?_⟩);have hf:H1 s1.heap.objs.size=none:=I1.hok.fresh #[6];refine⟨.ref s1.heap.objs.size,upd H1 s1.heap.objs.size (.lst xs),I1.laid (t':=s1.toks) (λb u e=>Heap.get?_push_of_some _ e) #[6] ?_,rfl,q _ hf⟩;exact⟨z,us,0,r,Heap.get?_push_size _ rfl⟩
abbrev Sp:=List V->Hp->VK->XK->Prop
abbrev CXT:=List Env->Hp->Shared->XK->Value->Shared->Prop
structure yv2(P:Program)(w:World)(K:Fg)(mg:Str->Option Value)(base:Heap)(A:Around)(outer:List Env)(s:Shared)(H:Hp):Prop where
 frames:A.frames=some outer
 mod:Mod K mg base
 bs:∀b o,base.get? b=some o->s.heap.get? b=some o/\H b=none
 bsz:base.objs.size<=s.heap.objs.size
 funs:s.heap.FunFrames base outer
 frf:∀b∈frs outer,H b=none
 hok:HOk P w H s.heap
 bare:AllBare s.gens
 tk:0<s.toks
def CE(outer:List Env)(P:Program)(w:World)(H:Hp)(s:Shared)(Q:VK)(u:Value)(s':Shared):Prop :=
 ∃v H',0<s'.toks/\s'.os=s.os/\AllBare s'.gens/\Un (frs outer) [] H H' s.heap s'.heap/\HOk P w H' s'.heap/\D8 v u/\Q v H'
def CR(CX:CXT)(outer:List Env)(P:Program)(w:World)(H:Hp)(s:Shared)(Q:VK)(E:XK)(r:Result)(s':Shared):Prop :=
 match r with
 | .ok (.ret u)=>CE outer P w H s Q u s'
 | .ok _=>False
 | .error e=>CX outer H s E e s'
structure D5(P:Program)(w:World)(K:Fg)(mg:Str->Option Value)(base:Heap)(CX:CXT)(k:Nat)(f:Addr)(fd:FuncData)(ps:List Str)(sp:Sp):Prop where
 len:∀vs H Q E,sp vs H Q E->vs.length=ps.length
 run:∀(A:Around) (outer:List Env) (s:Shared) (H:Hp) (args:Args) (us:List Value) (vs:List V) (Q:VK) (E:XK),qk3 k A->yv2 P w K mg base A outer s H->BindsTo s fd args (ps.zip us)->D3 vs us->sp vs H Q E ->
  codeAny (model P w) A (.call (.ref f) args) (CR CX outer P w H s Q E) s
variable{base:Heap}{mg:Str->Option Value}{outer:List Env}
theorem yv2.make(e:yv2 P w K mg base A outer s H)(C:Addr)(us:List Value)(kw:List (Str×Value)) :
 yv2 P w K mg base (A.under (.builtin "type.__call__" ⟨.ref C::us,kw⟩)) outer s H:=⟨by first|exact e.frames|(simpa [Around.under,Code.envs,Code.isFrame,pushEnvs] using e.frames),e.mod,e.bs,e.bsz,e.funs,e.frf,e.hok,e.bare,e.tk⟩
section
variable{s':Shared}
theorem Inv.env0(I:Inv X pins σ H s):yv2 X.prog X.w X.K X.mg X.base X.A X.stack s H :=
 ⟨I.ok.frames,I.ok.mod,I.bs,Nat.le_trans I.ok.bsz I.sz,I.stack,I.stkFree,I.hok,I.bare,I.tk⟩
theorem Inv.after{Q:VK}(I:Inv X pins σ H s)(h:CE X.stack X.prog X.w H s Q u s'):EP X pins σ Q u s':=by
 obtain⟨v,H',ht,os,bare,un,hok,r,q⟩:=h;obtain⟨hh,g,d,t,os'⟩:=s';obtain rfl:os'=s.os:=os;exact⟨v,H',I.call (h':=hh) (g':=g) (d':=d) (t':=t) (ch:=[]) un hok bare (λb z=>absurd z (by simp)) ht,r,q⟩
end
def B9(sp:Sp)(dvs:List V)(E:XK)(t:TA):TE:=λσ H Q=>t σ H λvs H1=>sp (vs++dvs) H1 Q E
def E9(C:Addr)(m:Str)(sp:Sp)(dvs:List V)(E:XK)(ta:TE)(t:TA):TE:=λσ H Q=>ta σ H λx H1=>∃a dx fs,x=.ref a/\H1 a=some (.ins C dx fs)/\fs.lookup m=none /\
 t σ H1 λvs H2=>sp (x::(vs++dvs)) H2 Q E
def xi3(C:Addr)(sp:Sp)(dvs:List V)(E:XK)(t:TA):TE:=λσ H Q=>t σ H λvs H1=>∀x dx,H1 x=none->H1 dx=none->dx≠x ->
 sp (.ref x::(vs++dvs)) (upd (upd H1 dx (.own x)) x (.ins C dx [])) (λv H2=>v=.non/\Q (.ref x) H2) E
def O8(K:Fg)(fd:FuncData)(ps:List Str)(ds:List Value):Prop :=
 ∀(s:Shared) (us:List Value),K.In s.heap->(us++ds).length=ps.length->BindsTo s fd ⟨us,[]⟩ (ps.zip (us++ds))
variable{fd:FuncData}{ps:List Str}
theorem O8.all(h:∀us:List Value,us.length=ps.length->bindArgs fd ⟨us,[]⟩=pure (ps.zip us)):O8 K fd ps []:=λs us _ hl=>by
 rw[append_nil] at hl ⊢
 exact .of_eq (h us hl)
def wj5(CX:CXT)(X:Cx)(E:XK):Prop:=∀(pins:List (Addr×Obj)) (σ:St) (H:Hp) (s:Shared) (e:Value) (s':Shared),Inv X pins σ H s->CX X.stack H s E e s'->X.xe e s'
variable{CX:CXT}{apos:Pos}{dvs vs:List V}{sp:Sp}
section
variable{k:Nat}{f:Addr}{ds:List Value}{E:XK}{p:Pos}
theorem yv3{Q:VK}(F:D5 X.prog X.w X.K X.mg X.base CX k f fd ps sp)(hr:qk3 k X.A)(hb:O8 X.K fd ps ds)(hd:D3 dvs ds)(hx:wj5 CX X E)(I:Inv X pins σ H s)(r:D3 vs us)(h:sp (vs++dvs) H Q E):wpAny #[8] X.A (call (.ref f) us) (EP X pins σ Q) X.xe s:=by
 have r2:D3 (vs++dvs) (us++ds):=r.append hd;have hl:(us++ds).length=ps.length:=by rw[<-r2.length];exact F.len _ _ _ _ h
 refine wpAny_call (codeAny_mono (F.run X.A X.stack s H ⟨us,[]⟩ (us++ds) (vs++dvs) Q E hr I.env0 (hb s us I.kIn hl) r2 h) λr s' hq=>?_);cases r with
 | error e=>exact hx pins σ H s e s' I hq
 | ok fl =>
   cases fl with
   | ret u=>exact I.after hq
   | next=>exact False.elim hq
   | brk=>exact False.elim hq
   | cont=>exact False.elim hq
theorem zx3(F:D5 X.prog X.w X.K X.mg X.base CX k f fd ps sp)(hr:qk3 k X.A)(hg:Gl X x)(hm:X.mg x=some (.ref f))(hk:PySem.W.keepIn X.K (.ref f)=true)(hb:O8 X.K fd ps ds)(hd:D3 dvs ds)(hx:wj5 CX X E)(ha:PA X (e::es) t)(hdb:autoParam ((x == ("__debug__":Str))=false) zAd)(he:autoParam #[14] zAr)(hpl:autoParam ((backTo pos (starEach es X.env)).any (·.1)=false) zAr) :
 PE X (.Call (.Name x p) (e::es) [] pos) (B9 sp dvs E t):=by
 walk_at"22"
 refine wpAny_Call_Name_kw (yg5 I hg hm ?_ hdb)
 refine PySem.W.callWith_K (h₀:=X.base) I.ok.mod.kin hk (thn (ha pos pins s σ H _ I h) λus s1 ⟨vs,H1,I1,r,q⟩=>⟨I1.kIn,?_⟩) he hpl
 exact yv3 F hr hb hd hx I1 r q
theorem L4(he:PE X o ta)(c:Cls X.K C)(hm:qr8 X.K C m f)(F:D5 X.prog X.w X.K X.mg X.base CX k f fd ps sp)(hr:qk3 k X.A)(hb:O8 X.K fd ps ds)(hd:D3 dvs ds)(hx:wj5 CX X E)(ha:PA X (e::es) t)(hst:autoParam #[14] zAr)(hpl:autoParam ((backTo pos (starEach es X.env)).any (·.1)=false) zAr) (ht:eval (.Call (.Attribute o m apos) (e::es) [] pos) X.env=(do
  let ov<-eval o X.env
  standAt apos.atName
  let (f,first)<-holding [ov] (getMethod ov m pl)
  callWith pos f first (backTo pos (starEach (e::es) X.env)) (backToKw pos (keywordEach [] X.env))):=by rfl) :
 PE X (.Call (.Attribute o m apos) (e::es) [] pos) (E9 C m sp dvs E ta t):=by
 walk_at"22"
 refine PySem.W.methodCall_KW (pl:=pl) (thn (he pins s σ H _ I h) λu s1 zq=>?_) ht
 obtain⟨x,H1,I1,rx,a,dx,fs,ex,ea,l,q⟩:=zq
 subst ex
 obtain rfl:u=Value.ref a:=rx
 refine xq2 I1 ea c hm l ?_
 refine PySem.W.callWith_K (first:=[.ref a]) (h₀:=X.base) I.ok.mod.kin hm.kp (thn (ha pos pins s1 σ H1 _ I1 q) λus s2 ⟨vs,H2,I2,r,q2⟩=>⟨I2.kIn,?_⟩) hst hpl
 exact yv3 (us:=.ref a::us) (vs:=.ref a::vs) F hr hb hd hx I2 (.cons rfl r) q2
theorem N0(he:PE X o ta)(c:Cls X.K C)(hm:qr8 X.K C m f)(F:D5 X.prog X.w X.K X.mg X.base CX k f fd ps sp)(hr:qk3 k X.A)(hb:O8 X.K fd ps ds)(hd:D3 dvs ds)(hx:wj5 CX X E) (ht:eval (.Call (.Attribute o m apos) [] [] pos) X.env=(do
  let ov<-eval o X.env
  standAt apos.atName
  let (f,first)<-holding [ov] (getMethod ov m pl)
  callWith pos f first (backTo pos (starEach [] X.env)) (backToKw pos (keywordEach [] X.env))):=by rfl) :
 PE X (.Call (.Attribute o m apos) [] [] pos) (E9 C m sp dvs E ta A5):=by
 walk_at"22"
 refine PySem.W.methodCall_KW (pl:=pl) (thn (he pins s σ H _ I h) λu s1 zq=>?_) ht
 obtain⟨x,H1,I1,rx,a,dx,fs,ex,ea,l,q⟩:=zq
 subst ex
 obtain rfl:u=Value.ref a:=rx
 refine xq2 I1 ea c hm l ?_
 exact PySem.W.callWith_K0 (first:=[.ref a]) I1.kIn hm.kp (yv3 (us:=[.ref a]) (vs:=[.ref a]) F hr hb hd hx I1 (.cons rfl .nil) q)
structure Mk(K:Fg)(C f:Addr):Prop where
 makes:PySem.W.makesIn K C=true
 init:PySem.W.findIn K (.ref C) "__init__"=some (some (.ref f))
 fn:PySem.W.isFn K (.ref f)=true
 kp:PySem.W.keepIn K (.ref C)=true
theorem zm8{Q:VK}(M:Mk X.K C f)(F:D5 X.prog X.w X.K X.mg X.base CX k f fd ps sp)(hr:qk3 (k+1) X.A)(hb:O8 X.K fd ps ds)(hd:D3 dvs ds)(hx:wj5 CX X E)(I:Inv X pins σ H s)(r:D3 vs us)(h:∀x dx,H x=none->H dx=none->dx≠x->sp (.ref x::(vs++dvs)) (upd (upd H dx (.own x)) x (.ins C dx [])) (λv H2=>v=.non/\Q (.ref x) H2) E) :
 wpAny #[8] X.A (call (.ref C) us) (EP X pins σ Q) X.xe s:=by
 have hq:=h (s.heap.objs.size+1) s.heap.objs.size (I.hok.fresh (Nat.le_succ _)) (I.hok.fresh #[6]) (Nat.ne_of_lt (Nat.lt_succ_self _))
 have I2:=Inv.made (C:=C) I
 have r2:D3 (V.ref (s.heap.objs.size+1)::(vs++dvs)) (Value.ref (s.heap.objs.size+1)::(us++ds)):=.cons rfl (r.append hd)
 have hl:(Value.ref (s.heap.objs.size+1)::us++ds).length=ps.length:=by
  have e:=r2.length;rw[F.len _ _ _ _ hq] at e;exact e.symm
 refine wpAny_call (zm7 (f:=f) I.kIn M.makes M.init (beq_iff_eq.mp M.fn) (codeAny_mono (F.run _ X.stack _ _ ⟨Value.ref (s.heap.objs.size+1)::us,[]⟩ (Value.ref (s.heap.objs.size+1)::(us++ds)) _ _ E (hr.make C us [])
  (I2.env0.make C us []) (hb _ (Value.ref (s.heap.objs.size+1)::us) I2.kIn hl) r2 hq) λr s' hq'=>?_))
 cases r with
 | error e=>exact hx pins σ _ _ e s' I2 hq'
 | ok fl =>
   cases fl with
   | ret u =>
     obtain⟨v,H',I3,rv,ev,q3⟩:=I2.after hq'
     subst ev
     exact⟨rv,⟨V.ref (s.heap.objs.size+1),H',I3,rfl,q3⟩⟩
   | next=>exact False.elim hq'
   | brk=>exact False.elim hq'
   | cont=>exact False.elim hq'
theorem wo2(M:Mk X.K C f)(F:D5 X.prog X.w X.K X.mg X.base CX k f fd ps sp)(hr:qk3 (k+1) X.A)(hg:Gl X x)(hm:X.mg x=some (.ref C))(hb:O8 X.K fd ps ds)(hd:D3 dvs ds)(hx:wj5 CX X E)(ha:PA X (e::es) t)(hdb:autoParam ((x == ("__debug__":Str))=false) zAd)(he:autoParam #[14] zAr)(hpl:autoParam ((backTo pos (starEach es X.env)).any (·.1)=false) zAr) :
 PE X (.Call (.Name x p) (e::es) [] pos) (xi3 C sp dvs E t):=by
 walk_at"22"
 refine wpAny_Call_Name_kw (yg5 I hg hm ?_ hdb)
 refine PySem.W.callWith_K (h₀:=X.base) I.ok.mod.kin M.kp (thn (ha pos pins s σ H _ I h) λus s1 ⟨vs,H1,I1,r,q⟩=>⟨I1.kIn,?_⟩) he hpl
 exact zm8 M F hr hb hd hx I1 r q
end
section
variable{k:Nat}{f:Addr}{ks:List Str}{E:XK}{p kpos:Pos}{kws:List Keyword}{tk:TA}{nm:Option Str}
variable{g:List Value->List Value->List Value}{gV:List V->List V->List V}
end
structure B6(N P:List Str)(sc:Scope):Prop where
 kind:sc.kind=.function
 co:sc.isCoroutine=false
 gen:sc.isGenerator=false
 nd:N.Nodup
 pre:N.take P.length=P
 par:∀x∈P,sc.names.lookup x=some .local\/sc.names.lookup x=some .cell
 nofree:∀y∈sc.names,y.2≠.free
theorem yd2{kindOf:Str->Option NameKind}{x:Str}:∀{binds:List (Str×Value)} {m:Str->Option Value},(∀v,(x,v)∉binds)->bindL kindOf binds m x=m x
 | [],_,_=>rfl
 | (n,v)::r,m,h=>by
   unfold bindL;rw[yd2 λw hw=>h w (mem_cons_of_mem _ hw)];split
   ·have:x≠n:=by rintro rfl;exact h v mem_cons_self
    simp[this]
   ·rfl
theorem yd3{kindOf:Str->Option NameKind}{x:Str}:∀{binds:List (Str×Value)} {m:Str->Option Value},(∀v,(x,v)∉binds)->bindC kindOf binds m x=m x
 | [],_,_=>rfl
 | (n,v)::r,m,h=>by
   unfold bindC;rw[yd3 λw hw=>h w (mem_cons_of_mem _ hw)];split
   ·rfl
   ·have:x≠n:=by rintro rfl;exact h v mem_cons_self
    simp[this]
theorem yd4{kindOf:Str->Option NameKind}{x:Str}{v:Value}:∀{P:List Str} {vs:List Value} {i:Nat} {m:Str->Option Value},P.Nodup->P[i]?=some x->vs[i]?=some v->kindOf x=some .local ->
 bindL kindOf (P.zip vs) m x=some v
 | [],_,_,_,_,h,_,_=>by simp at h
 | _::_,[],_,_,_,_,h,_=>by simp at h
 | p::P,w::vs,0,m,nd,h1,h2,hk=>by
   simp at h1 h2;subst h1;subst h2;show bindL kindOf ((p,w)::P.zip vs) m p=_;unfold bindL;rw[yd2 λv hv=>(nodup_cons.mp nd).1 (of_mem_zip hv).1,if_pos hk];simp
 | p::P,w::vs,i+1,m,nd,h1,h2,hk=>by
   show bindL kindOf ((p,w)::P.zip vs) m x=_;unfold bindL;exact yd4 (i:=i) (nodup_cons.mp nd).2 (by simpa using h1) (by simpa using h2) hk
theorem yd5{kindOf:Str->Option NameKind}{x:Str}{v:Value}:∀{P:List Str} {vs:List Value} {i:Nat} {m:Str->Option Value},P.Nodup->P[i]?=some x->vs[i]?=some v->kindOf x≠some .local ->
 bindC kindOf (P.zip vs) m x=some v
 | [],_,_,_,_,h,_,_=>by simp at h
 | _::_,[],_,_,_,_,h,_=>by simp at h
 | p::P,w::vs,0,m,nd,h1,h2,hk=>by
   simp at h1 h2;subst h1;subst h2;show bindC kindOf ((p,w)::P.zip vs) m p=_;unfold bindC;rw[yd3 λv hv=>(nodup_cons.mp nd).1 (of_mem_zip hv).1,if_neg hk];simp
 | p::P,w::vs,i+1,m,nd,h1,h2,hk=>by
   show bindC kindOf ((p,w)::P.zip vs) m x=_;unfold bindC;exact yd5 (i:=i) (nodup_cons.mp nd).2 (by simpa using h1) (by simpa using h2) hk
noncomputable def C3(N:List Str)(vs:List V):St:=vs.map some++List.replicate (N.length-vs.length) none
noncomputable def zg7(CX:CXT)(P:Program)(w:World)(K:Fg)(mg:Str->Option Value)(base:Heap)(N:List Str)(qual:Str)(scope:Scope)(f:Addr)(cd:Value)(A:Around)(outer:List Env)(s:Shared)(H:Hp)(E:XK):Cx where
 prog:=P
 w:=w
 K:=K
 mg:=mg
 base:=base
 A:=A.deeper (envOfC qual scope s.heap.objs.size f cd)
 N:=N
 s₀:=s
 H₀:=H
 env:=envOfC qual scope s.heap.objs.size f cd
 outer:=outer
 stack:=envOfC qual scope s.heap.objs.size f cd::outer
 ex:=[]
 calm:=true
 fn:=λ_=>true
 pn:=[]
 xe:=λe s'=>wpAny (model P w) (A.deeper (envOfC qual scope s.heap.objs.size f cd)) (leaving (envOfC qual scope s.heap.objs.size f cd) e) (λ_ s''=>CX outer H s E e s'') (λe' s''=>CX outer H s E e' s'') s'
theorem yo2{sc:Scope}(h:sc.names.lookup x=some .cell):∃c,(cellsFrom n sc.names []).lookup x=some c:=by
 have q:=PySem.W.cellsFrom_some sc.names n [] (.inl h);exact Option.isSome_iff_exists.mp q
variable{qual:Str}{scope:Scope}
theorem zg8{f:Addr}{cd:Value}{s1:Shared}{E:XK}(S:B6 N ps scope)(hd:A.handled=none)(e0:yv2 P w K mg base A outer s H)(hl:vs.length=ps.length)(r:D3 vs us)(x:InCallC s s.heap.objs.size (bindL (envOfC qual scope s.heap.objs.size f cd).kindOf (ps.zip us) λ_=>none) (cellsFrom (s.heap.objs.size+1) scope.names []) (bindC (envOfC qual scope s.heap.objs.size f cd).kindOf (ps.zip us) λ_=>none) s1)(ht:0<s1.toks) :
 Inv (zg7 CX P w K mg base N qual scope f cd A outer s H E) [] (C3 N vs) H s1:=by
 have hpl:ps.length<=N.length:=by have:=congrArg List.length S.pre;rw[length_take] at this;omega
 obtain⟨h1,tk,rfl,hk⟩:=x.done
 have noA:∀b:Addr,b∉(zg7 CX P w K mg base N qual scope f cd A outer s H E).ex:=λb z=>absurd (show b∈([]:List Addr) from z) (by simp)
 refine⟨⟨e0.mod,S.kind,rfl,rfl,Nat.le_refl _,λy z c h1 h2=>?_,λy hy=>?_,λy c _ h=>?_,λ_=>hd,Around.frames_deeper e0.frames,.inr ⟨rfl,rfl⟩,λb z=>absurd z (noA b),e0.bs,e0.bsz,λb _ _=>noA b,λb z=>absurd z (noA b),e0.funs,e0.frf⟩,
  rfl,e0.bare,Un.kept hk,⟨_,x.toInCall.ns,λi y v h1 h2 h3=>?_⟩,λy c h=>⟨_,x.cell y c h⟩,e0.hok.fresh #[6],λy c h=>?_,λp hp=>absurd (show p∈([]:List (Addr×Obj)) from hp) (by simp),e0.hok.kept hk,?_,ht⟩
 ·exact name_of_addr x.apart (PySem.mem_of_lookup h1) (PySem.mem_of_lookup h2)
 ·have hy:scope.names.lookup y=some .cell\/scope.names.lookup y=some .free:=hy
  rcases hy with hy|hy
  ·exact yo2 hy
  ·exact absurd rfl (S.nofree _ (PySem.mem_of_lookup hy))
 ·exact Nat.le_of_lt (x.above y c (PySem.mem_of_lookup h))
 ·have hi:i<vs.length:=by
   unfold C3 at h2;by_cases hi:i<vs.length
   ·exact hi
   ·rw[List.getElem?_append_right (by simpa using hi)] at h2;rw[List.getElem?_replicate] at h2;split at h2 <;> cases h2
  have ha:vs[i]?=some v:=by
   unfold C3 at h2;rw[List.getElem?_append_left (by simpa using hi),List.getElem?_map] at h2;cases e:vs[i]? with
   | none=>rw[e] at h2;cases h2
   | some a=>rw[e] at h2;cases h2;rfl
  obtain⟨u,hu,rv⟩:=r.get ha
  have hp:ps[i]?=some y:=by
   rw[<-S.pre,List.getElem?_take_of_lt #[0]];exact h1
  have ndP:ps.Nodup:=by rw[<-S.pre];exact S.nd.sublist (take_sublist _ _)
  refine⟨u,rv,?_⟩
  rcases S.par y (mem_of_getElem? hp) with k|k
  ·exact .inl ⟨k,yd4 ndP hp hu k⟩
  ·obtain⟨c,e⟩:=yo2 (n:=s.heap.objs.size+1) k
   refine .inr ⟨.inl k,c,e,?_⟩
   have q:=x.cell y c e
   rw[yd5 ndP hp hu (by show scope.names.lookup y≠_;rw[k];decide)] at q
   exact q
 ·exact e0.hok.fresh (Nat.le_of_lt (x.above y c (PySem.mem_of_lookup h)))
 ·unfold C3
  show _=N.length
  rw[length_append,length_map,length_replicate]
  omega
variable{an od:Option Addr}{cdv ct doc oc pm:Value}{osl:Array (Option Value)}
theorem Ap0{k:Nat}{f:Addr}{params:Arguments}{dV kV:Value}(lk:K.lookup f=some ⟨oc,od,.func (PySem.W.fnOf name qual params body scope dV kV doc pm an cdv ct),osl⟩)(hcd:PySem.W.codeIn K cdv qual=true)(S:B6 N ps scope)(len:∀vs H Q E,sp vs H Q E->vs.length=ps.length) (hbody:∀(A:Around) (outer:List Env) (s:Shared) (H:Hp) (vs:List V) (Q:VK) (E:XK),qk3 k (A.deeper (envOfC qual scope s.heap.objs.size f cdv))->sp vs H Q E ->
  ∃t,PSs (zg7 CX P w K mg base N qual scope f cdv A outer s H E) body t/\t {nx:=λ_ H'=>Q .non H',rt:=Q} (C3 N vs) H) :
 D5 P w K mg base CX (k+1) f (PySem.W.fnOf name qual params body scope dV kV doc pm an cdv ct) ps sp:=by
 refine⟨len,λA outer s H args us vs Q E hr e0 hb r hsp=>?_⟩
 have hl:=len _ _ _ _ hsp
 have KX:K.In s.heap:=e0.mod.kin.keeps λb o e=>(e0.bs b o e).1
 have lim:s.heap.NoLimit:=e0.mod.nolimit.keeps λb o e=>(e0.bs b o e).1
 have hkind:∀y∈ps.zip us,scope.names.lookup y.1=some .local\/(scope.names.lookup y.1=some .cell/\((cellsFrom (s.heap.objs.size+1) scope.names []).lookup y.1).isSome=true):=λ⟨n,v⟩ hy=>by
  rcases S.par n (of_mem_zip hy).1 with q|q
  ·exact .inl q
  ·exact .inr ⟨q,PySem.W.cellsFrom_some _ _ _ (.inl q)⟩
 refine codeAny_call_function hr.depth (KX _ _ lk) rfl S.co S.gen rfl (PySem.W.codeRec_of KX hcd) (hb _ _ _ _ ?_)
 refine wpAny_with_toks (n:=1) e0.tk (wpAny_newFunctionEnv_cells S.kind hkind λenv he s1 x htk=>?_)
 subst he
 refine⟨lim.keeps x.toInCall.keep,codeAny_func ?_⟩
 obtain⟨t,ht,hq⟩:=hbody A outer s H vs Q E (hr.deeper _) hsp
 have I:Inv (zg7 CX P w K mg base N qual scope f cdv A outer s H E) [] (C3 N vs) H s1:=zg8 S hr.hd e0 hl r x htk
 refine wpAny_mono (ht [] s1 (C3 N vs) H _ I hq) (λfl s' hs=>?_) λe s' hs=>hs
 have fin:∀{σ':St} {H':Hp} {v:V} {u:Value},Inv (zg7 CX P w K mg base N qual scope f cdv A outer s H E) [] σ' H' s'->D8 v u->Q v H'->CE outer P w H s Q u s' :=
  λ{σ' H' v u} J rv q=>⟨v,H',J.tk,J.os,J.bare,J.base,J.hok,rv,q⟩
 cases fl with
 | ret u =>
   obtain⟨v,σ',H',J,rv,q⟩:=hs
   exact fin J rv q
 | next =>
   obtain⟨σ',H',J,q⟩:=hs
   exact fin (v:=V.non) (u:=Value.none) J rfl q
 | brk =>
   obtain⟨_,_,_,q⟩:=hs
   exact False.elim q
 | cont =>
   obtain⟨_,_,_,q⟩:=hs
   exact False.elim q
variable{T:String}
section
variable{p:Pos}{id:String}{r:List V->Hp->VK->Prop}
def tCB(r:List V->Hp->VK->Prop)(t:TA):TE:=λσ H Q=>t σ H λvs H1=>r vs H1 Q
theorem N1(hc:Y0 X (.builtin id) r)(hg:Gl X x)(hm:X.mg x=none)(hv:bootBuiltins x=some (.builtin id))(ha:PA X (e::es) t)(hn:autoParam (x ≠ "__name__") zAd)(hdb:autoParam ((x == ("__debug__":Str))=false) zAd)(he:autoParam #[14] zAr)(hpl:autoParam ((backTo pos (starEach es X.env)).any (·.1)=false) zAr):PE X (.Call (.Name x p) (e::es) [] pos) (tCB r t):=by
 walk_at"22";refine wpAny_Call_Name_kw (qr6 I hg hm hv ?_ hn hdb);exact PyProof.Rows.callWith_builtin1 (thn (ha pos pins s σ H _ I h) λus s1 ⟨vs,H1,I1,r1,q1⟩=>hc pins s1 σ H1 vs us Q I1 r1 q1) he hpl
theorem qr4(hc:Y0 X (.type T) r)(hg:Gl X x)(hm:X.mg x=none)(hv:bootBuiltins x=some (.type T))(ha:PA X (e::es) t)(hn:autoParam (x ≠ "__name__") zAd)(hdb:autoParam ((x == ("__debug__":Str))=false) zAd)(he:autoParam #[14] zAr)(hpl:autoParam ((backTo pos (starEach es X.env)).any (·.1)=false) zAr):PE X (.Call (.Name x p) (e::es) [] pos) (tCB r t):=by
 walk_at"22";refine wpAny_Call_Name_kw (qr6 I hg hm hv ?_ hn hdb);exact PyProof.Rows.callWith_type1 (thn (ha pos pins s σ H _ I h) λus s1 ⟨vs,H1,I1,r1,q1⟩=>hc pins s1 σ H1 vs us Q I1 r1 q1) he hpl
end
namespace HT
open PySem PyProof.Rows
section
open PySem.SeqAt
open PySem.AutoSeq1 (wpAny_loadPart')
open PySem.MeetsSeq PySem.MeetsSeq2 PySem.MeetsSeq3
end
section
variable{prog:Program}{w:World}{A:Around}{E:Value->Shared->Prop}{s:Shared}
theorem zx4{t b:Addr}{vs ws:List Value}{Q:Value->Shared->Prop}(ht:IsTup s.heap t vs.toArray)(hb:IsTup s.heap b ws.toArray)(hv:vs≠[])
 (h1:ws=[]->Q (.ref t) s) (h2:ws≠[]->Q (.ref s.heap.objs.size) {s with heap:=s.heap.push {cls:=.type "tuple",data:=.seq (vs++ws).toArray}})
 (hsz:vs.length+ws.length<=sizeLine):wpAny #[10] A (binaryOp .Add (.ref t) (.ref b)) Q E s:=by
 obtain⟨⟨cls,dd,data,sl⟩,ho,hc,n,hd⟩:=id ht
 obtain⟨⟨cls2,dd2,data2,sl2⟩,ho2,hc2,n2,hd2⟩:=id hb
 simp only at hc hd hc2 hd2
 subst hc hd hc2 hd2
 have e:vs.toArray++ws.toArray=(vs++ws).toArray:=by simp
 by_cases hw:ws=[]
 ·exact concat_meets ⟨_,ho,rfl⟩ ⟨_,ho2,rfl⟩ noFill_tuple_add seq_tuple_add PySem.F.slot_tuple_add PySem.F.entry_tuple_add (PySem.F.args_tuple_add_2 _ _)
   (tuple_addW1 t b vs.toArray ws.toArray n n2 dd dd2 sl sl2 (by simpa using hv) (by simp[hw])) ⟨ho,ho2,h1 hw⟩
 ·refine concat_meets ⟨_,ho,rfl⟩ ⟨_,ho2,rfl⟩ noFill_tuple_add seq_tuple_add PySem.F.slot_tuple_add PySem.F.entry_tuple_add (PySem.F.args_tuple_add_2 _ _)
   (tuple_addW2 t b vs.toArray ws.toArray n n2 dd dd2 sl sl2 (by simpa using hv) (by simpa using hw) (by rw[size_toArray,size_toArray];exact hsz)) ⟨ho,ho2,?_⟩
  rw[e]
  exact h2 hw
noncomputable def sIx(n d:Nat):Option Int->Nat
 | none=>d
 | some v=>if v<0 then(v+(n:Int)).toNat else min v.toNat n
theorem R5(n d k:Nat):sIx n d (some (k:Int))=min k n:=by
 show(if(k:Int)<0 then((k:Int)+(n:Int)).toNat else min (k:Int).toNat n)=min k n;rw[if_neg #[0],Int.toNat_natCast]
theorem yv4(n d:Nat)(hd:d<=n)(o:Option Int):sIx n d o<=n:=by
 cases o with
 | none=>exact hd
 | some v =>
   show(if v<0 then(v+(n:Int)).toNat else min v.toNat n)<=n
   by_cases hv:v<0
   ·rw[if_pos hv];omega
   ·rw[if_neg hv];exact Nat.min_le_right _ _
theorem zc4(v:Int)(n d:Nat):(if v<0 then max (v+(n:Int)) 0 else min v (n:Int))=((sIx n d (some v):Nat):Int):=by
 show(if v<0 then max (v+(n:Int)) 0 else min v (n:Int))=(((if v<0 then(v+(n:Int)).toNat else min v.toNat n):Nat):Int);by_cases hv:v<0
 ·simp only[if_pos hv];omega
 ·simp only[if_neg hv];omega
theorem yv5(lo hi:Option Int)(n:Nat):Builtin.Slice.sliceAdjust lo hi 1 (n:Int)=(((sIx n 0 lo:Nat):Int),((sIx n n hi:Nat):Int)):=by
 have h1:¬((1:Int)<0):=by omega
 unfold Builtin.Slice.sliceAdjust;simp only[h1,if_false];refine Prod.ext ?_ ?_
 ·cases lo with
  | none=>rfl
  | some v=>exact zc4 v n 0
 ·cases hi with
  | none=>rfl
  | some v=>exact zc4 v n n
theorem yv6(i j:Nat):Builtin.Slice.slicePlaces (i:Int) (j:Int) 1=j-i:=by
 unfold Builtin.Slice.slicePlaces;have h1:(1:Int) > 0:=by omega
 simp only[h1,if_true,Int.ediv_one];split <;> omega
theorem xq3{v:Value}{o:Option Int}{Q:Option Int->Shared->Prop}(p:IsPart v o)(h:Q o s):wpAny #[10] A (Builtin.Slice.slicePartIndex v) Q E s:=by
 cases p with
 | none=>exact slicePart_none h
 | int i t=>exact slicePart_int h
theorem wa2{sl:Addr}{vl vu:Value}{lo hi:Option Int}{n:Nat}{Q:Int×Int×Nat->Shared->Prop}(hs:s.heap.IsSliceOf sl vl vu .none)(pl:IsPart vl lo)(pu:IsPart vu hi)
 (h:Q (((sIx n 0 lo:Nat):Int),1,sIx n n hi-sIx n 0 lo) s):wpAny #[10] A (Builtin.Slice.sliceApplied (.ref sl) (pure (n:Int))) Q E s:=by
 obtain⟨os,hos,hcs,hds⟩:=id hs
 unfold Builtin.Slice.sliceApplied Builtin.Slice.sliceFields
 refine wpAny_bind (wpAny_bind (wpAny_field hos hds (x:=vl) rfl (wpAny_bind (wpAny_field hos hds (x:=vu) rfl (wpAny_bind (wpAny_field hos hds (x:=.none) rfl (wpAny_pure ?_)))))))
 refine wpAny_bind (slicePart_none ?_)
 show wpAny _ _ (if((1:Int) == 0)=true then _ else _) _ _ s
 rw[if_neg #[7]]
 refine wpAny_bind (xq3 pl (wpAny_bind (xq3 pu (wpAny_bind (wpAny_pure ?_)))))
 show wpAny _ _ (match Builtin.Slice.sliceAdjust lo hi 1 (n:Int) with|(lo,hi)=>pure (lo,(1:Int),Builtin.Slice.slicePlaces lo hi 1)) _ _ s
 rw[yv5 lo hi n]
 show wpAny _ _ (pure (((sIx n 0 lo:Nat):Int),(1:Int),Builtin.Slice.slicePlaces ((sIx n 0 lo:Nat):Int) ((sIx n n hi:Nat):Int) 1)) _ _ s
 rw[yv6]
 exact wpAny_pure h
theorem zm9(xs:Array Value)(i k:Nat):((List.range k).filterMap λ(m:Nat)=>xs[((i:Int)+(m:Int)*1).toNat]?).toArray=((xs.toList.drop i).take k).toArray:=by
 have e:(λ(m:Nat)=>xs[((i:Int)+(m:Int)*1).toNat]?)=λm=>xs[i+m]?:=by
  funext m;have:((i:Int)+(m:Int)*1).toNat=i+m:=by omega
  rw[this]
 rw[e];have:=pick_run xs i k;rw[filterMap_map] at this;have e2:((λx=>xs[x]?)∘λx=>i+x)=λm=>xs[i+m]?:=rfl;rw[e2] at this;rw[this]
theorem ww0{t sl:Addr}{items:Array Value}{vl vu:Value}{lo hi:Option Int}{Q:Value->Shared->Prop}(ht:IsTup s.heap t items)(hs:s.heap.IsSliceOf sl vl vu .none)(pl:IsPart vl lo)(pu:IsPart vu hi)
 (hw:¬(sIx items.size 0 lo=0/\sIx items.size items.size hi=items.size))
 (h:Q (.ref s.heap.objs.size) {s with heap:=s.heap.push {cls:=.type "tuple",data:=.seq ((items.toList.drop (sIx items.size 0 lo)).take (sIx items.size items.size hi-sIx items.size 0 lo)).toArray}})
 (hsz:items.size<=sizeLine):wpAny #[10] A (getItem (.ref t) (.ref sl)) Q E s:=by
 have htake:sizeOk (.seq ((items.toList.drop (sIx items.size 0 lo)).take (sIx items.size items.size hi-sIx items.size 0 lo)).toArray):=by
  show((items.toList.drop (sIx items.size 0 lo)).take (sIx items.size items.size hi-sIx items.size 0 lo)).toArray.size<=sizeLine;rw[size_toArray,length_take,length_drop,Array.length_toList];omega
 have hj:sIx items.size items.size hi<=items.size:=yv4 _ _ #[6] hi
 obtain⟨os,hos,hcs,hds⟩:=id hs
 have hTs:s.TypeIs (.ref sl) "slice":=⟨os,hos,hcs⟩
 unfold getItem
 try with_reducible refine wpAny_holding ?_
 first|refine wpAny_bind (wpAny_pure ?_)|skip
 refine wpAny_bind (wpAny_sequenceKey ht.typeIs #[7] ?_)
 refine wpAny_bind (wpAny_callSpecial?_slot (name:=Str.ofString "__getitem__") ht.typeIs PyProof.Rows.slot_tuple_getitem
  (wpAny_call_entry PyProof.Rows.slot_tuple_getitem ht.typeIs entry_tuple_getitem ?_ (args_tuple_getitem _ _)))
 show wpAny _ _ (Builtin.Tuple.tupleItemsOf (.ref t) >>= _) _ _ s
 refine wpAny_bind (tupleItemsOf_ ht ?_)
 refine wpAny_bind (wpAny_typeOf hTs ?_)
 rw[if_pos #[7]]
 refine wpAny_bind (wa2 hs pl pu ?_)
 have hno:¬((((sIx items.size 0 lo:Nat):Int) == 0 && (1:Int) == 1 && (sIx items.size items.size hi-sIx items.size 0 lo) == items.size)=true):=by
  intro q;rw[Bool.and_eq_true,Bool.and_eq_true] at q;have q1:((sIx items.size 0 lo:Nat):Int)=0:=eq_of_beq q.1.1;have q2:sIx items.size items.size hi-sIx items.size 0 lo=items.size:=eq_of_beq q.2;exact hw ⟨by omega,by omega⟩
 show wpAny _ _ (if(((sIx items.size 0 lo:Nat):Int) == 0 && (1:Int) == 1 && (sIx items.size items.size hi-sIx items.size 0 lo) == items.size)=true then _ else _) _ _ s
 rw[if_neg hno,zm9]
 first
  | exact wpAny_bind (m:=Builtin.Tuple.tupleExact _) (wpAny_newObj_type (wpAny_pure ⟨_,rfl,wpAny_pure h⟩) htake)
  | exact wpAny_bind (m:=Builtin.Tuple.tupleExact _) (wpAny_newObj_type (wpAny_bind (wpAny_pure (wpAny_pure ⟨_,rfl,wpAny_pure h⟩))) htake)
  | exact wpAny_bind (wpAny_bind (m:=Builtin.Tuple.tupleExact _) (wpAny_newObj_type (wpAny_pure (wpAny_pure ⟨_,rfl,wpAny_pure h⟩)) htake))
  | exact wpAny_bind (wpAny_bind (m:=Builtin.Tuple.tupleExact _) (wpAny_newObj_type (wpAny_pure ⟨_,rfl,wpAny_pure h⟩) htake))
end
end HT
abbrev TO:=St->Hp->(Option Int->Hp->Prop)->Prop
def PO(X:Cx)(e:Option Expr)(t:TO):Prop :=
 ∀(pins:List (Addr×Obj)) (s:Shared) (σ:St) (H:Hp) (Q:Option Int->Hp->Prop),Inv X pins σ H s->t σ H Q ->
  wpAny #[8] X.A (evalPart e X.env) (λu s'=>∃o H',Inv X pins σ H' s'/\IsPart u o/\Q o H') X.xe s
def U9:TO:=λ_ H Q=>Q none H
def O9(t:TE):TO:=λσ H Q=>t σ H λx H1=>∃i,x=.int i/\Q (some i) H1
variable{p2:Pos}{th:TO}{r:V->Option Int->Option Int->Hp->VK->Prop}
section
variable{lo hi:Option Expr}{tl:TO}
theorem we2:PO X none U9:=by
 walk_at"22";rw[evalPart_none];exact wpAny_pure ⟨none,H,I,.none,h⟩
theorem V0(h:PE X e te):PO X (some e) (O9 te):=by
 intro pins s σ H Q I hw;rw[evalPart_some];refine thn (h pins s σ H _ I hw) λu s1 zq=>?_;walk_at"32";obtain⟨i,rfl,q⟩:=q1;obtain⟨t,rfl⟩:=r1;exact⟨some i,H1,I1,.int i t,q⟩
def SlR(X:Cx)(r:V->Option Int->Option Int->Hp->VK->Prop):Prop :=
 ∀(pins:List (Addr×Obj)) (s:Shared) (σ:St) (H:Hp) (x:V) (v vl vu:Value) (lo hi:Option Int) (sl:Addr) (Q:VK),Inv X pins σ H s->D8 x v->s.heap.IsSliceOf sl vl vu .none->IsPart vl lo->IsPart vu hi->r x lo hi H Q ->
  ∃T id,typeLookup (.type T) "__getitem__"=pure (some (.builtin id))/\s.TypeIs v T/\wpAny #[8] X.A (getItem v (.ref sl)) (EP X pins σ Q) X.xe s
theorem SlR.or{r':V->Option Int->Option Int->Hp->VK->Prop}(h:SlR X r)(h':SlR X r'):SlR X (λx lo hi H Q=>r x lo hi H Q\/r' x lo hi H Q):=by
 intro pins s σ H x v vl vu lo hi sl Q I rx hs pl pu q;rcases q with q|q
 ·exact h pins s σ H x v vl vu lo hi sl Q I rx hs pl pu q
 ·exact h' pins s σ H x v vl vu lo hi sl Q I rx hs pl pu q
def tSl(r:V->Option Int->Option Int->Hp->VK->Prop)(te:TE)(tl th:TO):TE:=λσ H Q=>te σ H λx H1=>tl σ H1 λl H2=>th σ H2 λu H3=>r x l u H3 Q
theorem V6(hr:SlR X r)(he:PE X e te)(hl:PO X lo tl)(hu:PO X hi th):PE X (.Subscript e (.Slice lo hi none p2) pos) (tSl r te tl th):=by
 walk_at"22";refine Subscript_ (thn (he pins s σ H _ I h) λv s1 zq=>?_);walk_at"32";refine wpAny_Slice (thn (hl pins s1 σ H1 _ I1 q1) λvl s2 ⟨l,H2,I2,pl,q2⟩=>thn (hu pins s2 σ H2 _ I2 q2) λvu s3 zq=>?_);obtain⟨u,H3,I3,pu,q3⟩:=zq;rw[evalPart_none];refine wpAny_pure ?_;have I4:Inv X pins σ H3 {s3 with heap:=s3.heap.push {cls:=.type "slice",data:=.fields #[vl,vu,.none]}}:=I3.kept (t':=s3.toks) λb ob q=>Heap.get?_push_of_some _ q;obtain⟨T,id,hT,ht,hg⟩:=hr pins {s3 with heap:=s3.heap.push {cls:=.type "slice",data:=.fields #[vl,vu,.none]}} σ H3 x v vl vu l u s3.heap.objs.size Q I4 r1 (Heap.IsSliceOf.new ..) pl pu q3;show wpAny #[8] X.A (subscriptTail e (.Slice lo hi none p2) v (.ref s3.heap.objs.size)) (EP X pins σ Q) X.xe {s3 with heap:=s3.heap.push {cls:=.type "slice",data:=.fields #[vl,vu,.none]}};exact tail_any (ops:=[.ref s3.heap.objs.size,v]) ht hT hg #[19]
noncomputable def qe8(xs:List V)(lo hi:Option Int):List V:=(xs.drop (HT.sIx xs.length 0 lo)).take (HT.sIx xs.length xs.length hi-HT.sIx xs.length 0 lo)
theorem xi4(xs:List V)(lo hi:Option Int):(qe8 xs lo hi).length<=xs.length:=by
 unfold qe8;rw[length_take,length_drop];omega
def Ap1(K:Fg):V->Option Int->Option Int->Hp->VK->Prop:=λx lo hi H Q=>∃a xs,x=.ref a/\SqT K H a xs /\
 ¬(HT.sIx xs.length 0 lo=0/\HT.sIx xs.length xs.length hi=xs.length)/\∀p,H p=none->Q (.ref p) (upd H p (.tup (qe8 xs lo hi)))
theorem Ai2:SlR X (Ap1 X.K):=by
 walk_at"25";refine HT.ww0 ht hs pl pu (by rw[hlen];exact hw) ?_ (by rw[hlen];exact hz);rw[hlen];refine⟨.ref s.heap.objs.size,_,I.laid (t':=s.toks) (o:=.tup (qe8 xs lo hi)) (λb ob q=>Heap.get?_push_of_some _ q) #[6] ?_,rfl,q _ (I.hok.fresh #[6])⟩;exact⟨Nat.le_trans (xi4 xs lo hi) hz,_,(r.drop (HT.sIx xs.length 0 lo)).take (HT.sIx xs.length xs.length hi-HT.sIx xs.length 0 lo),IsTup.new _ _⟩
def Ae6(K:Fg):R2:=λx y H Q=>∃a b xs ys,x=.ref a/\y=.ref b/\SqT K H a xs/\SqT K H b ys/\xs≠[]/\xs.length+ys.length<=sizeLine /\
 (ys=[]->Q (.ref a) H)/\(ys≠[]->∀p,H p=none->Q (.ref p) (upd H p (.tup (xs++ys))))
theorem D3.nil_iff(r:D3 xs us):us=[]↔xs=[]:=by
 cases r with
 | nil=>simp
 | cons _ _=>simp
theorem zx5:OpR X (binaryOp .Add) (Ae6 X.K):=by
 walk_at"7";obtain⟨a,b,xs,ys,rfl,rfl,ha,hb,hx,hz,q1,q2⟩:=h;cases rx;cases ry;obtain⟨its,r1,p1,_⟩:=I.tuple ha;obtain⟨its2,r2,p2,_⟩:=I.tuple hb;refine HT.zx4 p1 p2 (λz=>hx (r1.nil_iff.mp z)) (λz=>⟨.ref a,H,I,rfl,q1 (r2.nil_iff.mp z)⟩) (λz=>?_) (by rw[<-r1.length,<-r2.length];exact hz);refine⟨.ref s.heap.objs.size,_,I.laid (t':=s.toks) (o:=.tup (xs++ys)) (λb ob q=>Heap.get?_push_of_some _ q) #[6] ?_,rfl,q2 (λw=>z (r2.nil_iff.mpr w)) _ (I.hok.fresh #[6])⟩;exact⟨by rw[length_append];exact hz,_,r1.append r2,IsTup.new _ _⟩
end
noncomputable def ixN(n:Nat)(i:Int):Option Nat:=if 0<=i then(if i<n then some i.toNat else none) else if -(n:Int)<=i then some (i+n).toNat else none
noncomputable def atI{α:Type}(xs:List α)(i:Int):Option α:=(ixN xs.length i).bind λj=>xs[j]?
theorem zc5{j:Nat}(h:ixN n i=some j):seqIndex? i n=some j/\j<n/\-(n:Int)<=i/\i<n:=by
 unfold ixN at h;by_cases h0:0<=i
 ·rw[if_pos h0] at h;by_cases h1:i<n
  ·rw[if_pos h1] at h;have e:i.toNat=j:=Option.some.inj h;exact⟨by rw[seqIndex_of h0 h1,e],by omega,by omega,h1⟩
  ·rw[if_neg h1] at h;cases h
 ·rw[if_neg h0] at h;by_cases h1:-(n:Int)<=i
  ·rw[if_pos h1] at h;have e:(i+n).toNat=j:=Option.some.inj h;exact⟨by rw[seqIndex_neg #[0] h1,e],by omega,h1,by omega⟩
  ·rw[if_neg h1] at h;cases h
theorem yh2{xs:List α}{v:α}(h:atI xs i=some v):∃j,seqIndex? i xs.length=some j/\xs[j]?=some v/\j<xs.length/\-(xs.length:Int)<=i/\i<xs.length:=by
 unfold atI at h;cases e:ixN xs.length i with
 | none=>rw[e] at h;cases h
 | some j =>
   rw[e] at h
   obtain⟨h1,h2,h3,h4⟩:=zc5 e
   exact⟨j,h1,h,h2,h3,h4⟩
theorem M8{xs:List α}{j:Nat}{v:α}(h:xs[j]?=some v):atI xs (j:Int)=some v:=by
 have hj:j<xs.length:=(List.getElem?_eq_some_iff.mp h).1;have e:ixN xs.length (j:Int)=some j:=by
  unfold ixN;rw[if_pos #[0],if_pos #[0]];simp
 unfold atI;rw[e];exact h
theorem zn0(xs:List α)(v:α):atI (xs++[v]) (-1)=some v:=by
 have hl:(xs++[v]).length=xs.length+1:=by simp
 have e:ixN (xs++[v]).length (-1)=some xs.length:=by
  unfold ixN;rw[hl,if_neg #[7],if_pos #[0]];congr 1;omega
 unfold atI;rw[e];show(xs++[v])[xs.length]?=some v;simp
def zx6(b:Expr):Prop:=∀o i,subscripted b false o i=operate [o,i] (getItem o i)
def IxR(X:Cx)(r:R2):Prop :=
 ∀(value slice:Expr) (pins:List (Addr×Obj)) (s:Shared) (σ:St) (H:Hp) (x y:V) (v u:Value) (Q:VK),Inv X pins σ H s->D8 x v->D8 y u->r x y H Q ->
  subscripted slice false v u=operate [v,u] (getItem v u)->wpAny #[8] X.A (subscriptTail value slice v u) (EP X pins σ Q) X.xe s
def MtR(X:Cx)(id:String)(r:V->List V->Hp->VK->Prop):Prop :=
 ∀(pins:List (Addr×Obj)) (s:Shared) (σ:St) (H:Hp) (x:V) (xs:List V) (v:Value) (us:List Value) (Q:VK),Inv X pins σ H s->D8 x v->D3 xs us->r x xs H Q ->
  wpAny #[8] X.A (call (.builtin id) (v::us)) (EP X pins σ Q) X.xe s
variable{its its':List Value}{p:Addr}{cpos:Pos}
section
variable{a b:Expr}{tb:TE}
theorem IxR.or{r r':R2}(h:IxR X r)(h':IxR X r'):IxR X (λx y H Q=>r x y H Q\/r' x y H Q):=by
 intro value slice pins s σ H x y v u Q I rx ry q hs;rcases q with q|q
 ·exact h value slice pins s σ H x y v u Q I rx ry q hs
 ·exact h' value slice pins s σ H x y v u Q I rx ry q hs
theorem T3{r:R2}(hr:IxR X r)(ha:PE X a ta)(hb:PE X b tb)(hs:zx6 b):PE X (.Subscript a b pos) (tOp r ta tb):=by
 walk_at"22";exact Subscript_ (Ah8 ha hb I h λv u s2 x y H2 I2 rx ry q=>hr a b pins s2 σ H2 x y v u Q I2 rx ry q (hs _ _))
def Ap2(K:Fg):R2:=λx y H Q=>∃p xs i v,x=.ref p/\y=.int i/\SqL K H p xs/\atI xs i=some v/\Q v H
def Ap3(K:Fg):R2:=λx y H Q=>∃p xs i v,x=.ref p/\y=.int i/\SqT K H p xs/\atI xs i=some v/\Q v H
def Ap4:R2:=λx y H Q=>∃z i c,x=.str z/\y=.int i/\z.length<=sizeLine/\atI z.cps.toList i=some c/\Q (.str ⟨#[c]⟩) H
theorem zx7:IxR X (Ap2 X.K):=by
 intro value slice pins s σ H x y v u Q I rx ry h hs;obtain⟨p,xs,i,z,rfl,rfl,hq,he,q⟩:=h;cases rx;obtain⟨t,rfl⟩:=ry;obtain⟨its,r,pl,hz⟩:=I.list hq;obtain⟨j,h1,h2,h3,h4,h5⟩:=yh2 he;obtain⟨w,ew,rw'⟩:=r.get h2;have hl:=r.length;have hn:=xc3;have fin:EP X pins σ Q w s:=⟨z,H,I,rw',q⟩;by_cases h0:0<=i
 ·have hj:i.toNat=j:=by
   rw[seqIndex_of h0 h5] at h1;exact Option.some.inj h1
  exact item_listR pl.isList h0 #[0] (by rw[hj];simpa using ew) fin hs
 ·have hj:(i+(its.toArray.size:Int)).toNat=j:=by
   rw[seqIndex_neg #[0] h4] at h1;rw[size_toArray,<-hl];exact Option.some.inj h1
  exact subscriptTail_builtinR (x:=w) pl.isList.typeIs slot_list_getitem.lookup
   (wpAny_getItem_list_neg (Q:=λr s'=>r=w/\EP X pins σ Q r s') pl.isList #[0] (by rw[size_toArray] <;> omega) #[0] (by rw[hj];simpa using ew) ⟨rfl,fin⟩) hs
theorem Ai3:IxR X (Ap3 X.K):=by
 intro value slice pins s σ H x y v u Q I rx ry h hs;obtain⟨p,xs,i,z,rfl,rfl,hq,he,q⟩:=h;cases rx;obtain⟨t,rfl⟩:=ry;obtain⟨its,r,pl,hz⟩:=I.tuple hq;obtain⟨j,h1,h2,h3,h4,h5⟩:=yh2 he;obtain⟨w,ew,rw'⟩:=r.get h2;have hl:=r.length;have hn:=xc3;have fin:EP X pins σ Q w s:=⟨z,H,I,rw',q⟩;exact subscriptTail_builtinR (x:=w) pl.typeIs slot_tuple_getitem.lookup
  (getItem_tuple (j:=j) (Q:=λr s'=>r=w/\EP X pins σ Q r s') pl #[0] #[0] (by rw[size_toArray,<-hl];exact h1) (by simpa using ew) ⟨rfl,fin⟩) hs
theorem Ai4:IxR X Ap4:=by
 intro value slice pins s σ H x y v u Q I rx ry h hs;obtain⟨z,i,c,rfl,rfl,hz,he,q⟩:=h;obtain⟨t,rfl⟩:=rx;obtain⟨t',rfl⟩:=ry;obtain⟨j,h1,h2,h3,h4,h5⟩:=yh2 he;have hl:z.cps.toList.length=z.length:=by simp[Str.length]
 rw[hl] at h1 h4 h5;have hn:=xc3;exact tail_any (typeIs_str s z t) slot_str_getitem.lookup (getItem_str (c:=c) (by
  have e1:decide (i < -(2 ^ 63:Int))=false:=decide_eq_false #[0];have e2:decide (i>=2 ^ 63)=false:=decide_eq_false #[0];rw[e1,e2,Bool.or_false]) (by rw[h1];simpa using h2) ⟨.str ⟨#[c]⟩,H,I.tok _,⟨_,rfl⟩,q⟩) hs
def rIx(K:Fg):R2:=λx y H Q=>Ap2 K x y H Q\/Ap3 K x y H Q\/Ap4 x y H Q
theorem Ai5:IxR X (rIx X.K):=zx7.or (Ai3.or Ai4)
theorem yv7(its:List Value)(n j:Nat)(u:Value):Obj.mapSeq (·.setIfInBounds j u) {cls:=.type "list",data:=.seq its.toArray n}={cls:=.type "list",data:=.seq (its.set j u).toArray n}:=by
 simp[Obj.mapSeq]
theorem Inv.lst{pins:List (Addr×Obj)}{σ:St}{H:Hp}{s:Shared}{p:Addr}{xs:List V}(I:Inv X pins σ H s)(h:H p=some (.lst xs)) :
 ∃(its:List Value) (n:Nat),D3 xs its/\s.heap.get? p=some {cls:=.type "list",data:=.seq its.toArray n}/\xs.length<=sizeLine:=by
 obtain⟨z,its,n,r,e⟩:=I.hok p _ h
 exact⟨its,n,r,e,z⟩
theorem Inv.lstUpd{n':Nat}{f:Obj->Obj}(I:Inv X pins σ H s)(h:H p=some (.lst xs))(ho:s.heap.get? p=some {cls:=.type "list",data:=.seq its.toArray n})(hf:f {cls:=.type "list",data:=.seq its.toArray n}={cls:=.type "list",data:=.seq its'.toArray n'})(r:D3 ys its')(hz:ys.length<=sizeLine)(t':Nat)(ht:autoParam (0<t') zAt) :
 Inv X pins σ (upd H p (.lst ys)) {s with heap:=s.heap.update p f,toks:=t'}:=by
 have e:(s.heap.update p f).get? p=some {cls:=.type "list",data:=.seq its'.toArray n'}:=by
  rw[Heap.get?_update_self f ho (by rw[hf] <;> rfl),hf]
 refine I.write (x:=p) (e:=p) (by rw[h];trivial) (.inl rfl) (λb u hb q=>(Heap.get?_update_other _ _ (Ne.symm hb)).trans q) ⟨_,e⟩ ?_
 exact⟨hz,its',n',r,e⟩
def zn1:V->V->V->Hp->(Hp->Prop)->Prop:=λo i v H Q=>∃p xs k j,o=.ref p/\i=.int k/\H p=some (.lst xs)/\ixN xs.length k=some j/\Q (upd H p (.lst (xs.set j v)))
theorem zn2:Ah7 X zn1:=by
 intro pins s σ H o i v ov iv u Q I ro ri rv h;obtain⟨p,xs,k,j,rfl,rfl,hp,hj,q⟩:=h;cases ro;obtain⟨t,rfl⟩:=ri;obtain⟨its,n,r,ho,hz⟩:=I.lst hp;obtain⟨h1,h2,h3,h4⟩:=zc5 hj;have hl:=r.length;have hn:=xc3;have I':Inv X pins σ (upd H p (.lst (xs.set j v))) {s with heap:=s.heap.update p (Obj.mapSeq (·.setIfInBounds j u))} :=
  I.lstUpd hp ho (yv7 its n j u) (r.set rv j) (by rw[length_set];exact hz) s.toks;by_cases h0:0<=k
 ·have hk:k.toNat=j:=by
   rw[seqIndex_of h0 h4] at h1;exact Option.some.inj h1
  exact PySem.W.ki_setAt ho h0 #[0] (by rw[size_toArray,<-hl];exact h4) (by rw[hk];exact⟨_,I',q⟩)
 ·have hk:(k+(its.toArray.size:Int)).toNat=j:=by
   rw[seqIndex_neg #[0] h3] at h1;rw[size_toArray,<-hl];exact Option.some.inj h1
  exact PySem.W.ki_setBack ho #[0] (by rw[size_toArray,<-hl];exact h3) #[0] (by rw[hk];exact⟨_,I',q⟩)
theorem we3(lo hi:Option Int)(n:Nat):(sliceBounds lo hi none n).1=((HT.sIx n 0 lo:Nat):Int)/\(sliceBounds lo hi none n).2.1=((HT.sIx n n hi:Nat):Int)/\(sliceBounds lo hi none n).2.2=1:=by
 refine⟨?_,?_,rfl⟩
 ·cases lo with
  | none=>simp[sliceBounds,HT.sIx]
  | some i =>
    simp only[sliceBounds,HT.sIx,Option.getD_none,show(1:Int) > 0 by decide,if_true]
    by_cases h:i<0
    ·simp only[h,if_true] <;> omega
    ·simp only[h,if_false] <;> omega
 ·cases hi with
  | none=>simp[sliceBounds,HT.sIx]
  | some i =>
    simp only[sliceBounds,HT.sIx,Option.getD_none,show(1:Int) > 0 by decide,if_true]
    by_cases h:i<0
    ·simp only[h,if_true] <;> omega
    ·simp only[h,if_false] <;> omega
theorem xz6(its:List Value)(lo hi:Option Int):slicePick its.toArray lo hi none=((its.drop (HT.sIx its.length 0 lo)).take (HT.sIx its.length its.length hi-HT.sIx its.length 0 lo)).toArray:=by
 obtain⟨h1,h2,h3⟩:=we3 lo hi its.toArray.size;unfold slicePick;rw[h1,h2,h3];simp only[sliceRange_one,pick_run,size_toArray] <;> rfl
def Ap5(K:Fg):V->Option Int->Option Int->Hp->VK->Prop:=λx lo hi H Q=>∃a xs,x=.ref a/\SqL K H a xs/\∀p,H p=none->Q (.ref p) (upd H p (.lst (qe8 xs lo hi)))
theorem zx8:SlR X (Ap5 X.K):=by
 intro pins s σ H x v vl vu lo hi sl Q I rx hs pl pu h;obtain⟨a,xs,rfl,hx,q⟩:=h;cases rx;obtain⟨its,r,ht,hz⟩:=I.list hx;have hlen:=r.length;refine⟨"list",_,slot_list_getitem.lookup,ht.isList.typeIs,?_⟩;refine wpAny_getItem_list_slice ht.isList hs pl pu .none (by simp) ?_ (by rw[size_toArray] <;> omega);rw[xz6,<-hlen];refine⟨.ref s.heap.objs.size,_,I.laid (t':=s.toks) (o:=.lst (qe8 xs lo hi)) (λb ob q=>Heap.get?_push_of_some _ q) #[6] ?_,rfl,q _ (I.hok.fresh #[6])⟩;exact⟨Nat.le_trans (xi4 xs lo hi) hz,_,0,(r.drop (HT.sIx xs.length 0 lo)).take (HT.sIx xs.length xs.length hi-HT.sIx xs.length 0 lo),Heap.get?_push_size _ rfl⟩
noncomputable def wa3:V->Bool
 | .non=>true
 | .bl _=>true
 | .int _=>true
 | .str _=>true
 | _=>false
noncomputable def eqV:V->V->Bool
 | .non,.non=>true
 | .bl a,.bl b=>a == b
 | .bl a,.int b=>(if a then 1 else 0) == b
 | .int a,.bl b=>a == (if b then 1 else 0)
 | .int a,.int b=>a == b
 | .str a,.str b=>a == b
 | _,_=>false
theorem Ai6{x:V}{v:Value}(ry:D8 y u)(rx:D8 x v)(fy:wa3 y=true)(fx:wa3 x=true):SeqAt.EqAt A s u v (eqV y x):=by
 cases y with
 | non =>
   cases ry
   cases x with
   | non=>cases rx;exact SeqAt.EqAt.same _
   | bl b=>cases rx;exact SeqAt.EqAt.none_bool b
   | int b=>obtain⟨t,rfl⟩:=rx;exact SeqAt.EqAt.none_int b t
   | str b=>obtain⟨t,rfl⟩:=rx;exact SeqAt.EqAt.none_str b t
   | _=>exact absurd (show false=true from fx) Bool.false_ne_true
 | bl a =>
   cases ry
   cases x with
   | non=>cases rx;exact SeqAt.EqAt.bool_none a
   | bl b=>cases rx;exact SeqAt.EqAt.bool_bool a b
   | int b=>obtain⟨t,rfl⟩:=rx;exact SeqAt.EqAt.bool_int a b t
   | str b=>obtain⟨t,rfl⟩:=rx;exact SeqAt.EqAt.bool_str a b t
   | _=>exact absurd (show false=true from fx) Bool.false_ne_true
 | int a =>
   obtain⟨t',rfl⟩:=ry
   cases x with
   | non=>cases rx;exact SeqAt.EqAt.int_none a t'
   | bl b=>cases rx;exact SeqAt.EqAt.int_bool a t' b
   | int b=>obtain⟨t,rfl⟩:=rx;exact SeqAt.EqAt.int_int a t' b t
   | str b=>obtain⟨t,rfl⟩:=rx;exact SeqAt.EqAt.int_str a t' b t
   | _=>exact absurd (show false=true from fx) Bool.false_ne_true
 | str a =>
   obtain⟨t',rfl⟩:=ry
   cases x with
   | non=>cases rx;exact SeqAt.EqAt.str_none a t'
   | bl b=>cases rx;exact SeqAt.EqAt.str_bool a t' b
   | int b=>obtain⟨t,rfl⟩:=rx;exact SeqAt.EqAt.str_int a t' b t
   | str b=>obtain⟨t,rfl⟩:=rx;exact SeqAt.EqAt.str_str a t' b t
   | _=>exact absurd (show false=true from fx) Bool.false_ne_true
 | _=>exact absurd (show false=true from fy) Bool.false_ne_true
noncomputable def eqU(x:V)(u:Value):Bool:=match u with
 | .none=>eqV .non x
 | .bool b=>eqV (.bl b) x
 | .int i _=>eqV (.int i) x
 | .str z _=>eqV (.str z) x
 | _=>false
theorem zn3{x:V}(r:D8 y u)(f:wa3 y=true):eqU x u=eqV y x:=by
 cases y with
 | non=>cases r;rfl
 | bl b=>cases r;rfl
 | int i=>obtain⟨t,rfl⟩:=r;rfl
 | str z=>obtain⟨t,rfl⟩:=r;rfl
 | _=>exact absurd (show false=true from f) Bool.false_ne_true
theorem ww1{x:V}:∀{xs:List V} {us:List Value},D3 xs us->xs.all wa3=true->us.any (eqU x)=xs.any λy=>eqV y x
 | _,_,.nil,_=>rfl
 | y::xs,u::us,.cons r t,f=>by
   rw[all_cons,Bool.and_eq_true] at f;rw[any_cons,any_cons,zn3 r f.1,ww1 t f.2]
theorem wj6{A:Around}{s:Shared}{x:V}{v:Value}(rx:D8 x v)(fx:wa3 x=true):∀{xs:List V} {us:List Value},D3 xs us->xs.all wa3=true->∀u∈us,SeqAt.EqAt A s u v (eqU x u)
 | _,_,.nil,_=>λu hu=>by cases hu
 | y::xs,u::us,.cons r t,f=>λu' hu=>by
   rw[all_cons,Bool.and_eq_true] at f;rcases mem_cons.mp hu with rfl|hu
   ·rw[zn3 r f.1];exact Ai6 r rx f.1 fx
   ·exact wj6 rx fx t f.2 u' hu
noncomputable def inV(x:V)(xs:List V):Bool:=xs.any λy=>eqV y x
def rIn(K:Fg)(neg:Bool):R2:=λx y H Q=>∃p xs,y=.ref p/\(SqL K H p xs\/SqT K H p xs)/\wa3 x=true/\xs.all wa3=true/\Q (.bl (if neg then !inV x xs else inV x xs)) H
theorem zg9:OpR X (compareOp .In) (rIn X.K false):=by
 walk_at"7";obtain⟨p,xs,rfl,hq,fx,fs,q⟩:=h;cases ry;rcases hq with hq|hq
 ·obtain⟨its,r,pl,hz⟩:=I.list hq;refine SeqAt.in_listAt (eqU x) pl.isList (λw hw=>wj6 rx fx r fs w (by simpa using hw)) ⟨.bl _,H,I,rfl,?_⟩;rw[show its.toArray.any (eqU x)=its.any (eqU x) by simp,ww1 r fs];exact q
 ·obtain⟨its,r,pl,hz⟩:=I.tuple hq;refine SeqAt.in_tupleAt (eqU x) pl (λw hw=>wj6 rx fx r fs w (by simpa using hw)) ⟨.bl _,H,I,rfl,?_⟩;rw[show its.toArray.any (eqU x)=its.any (eqU x) by simp,ww1 r fs];exact q
theorem yh3:OpR X (compareOp .NotIn) (rIn X.K true):=by
 walk_at"7";obtain⟨p,xs,rfl,hq,fx,fs,q⟩:=h;cases ry;rcases hq with hq|hq
 ·obtain⟨its,r,pl,hz⟩:=I.list hq;refine SeqAt.notIn_listAt (eqU x) pl.isList (λw hw=>wj6 rx fx r fs w (by simpa using hw)) ⟨.bl _,H,I,rfl,?_⟩;rw[show its.toArray.any (eqU x)=its.any (eqU x) by simp,ww1 r fs];exact q
 ·obtain⟨its,r,pl,hz⟩:=I.tuple hq;refine SeqAt.notIn_tupleAt (eqU x) pl (λw hw=>wj6 rx fx r fs w (by simpa using hw)) ⟨.bl _,H,I,rfl,?_⟩;rw[show its.toArray.any (eqU x)=its.any (eqU x) by simp,ww1 r fs];exact q
theorem yh4:OpR X (compareOp .NotIn) (λx y H Q=>∃i j,x=.str i/\y=.str j/\Q (.bl (!(!(Builtin.Str.occurrences j i 0 j.length 1).isEmpty))) H):=by
 walk_at"1";exact notIn_str ⟨.bl _,H,I,rfl,q⟩
theorem yh5:Y0 X (.builtin "len") (λxs H Q=>∃p ys,xs=[.ref p]/\(SqL X.K H p ys\/SqT X.K H p ys)/\Q (.int ys.length) H):=by
 walk_at"35";obtain⟨p,ys,rfl,hq,q⟩:=h;obtain⟨u,rfl,rx⟩:=qv2 r;cases rx;have hn:=xc3;rcases hq with hq|hq
 ·obtain⟨its,r',pl,hz⟩:=I.list hq;have hlen:=r'.length;exact Calls.call_len_list pl.isList (by simp only[size_toArray] <;> omega) ⟨.int ys.length,H,I.tok _,⟨s.toks+1,by rw[size_toArray,hlen]⟩,q⟩
 ·obtain⟨its,r',pl,hz⟩:=I.tuple hq;have hlen:=r'.length;exact len_tuple pl (by simp only[size_toArray] <;> omega) ⟨.int ys.length,H,I.tok _,⟨s.toks+1,by rw[size_toArray,hlen]⟩,q⟩
theorem yh6:Y0 X (.builtin "len") (λxs H Q=>∃z,xs=[.str z]/\z.length<=sizeLine/\Q (.int z.length) H):=by
 walk_at"35";obtain⟨z,rfl,hz,q⟩:=h;obtain⟨u,rfl,t,rfl⟩:=qv2 r;have hn:=xc3;exact len_str #[0] ⟨.int z.length,H,I.tok _,⟨_,rfl⟩,q⟩
theorem Y0.or{f:Value}{r r':List V->Hp->VK->Prop}(h:Y0 X f r)(h':Y0 X f r'):Y0 X f (λxs H Q=>r xs H Q\/r' xs H Q):=by
 intro pins s σ H xs us Q I rs q;rcases q with q|q
 ·exact h pins s σ H xs us Q I rs q
 ·exact h' pins s σ H xs us Q I rs q
theorem xz7:Y0 X (.type "tuple") (λxs H Q=>∃p ys,xs=[.ref p]/\((SqL X.K H p ys/\∀l,H l=none->Q (.ref l) (upd H l (.tup ys)))\/(SqT X.K H p ys/\Q (.ref p) H))):=by
 walk_at"35";obtain⟨p,ys,rfl,h⟩:=h;obtain⟨u,rfl,rx⟩:=qv2 r;cases rx;rcases h with⟨hq,q⟩|⟨hq,q⟩
 ·obtain⟨its,r',pl,hz⟩:=I.list hq;have hlen:=r'.length;refine call_tuple_list pl.isList (λh' kp=>?_) (by simp only[size_toArray] <;> omega);have I1:Inv X pins σ H {s with heap:=h'}:=I.kept (t':=s.toks) kp;have I2:Inv X pins σ (upd H h'.objs.size (.tup ys)) {s with heap:=h'.push {cls:=.type "tuple",data:=.seq its.toArray}} :=
   I1.laid (t':=s.toks) (λb o e=>Heap.get?_push_of_some _ e) #[6] (show Q8 X.prog X.w _ _ _ (.tup ys) from ⟨hz,its,r',IsTup.new _ _⟩);exact⟨.ref h'.objs.size,_,I2,rfl,q _ (I1.hok.fresh #[6])⟩
 ·obtain⟨its,r',pl,hz⟩:=I.tuple hq;exact call_tuple_same pl ⟨.ref p,H,I,rfl,q⟩
def tyV(K:Fg)(T:String)(x:V)(H:Hp):Prop:=match x with
 | .str _=>T = "str"
 | .int _=>T = "int"
 | .ref p=>(T = "list"/\∃xs,SqL K H p xs)\/(T = "tuple"/\∃o,K.lookup p=some o/\o.cls=.type "tuple"/\o.dict=none) \/
  (T = "dict"/\((∃kvs,H p=some (.dK kvs))\/∃kvs,H p=some (.dT kvs)))\/(T = "set"/\∃S n,H p=some (.set S n))
 | _=>False
theorem yv8{x:V}{v:Value}(I:Inv X pins σ H s)(r:D8 x v)(ty:tyV X.K T x H) :
 s.TypeIs v T/\∀a,v=.ref a->∃ob,s.heap.get? a=some ob/\ob.dict=none:=by
 cases x with
 | str z =>
   obtain⟨t,rfl⟩:=r
   cases (show T = "str" from ty)
   exact⟨typeIs_str s z t,λ_ e=>nomatch e⟩
 | int i =>
   obtain⟨t,rfl⟩:=r
   cases (show T = "int" from ty)
   exact⟨typeIs_int s i t,λ_ e=>nomatch e⟩
 | ref p =>
   cases r
   rcases ty with⟨rfl,xs,hq⟩|⟨rfl,o,hk,hc,hd⟩|⟨rfl,hk⟩|⟨rfl,S,n,hk⟩
   ·obtain⟨its,_,pl,_⟩:=I.list hq
    refine⟨pl.isList.typeIs,λa e=>?_⟩
    cases e
    obtain⟨o,n,e,c,hd,_⟩:=pl
    exact⟨o,e,hd⟩
   ·refine⟨⟨o,I.kIn p o hk,hc⟩,λa e=>?_⟩
    cases e
    exact⟨o,I.kIn _ o hk,hd⟩
   ·have z:∃o,s.heap.get? p=some o/\o.ExactDict:=by
     rcases hk with⟨kvs,hk⟩|⟨kvs,hk⟩
     ·obtain⟨_,_,_,_,o,_,_,e,ex,_⟩:=I.hok p _ hk;exact⟨o,e,ex⟩
     ·obtain⟨_,_,_,_,o,_,_,e,ex,_⟩:=I.hok p _ hk;exact⟨o,e,ex⟩
    obtain⟨o,e,ex⟩:=z
    refine⟨⟨o,e,ex.1⟩,λa e2=>?_⟩
    cases e2
    exact⟨o,e,ex.2.1⟩
   ·obtain⟨o,_,_,_,e,ex,_⟩:=I.hok p _ hk
    refine⟨⟨o,e,ex.1⟩,λa e2=>?_⟩
    cases e2
    exact⟨o,e,ex.2.1⟩
 | _=>exact False.elim ty
def xq4(K:Fg)(T:String)(r:V->List V->Hp->VK->Prop)(to:TE):TE:=λσ H Q=>to σ H λx H1=>tyV K T x H1/\r x [] H1 Q
def tBM(K:Fg)(T:String)(r:V->List V->Hp->VK->Prop)(to:TE)(t:TA):TE:=λσ H Q=>to σ H λx H1=>tyV K T x H1/\t σ H1 λxs H2=>r x xs H2 Q
variable{id:String}{r:V->List V->Hp->VK->Prop}
theorem xc5(pa:PlainAttrs T)(slot:Slot T name id)(hty:typeOf (.builtin id)=pure (.type "method_descriptor"))(hm:MtR X id r)(ho:PE X o to)(hbase:autoParam (attributeBase o name X.env (eval o X.env)=eval o X.env) zAr)(hline:autoParam ((apos.endLine == cpos.line)=true) zAr):PE X (.Call (.Attribute o name apos) [] [] cpos) (xq4 X.K T r to):=by
 walk_at"22";refine wpAny_Call_method0_late hbase hline (thn (ho pins s σ H _ I h) λv s1 zq=>?_);obtain⟨x,H1,I1,r1,ty,q1⟩:=zq;obtain⟨h1,h2⟩:=yv8 I1 r1 ty;exact⟨T,id,pa,slot,hty,h1,h2,Calls.callWith_builtin rfl (PySem.evalArgs_none (hm pins s1 σ H1 x [] v [] Q I1 r1 .nil q1))⟩
theorem qi7(pa:PlainAttrs T)(slot:Slot T name id)(hty:typeOf (.builtin id)=pure (.type "method_descriptor"))(hm:MtR X id r)(ho:PE X o to)(ha:PA X (e::es) t)(hbase:autoParam (attributeBase o name X.env (eval o X.env)=eval o X.env) zAr) (hfew:((backTo cpos (starEach (e::es) X.env)).all (λx=>!x.1) && (backToKw cpos (keywordEach [] X.env)).all (λx=>x.1.isSome)
  && decide ((e::es).length+([]:List Keyword).length+(if([]:List Keyword).isEmpty then 0 else 1)<30))=true:=by rfl) (hline:autoParam ((apos.endLine == cpos.line)=true) zAr) (hs:autoParam #[14] zAr) (hplain:autoParam ((backTo cpos (starEach es X.env)).any (·.1)=false) zAr) :
 PE X (.Call (.Attribute o name apos) (e::es) [] cpos) (tBM X.K T r to t):=by
 walk_at"22"
 refine wpAny_Call_method_late hbase hfew hline rfl (thn (ho pins s σ H _ I h) λv s1 zq=>?_)
 obtain⟨x,H1,I1,r1,ty,q1⟩:=zq
 obtain⟨h1,h2⟩:=yv8 I1 r1 ty
 refine⟨T,id,pa,slot,hty,h1,h2,?_⟩
 have hA:=ha cpos pins s1 σ H1 _ I1 q1
 rw[hs] at hA ⊢
 refine Calls.callWith_builtin (by show(false || (backTo cpos (starEach es X.env)).any (·.1))=false;rw[hplain] <;> rfl) (Calls.evalArgs_plain ?_)
 exact thn hA λus s2 ⟨vs,H2,I2,r2,q2⟩=>hm pins s2 σ H2 x vs v us Q I2 r1 r2 q2
end
def MtM(X:Cx)(id:String)(r:V->List V->Hp->VK->Prop):Prop :=
 ∀(pins:List (Addr×Obj)) (s:Shared) (σ:St) (H:Hp) (x:V) (xs:List V) (v:Value) (us:List Value) (Q:VK),Inv X pins σ H s->D8 x v->D3 xs us->r x xs H Q ->
  wpAny #[8] X.A (call (.builtin id) (v::us)) (EP X pins σ Q) X.xe s
theorem D3.one{x:V}(r:D3 [x] us):∃u,us=[u]/\D8 x u:=qv2 r
theorem D3.zero:∀{us:List Value},D3 [] us->us=[]
 | _,.nil=>rfl
theorem D3.dropLast{xs:List V}{us:List Value}(h:D3 xs us):D3 xs.dropLast us.dropLast:=by
 induction h with
 | nil=>exact .nil
 | cons r t ih =>
   cases t with
   | nil=>exact .nil
   | cons q t'=>exact .cons r ih
theorem D3.eraseIdx:∀{xs:List V} {us:List Value} (i:Nat),D3 xs us->D3 (xs.eraseIdx i) (us.eraseIdx i)
 | _,_,_,.nil=>.nil
 | _,_,0,.cons _ t=>t
 | _,_,i+1,.cons r t=>.cons r (D3.eraseIdx i t)
theorem D3.reverse{xs:List V}{us:List Value}(h:D3 xs us):D3 xs.reverse us.reverse:=by
 induction h with
 | nil=>exact .nil
 | cons r t ih=>rw[reverse_cons,reverse_cons];exact D3.append ih (.cons r .nil)
theorem D3.rep{xs:List V}{us:List Value}(h:D3 xs us):∀k:Nat,D3 (List.replicate k xs).flatten (List.replicate k us).flatten
 | 0=>.nil
 | k+1=>by
   rw[replicate_succ,replicate_succ,flatten_cons,flatten_cons];exact D3.append h (D3.rep h k)
theorem yv9(l:List α):l.eraseIdx (l.length-1)=l.dropLast:=by
 induction l with
 | nil=>rfl
 | cons a r ih =>
   cases r with
   | nil=>rfl
   | cons b r =>
     have e:(a::b::r).length-1=((b::r).length-1)+1:=by
      have h1:(a::b::r).length=r.length+2:=rfl;have h2:(b::r).length=r.length+1:=rfl;omega
     rw[e,eraseIdx_cons_succ,ih]
     all_goals rfl
theorem yd6{α:Type}:∀(l:List α) (i:Nat),(l.eraseIdx i).length<=l.length
 | [],_=>Nat.le_refl _
 | _::_,0=>Nat.le_succ _
 | _::r,i+1=>Nat.succ_le_succ (yd6 r i)
theorem yd7(its:List Value):∀(k:Nat) (acc:List Value),
 List.foldl (λx1 x2=>x1++x2) acc.toArray (List.replicate k its.toArray)=(acc++(List.replicate k its).flatten).toArray
 | 0,acc=>by simp
 | k+1,acc=>by
   have e:acc.toArray++its.toArray=(acc++its).toArray:=by simp
   have e2:(acc++its)++(List.replicate k its).flatten=acc++(List.replicate (k+1) its).flatten:=by
    rw[replicate_succ,flatten_cons,append_assoc]
   rw[<-e2,<-yd7 its k (acc++its),<-e,replicate_succ,foldl_cons]
variable{l:Addr}{zs:List V}
theorem Inv.lset{f:Array Value->Array Value}(I:Inv X pins σ H s)(hH:H l=some (.lst xs))(e:s.heap.get? l=some {cls:=.type "list",data:=.seq its.toArray n})(hf:f its.toArray=its'.toArray)(hv:D3 ys its')(hz:ys.length<=sizeLine)(ht:autoParam (0<t') zAt) :
 Inv X pins σ (upd H l (.lst ys)) {s with heap:=s.heap.update l (Obj.mapSeq f),toks:=t'}:=by
 have q:=PySem.IsL.update e f
 rw[hf] at q
 refine I.write (x:=l) (e:=l) (by rw[hH];exact trivial) (.inl rfl) (λb' u hb hu=>(Heap.get?_update_other s.heap (Obj.mapSeq f) (Ne.symm hb)).trans hu) ⟨_,q⟩ ?_
 exact⟨hz,its',_,hv,q⟩
theorem Inv.lnew(I:Inv X pins σ H s)(hv:D3 ys its)(hz:ys.length<=sizeLine)(ht:autoParam (0<t') zAt) :
 Inv X pins σ (upd H s.heap.objs.size (.lst ys)) {s with heap:=s.heap.push {cls:=.type "list",data:=.seq its.toArray},toks:=t'} :=
 I.laid (λ_ _ q=>Heap.get?_push_of_some _ q) #[6] ⟨hz,its,0,hv,Heap.get?_push_size _ rfl⟩
theorem Inv.fresh(I:Inv X pins σ H s):H s.heap.objs.size=none:=I.hok.fresh #[6]
theorem Inv.lstM(I:Inv X pins σ H s)(hH:H l=some (.lst xs)):xs.length<=sizeLine/\∃(its:List Value) (n:Nat),D3 xs its/\xs.length=its.length/\s.heap.get? l=some {cls:=.type "list",data:=.seq its.toArray n}:=by
 obtain⟨z,its,n,r,e⟩:=I.hok l _ hH;exact⟨z,its,n,r,r.length,e⟩
theorem yo3(h:n<=sizeLine):Builtin.List.listTooLong n=false:=by
 unfold Builtin.List.listTooLong;exact decide_eq_false #[0]
def D9:V->List V->Hp->VK->Prop:=λx vs H Q=>∃l xs y,x=.ref l/\vs=[y]/\H l=some (.lst xs)/\xs.length<sizeLine/\Q .non (upd H l (.lst (xs++[y])))
theorem qk5:MtM X "list.append" D9:=by
 walk_at"33";obtain⟨l,xs,y,rfl,rfl,hH,hz,q⟩:=h;cases rx;obtain⟨u,rfl,ru⟩:=rv.one;obtain⟨z,its,n,r,hl,e⟩:=I.lstM hH;refine call_meets F.slot_list_append ⟨_,e,rfl⟩ F.entry_list_append (F.args_list_append_2 _ _) (PySem.list_append l its.toArray n u (by rw[size_toArray];omega)) ⟨e,?_⟩;refine⟨.non,_,I.lset (its':=its++[u]) hH e (by simp) (r.append (.cons ru .nil)) ?_,rfl,q⟩;rw[length_append,length_singleton];omega
def we4:V->List V->Hp->VK->Prop:=λx vs H Q=>∃l b xs zs,x=.ref l/\vs=[.ref b]/\H l=some (.lst xs)/\H b=some (.lst zs)/\xs.length+zs.length<=sizeLine/\Q .non (upd H l (.lst (xs++zs)))
theorem xc6:MtM X "list.extend" we4:=by
 walk_at"33";obtain⟨l,b,xs,zs,rfl,rfl,hH,hB,hz,q⟩:=h;cases rx;obtain⟨u,rfl,ru⟩:=rv.one;cases ru;obtain⟨z,its,n,r,hl,e⟩:=I.lstM hH;obtain⟨z2,its2,n2,r2,hl2,e2⟩:=I.lstM hB;have hsz:its.toArray.size+its2.toArray.size<=sizeLine:=by rw[size_toArray,size_toArray];omega
 have hlong:¬(!its.toArray.isEmpty && Builtin.List.listTooLong (its.toArray.size+its2.toArray.size))=true:=by
  rw[yo3 hsz,Bool.and_false];exact Bool.false_ne_true
 refine call_meets F.slot_list_extend ⟨_,e,rfl⟩ F.entry_list_extend (F.args_list_extend_2 _ _)
  (AutoSeq1.list_extend_list_list_0 l its.toArray n b its2.toArray n2 hlong (by rw[size_toArray];omega) #[0]) ⟨e,e2,?_⟩;refine⟨.non,_,I.lset (its':=its++its2) hH e (by simp) (r.append r2) ?_,rfl,q⟩;rw[length_append];omega
def xj5:V->List V->Hp->VK->Prop:=λx vs H Q=>∃l xs y,x=.ref l/\vs=[]/\H l=some (.lst xs)/\xs[xs.length-1]?=some y/\Q y (upd H l (.lst xs.dropLast))
theorem xc7:MtM X "list.pop" xj5:=by
 walk_at"33";obtain⟨l,xs,y,rfl,rfl,hH,hy,q⟩:=h;cases rx;have hus:=rv.zero;subst hus;obtain⟨z,its,n,r,hl,e⟩:=I.lstM hH;obtain⟨u,hu,ru⟩:=r.get hy;have hy':its.toArray[its.toArray.size-1]?=some u:=by
  show its.toArray[its.length-1]?=some u;rw[<-Array.getElem?_toList,<-hl];exact hu
 refine call_meets F.slot_list_pop ⟨_,e,rfl⟩ F.entry_list_pop (F.args_list_pop_1 _) (MeetsSeq.list_pop_last l its.toArray n u hy' (by rw[size_toArray];omega)) ⟨e,?_⟩;refine⟨y,_,I.lset (its':=its.dropLast) hH e ?_ r.dropLast ?_,ru,q⟩
 ·show its.toArray.eraseIdxIfInBounds (its.toArray.size-1)=its.dropLast.toArray;rw[size_toArray,eraseIdxIfInBounds_toArray,yv9]
 ·rw[length_dropLast];omega
def zn4:V->List V->Hp->VK->Prop:=λx vs H Q=>∃l xs i k y,x=.ref l/\vs=[.int i]/\H l=some (.lst xs)/\-(2 ^ 63)<=i/\i<2 ^ 63/\seqIndex? i xs.length=some k/\xs[k]?=some y/\Q y (upd H l (.lst (xs.eraseIdx k)))
theorem zn5:MtM X "list.pop" zn4:=by
 walk_at"33";obtain⟨l,xs,i,k,y,rfl,rfl,hH,h1,h2,hk,hy,q⟩:=h;cases rx;obtain⟨u,rfl,ru⟩:=rv.one;obtain⟨t,rfl⟩:=ru;obtain⟨z,its,n,r,hl,e⟩:=I.lstM hH;obtain⟨w,hw,rw'⟩:=r.get hy;refine call_meets F.slot_list_pop ⟨_,e,rfl⟩ F.entry_list_pop (F.args_list_pop_2 _ _)
  (MeetsSeq.list_pop_at l its.toArray n i t k w (fitsIndex_both h1 h2) (by rw[size_toArray,<-hl];exact hk) (by rw[<-Array.getElem?_toList];exact hw) (by rw[size_toArray];omega)) ⟨e,?_⟩;refine⟨y,_,I.lset (its':=its.eraseIdx k) hH e ?_ (r.eraseIdx k) ?_,rw',q⟩
 ·show its.toArray.eraseIdxIfInBounds k=(its.eraseIdx k).toArray;rw[eraseIdxIfInBounds_toArray]
 ·have:=yd6 xs k;omega
def Ap6:R2:=λx y H Q=>∃l b xs zs,x=.ref l/\y=.ref b/\H l=some (.lst xs)/\H b=some (.lst zs)/\xs.length+zs.length<=sizeLine/\∀p,H p=none->Q (.ref p) (upd H p (.lst (xs++zs)))
theorem Ai7:OpR X (binaryOp .Add) Ap6:=by
 walk_at"7";obtain⟨l,b,xs,zs,rfl,rfl,hH,hB,hz,q⟩:=h;cases rx;cases ry;obtain⟨z,its,n,r,hl,e⟩:=I.lstM hH;obtain⟨z2,its2,n2,r2,hl2,e2⟩:=I.lstM hB;refine PySem.P.add_list e e2 ?_ (by rw[size_toArray,size_toArray];omega);have ea:its.toArray++its2.toArray=(its++its2).toArray:=by simp
 rw[ea];exact⟨.ref _,_,I.lnew (t':=s.toks) (r.append r2) (by rw[length_append];omega),rfl,q _ I.fresh⟩
def Ap7:R2:=λx y H Q=>∃l k xs,x=.ref l/\y=.int k/\H l=some (.lst xs)/\-(2 ^ 63)<=k/\k<2 ^ 63/\xs.length*k.toNat<=sizeLine /\
 ∀p,H p=none->Q (.ref p) (upd H p (.lst (List.replicate k.toNat xs).flatten))
theorem zx9(xs:List α)(k:Nat):(List.replicate k xs).flatten.length=k*xs.length:=by
 induction k with
 | zero=>simp
 | succ k ih=>rw[replicate_succ,flatten_cons,length_append,ih,Nat.succ_mul,Nat.add_comm]
theorem Ai8:OpR X (binaryOp .Mult) Ap7:=by
 walk_at"7";obtain⟨l,k,xs,rfl,rfl,hH,h1,h2,hz,q⟩:=h;cases rx;obtain⟨t,rfl⟩:=ry;obtain⟨z,its,n,r,hl,e⟩:=I.lstM hH;have hlen:its.toArray.size*k.toNat<=sizeLine:=by rw[size_toArray,<-hl];exact hz
 have hcap:¬its.toArray.size*k.toNat > (2 ^ 63-1) / 8:=by
  have:(sizeLine:Nat)<=(2 ^ 63-1) / 8:=by decide
  omega
 have hfit:¬(!Builtin.List.listFitsIndex k)=true:=by
  rw[fitsIndex_both h1 h2];exact Bool.false_ne_true
 have hlong:¬Builtin.List.listTooLong (its.toArray.size*k.toNat)=true:=by
  rw[yo3 hlen];exact Bool.false_ne_true
 have hnew:List.foldl (λx1 x2=>x1++x2) #[] (List.replicate (if its.toArray.isEmpty=true then 0 else k.toNat) its.toArray)=(List.replicate k.toNat its).flatten.toArray:=by
  have f0:∀m:Nat,List.foldl (λx1 x2=>x1++x2) #[] (List.replicate m its.toArray)=(List.replicate m its).flatten.toArray:=λm=>by
   have:=yd7 its m [];rw[nil_append] at this;exact this
  rw[f0];cases its with
  | nil=>simp
  | cons a r'=>rw[if_neg (by simp)]
 refine wpAny_binaryOp_repeat_ref (T := "list") (U := "int") #[7] ⟨_,e,rfl⟩ (λs'=>typeIs_int s' k t) noFill_list_mul F.fills_int_mul F.slot_int_rmul repeat_list F.slot_int_index.lookup
  (call_meets F.slot_int_rmul (typeIs_int s k t) F.entry_int_rmul (F.args_int_rmul_2 _ _) (int___rmul___int_list k t l its.toArray n)
   ⟨e,rfl,⟨_,e,rfl⟩,call_meets F.slot_list_mul ⟨_,e,rfl⟩ F.entry_list_mul (F.args_list_mul_2 _ _) (AutoListH.list___mul___list_int_3 l its.toArray n k t hfit hcap hlong) ⟨e,?_⟩⟩);rw[hnew];exact⟨.ref _,_,I.lnew (t':=s.toks) (r.rep k.toNat) (by rw[zx9,Nat.mul_comm];exact hz),rfl,q _ I.fresh⟩
variable{κ:Type}
section
variable[DecidableEq κ]
noncomputable def wi7(kvs:List (κ×V))(k:κ):Option V:=(kvs.find? λkv=>decide (kv.1=k)).map (·.2)
noncomputable def we5(kvs:List (κ×V))(k:κ)(v:V):List (κ×V) :=
 if(kvs.any λkv=>decide (kv.1=k))=true then kvs.map (λkv=>if kv.1=k then(kv.1,v) else kv) else kvs++[(k,v)]
theorem Ap8{k:κ}:wi7 ([]:List (κ×V)) k=none:=rfl
theorem wj7{p:κ×V}{r:List (κ×V)}{k:κ}(e:p.1=k):wi7 (p::r) k=some p.2:=by simp[wi7,find?_cons,e]
theorem wj8{p:κ×V}{r:List (κ×V)}{k:κ}(e:¬p.1=k):wi7 (p::r) k=wi7 r k:=by simp[wi7,find?_cons,e]
theorem ww2(k:κ):∀kvs:List (κ×V),(kvs.any λkv=>decide (kv.1=k))=(wi7 kvs k).isSome
 | []=>rfl
 | p::r=>by
   rw[any_cons];by_cases e:p.1=k
   ·simp only[wj7 e,decide_eq_true e,Bool.true_or,Option.isSome_some]
   ·rw[wj8 e,decide_eq_false e,Bool.false_or];exact ww2 k r
theorem xi5(kvs:List (κ×V))(k:κ)(v:V):(we5 kvs k v).length<=kvs.length+1:=by
 unfold we5;split
 ·rw[length_map];omega
 ·rw[length_append,length_cons,length_nil];omega
theorem wq0.isSome_eq{o:Option V}{u:Option Value}(r:wq0 o u):o.isSome=u.isSome:=by
 cases o with
 | none=>cases u with
   | none=>rfl
   | some _=>exact(show False from r).elim
 | some _=>cases u with
   | none=>exact(show False from r).elim
   | some _=>rfl
theorem KV.val{kvs:List (κ×V)}{vs:List (κ×Value)}(r:KV kvs vs)(k:κ):wq0 (wi7 kvs k) (valueAt vs k):=by
 unfold KV at r
 induction r with
 | nil=>exact True.intro
 | @cons p q ps qs h t ih =>
   obtain⟨h1,h2⟩:=h
   by_cases e:p.1=k
   ·have e':q.1=k:=h1.symm.trans e
    have b:valueAt (q::qs) k=some q.2:=by simp[valueAt,find?_cons,e']
    rw[wj7 e,b];exact h2
   ·have e':¬q.1=k:=λz=>e (h1.trans z)
    have b:valueAt (q::qs) k=valueAt qs k:=by simp[valueAt,find?_cons,e']
    rw[wj8 e,b];exact ih
theorem KV.any{kvs:List (κ×V)}{vs:List (κ×Value)}(r:KV kvs vs)(k:κ):(kvs.any λkv=>decide (kv.1=k))=vs.any λkv=>decide (kv.1=k):=by
 unfold KV at r
 induction r with
 | nil=>rfl
 | cons h t ih=>rw[any_cons,any_cons,ih,h.1]
theorem KV.repl{kvs:List (κ×V)}{vs:List (κ×Value)}(r:KV kvs vs)(k:κ)(ry:D8 y u) :
 KV (kvs.map λkv=>if kv.1=k then(kv.1,y) else kv) (vs.map λkv=>if kv.1=k then(kv.1,u) else kv):=by
 unfold KV at r ⊢
 induction r with
 | nil=>exact .nil
 | @cons p q ps qs h t ih =>
   rw[map_cons,map_cons]
   refine .cons ?_ ih
   obtain⟨h1,h2⟩:=h
   by_cases e:p.1=k
   ·rw[if_pos e,if_pos (h1.symm.trans e)];exact⟨h1,ry⟩
   ·rw[if_neg e,if_neg (λz=>e (h1.trans z))];exact⟨h1,h2⟩
theorem KV.put{kvs:List (κ×V)}{vs:List (κ×Value)}(r:KV kvs vs)(k:κ)(ry:D8 y u):KV (we5 kvs k y) (stored vs k u):=by
 unfold we5 stored;rw[r.any k];by_cases e:(vs.any λkv=>decide (kv.1=k))=true
 ·rw[if_pos e,if_pos e];exact r.repl k ry
 ·rw[if_neg e,if_neg e];exact Paired.snoc r ⟨rfl,ry⟩
theorem KV.keys{kvs:List (κ×V)}{vs:List (κ×Value)}(r:KV kvs vs):kvs.map (·.1)=vs.map (·.1):=by
 unfold KV at r
 induction r with
 | nil=>rfl
 | cons h t ih=>rw[map_cons,map_cons,ih,h.1]
theorem KV.length{kvs:List (κ×V)}{vs:List (κ×Value)}(r:KV kvs vs):kvs.length=vs.length:=Paired.length r
end
theorem yo4{k:Key}(r:D8 (kV k) u):(R4 P w).is k u=true:=by
 cases k with
 | inl i=>obtain⟨t,e⟩:=(show ∃t,u=Value.int i t from r);subst e;exact yn1 P w i t
 | inr x=>obtain⟨t,e⟩:=(show ∃t,u=Value.str x t from r);subst e;exact yn2 P w x t
theorem yd8{P:Program}{w:World}:∀{ks:List Key} {us:List Value},D3 (ks.map kV) us->ItemsAre (R4 P w) ks us
 | [],_,r=>by rw[map_nil] at r;cases r;exact .nil
 | k::ks,_,r=>by
   rw[map_cons] at r;cases r with
   | cons h t=>exact .cons (yo4 h) (yd8 t)
abbrev KT(H:Hp):List (List Key×V)->List (List Key×Addr×Value)->Prop:=Paired λp q=>p.1=q.1/\H q.2.1=some (.tup (p.1.map kV))/\D8 p.2 q.2.2
theorem KT.val{kvs:List (List Key×V)}{xs:List (List Key×Addr×Value)}(r:KT H kvs xs)(k:List Key):wq0 (wi7 kvs k) ((atKey xs k).map (·.2)):=by
 induction r with
 | nil=>exact True.intro
 | @cons p q ps qs h t ih =>
   obtain⟨h1,_,h2⟩:=h
   by_cases e:p.1=k
   ·have e':q.1=k:=h1.symm.trans e
    have b:atKey (q::qs) k=some q.2:=by simp[atKey,find?_cons,e']
    rw[wj7 e,b];exact h2
   ·have e':¬q.1=k:=λz=>e (h1.trans z)
    have b:atKey (q::qs) k=atKey qs k:=by simp[atKey,find?_cons,e']
    rw[wj8 e,b];exact ih
theorem KT.repl{kvs:List (List Key×V)}{xs:List (List Key×Addr×Value)}(r:KT H kvs xs)(k:List Key)(ry:D8 y u) :
 KT H (kvs.map λkv=>if kv.1=k then(kv.1,y) else kv) (xs.map (putAt k u)):=by
 induction r with
 | nil=>exact .nil
 | @cons p q ps qs h t ih =>
   rw[map_cons,map_cons]
   refine .cons ?_ ih
   obtain⟨h1,h2,h3⟩:=h
   unfold putAt
   by_cases e:p.1=k
   ·rw[if_pos e,if_pos (h1.symm.trans e)];exact⟨h1,h2,ry⟩
   ·rw[if_neg e,if_neg (λz=>e (h1.trans z))];exact⟨h1,h2,h3⟩
theorem KT.put{kvs:List (List Key×V)}{xs:List (List Key×Addr×Value)}(r:KT H kvs xs)(k:List Key)(hb:H b=some (.tup (k.map kV)))(ry:D8 y u) :
 KT H (we5 kvs k y) (storedH xs k b u):=by
 have e:(kvs.any λkv=>decide (kv.1=k))=(atKey xs k).isSome:=by
  rw[ww2,(r.val k).isSome_eq,Option.isSome_map]
 unfold we5 storedH
 rw[e]
 by_cases q:(atKey xs k).isSome=true
 ·rw[if_pos q,if_pos q];exact r.repl k ry
 ·rw[if_neg q,if_neg q];exact Paired.snoc r ⟨rfl,hb,ry⟩
theorem KT.keeps{kvs:List (List Key×V)}{xs:List (List Key×Addr×Value)}(r:KT H kvs xs)(ht:∀b ys,H b=some (.tup ys)->H' b=some (.tup ys)):KT H' kvs xs :=
 Paired.mapP r λ_ _ z=>⟨z.1,ht _ _ z.2.1,z.2.2⟩
theorem Ae7{u:HO}(ok:HOk P w H h)(e:Rd H a u):Q8 P w H h a u:=e.ok ok
variable{kvs:List (Key×V)}
theorem xq5(ok:HOk P w H h)(e:Rd H a (.dK kvs)):kvs.length<=sizeLine/\(a == sysModules)=false/\∃vs,KV kvs vs/\h.DictOf (R4 P w) a vs :=
 show Q8 P w H h a (.dK kvs) from Ae7 ok e
theorem zn6(ok:HOk P w H h)(e:H a=some (.dK kvs)):kvs.length<=sizeLine/\(a == sysModules)=false/\∃vs,KV kvs vs/\h.DictOf (R4 P w) a vs:=xq5 ok (.inl e)
theorem xq6{ks:List Key}(ok:HOk P w H h)(e:H a=some (.tup (ks.map kV))):(tupleKind (R4 P w)).is h ks a:=by
 obtain⟨_,its,r,o,h1,h2,n,h3⟩:=(show Q8 P w H h a (.tup (ks.map kV)) from ok a _ e);exact⟨o,its.toArray,n,h1,h2,h3,by simpa using yd8 r⟩
theorem yo5{kvs:List (List Key×V)}(ok:HOk P w H h)(e:Rd H a (.dT kvs)):kvs.length<=sizeLine/\(a == sysModules)=false /\
 ∃xs,KT H kvs xs/\h.DictOfH (tupleKind (R4 P w)) a xs:=by
 obtain⟨z,y,xs,r,o,es,ep,h1,h2,h3,h4,h5⟩:=(show Q8 P w H h a (.dT kvs) from Ae7 ok e)
 refine⟨z,y,xs,r,o,es,ep,h1,h2,h3,h4,λx hx=>?_,h5⟩
 have all:∀{l:List (List Key×V)} {m:List (List Key×Addr×Value)},KT H l m->∀x∈m,(tupleKind (R4 P w)).is h x.1 x.2.1:=by
  intro l m q
  induction q with
  | nil=>intro x hx;exact nomatch hx
  | @cons p q ps qs hq t ih =>
    intro x hx
    rcases mem_cons.mp hx with e|hx
    ·subst e
     exact xq6 ok (by rw[<-hq.1];exact hq.2.1)
    ·exact ih x hx
 exact all r x hx
theorem Ap9{kvs:List (List Key×V)}(ok:HOk P w H h)(e:H a=some (.dT kvs)):kvs.length<=sizeLine/\(a == sysModules)=false /\
 ∃xs,KT H kvs xs/\h.DictOfH (tupleKind (R4 P w)) a xs:=yo5 ok (.inl e)
def yw0(H:Hp)(a:Addr)(y:V)(r:Option V):Prop :=
 (∃kvs k,Rd H a (.dK kvs)/\y=kV k/\r=wi7 kvs k)\/∃kvs k b,Rd H a (.dT kvs)/\y=.ref b/\H b=some (.tup (k.map kV))/\r=wi7 kvs k
def yw1(H:Hp)(a:Addr)(y v:V)(H':Hp):Prop :=
 (∃kvs k,H a=some (.dK kvs)/\y=kV k/\kvs.length<sizeLine/\H'=upd H a (.dK (we5 kvs k v))) \/
 ∃kvs k b,H a=some (.dT kvs)/\y=.ref b/\H b=some (.tup (k.map kV))/\kvs.length<sizeLine/\H'=upd H a (.dT (we5 kvs k v))
theorem yw1.k{k:Key}(e:H a=some (.dK kvs))(hl:kvs.length<sizeLine):yw1 H a (kV k) v (upd H a (.dK (we5 kvs k v))):=.inl ⟨kvs,k,e,rfl,hl,rfl⟩
section
variable{r:Value}{o:Option V}
theorem Inv.big(I:Inv X pins σ H s):sysModules<s.heap.objs.size:=by
 have h:mainGlobals<s.heap.objs.size:=(I.mod.glob.keeps I.bk).lt;exact Nat.lt_trans #[7] h
theorem zh0(hu:A.units+1<cLine)(I:Inv X pins σ H s)(g:yw0 H a y (some v))(ry:D8 y u)(h:∀w' s',Inv X pins σ H s'->D8 v w'->Q w' s') :
 wpAny #[8] A (getItem (.ref a) u) Q E s:=by
 rcases g with⟨kvs,k,e,ey,l⟩|⟨kvs,k,b,e,ey,eb,l⟩
 ·subst ey
  obtain⟨z,hd,vs,rel,dd⟩:=xq5 I.hok e
  obtain⟨w',hw,rw'⟩:=wq0.some_of (v:=v) (o:=valueAt vs k) (by rw[l];exact rel.val k)
  exact wpAny_getItem_of (yo4 ry) dd.mapOf hw (h w' _ (I.tok _) rw')
 ·subst ey
  cases (show u=Value.ref b from ry)
  obtain⟨z,hd,xs,rel,dd⟩:=yo5 I.hok e
  obtain⟨w',hw,rw'⟩:=wq0.some_of (v:=v) (o:=(atKey xs k).map (·.2)) (by rw[l];exact rel.val k)
  obtain⟨p,hp,hp2⟩:=Option.map_eq_some_iff.mp hw
  refine wpAny_getItem_heap (tupleKind_room_in1 hu) (xq6 I.hok eb) dd hp ?_
  rw[hp2]
  exact h w' _ (I.tok _) rw'
theorem Au0(hu:A.units+1<cLine)(I:Inv X pins σ H s)(g:yw0 H a y o)(ry:D8 y u)(h:∀s',Inv X pins σ H s'->Q (.bool o.isSome) s') :
 wpAny #[8] A (compareOp .In u (.ref a)) Q E s:=by
 rcases g with⟨kvs,k,e,ey,l⟩|⟨kvs,k,b,e,ey,eb,l⟩
 ·subst ey
  obtain⟨z,hd,vs,rel,dd⟩:=xq5 I.hok e
  refine wpAny_in_of (yo4 ry) hd dd.mapOf ?_
  rw[<-(rel.val k).isSome_eq,<-l]
  exact h _ (I.tok _)
 ·subst ey
  cases (show u=Value.ref b from ry)
  obtain⟨z,hd,xs,rel,dd⟩:=yo5 I.hok e
  refine wpAny_in_heap (tupleKind_room_in1 hu) (xq6 I.hok eb) hd dd ?_
  have q:=(rel.val k).isSome_eq
  rw[Option.isSome_map] at q
  rw[<-q,<-l]
  exact h _ (I.tok _)
theorem zy0(hu:A.units+1<cLine)(I:Inv X pins σ H s)(g:yw0 H a y o)(ry:D8 y u)(h:∀s',Inv X pins σ H s'->Q (.bool (!o.isSome)) s') :
 wpAny #[8] A (compareOp .NotIn u (.ref a)) Q E s:=by
 rcases g with⟨kvs,k,e,ey,l⟩|⟨kvs,k,b,e,ey,eb,l⟩
 ·subst ey
  obtain⟨z,hd,vs,rel,dd⟩:=xq5 I.hok e
  refine wpAny_notIn_of (yo4 ry) hd dd.mapOf ?_
  rw[<-(rel.val k).isSome_eq,<-l]
  exact h _ (I.tok _)
 ·subst ey
  cases (show u=Value.ref b from ry)
  obtain⟨z,hd,xs,rel,dd⟩:=yo5 I.hok e
  refine wpAny_notIn_heap (tupleKind_room_in1 hu) (xq6 I.hok eb) hd dd ?_
  have q:=(rel.val k).isSome_eq
  rw[Option.isSome_map] at q
  rw[<-q,<-l]
  exact h _ (I.tok _)
theorem yh7{ob:HO}(I:Inv X pins σ H s)(mu:Mut (H a))(hs:Heap.SameBut a s.heap h')(he:∃q,h'.get? a=some q)(new:Q8 X.prog X.w (upd H a ob) h' a ob)(ht:autoParam (0<t') zAt) :
 Inv X pins σ (upd H a ob) {s with heap:=h',toks:=t'} :=
 I.write (x:=a) (e:=a) mu (.inl rfl) (λb q hb z=>(hs.2 b hb).trans z) he new
theorem Ai9{vs:List (Key×Value)}(z:kvs.length<=sizeLine)(hd:(a == sysModules)=false)(rel:KV kvs vs)(dd:h'.DictOf (R4 P w) a vs) :
 Q8 P w H' h' a (.dK kvs):=⟨z,hd,vs,rel,dd⟩
theorem zh1{Q:Unit->Shared->Prop}(hu:A.units+1<cLine)(I:Inv X pins σ H s)(g:yw1 H a y v H')(ry:D8 y u)(rv:D8 v r)(h:∀s',Inv X pins σ H' s'->Q () s') :
 wpAny #[8] A (setItem (.ref a) u r) Q E s:=by
 rcases g with⟨kvs,k,e,ey,l,eH⟩|⟨kvs,k,b,e,ey,eb,l,eH⟩
 ·subst ey eH
  obtain⟨z,hd,vs,rel,dd⟩:=zn6 I.hok e
  have hz:vs.length<=sizeLine:=by rw[<-rel.length];exact z
  have hl:(we5 kvs k v).length<=sizeLine:=by have:=xi5 kvs k v;omega
  refine wpAny_setItem_pairs (hsz:=hz) (yo4 ry) dd λh' dd' hs=>h _ ?_
  have he:∃q,h'.get? a=some q:=let ⟨q,_,_,hq,_⟩:=dd';⟨q,hq⟩
  exact yh7 I (by rw[e];exact True.intro) hs he (Ai9 hl hd (rel.put k rv) dd')
 ·subst ey eH
  cases (show u=Value.ref b from ry)
  obtain⟨z,hd,xs,rel,dd⟩:=Ap9 I.hok e
  have hz:xs.length<=sizeLine:=by rw[<-Paired.length rel];exact z
  have hl:(we5 kvs k v).length<=sizeLine:=by have:=xi5 kvs k v;omega
  refine wpAny_setItem_heap (hsz:=hz) (tupleKind_room_in1 hu) (xq6 I.hok eb) dd λh' dd' hs=>h _ ?_
  obtain⟨q,es,ep,hq,h2,h3,h4,_,h5⟩:=dd'
  refine yh7 I (by rw[e];exact True.intro) hs ⟨q,hq⟩ ⟨hl,hd,_,(rel.put k eb rv).keeps λc ys ec=>?_,q,es,ep,hq,h2,h3,h4,h5⟩
  rw[A8 (Ao2 ec e (λz=>nomatch z))]
  exact ec
end
section
variable{k:Key}
theorem Aq0(I:Inv X pins σ H s)(e:Rd H a (.dK kvs))(h:∀t s',Inv X pins σ H s'->Q (.int kvs.length t) s'):wpAny #[8] A (call (.builtin "len") [.ref a]) Q E s:=by
 obtain⟨z,hd,vs,rel,dd⟩:=xq5 I.hok e;refine call_len_dict hd dd (by rw[<-rel.length];rw[sizeLine_eq] at z;omega) ?_;rw[<-rel.length];exact h _ _ (I.tok _)
end
def Aq1(i:Expr):Prop:=∀ov iv,subscripted i false ov iv=operate [ov,iv] (getItem ov iv)
theorem zy1{slice:Expr}{id:String}(hl:typeLookup (.type T) "__getitem__"=pure (some (.builtin id)))(hs:Aq1 slice)(h:wpAny #[10] A (eval value env) (λo s₁=>wpAny #[10] A (eval slice env) (λi s₂=>s₂.TypeIs o T/\wpAny #[10] A (getItem o i) Q E s₂) E s₁) E s) :
 wpAny #[10] A (eval (.Subscript value slice pos) env) Q E s:=by
 refine Subscript_ (wpAny_mono h (λo s₁ h₁=>wpAny_mono h₁ (λi s₂ h₂=>?_) λ_ _ x=>x) λ_ _ x=>x)
 obtain⟨hT,h₂⟩:=h₂
 unfold subscriptTail
 refine wpAny_bind ?_
 rw[getitemInPython_of_ne hT.not_modules]
 refine wpAny_bind (wpAny_specialOf hT hl ?_)
 have fin:wpAny #[10] A (subscripted slice false o i) (λr s₃=>wpAny #[10] A (letTemporaryGo value o r >>= λ_=>pure r) Q E s₃) E s₂:=by
  rw[hs o i];exact wpAny_operating (wpAny_mono h₂ (λr s₃ h₃=>wpAny_bind (wpAny_letTemporaryGo (wpAny_pure h₃))) λ_ _ x=>x)
 first
  | exact wpAny_pure (wpAny_bind fin)
  | exact wpAny_bind (wpAny_pure (wpAny_bind fin))
  | exact wpAny_bind fin
theorem yo6{o:Option V}(I:Inv X pins σ H s)(g:yw0 H a y o):s.TypeIs (.ref a) "dict":=by
 rcases g with⟨kvs,k,e,_,_⟩|⟨kvs,k,b,e,_,_,_⟩
 ·obtain⟨_,_,vs,_,dd⟩:=xq5 I.hok e;exact dd.typeIs
 ·obtain⟨_,_,xs,_,dd⟩:=yo5 I.hok e;exact dd.typeIs
def zn7(td ty:TE):TE:=λσ H Q=>td σ H λx H1=>ty σ H1 λy H2=>∃a v,x=.ref a/\yw0 H2 a y (some v)/\Q v H2
variable{td ty:TE}
section
variable{i:Expr}
theorem zy2(hu:X.A.units+1<cLine)(ho:PE X o td)(hi:PE X i ty)(hs:Aq1 i):PE X (.Subscript o i pos) (zn7 td ty):=by
 walk_at"22";refine zy1 PySem.F.slot_dict_getitem.lookup hs (thn (ho pins s σ H _ I h) λu s1 ⟨x,H1,I1,rx,q1⟩=>thn (hi pins s1 σ H1 _ I1 q1) λiv s2 zq=>?_);obtain⟨y,H2,I2,ry,a,v,ex,g,q2⟩:=zq;subst ex;obtain rfl:u=Value.ref a:=rx;exact⟨yo6 I2 g,zh0 hu I2 g ry λw' s3 I3 rw'=>⟨v,H2,I3,rw',q2⟩⟩
end
theorem zn8(h:Heap)(hb:sysModules<h.objs.size):Q8 P w H (h.push {cls:=.type "dict",data:=.dict #[]}) h.objs.size (.dK []) :=
 ⟨Nat.zero_le _,beq_eq_false_iff_ne.mpr (Ne.symm (Nat.ne_of_lt hb)),[],.nil,Heap.DictOf.new h⟩
def yh8:TE:=λ_ H Q=>∀p,H p=none->Q (.ref p) (upd H p (.dK []))
theorem xq7:PE X (.Dict [] [] pos) yh8:=λpins s σ H Q I h =>
 wpAny_Dict_empty ⟨.ref s.heap.objs.size,_,I.laid (a:=s.heap.objs.size) (o:=.dK []) (t':=s.toks) (λ_ _ q=>Heap.get?_push_of_some _ q) #[6] (zn8 s.heap I.big),rfl,h _ (I.hok.fresh #[6])⟩
namespace Att
open PySem PySem.W PySem.Calls PyProof.Rows
theorem xj6{P:Params}{h:Heap}:∀(ns:List Int) (vs:List Value),WellAll P h vs (ns.map WData.int)->IntsAre vs ns:=by
 intro ns
 induction ns with
 | nil =>
   intro vs w
   rw[map_nil] at w
   cases w
   exact .nil
 | cons n ns ih =>
   intro vs w
   rw[map_cons] at w
   cases w with
   | cons a b =>
     cases a
     exact .cons _ _ (ih _ b)
theorem script_of{l:OpenLaw}{n:Nat}(hn:l.most=some n){P:Params}{h:Heap}{args:List WData}{vals:List Value}
 (hpre:l.row.toRowW.claim.pre args=true) (hwl:WellAll P h vals args) :
 ∃a vs ns,vals=[Value.ref a]/\args=[WData.list (ns.map WData.int)]/\h.get? a=some {cls:=.type "list",data:=.seq vs.toArray}/\IntsAre vs ns/\ns.length<=n:=by
 have hsh:WShape.hasAll [] args [.list .int]=true:=(pre_splitW hpre).1
 have hc:l.pre.holds [] {args:=args}=true:=(pre_splitW hpre).2
 obtain⟨d,r,rfl,h1,h2⟩:=hasAllW_cons hsh
 obtain rfl:=hasAllW_nil h2
 obtain⟨xs,rfl,h3⟩:=hasW_list h1
 obtain⟨ns,rfl⟩:=items_int h3
 have hlen:ns.length<=n:=by
  unfold OpenLaw.pre at hc;have h4:(WTm.not (.lt (.lit (.int (n:Int))) (.len (.arg 0)))).holds [] {args:=[.list (ns.map .int)]}=true:=by
   have h4:=(holds_andW hc).1;rw[hn] at h4;exact h4
  have h5:=condW_of h4 (w_not (w_lt w_lit (w_len_list (w_arg rfl))));rw[length_map] at h5;refine Nat.le_of_not_lt λq=>?_;have q':(n:Int)<((ns.length:Nat):Int):=by omega
  first
   | (rw[decide_eq_true q'] at h5;exact absurd h5 #[7])
   | (simp at h5;omega)
 cases hwl with
 | cons w1 w2 =>
   cases w2
   cases w1 with
   | list ho hall=>exact⟨_,_,ns,rfl,rfl,ho,xj6 ns _ hall,hlen⟩
theorem post_true(l:OpenLaw)(args:List WData):l.row.toRowW.claim.post args (.bool true) args=true :=
 postW_of (r:=l.row.toRowW) (X:=(true == true))
  (show WShape.has [] (.bool true) .bool=true by first|rfl|decide|simp[WShape.has,WShape.arms,WShape.armsAll])
  (show(WTm.eq .res (.lit (.bool true))).value [] {args:=args,res:=some (.bool true),after:=args}=some (.bool (true == true)) from w_eq_bool (w_res rfl) w_lit) rfl
end Att
theorem yd9:∀{vs:List Value} {ns:List Int},IntsAre vs ns->D3 (ns.map V.int) vs
 | _,_,.nil=>.nil
 | _,_,.cons n t h=>.cons ⟨t,rfl⟩ (yd9 h)
def Aj0(H:Hp):Prop:=∀b,H b=none\/∃o xs,H b=some (.frz o (.lst xs))
theorem zn9 {mb:Str->Option Value} {k:Nat} {fa:Addr} {s₁:Shared} {vs:List Value} {ns:List Int} (KX:K.In s₁.heap) (hns:s₁.heap.Ns mainGlobals mg) (hb:s₁.heap.Ns builtinsNs mb) (hbb:∀x:Str,x ≠ "__name__"->mb x=bootBuiltins x) (hlim:s₁.heap.NoLimit) (hg:s₁.gens=#[]) (htk:0<s₁.toks) (ha:s₁.heap.get? a=some {cls:=.type "list",data:=.seq vs.toArray}) (hi:IntsAre vs ns) (hl:ns.length<=sizeLine) (hr:qk3 k callerA) (F:∀base:Heap,K.In base->base.Ns mainGlobals mg->D5 P w K mg base CX k fa fd [x] sp) (hbind:∀(s:Shared) (u:Value),BindsTo s fd ⟨[u],[]⟩ [(x,u)]) (hsp:∀H:Hp,Aj0 H->SqL K H a (ns.map V.int)->sp [.ref a] H (λv _=>v=.bl true) λ_ _ _=>False) (hCX:∀H e s',CX [] H s₁ (λ_ _ _=>False) e s'->False) :
 codeAny (model P w) callerA (.call (.ref fa) ⟨[.ref a],[]⟩) (λr s'=>r=.ok (.ret (.bool true))/\OldK s₁.heap s'.heap/\s'.os=s₁.os/\AllBare s'.gens) s₁:=by
 have rv:=yd9 hi
 have lenV:=hi.length
 have core:∀H:Hp,Aj0 H->SqL K H a (ns.map V.int)->HOk P w H s₁.heap->(∀b,H b≠none->b=a)->(H a≠none->K.lookup a=none) ->
  codeAny (model P w) callerA (.call (.ref fa) ⟨[.ref a],[]⟩) (λr s'=>r=.ok (.ret (.bool true))/\OldK s₁.heap s'.heap/\s'.os=s₁.os/\AllBare s'.gens) s₁:=by
  intro H hO hS hok hA hK
  have base_of:∀{b:Addr} {o:Obj},s₁.heap.get? b=some o->H b=none->(yg4 s₁.heap H).get? b=some o:=λe n=>zl4 e n
  have noA:∀{b:Addr} {o:Obj} {es:Array DictEntry} {ep:Nat},s₁.heap.get? b=some o->o.data=.dict es ep->H b=none:=λ{b o es ep} e d=>by
   cases q:H b with
   | none=>rfl
   | some u =>
     have e':b=a:=hA b (by rw[q];simp)
     subst e'
     rw[ha] at e;cases e
     have d':Data.seq vs.toArray _=Data.dict es ep:=d
     cases d'
  have nsK:∀{b:Addr} {m:Str->Option Value},s₁.heap.Ns b m->(yg4 s₁.heap H).Ns b m:=λ{b m} ⟨o,es,ep,e,d,r⟩=>⟨o,es,ep,base_of e (noA e d),d,r⟩
  have hKb:K.In (yg4 s₁.heap H):=λb o e=>base_of (KX b o e) (by
   cases q:H b with
   | none=>rfl
   | some u =>
     have e':b=a:=hA b (by rw[q];simp)
     subst e'
     rw[hK (by rw[q];simp)] at e;cases e)
  have hM:Mod K mg (yg4 s₁.heap H):=⟨hKb,nsK hns,⟨mb,nsK hb,hbb⟩,let ⟨mc,h1,h2⟩:=hlim;⟨mc,nsK h1,h2⟩⟩
  have e0:yv2 P w K mg (yg4 s₁.heap H) callerA [] s₁ H:=⟨rfl,hM,λb o e=>zw4 e,Nat.le_of_eq (zf5 _ _),trivial,λb hb=>absurd (show b∈([]:List Addr) from hb) (by simp),hok,.of_eq hg,htk⟩
  refine codeAny_mono ((F _ hKb (nsK hns)).run callerA [] s₁ H ⟨[.ref a],[]⟩ [.ref a] [.ref a] _ _ hr e0 (hbind s₁ (.ref a)) (.cons rfl .nil) (hsp H hO hS)) λr s' h=>?_
  cases r with
  | error e=>exact(hCX H e s' h).elim
  | ok fl =>
    cases fl with
    | next=>exact False.elim h
    | brk=>exact False.elim h
    | cont=>exact False.elim h
    | ret u =>
      obtain⟨v,H',_,os,bare,un,hok',r',q⟩:=h
      have q':v=.bl true:=q
      subst q'
      obtain rfl:u=Value.bool true:=r'
      refine⟨rfl,OldK.of_keep λb o e=>?_,os,bare⟩
      cases q:H b with
      | none=>exact un.keep b o e q (by intro z;exact absurd (show b∈([]:List Addr) from z) (by simp)) (by simp)
      | some u =>
        rcases hO b with z|⟨ob,xs,z⟩
        ·rw[q] at z;cases z
        ·have z2:=un.frzs b ob _ z
         obtain⟨e1,_⟩:=hok b _ z
         obtain⟨e2,_⟩:=hok' b _ z2
         rw[e] at e1;cases e1
         exact e2
 cases hk:K.lookup a with
 | some o =>
   have e:=KX a o hk
   rw[ha] at e
   cases e
   refine core (λ_=>none) (λ_=>.inl rfl) (.inr ⟨_,vs.toArray,_,hk,rfl,rfl,rfl,by rw[size_toArray,lenV];exact hl,by simpa using rv⟩) (λb u z=>by have z':(none:Option HO)=some u:=z;cases z') (λb z=>absurd rfl z) λz=>absurd rfl z
 | none =>
   refine core (λb=>if b=a then some (.frz {cls:=.type "list",data:=.seq vs.toArray} (.lst (ns.map V.int))) else none) (λb=>?_) (.inl (.inr ⟨{cls:=.type "list",data:=.seq vs.toArray},if_pos rfl⟩)) (λb u z=>?_) (λb z=>?_) λ_=>hk
   ·by_cases hb:b=a
    ·exact .inr ⟨_,_,if_pos hb⟩
    ·exact .inl (if_neg hb)
   ·by_cases hb:b=a
    ·have z':=(if_pos hb).symm.trans z
     cases z'
     subst hb
     exact⟨ha,by rw[length_map];exact hl,vs,_,rv,ha⟩
    ·have z':=(if_neg hb).symm.trans z
     cases z'
   ·by_cases hb:b=a
    ·exact hb
    ·exact absurd (if_neg hb) z
theorem xq8:∀ns:List Int,PySem.W.ofPys (ns.map PyData.int)=ns.map PySem.W.WData.int
 | []=>by simp[PySem.W.ofPys]
 | n::ns=>by simp only[map_cons,PySem.W.ofPys,PySem.W.ofPy];rw[xq8 ns]
variable{as:List Addr}{q:Program}
theorem zy3{l:PySem.W.OpenLaw}{k:Nat}{loose:List Str}{XP:(Str->Option Value)->Heap->Prop}{z t:Nat}{d:DefRec}{K:Params->Fg}{CX:World->CXT}{sp:World->Sp}(hn:l.most=some n)(hn2:n<=sizeLine)(hdf:d.params.defaults=[])(hr:qk3 k callerA)(hk:∀P,as=(K P).map (·.1))(h0:0<t) (F:∀(w:World) (mg:Str->Option Value) (fa:Addr) (h:Heap),(K w.params).In h->h.Ns mainGlobals mg->mg d.name=some (.ref fa) ->
  ∃fd:FuncData,(∀(s:Shared) (u:Value),BindsTo s fd ⟨[u],[]⟩ [(x,u)]) /\
   ∀base:Heap,(K w.params).In base->base.Ns mainGlobals mg->D5 l.prog w (K w.params) mg base (CX w) k fa fd [x] (sp w)) (hsp:∀(w:World) (H:Hp) (a:Addr) (ns:List Int),ns.length<=n->Aj0 H->SqL (K w.params) H a (ns.map V.int)->sp w [.ref a] H (λv _=>v=.bl true) λ_ _ _=>False) (hCX:∀(w:World) (H:Hp) (s:Shared) (e:Value) (s':Shared),CX w [] H s (λ_ _ _=>False) e s'->False) :
 PySem.W.WalkX q loose XP (PySem.W.X.obsZ as) (PySem.W.X.valZ K z t) l.row.toRowW d [] (λf vs=>PySem.call f vs):=by
 intro w s₀ s₁ mg mb G y fa o pm cd doc dV kV ho hd hcd hD hmg hg args vals aa L hpre hlay hrd hwl hlo
 obtain rfl:dV=.none:=PySem.W.Dflts.none hD hdf
 obtain rfl:kV=.none:=PySem.W.Dflts.noKw hD
 obtain⟨a,vs,ns,rfl,rfl,hobj,hints,hlen⟩:=Att.script_of hn hpre hwl
 obtain⟨_,KI,_,htk⟩:=PySem.W.X.z_facts hk y
 have KX:=PySem.W.InK.keeps w _ _ KI L.keeps
 have tk:0<s₁.toks:=Nat.lt_of_lt_of_le h0 (PySem.W.X.script_toks (ns:=ns) (a:=a) (by rw[PySem.W.ofPy,xq8];exact L) htk)
 obtain⟨fd,hb,hF⟩:=F w mg fa _ KX G.T.g hmg
 refine PySem.W.enter_call (codeAny_mono (zn9 KX G.T.g G.T.b G.T.builtins G.T.nolimit hg tk hobj hints (Nat.le_trans hlen hn2) hr hF hb (λH hO hS=>hsp w H a ns hlen hO hS) λH e s'=>hCX w H s₁ e s') λr s' hq=>?_)
 obtain⟨rfl,h2,h3,h4⟩:=hq
 exact⟨.inl ⟨.bool true,.bool true,[],rfl,λ_=>rfl,.bool true,Att.post_true l _,λ_=>⟨List.Pairwise.nil,λ_ hm=>(nomatch hm)⟩⟩,h2,h3,h4⟩
noncomputable def ww3(s:Stmt):Arguments:=match s with
 | .FunctionDef _ a _ _ _ _ _ _ _ _=>a
 | _=>{posonlyargs:=[],args:=[],vararg:=none,kwonlyargs:=[],kw_defaults:=[],kwarg:=none,defaults:=[]}
noncomputable def wo3(s:Stmt):List Stmt:=match s with
 | .FunctionDef _ _ b _ _ _ _ _ _ _=>b
 | _=>[]
noncomputable def A7(s:Stmt):Scope:=match s with
 | .FunctionDef _ _ _ _ _ _ sc _ _ _=>sc
 | _=>{kind:=.function,names:=[],isGenerator:=false,isCoroutine:=false}
abbrev CX0:CXT:=λ_ _ _ _ _ _=>False
abbrev E0:XK:=λ_ _ _=>False
theorem B5:wj5 CX0 X E0:=λ_ _ _ _ _ _ _ h=>h.elim
structure Fun(K:Fg)(x qual:Str)(st:Stmt)(f:Addr)(fd:FuncData):Prop where
 ex:∃(oc:Value) (od:Option Addr) (kV doc pm:Value) (an:Option Addr) (cdv ct:Value) (osl:Array (Option Value)),
  fd=PySem.W.fnOf x qual (ww3 st) (wo3 st) (A7 st) .none kV doc pm an cdv ct/\K.lookup f=some ⟨oc,od,.func fd,osl⟩/\PySem.W.codeIn K cdv qual=true
 kp:PySem.W.keepIn K (.ref f)=true
theorem Fun.ok{f:Addr}{k:Nat}(F:Fun K x qual st f fd)(S:B6 N ps (A7 st))(len:∀vs H Q E,sp vs H Q E->vs.length=ps.length) (hbody:∀(cdv:Value) (A:Around) (outer:List Env) (s:Shared) (H:Hp) (vs:List V) (Q:VK) (E:XK),qk3 k (A.deeper (envOfC qual (A7 st) s.heap.objs.size f cdv))->sp vs H Q E ->
  ∃t,PSs (zg7 CX0 P w K mg base N qual (A7 st) f cdv A outer s H E).nox (wo3 st) t/\t {nx:=λ_ H'=>Q .non H',rt:=Q} (C3 N vs) H):D5 P w K mg base CX0 (k+1) f fd ps sp:=by
 obtain⟨oc,od,kV,doc,pm,an,cdv,ct,osl,rfl,lk,hcd⟩:=F.ex
 refine Ap0 lk hcd S len λA outer s H vs Q E hr hsp=>?_
 obtain⟨t,h,q⟩:=hbody cdv A outer s H vs Q E hr hsp
 exact⟨t,h.nox,q⟩
theorem Fun.binds{f:Addr}(F:Fun K x qual st f fd)(h:∀(kV doc pm:Value) (an:Option Addr) (cdv ct:Value) (us:List Value),us.length=ps.length->bindArgs (PySem.W.fnOf x qual (ww3 st) (wo3 st) (A7 st) .none kV doc pm an cdv ct) ⟨us,[]⟩=pure (ps.zip us)):O8 K fd ps []:=by
 obtain⟨oc,od,kV,doc,pm,an,cdv,ct,osl,rfl,lk,hcd⟩:=F.ex;exact .all (h kV doc pm an cdv ct)
theorem Aj1{f:Addr}{kV:Value}(l:K.lookup f=some ⟨oc,od,.func (PySem.W.fnOf x qual (ww3 st) (wo3 st) (A7 st) .none kV doc pm an cdv ct),osl⟩)(c:PySem.W.codeIn K cdv qual=true)(k:PySem.W.keepIn K (.ref f)=true):Fun K x qual st f (PySem.W.fnOf x qual (ww3 st) (wo3 st) (A7 st) .none kV doc pm an cdv ct):=⟨⟨oc,od,kV,doc,pm,an,cdv,ct,osl,rfl,l,c⟩,k⟩
theorem G0{k:Nat}(hr:qk3 k A):A.units+1<cLine:=Nat.lt_of_le_of_lt (Nat.add_le_add_left (by decide:1<=64) _) hr.units
theorem pv(i:Nat)(hN:autoParam (X.N[i]?=some x) zAr)(hv:Vis X.env.scope x:=by first|exact Or.inl rfl|exact Or.inr (Or.inl rfl)|exact Or.inr (Or.inr rfl))(hd:autoParam ((x == ("__debug__":Str))=false) zAd)(hcd:autoParam ((x == ("__classdict__":Str))=false) zAd):PE X (.Name x pos) (A0 i):=Ah4 hN hv hd hcd
variable{B:Prop}
theorem qi6{A:Prop}(h:B):if false=true then A else B:=by
 rw[if_neg Bool.false_ne_true];exact h
theorem qy2{A:Prop}(h:A):if true=true then A else B:=by
 rw[if_pos rfl];exact h
def A3(H H':Hp):Prop:=∀b o,H b=some o->H' b=some o
theorem A3.refl(H:Hp):A3 H H:=λ_ _ h=>h
theorem A3.free(e:A3 H H')(h:H' l=Option.none):H l=Option.none:=by
 cases q:H l with
 | none=>rfl
 | some o =>
   rw[e l o q] at h
   cases h
theorem A3.seq(e:A3 H H')(h:SqL K H a xs):SqL K H' a xs:=by
 rcases h with(h|⟨o,h⟩)|h
 ·exact .inl (.inl (e _ _ h))
 ·exact .inl (.inr ⟨o,e _ _ h⟩)
 ·exact .inr h
theorem zh2:Y0 X (.builtin "len") (λxs H Q=>∃a kvs,xs=[V.ref a]/\H a=some (.dK kvs)/\Q (.int kvs.length) H):=by
 walk_at"35";obtain⟨a,kvs,rfl,ha,q⟩:=h;obtain⟨u,rfl,ru⟩:=qv2 r;cases ru;exact Aq0 I (.inl ha) λt s' I'=>⟨.int kvs.length,H,I',⟨t,rfl⟩,q⟩
theorem noE{t:Sem α}{Q:α->Shared->Prop}(h:wpAny M A t Q (λ_ _=>False) s):wpAny M A t Q E s :=
 wpAny_mono h (λ_ _ q=>q) λ_ _ z=>False.elim z
theorem wt3{env:Env}:∀(names:List (Str×NameKind)) (acc:List (Str×Addr)),(∀y∈names,y.2=.free->∃c,env.cells.lookup y.1=some c)->(∀x c,acc.lookup x=some c->env.cells.lookup x=some c) ->
 ∃cl,(forIn names acc λ(x:Str×NameKind) (r:List (Str×Addr)) =>
  (if(x.2 == .free)=true then(do let a<-cellOf env x.1;pure (ForInStep.yield ((x.1,a)::r))) else pure (ForInStep.yield r):Sem (ForInStep (List (Str×Addr)))))=(pure cl:Sem (List (Str×Addr))) /\
  (∀x c,cl.lookup x=some c->env.cells.lookup x=some c)/\(∀x,(∃c,acc.lookup x=some c)->∃c,cl.lookup x=some c)/\∀y∈names,y.2=.free->∃c,cl.lookup y.1=some c
 | [],acc,_,h2=>⟨acc,by rw[forIn_nil],h2,λ_ h=>h,λ_ h=>by cases h⟩
 | (n,k)::r,acc,h1,h2=>by
   by_cases hk:k=.free
   ·subst hk;obtain⟨c,hc⟩:=h1 (n,.free) mem_cons_self rfl;obtain⟨cl,e,q1,q2,q3⟩:=wt3 r ((n,c)::acc) (λy hy=>h1 y (mem_cons_of_mem _ hy)) (λx d hd=>by
     rw[lookup_cons] at hd;cases hx:x == n with
     | true=>rw[hx] at hd;cases hd;rw[beq_iff_eq.mp hx];exact hc
     | false=>rw[hx] at hd;exact h2 x d hd)
    refine⟨cl,?_,q1,λx hx=>q2 x ?_,λy hy hf=>?_⟩
    ·rw[forIn_cons];have e0:cellOf env n=pure c:=by unfold cellOf;rw[hc]
     simp only[beq_self_eq_true,if_true,e0];exact e
    ·rw[lookup_cons];cases x == n with
     | true=>exact⟨c,rfl⟩
     | false=>exact hx
    ·rcases mem_cons.mp hy with rfl|hy
     ·exact q2 n ⟨c,by rw[lookup_cons];simp⟩
     ·exact q3 y hy hf
   ·obtain⟨cl,e,q1,q2,q3⟩:=wt3 r acc (λy hy=>h1 y (mem_cons_of_mem _ hy)) h2;refine⟨cl,?_,q1,q2,λy hy hf=>?_⟩
    ·rw[forIn_cons];have hb:(k == NameKind.free)=false:=by simpa using hk
     simp only[hb,Bool.false_eq_true,if_false];exact e
    ·rcases mem_cons.mp hy with rfl|hy
     ·exact absurd hf hk
     ·exact q3 y hy hf
theorem wr8(h:∀y∈scope.names,y.2=.free->∃c,env.cells.lookup y.1=some c) :
 ∃cl,closureFor scope env=pure cl/\(∀x c,cl.lookup x=some c->env.cells.lookup x=some c)/\∀y∈scope.names,y.2=.free->∃c,cl.lookup y.1=some c:=by
 obtain⟨cl,e,q1,_,q3⟩:=wt3 (env:=env) scope.names [] h (λx c hc=>by simp at hc)
 refine⟨cl,?_,q1,q3⟩
 unfold closureFor
 simp only[]
 rw[show(forIn scope.names ([]:List (Str×Addr)) λ(x:Str×NameKind) (r:List (Str×Addr)) =>
  (match x with|(name,kind)=>if(kind == .free)=true then(do let a<-cellOf env name;pure (ForInStep.yield ((name,a)::r))) else pure (ForInStep.yield r):Sem (ForInStep (List (Str×Addr)))))=(pure cl:Sem (List (Str×Addr))) from e]
 rfl
theorem qp0{env:Env}:∀{names:List (Str×NameKind)} {x:Str},names.lookup x=some .free ->
 (names.map λ(n,k)=>if#[15] then(n,NameKind.cell) else(n,k)).lookup x=some .cell \/
 (names.map λ(n,k)=>if#[15] then(n,NameKind.cell) else(n,k)).lookup x=some .free
 | [],_,h=>by simp at h
 | (n,k)::r,x,h=>by
   have ih:=@qp0 env r x;show List.lookup x ((if#[15]=true then(n,NameKind.cell) else(n,k))::_)=_\/List.lookup x ((if#[15]=true then(n,NameKind.cell) else(n,k))::_)=_;cases hx:x == n with
   | true =>
     simp only[lookup_cons,hx] at h
     cases h
     by_cases hc:(NameKind.free == NameKind.free && env.scope.kind == .function && env.kindOf n == some .cell)=true
     ·rw[if_pos hc];exact .inl (by simp only[lookup_cons,hx])
     ·rw[if_neg hc];exact .inr (by simp only[lookup_cons,hx])
   | false =>
     simp only[lookup_cons,hx] at h
     by_cases hc:#[15]=true
     ·rw[if_pos hc];simp only[lookup_cons,hx];exact ih h
     ·rw[if_neg hc];simp only[lookup_cons,hx];exact ih h
theorem qc5{env:Env}:∀{names:List (Str×NameKind)} {x:Str} {k:NameKind},
 (names.map λ(n,k)=>if#[15] then(n,NameKind.cell) else(n,k)).lookup x=some k ->
 names.lookup x=some k\/(k=.cell/\names.lookup x=some .free)
 | [],_,_,h=>by simp at h
 | (n, j)::r,x,k,h=>by
   have ih:=@qc5 env r x k;have h:List.lookup x ((if(j == NameKind.free && env.scope.kind == .function && env.kindOf n == some .cell)=true then(n,NameKind.cell) else(n,j))::_)=some k:=h;by_cases hc:(j == NameKind.free && env.scope.kind == .function && env.kindOf n == some .cell)=true
   ·rw [if_pos hc] at h;cases hx:x == n with
    | true =>
      simp only[lookup_cons,hx] at h ⊢
      cases h
      have:j=.free:=by
       cases j <;> simp at hc ⊢
      exact .inr ⟨rfl,by rw[this]⟩
    | false=>simp only[lookup_cons,hx] at h ⊢;exact ih h
   ·rw[if_neg hc] at h;cases hx:x == n with
    | true=>simp only[lookup_cons,hx] at h ⊢;exact .inl h
    | false=>simp only[lookup_cons,hx] at h ⊢;exact ih h
variable{elt:Expr}{ifs:List Expr}
theorem wj9{R:Result->Shared->Prop}{target:Expr}{it acc:Value}(I:Nat->Shared->Prop) (turn:∀n s,I n s->wpAny #[10] A (pyNext it) (λr s₁=>match r with
  | none=>R (.ok .next) s₁
  | some v=>wpAny #[10] A (letOwnedTupleGo target it v) (λ_ s₁'=>wpAny #[10] A (assign target env v) (λ_ s₂ =>
   wpAny #[10] A (forIn ifs true λc r=>if r=true then do let ok<-isTrue c env (eval c env);pure (ForInStep.yield ok) else pure (ForInStep.yield r)) (λok s₃ =>
    if ok=true then wpAny #[10] A (eval elt env) (λx s₄ =>
     wpAny #[10] A (call (.builtin "list.append") [acc,x]) (λ_ s₅=>∃m,m<n/\I m s₅) (notedBy #[10] A env λe s'=>R (.error e) s') s₄) (notedBy #[10] A env λe s'=>R (.error e) s') s₃
    else ∃m,m<n/\I m s₃) (notedBy #[10] A env λe s'=>R (.error e) s') s₂) (notedBy #[10] A env λe s'=>R (.error e) s') s₁') (notedBy #[10] A env λe s'=>R (.error e) s') s₁)
  (notedBy #[10] A env λe s'=>R (.error e) s') s) (n:Nat) (h:I n s) :
 codeAny #[10] A (.compLoop (.ListComp elt [⟨target,iter,ifs,0⟩] scope pos) 0 it acc env) R s:=by
 refine codeAny_loop rfl I (λn s hI=>?_) n h
 show wpAny _ A ((compTurn (.ListComp elt [⟨target,iter,ifs,0⟩] scope pos) 0 it acc env).onRaise (λx=>do noteFrame x env;theTreesLotGoes x)) _ _ s
 refine wpAny_noted ?_
 rw[compTurn_list]
 refine wpAny_bind (wpAny_standAt (wpAny_bind (wpAny_mono (turn n s hI) (λr s₁ h₁=>?_) λ_ _ h'=>h')))
 cases r with
 | none=>exact wpAny_pure h₁
 | some v =>
   refine wpAny_bind (wpAny_mono h₁ (λ_ s₁' h₁'=>?_) λ_ _ h'=>h')
   refine wpAny_bind (wpAny_mono h₁' (λ_ s₂ h₂=>wpAny_bind (wpAny_mono h₂ (λok s₃ h₃=>?_) λ_ _ h'=>h')) λ_ _ h'=>h')
   cases ok with
   | false=>exact wpAny_pure ⟨rfl,h₃⟩
   | true =>
     exact wpAny_bind (wpAny_bind (wpAny_mono h₃ (λx s₄ h₄=>wpAny_bind (wpAny_mono h₄ (λ_ s₅ h₅=>wpAny_pure (wpAny_pure ⟨rfl,h₅⟩)) λ_ _ h'=>h')) λ_ _ h'=>h'))
noncomputable def blk(X:Cx)(N:List Str)(scope:Scope)(cl:List (Str×Addr))(C:Addr)(s₂:Shared)(H₂:Hp)(fp:List Addr)(pn:List (Addr×Obj)):Cx :=
 {X with N:=N,s₀:=s₂,H₀:=H₂,env:=compEnvC scope cl C X.env,outer:=X.stack,stack:=X.stack,ex:=fp,fn:=λ_=>false,pn:=pn,xe:=λ_ _=>False}
noncomputable def wk0(fr:List (Option Nat))(σ:St):St:=fr.map λo=>match o with|some i=>(σ[i]?).join|none=>none
variable{fr:List (Option Nat)}
theorem yo7{j:Nat}(h:(wk0 fr σ)[j]?=some (some v)):∃i,fr[j]?=some (some i)/\σ[i]?=some (some v):=by
 unfold wk0 at h;rw[List.getElem?_map] at h;cases e:fr[j]? with
 | none=>rw[e] at h;cases h
 | some o =>
   rw[e] at h
   cases o with
   | none=>cases h
   | some i =>
     refine⟨i,rfl,?_⟩
     have h':(σ[i]?).join=some v:=Option.some.inj h
     cases e2:σ[i]? with
     | none=>rw[e2] at h';cases h'
     | some x=>rw[e2] at h';cases x with
       | none=>cases h'
       | some y=>cases h';rfl
def zo0(fr:List (Option Nat))(g:TG):Prop:=∀(x:V) (σ:St) (H:Hp) (Q:St->Hp->Prop),g x σ H Q->g x σ H λσ2 H2=>Q σ2 H2/\∀(j i:Nat),fr[j]?=some (some i)->σ2[j]?=σ[j]?
def zc6(fr:List (Option Nat))(g:TGs):Prop:=∀(xs:List V) (σ:St) (H:Hp) (Q:St->Hp->Prop),g xs σ H Q->g xs σ H λσ2 H2=>Q σ2 H2/\∀(j i:Nat),fr[j]?=some (some i)->σ2[j]?=σ[j]?
theorem qf9{i:Nat}(h:autoParam (fr[i]?=some none) zAr):zo0 fr (A6 i):=λx σ H Q q=>⟨q,λj k hj=>by
 have:i≠j:=by rintro rfl;rw[h] at hj;cases hj
 rw[List.getElem?_set_ne this]⟩
theorem Aj2:zc6 fr yg7:=λxs σ H Q ⟨e,q⟩=>⟨e,q,λ_ _ _=>rfl⟩
theorem zc7{i:Nat}{u:TGs}(h:fr[i]?=some none)(hu:zc6 fr u):zc6 fr (qf2 (A6 i) u):=λxs σ H Q ⟨v,r,e,q⟩=>by
 refine⟨v,r,e,?_⟩
 have q:u r (σ.set i (some v)) H Q:=q
 have e2:=hu _ _ _ _ q
 have k:∀j k,fr[j]?=some (some k)->(σ.set i (some v))[j]?=σ[j]?:=λj k hj=>by
  have:i≠j:=by rintro rfl;rw[h] at hj;cases hj
  rw[List.getElem?_set_ne this]
 have e3:(λ(σ2:St) (H2:Hp)=>Q σ2 H2/\∀(j k:Nat),fr[j]?=some (some k)->σ2[j]?=σ[j]?)=(λ(σ2:St) (H2:Hp)=>Q σ2 H2/\∀(j k:Nat),fr[j]?=some (some k)->σ2[j]?=(σ.set i (some v))[j]?):=by
  funext σ2 H2;refine propext ⟨λ⟨a,b⟩=>⟨a,λj m hj=>(b j m hj).trans (k j m hj).symm⟩,λ⟨a,b⟩=>⟨a,λj m hj=>(b j m hj).trans (k j m hj)⟩⟩
 show u r (σ.set i (some v)) H _
 rw[e3]
 exact e2
theorem Aj3{u:TGs}(hu:zc6 fr u):zo0 fr (xz4 K n u):=λx σ H Q ⟨a,xs,e1,e2,e3,q⟩=>⟨a,xs,e1,e2,e3,hu _ _ _ _ q⟩
def PTs(X:Cx)(ifs:List Expr)(t:TT):Prop :=
 ∀(pins:List (Addr×Obj)) (s:Shared) (σ:St) (H:Hp) (Q:Bool->Hp->Prop),Inv X pins σ H s->t σ H Q ->
  wpAny #[8] X.A (forIn ifs true λc r=>if r=true then do let ok<-isTrue c X.env (eval c X.env);pure (ForInStep.yield ok) else pure (ForInStep.yield r)) (TP X pins σ Q) X.xe s
def tTT:TT:=λ_ H Q=>Q true H
theorem wo4:PTs X [] tTT:=λ_ _ _ H _ I h=>wpAny_tests_nil ⟨H,I,h⟩
theorem wo5{t:TT}(h:PT X c t):PTs X [c] t:=λpins s σ H Q I hq=>wpAny_tests_one (h pins s σ H Q I hq)
structure wo6(X:Cx)(scope:Scope)(N:List Str)(fr:List (Option Nat)):Prop where
 kind:scope.kind=.function
 nocell:∀y∈scope.names,y.2≠.cell
 names:∀y∈scope.names,y.2=.local->scope.names.lookup y.1=some .local
 free:∀y∈scope.names,y.2=.free->X.env.scope.names.lookup y.1=some .cell\/X.env.scope.names.lookup y.1=some .free
 len:N.length=fr.length
 at_:∀(j i:Nat) (x:Str),fr[j]?=some (some i)->N[j]?=some x->X.N[i]?=some x/\scope.names.lookup x=some .free
noncomputable def zc8(osc:Scope)(ON:List Str)(scope:Scope)(N:List Str)(fr:List (Option Nat)):Bool :=
 decide (scope.kind=.function) && scope.names.all (λy=>decide (y.2≠.cell)) && scope.names.all (λy=>decide (y.2≠.local) || decide (scope.names.lookup y.1=some .local)) &&
 scope.names.all (λy=>decide (y.2≠.free) || decide (osc.names.lookup y.1=some .cell) || decide (osc.names.lookup y.1=some .free)) && decide (N.length=fr.length) &&
 (fr.zip N).all (λp=>match p.1 with|some i=>decide (ON[i]?=some p.2) && decide (scope.names.lookup p.2=some .free)|none=>true)
theorem O6{osc:Scope}{ON:List Str}(h:zc8 osc ON scope N fr=true)(e1:X.env.scope=osc)(e2:X.N=ON):wo6 X scope N fr:=by
 subst e1 e2;unfold zc8 at h;simp only[Bool.and_eq_true,all_eq_true,Bool.or_eq_true,decide_eq_true_eq] at h;obtain⟨⟨⟨⟨⟨h1,h2⟩,h3⟩,h4⟩,h5⟩,h6⟩:=h;refine⟨h1,h2,λy hy e=>(h3 y hy).resolve_left λz=>z e,λy hy e=>?_,h5,λj i x e1 e2=>?_⟩
 ·rcases h4 y hy with(z|z)|z
  ·exact absurd e z
  ·exact .inl z
  ·exact .inr z
 ·have hm:(some i,x)∈fr.zip N:=by
   apply mem_of_getElem? (i:=j);rw[List.getElem?_zip_eq_some];exact⟨e1,e2⟩
  have:=h6 _ hm;simpa using this
def qr9 (fr:List (Option Nat)) (wi:TI) (g:TG) (tt:TT) (te:TE):TE:=λσ H Q=>wi σ H λJ H1 =>
 ∃W:Nat->Nat->List V->Hp->Prop,(∃m,W 0 m [] H1)/\∀i m ys H,W i m ys H->ys.length<=sizeLine /\
  ((J.stop i H/\∀p,H p=none->Q (.ref p) (upd H p (.lst ys))) \/
   (J.go i H/\∃NN:List V->Hp->Prop,(∀ys' H',NN ys' H'->∃m',m'<m/\W (i+1) m' ys' H')/\∀x H',J.yld i H x H'->g x (wk0 fr σ) H' λσ2 H2=>tt σ2 H2 λb H3 =>
    if b=true then te σ2 H3 λy H4=>NN (ys++[y]) H4 else NN ys H3))
structure Aj4(X:Cx)(pins:List (Addr×Obj))(σ:St)(Q:VK)(C D:Addr)(s':Shared):Prop where
 ex:∃(ys:List V) (H:Hp),H D=none/\(∃m,s'.heap.Ns C m)/\D≠C/\C≠X.env.locals/\(∀x c,X.env.cells.lookup x=some c->c≠C)/\(∀p∈X.pn++pins,p.1≠C)/\X.s₀.heap.objs.size<=C/\C∉X.fs /\
  (upd H D (.lst ys)) C=none /\
  (∀h',Heap.SameBut C s'.heap h'->Inv X pins σ (upd H D (.lst ys)) {s' with heap:=h'})/\Q (.ref D) (upd H D (.lst ys))
variable{J:It}{tt:TT}
theorem xq9 {tg:Expr} {cl:List (Str×Addr)} (hcalm:X.calm=true) (S:wo6 X scope N fr) (hclS:∀x c,cl.lookup x=some c->X.env.cells.lookup x=some c) (hclH:∀y∈scope.names,y.2=.free->∃c,cl.lookup y.1=some c) (hg:∀C s₂ H₂ fp pn,PG (blk X N scope cl C s₂ H₂ fp pn) tg g) (hgo:zo0 fr g) (ht:∀C s₂ H₂ fp pn,PTs (blk X N scope cl C s₂ H₂ fp pn) ifs tt) (he:∀C s₂ H₂ fp pn,PE (blk X N scope cl C s₂ H₂ fp pn) elt te) {s2:Shared} {Q:VK} {fp:List Addr} {tn:Nat->Heap->Prop} (I2:Inv X pins σ H2 s2) (T:xj4 X.prog X.w X.K tg J fp it tn) (st2:tn 0 s2.heap) (f2:∀b∈fp,xz5 X pins H2 b) (W:Nat->Nat->List V->Hp->Prop) (w0:∃m,W 0 m [] H2) (turn:∀i m ys H,W i m ys H->ys.length<=sizeLine /\
 ((J.stop i H/\∀p,H p=none->Q (.ref p) (upd H p (.lst ys))) \/
  (J.go i H/\∃NN:List V->Hp->Prop,(∀ys' H',NN ys' H'->∃m',m'<m/\W (i+1) m' ys' H')/\∀x H',J.yld i H x H'->g x (wk0 fr σ) H' λσ2 H2=>tt σ2 H2 λb H3 =>
   if b=true then te σ2 H3 λy H4=>NN (ys++[y]) H4 else NN ys H3))) {RR:Value->Addr->Result->Shared->Prop} (hRR:∀C D s',Aj4 X pins σ Q C D s'->RR (.ref D) C (.ok .next) s') :
 wpAny #[8] X.A (newList []) (λacc s₃=>wpAny #[8] X.A (newFunctionEnv scope X.env.globals cl [] X.env.qual none .none (some X.env)) (λcenv s₄ =>
  codeAny #[8] X.A (.compStart (.ListComp elt [⟨tg,iter,ifs,0⟩] scope pos) 0 (.ref it) acc {cenv with scope:=relabel scope X.env}) (RR acc cenv.locals) s₄) E s₃) E s2:=by
 obtain⟨m0,w0⟩:=w0
 refine wpAny_newObj_type (wpAny_newFunctionEnv S.nocell (by intro y hy;simp at hy) (λh₁ hns₁ hsb₁=>?_) S.kind)
 dsimp only at hns₁ hsb₁ ⊢
 generalize hHH:s2.heap.push {cls:=.type "list",dict:=none,data:=.seq ([]:List Value).toArray}=HH at hns₁ hsb₁ ⊢
 have hC:HH.objs.size=s2.heap.objs.size+1:=by rw[<-hHH,Heap.size_push]
 generalize hDD:s2.heap.objs.size=D at *
 generalize hCC:HH.objs.size=C at *
 have hDlt:Nat.lt D C:=by show D<C;rw[hC];exact Nat.lt_succ_self _
 have hDC:D≠C:=Nat.ne_of_lt hDlt
 have neD:∀{b:Addr},Nat.lt b D->b≠D:=λh=>Nat.ne_of_lt h
 have neC:∀{b:Addr},Nat.lt b D->b≠C:=λh=>Nat.ne_of_lt (Nat.lt_trans h hDlt)
 have below:∀(b:Addr) (o:Obj),s2.heap.get? b=some o->Nat.lt b D:=λb o e=>by rw[<-hDD];exact Heap.lt_size e
 have old:∀b o,s2.heap.get? b=some o->h₁.get? b=some o:=λb o e=>hsb₁.extBut b o (neC (below b o e)) (Heap.get?_push_of_some _ (hHH▸Heap.get?_push_of_some _ e))
 have hacc:h₁.get? D=some {cls:=.type "list",data:=.seq ([]:List Value).toArray}:=hsb₁.extBut _ _ hDC (Heap.get?_push_of_some _ (by rw[<-hHH,<-hDD];exact Heap.get?_push_size _ rfl))
 have Lt:Nat.lt X.env.locals D:=by rw[<-hDD];exact I2.lt
 have cellLt:∀x c,X.env.cells.lookup x=some c->Nat.lt c D:=λx c e=>by
  obtain⟨v,q⟩:=I2.cell x c e;rw[<-hDD];exact q.lt
 have pinLt:∀p∈X.pn++pins,Nat.lt p.1 D:=λp hp=>below p.1 p.2 (I2.pin p hp).1
 have freshH:∀b:Addr,Nat.le D b->H2 b=none:=λb hb=>I2.hok.fresh (by rw[hDD];exact hb)
 let X':Cx:=blk X N scope cl C s2 H2 fp (X.pn++pins)
 have okX:X'.Ok:=by
  refine⟨I2.ok.mod,S.kind,I2.ok.glob,I2.ok.blt,by show s2.heap.objs.size<=C;rw[hDD];exact Nat.le_of_lt hDlt,λx y c e1 e2=>I2.ok.inj x y c (hclS _ _ e1) (hclS _ _ e2),λx hx=>?_,λx c hf _=>(by cases hf),I2.ok.hd,I2.ok.frames,.inl rfl,λb hb=>⟨?_,λx c e=>(f2 b hb).2.2.2.2.1 x c (hclS _ _ e)⟩,I2.bs,Nat.le_trans I2.ok.bsz I2.sz,λb o e hb=>?_,λb hb hm=>?_,I2.stack,I2.stkFree⟩
  ·have hx:(relabel scope X.env).names.lookup x=some .cell\/(relabel scope X.env).names.lookup x=some .free:=hx;have hf:scope.names.lookup x=some .free:=by
    rcases hx with hx|hx
    ·rcases qc5 hx with h|⟨_,h⟩
     ·exact absurd rfl (S.nocell _ (PySem.mem_of_lookup h))
     ·exact h
    ·rcases qc5 hx with h|⟨h,_⟩
     ·exact h
     ·cases h
   exact hclH _ (PySem.mem_of_lookup hf) rfl
  ·obtain⟨o,e,_⟩:=T.obj 0 _ st2 b hb;exact neC (below b o e)
  ·obtain⟨_,_,_,h,_⟩:=f2 b hb;rcases h with h|h
   ·exact I2.ok.noex b o e h
   ·have:=Heap.lt_size (I2.ok.bs b o e).1;exact absurd (Nat.lt_of_lt_of_le this h) (Nat.lt_irrefl _)
  ·rcases mem_cons.mp (I2.stkSub b hm) with h|h
   ·exact(f2 b hb).2.1 h
   ·exact(f2 b hb).2.2.1 h
 have I4:∀tk,0<tk->Inv X' [(D,{cls:=.type "list",data:=.seq ([]:List Value).toArray})] (wk0 fr σ) H2 {s2 with heap:=h₁,toks:=tk}:=λtk htk=>by
  refine⟨okX,rfl,I2.bare,Un.kept old,⟨_,hns₁,λj x v e1 e2 e3=>?_⟩,λx c e=>?_,freshH C (Nat.le_of_lt hDlt),λx c e=>I2.freeC x c (hclS _ _ e),λp hp=>?_,I2.hok.kept old,?_,htk⟩
  ·obtain⟨i,q1,q2⟩:=yo7 e2;obtain⟨a1,a2⟩:=S.at_ j i x q1 e1;obtain⟨m,hn,hl⟩:=I2.loc;have vis:Vis X.env.scope x:=by
    rcases S.free _ (PySem.mem_of_lookup a2) rfl with h|h
    ·exact .inr (.inl h)
    ·exact .inr (.inr h)
   obtain⟨u,r,l⟩:=hl i x v a1 q2 vis;refine⟨u,r,.inr ⟨?_,?_⟩⟩
   ·exact qp0 (env:=X.env) a2
   ·rcases l with⟨hk,_⟩|⟨_,c,hc,hcell⟩
    ·have hk:X.env.scope.names.lookup x=some .local:=hk;rcases S.free _ (PySem.mem_of_lookup a2) rfl with h|h
     ·have h:X.env.scope.names.lookup x=some .cell:=h;rw[hk] at h;cases h
     ·have h:X.env.scope.names.lookup x=some .free:=h;rw[hk] at h;cases h
    ·obtain⟨c',hc'⟩:=hclH _ (PySem.mem_of_lookup a2) rfl;have:c=c':=by
      have:=hclS _ _ hc';rw[hc] at this;exact Option.some.inj this
     subst this;obtain⟨o,ho,hd⟩:=hcell;exact⟨c,hc',o,old c o ho,hd⟩
  ·obtain⟨v,o,ho,hd⟩:=I2.cell x c (hclS _ _ e);exact⟨v,o,old c o ho,hd⟩
  ·rcases mem_append.mp hp with hp|hp
   ·obtain⟨e,n,ne,nf,d⟩:=I2.pin p hp;refine⟨old _ _ e,n,?_,λhm=>?_,d⟩
    ·exact neC (pinLt p hp)
    ·rcases mem_cons.mp (I2.stkSub _ hm) with h|h
     ·exact ne h
     ·exact nf h
   ·have hp:p=(D,{cls:=.type "list",data:=.seq ([]:List Value).toArray}):=by simpa using hp
    subst hp;refine⟨hacc,freshH D #[6],hDC,λhm=>?_,λv z=>by cases z⟩;rcases mem_cons.mp (I2.stkSub _ hm) with h|h
    ·exact neD Lt h.symm
    ·exact I2.nofs (by rw[hDD];exact Nat.le_refl _) h
  ·show(wk0 fr σ).length=N.length;unfold wk0;rw[length_map,S.len]
 have fpLt:∀b∈fp,Nat.lt b D:=λb hb=>by
  obtain⟨o,e,_⟩:=T.obj 0 _ st2 b hb;exact below b o e
 have fpk:∀{H:Hp} {oD:Obj},(∀b∈fp,H b=none)->∀b∈fp,xz5 X' [(D,oD)] H b:=λ{H oD} hn b hb=>by
  refine⟨hn b hb,?_,λhm=>?_,.inl hb,λx c e=>(f2 b hb).2.2.2.2.1 x c (hclS _ _ e),λp hp=>?_⟩
  ·exact neC (fpLt b hb)
  ·rcases mem_cons.mp (I2.stkSub b hm) with h|h
   ·exact(f2 b hb).2.1 h
   ·exact(f2 b hb).2.2.1 h
  ·rcases mem_append.mp hp with hp|hp
   ·exact(f2 b hb).2.2.2.2.2 p hp
   ·have hp:p=(D,oD):=by simpa using hp
    subst hp;exact(neD (fpLt b hb)).symm
 have loop:∀s₃:Shared,s₃={s2 with heap:=h₁,toks:=s2.toks+([]:List (Str×Value)).length} ->
  codeAny #[8] X.A (.compLoop (.ListComp elt [⟨tg,iter,ifs,0⟩] scope pos) 0 (.ref it) (.ref D) (compEnvC scope cl C X.env)) (RR (.ref D) C) s₃:=by
  rintro s₃ rfl
  refine wj9 (λn s'=>∃i ys its k H',Inv X' [(D,({cls:=.type "list",data:=.seq its k}:Obj))] (wk0 fr σ) H' s'/\tn i s'.heap/\(∀b∈fp,H' b=none)/\D3 ys its.toList/\W i n ys H') ?_ m0
   ⟨0,[],#[],_,H2,I4 _ (by first|exact I2.tk|exact Nat.succ_pos _),T.keep 0 _ _ st2 (λb _ o e=>old b o e),λb hb=>(f2 b hb).1,.nil,w0⟩
  rintro n s3 ⟨i,ys,its,k,H3,I3,st3,fr3,vy,w3⟩
  obtain⟨hsz,h⟩:=turn i n ys H3 w3
  rcases h with⟨stop,qn⟩|⟨go,NN,hNN,step⟩
  ·refine noE (thn (T.done X' rfl rfl rfl hcalm i [(D,_)] s3 (wk0 fr σ) H3 _ I3 (fpk fr3) st3 stop) λr s4 zq=>?_)
   obtain⟨hr,I4⟩:=zq
   subst hr
   refine hRR C D s4 ⟨ys,H3,?_⟩
   obtain⟨pD,nD,_,_,_⟩:=I4.pin (D,_) (mem_append_right _ (mem_singleton.mpr rfl))
   have pD:s4.heap.get? D=some {cls:=.type "list",data:=.seq its k}:=pD
   have nD:H3 D=none:=nD
   have nC:H3 C=none:=I4.free
   obtain⟨mC,hnC,_⟩:=I4.loc
   refine⟨nD,⟨mC,hnC⟩,hDC,(neC Lt).symm,λx c e z=>?_,λp hp z=>?_,?_,λhm=>?_,?_,λh' hsb=>?_,qn D nD⟩
   ·exact neC (cellLt x c e) z
   ·exact neC (pinLt p hp) z
   ·have:=I2.sz;rw[hDD] at this;exact Nat.le_trans this (Nat.le_of_lt hDlt)
   ·exact I2.nofs (by rw[hDD];exact Nat.le_of_lt hDlt) hm
   ·rw[A8 (Ne.symm hDC)];exact nC
   ·have un:Un (frs X.stack) fp H2 (upd H3 D (.lst ys)) s2.heap h':=by
     have u:=I4.base;have neC:∀(b:Addr) (o:Obj),s2.heap.get? b=some o->b≠C:=λb o e=>neC (below b o e);have neD:∀(b:Addr) (o:Obj),s2.heap.get? b=some o->b≠D:=λb o e=>neD (below b o e);have trkNe:∀b (o:HO),H3 b=some o->b≠D:=λb o e z=>by rw[z,nD] at e;cases e
     refine⟨λb o e n hb hx=>hsb.extBut b o (neC b o e) (u.keep b o e n hb hx),λb o e n hb hx=>?_,λb o e n hx=>by rw[A8 (neD b o e)];exact u.free b o e n hx,λb o e hx=>?_,λb xs e=>?_,λb o xs e=>?_,λb ps e=>?_⟩
     ·obtain⟨sl,q⟩:=u.slot b o e n hb hx;exact⟨sl,hsb.extBut b _ (neC b o e) q⟩
     ·obtain⟨o',q⟩:=u.there b o e hx;exact⟨o',hsb.extBut b _ (neC b o e) q⟩
     ·have q:=u.tups b xs e;rw[A8 (trkNe b _ q)];exact q
     ·have q:=u.frzs b o xs e;rw[A8 (trkNe b _ q)];exact q
     ·obtain⟨more,q⟩:=u.tbls b ps e;exact⟨more,by rw[A8 (trkNe b _ q)];exact q⟩
    have hok:HOk X.prog X.w (upd H3 D (.lst ys)) h':=λb u e=>by
     by_cases hb:b=D
     ·rw[hb,A2] at e;cases e;rw[hb];exact⟨hsz,its.toList,k,vy,by simpa using hsb.extBut D _ hDC pD⟩
     ·rw[A8 hb] at e;refine(I4.hok b u e).stay (λc v hc q=>hsb.extBut c v ?_ q) (λc q=>?_) λc xs q=>?_
      ·rcases hc with rfl|hc
       ·rintro rfl;rw[nC] at e;cases e
       ·rintro rfl;rw[nC] at hc;cases hc
      ·rw[A8 (U8 q nD)];exact q
      ·rw[A8 (U8 q nD)];exact q
    obtain⟨hh,gg,dd,tt',os'⟩:=s4
    obtain rfl:os'=s2.os:=I4.os
    refine(show Inv X pins σ (upd H3 D (.lst ys)) {s2 with heap:=h',gens:=gg,drawn:=dd,toks:=tt'} from I2.call (h':=h') (g':=gg) (d':=dd) (t':=tt') (ch:=fp) un hok I4.bare λb hb=>?_)
    obtain⟨_,f1,_,f3,f4,f5⟩:=f2 b hb
    exact⟨f3,f1,f4,f5⟩
  ·refine noE (thn (T.item X' rfl rfl rfl hcalm i [(D,_)] s3 (wk0 fr σ) H3 _ I3 (fpk fr3) st3 go) λr s4 zq=>?_)
   obtain⟨u,hr,h4⟩:=zq
   subst hr
   refine noE (thn h4 λ_ s5 zq=>?_)
   obtain⟨x,H5,I5,r5,y5,st5,fr5⟩:=zq
   have I5':=I5.pinned (fpk fr5) (T.obj _ _ st5)
   refine noE (thn (hg C s2 H2 fp (X.pn++pins) _ s5 (wk0 fr σ) H5 x u _ I5' r5 (hgo _ _ _ _ (step x H5 y5))) λ_ s6 zq=>?_)
   obtain⟨σ6,H6,I6,q6,k6⟩:=zq
   refine noE (thn (ht C s2 H2 fp (X.pn++pins) _ s6 σ6 H6 _ I6 q6) λb s7 zq=>?_)
   obtain⟨H7,I7,q7⟩:=zq
   have back:∀{s8:Shared} {H8:Hp},Inv X' ([(D,({cls:=.type "list",data:=.seq its k}:Obj))]++xp9 fp s5.heap) σ6 H8 s8->Inv X' [(D,({cls:=.type "list",data:=.seq its k}:Obj))] (wk0 fr σ) H8 s8/\tn (i+1) s8.heap/\∀b∈fp,H8 b=none:=λ{s8 H8} I8=>by
    refine⟨(I8.unpinned).weak ?_ λj v e=>?_,T.keep _ _ _ st5 λb hb o e=>(I8.pin (b,o) (mem_append_right _ (mem_append_right _ (we0 hb e)))).1,λb hb=>?_⟩
    ·rw[I8.len];show(wk0 fr σ).length=N.length;unfold wk0;rw[length_map,S.len]
    ·obtain⟨i',q1,_⟩:=yo7 e;rw[k6 j i' q1];exact e
    ·obtain⟨o,e,d⟩:=T.obj _ _ st5 b hb;exact(I8.pin (b,o) (mem_append_right _ (mem_append_right _ (we0 hb e)))).2.1
   cases b with
   | false =>
     rw[if_neg Bool.false_ne_true] at q7 ⊢
     obtain⟨m',hm,w7⟩:=hNN _ _ q7
     obtain⟨J1,J2,J3⟩:=back I7
     exact⟨m',hm,i+1,ys,its,k,H7,J1,J2,J3,vy,w7⟩
   | true =>
     rw[if_pos rfl] at q7 ⊢
     refine noE (thn (he C s2 H2 fp (X.pn++pins) _ s7 σ6 H7 _ I7 q7) λy s8 zq=>?_)
     obtain⟨yv,H8,I8,r8,n8⟩:=zq
     obtain⟨m',hm,w8⟩:=hNN _ _ n8
     obtain⟨J1,J2,J3⟩:=back I8
     obtain⟨pD,nD,_,_,_⟩:=J1.pin (D,_) (mem_append_right _ (mem_singleton.mpr rfl))
     have pD:s8.heap.get? D=some {cls:=.type "list",data:=.seq its k}:=pD
     have nD:H8 D=none:=nD
     have hz':its.size<=sizeLine:=by
      have e1:its.size=ys.length:=by rw[vy.length];simp
      rw[e1];exact hsz
     refine wpAny_list_append_plain (hsz:=hz') ⟨k,pD⟩ λh' ⟨k',hl'⟩ hsb=>?_
     ·refine⟨m',hm,i+1,ys++[yv],its.push y,k',H8,?_,T.keep _ _ _ J2 λb hb o e=>?_,J3,?_,w8⟩
      ·have K0:Inv X' [] (wk0 fr σ) H8 s8:=J1.pins_of λp hp=>by cases hp
       have K1:Inv X' [] (wk0 fr σ) H8 {s8 with heap:=h'}:=by
        refine K0.turned (it:=D) (t':=s8.toks) (λb o hb e=>hsb.extBut b o hb e) nD hDC (.inr (by show s2.heap.objs.size<=D;rw[hDD];exact Nat.le_refl _)) (λx c e z=>?_) λp hp z=>?_
        ·exact neD (cellLt x c (hclS _ _ e)) z
        ·have hp:p∈X.pn++pins:=by
          rcases mem_append.mp hp with hp|hp
          ·exact hp
          ·cases hp
         exact neD (pinLt p hp) z
       refine K1.pins_of λp hp=>?_
       have hp:p=(D,({cls:=.type "list",data:=.seq (its.push y) k'}:Obj)):=by simpa using hp
       subst hp
       refine⟨hl',nD,hDC,λhm=>?_,λv z=>by cases z⟩
       rcases mem_cons.mp (I2.stkSub _ hm) with h|h
       ·exact neD Lt h.symm
       ·exact I2.nofs (by rw[hDD];exact Nat.le_refl _) h
      ·exact hsb.extBut b o (neD (fpLt b hb)) e
      ·rw[Array.toList_push]
       exact D3.append vy (.cons r8 .nil)
 exact codeAny_compStart_list (loop _ rfl) (T.self _ 0 _ _ _ (T.keep 0 _ _ st2 λb _ o e=>old b o e) (loop _ rfl))
theorem qv3{tg:Expr}(hcalm:X.calm=true)(S:wo6 X scope N fr)(hi:PI X tg iter wi)(hg:∀cl C s₂ H₂ fp pn,PG (blk X N scope cl C s₂ H₂ fp pn) tg g)(hgo:zo0 fr g)(ht:∀cl C s₂ H₂ fp pn,PTs (blk X N scope cl C s₂ H₂ fp pn) ifs tt)(he:∀cl C s₂ H₂ fp pn,PE (blk X N scope cl C s₂ H₂ fp pn) elt te)(hs:autoParam (∀x,foldedSetIterable iter X.env x=pure x) zAi):PE X (.ListComp elt [⟨tg,iter,ifs,0⟩] scope pos) (qr9 fr wi g tt te):=by
 walk_at"22";obtain⟨cl,hclos,hclS,hclH⟩:=wr8 (env:=X.env) (scope:=scope) λy hy hf=>I.ok.has y.1 (S.free y hy hf);rw[eval_ListComp];refine wpAny_comprehension_free (use:=none) rfl hs hclos S.kind S.names (thn (hi pins s σ H _ I h) λv s1 h1=>thn h1 λitv s2 h2=>?_);obtain⟨it,fp,tn,J,H2,e,I2,T,st2,f2,W,w0,turn⟩:=h2;subst e;refine xq9 (RR:=λacc C=>compPost #[8] X.A X.xe none (EP X pins σ Q) acc C) hcalm S hclS hclH (hg cl) hgo (ht cl) (he cl) I2 T st2 f2 W w0 turn λC D s' B=>?_;obtain⟨ys,H',nD,hC,_,_,_,_,_,_,_,hI,q⟩:=B.ex;obtain⟨m,hn⟩:=hC;exact⟨m,hn,λh' hs'=>⟨.ref D,_,hI h' hs',rfl,q⟩⟩
theorem xo5{tg:Expr}{spos py:Pos}{i:Nat}{y:Str}(hN:X.N.Nodup)(hy:X.N[i]?=some y)(hly:X.env.scope.names.lookup y=some .local)(hcalm:X.calm=true)(S:wo6 X scope N fr)(hi:PI X tg iter wi)(hg:∀cl C s₂ H₂ fp pn,PG (blk X N scope cl C s₂ H₂ fp pn) tg g)(hgo:zo0 fr g)(ht:∀cl C s₂ H₂ fp pn,PTs (blk X N scope cl C s₂ H₂ fp pn) ifs tt)(he:∀cl C s₂ H₂ fp pn,PE (blk X N scope cl C s₂ H₂ fp pn) elt te)(hsw:autoParam (swapsWith (.ListComp elt [⟨tg,iter,ifs,0⟩] scope pos) (some (.Name y py)) spos.line X.env=pure true) zAr)(hs:autoParam (∀x,foldedSetIterable iter X.env x=pure x) zAi):PS X (.Assign [.Name y py] (.ListComp elt [⟨tg,iter,ifs,0⟩] scope pos) spos) (B8 (qr9 fr wi g tt te) (A6 i)):=by
 intro pins s σ H D I h;obtain⟨cl,hclos,hclS,hclH⟩:=wr8 (env:=X.env) (scope:=scope) λy hy hf=>I.ok.has y.1 (S.free y hy hf);rw[exec_Assign_Name_used _ _ _ _ hsw];refine wpAny_bind (wpAny_standAt (wpAny_bind ?_));show wpAny _ X.A (do let _<-comprehension (.ListComp elt [⟨tg,iter,ifs,0⟩] scope pos) scope X.env _ (newList []) false (eval iter X.env) (some (assign (.Name y py) X.env))) _ _ s;refine wpAny_bind (wpAny_mono (wpAny_comprehension_free (use:=some (assign (.Name y py) X.env)) (Q:=λ_ s'=>SP X pins D .next s') rfl hs hclos S.kind S.names
  (thn (hi pins s σ H _ I h) λv s1 h1=>thn h1 λitv s2 h2=>?_)) (λ_ s' hq=>wpAny_pure (wpAny_pure hq)) λ_ _ e=>e);obtain⟨it,fp,tn,J,H2,e,I2,T,st2,f2,W,w0,turn⟩:=h2;subst e;refine xq9 (Q:=λx H1=>A6 i x σ H1 D.nx) (RR:=λacc C=>compPost #[8] X.A X.xe (some (assign (.Name y py) X.env)) (λ_ s'=>SP X pins D .next s') acc C) hcalm S hclS hclH (hg cl) hgo (ht cl) (he cl) I2 T st2 f2 W w0 turn λC D' s' B=>?_;obtain⟨ys,H',nD,hC,hDC,hCL,hCc,hCp,hCs,hCf,hCn,hI,q⟩:=B.ex;obtain⟨m,hn⟩:=hC;have I1:Inv X pins σ (upd H' D' (.lst ys)) s':=by
  have:=hI s'.heap (.refl ..);obtain⟨hh,gg,dd,tt',os'⟩:=s';exact this
 show wpAny _ X.A (assign (.Name y py) X.env (.ref D')) _ _ _;refine wpAny_assign_Name (yc8 I1 hN hy (.inl hly) (v:=.ref D') rfl (λs2 I3 zq=>?_) (.inr hly));obtain⟨a,sb,ha⟩:=zq;have hCa:C≠a:=by
  rcases ha with rfl|ha
  ·exact hCL
  ·exact λz=>hCc y a ha z.symm
 refine⟨m,hn.sameBut sb hCa,λh3 hs3=>?_⟩;exact⟨_,_,I3.turned (it:=C) (t':=s2.toks) (λb o hb e=>hs3.extBut b o hb e) hCn hCL (.inr hCs) hCc hCp,q⟩
mutual
def Dv(K:Fg)(H:Hp):PyData->V->Prop
 | .none,v=>v=.non
 | .bool b,v=>v=.bl b
 | .int i,v=>v=.int i
 | .str x,v=>v=.str x
 | .list ds,v=>∃a vs,v=.ref a/\SqL K H a vs/\Dvs K H ds vs
 | .tuple ds,v=>∃a vs,v=.ref a/\SqT K H a vs/\Dvs K H ds vs
 | .dict _,_=>False
def Dvs(K:Fg)(H:Hp):List PyData->List V->Prop
 | [],vs=>vs=[]
 | d::ds,vs=>∃v r,vs=v::r/\Dv K H d v/\Dvs K H ds r
end
theorem Dvs.length:∀{ds:List PyData} {vs:List V},Dvs K H ds vs->vs.length=ds.length
 | [],_,h=>by rw[Dvs] at h;subst h;rfl
 | d::ds,_,h=>by
   rw[Dvs] at h;obtain⟨v,r,rfl,_,h⟩:=h;rw[length_cons,length_cons,Dvs.length h]
theorem Dvs.get:∀{ds:List PyData} {vs:List V} {i:Nat} {d:PyData},Dvs K H ds vs->ds[i]?=some d->∃v,vs[i]?=some v/\Dv K H d v
 | [],_,_,_,_,e=>by simp at e
 | d::ds,_,0,_,h,e=>by
   rw[Dvs] at h;obtain⟨v,r,rfl,h,_⟩:=h;cases e;exact⟨v,rfl,h⟩
 | d::ds,_,i+1,_,h,e=>by
   rw[Dvs] at h;obtain⟨v,r,rfl,_,h⟩:=h;exact Dvs.get (i:=i) h (by simpa using e)
theorem Dvs.get':∀{ds:List PyData} {vs:List V} {i:Nat} {v:V},Dvs K H ds vs->vs[i]?=some v->∃d,ds[i]?=some d/\Dv K H d v
 | [],_,_,_,h,e=>by rw[Dvs] at h;subst h;simp at e
 | d::ds,_,0,_,h,e=>by
   rw[Dvs] at h;obtain⟨v,r,rfl,h,_⟩:=h;cases e;exact⟨d,rfl,h⟩
 | d::ds,_,i+1,_,h,e=>by
   rw[Dvs] at h;obtain⟨v,r,rfl,_,h⟩:=h;exact Dvs.get' (i:=i) h (by simpa using e)
theorem Dvs.append:∀{ds es:List PyData} {vs ws:List V},Dvs K H ds vs->Dvs K H es ws->Dvs K H (ds++es) (vs++ws)
 | [],_,_,_,h,g=>by rw[Dvs] at h;subst h;exact g
 | d::ds,es,_,_,h,g=>by
   rw[Dvs] at h;obtain⟨v,r,rfl,h1,h⟩:=h;show Dvs K H (d::(ds++es)) _;rw[Dvs];exact⟨v,r++_,rfl,h1,Dvs.append h g⟩
theorem E4:Dvs K H [] []:=by rw[Dvs]
variable{ds:List PyData}
theorem C0{d:PyData}(h:Dv K H d v)(t:Dvs K H ds vs):Dvs K H (d::ds) (v::vs):=by rw[Dvs];exact⟨v,vs,rfl,h,t⟩
theorem ww4:Dv K H .none v↔v=.non:=by rw[Dv]
theorem ww5{b:Bool}:Dv K H (.bool b) v↔v=.bl b:=by rw[Dv]
theorem J7:Dv K H (.int i) v↔v=.int i:=by rw[Dv]
theorem D6:Dv K H (.str x) v↔v=.str x:=by rw[Dv]
theorem Z7:Dv K H (.list ds) v↔∃a vs,v=.ref a/\SqL K H a vs/\Dvs K H ds vs:=by rw[Dv]
theorem C6:Dv K H (.tuple ds) v↔∃a vs,v=.ref a/\SqT K H a vs/\Dvs K H ds vs:=by rw[Dv]
noncomputable def sDa(xs:List Str):List PyData:=xs.map .str
noncomputable def B0(xs:List Str):List V:=xs.map .str
theorem qp7:∀{xs:List Str} {vs:List V},Dvs K H (sDa xs) vs↔vs=B0 xs
 | [],_=>by show Dvs K H [] _↔_=[];rw[Dvs]
 | x::xs,vs=>by
   show Dvs K H (.str x::sDa xs) vs↔vs=V.str x::B0 xs;rw[Dvs];constructor
   ·rintro⟨v,r,rfl,h1,h2⟩;rw[D6.mp h1,qp7.mp h2]
   ·rintro rfl;exact⟨_,_,rfl,D6.mpr rfl,qp7.mpr rfl⟩
def R6(H H':Hp):Prop:=(∀b xs,H b=some (.tup xs)->H' b=some (.tup xs))/\∀b o xs,H b=some (.frz o (.tup xs))->H' b=some (.frz o (.tup xs))
theorem A3.tupK(h:A3 H H'):R6 H H':=⟨λb xs e=>h b _ e,λb o xs e=>h b _ e⟩
theorem R6.refl(H:Hp):R6 H H:=⟨λ_ _ e=>e,λ_ _ _ e=>e⟩
theorem R6.trans(a:R6 H H1)(b:R6 H1 H2):R6 H H2:=⟨λc xs e=>b.1 c xs (a.1 c xs e),λc o xs e=>b.2 c o xs (a.2 c o xs e)⟩
theorem R6.sqT(e:R6 H H')(h:SqT K H a xs):SqT K H' a xs:=by
 rcases h with(h|⟨o,h⟩)|h
 ·exact .inl (.inl (e.1 _ _ h))
 ·exact .inl (.inr ⟨o,e.2 _ _ _ h⟩)
 ·exact .inr h
theorem A3.sqT(e:A3 H H')(h:SqT K H a xs):SqT K H' a xs:=e.tupK.sqT h
theorem A3.sqL(e:A3 H H')(h:SqL K H a xs):SqL K H' a xs:=e.seq h
theorem A3.new(h:H p=none)(o:HO):A3 H (upd H p o):=λb u q=>by rw[A8 (U8 q h)];exact q
def But(ps:List Addr)(H H':Hp):Prop:=∀b o,H b=some o->b∉ps->H' b=some o
theorem But.refl(ps:List Addr)(H:Hp):But ps H H:=λ_ _ e _=>e
mutual
/-- data without lists -/
noncomputable def fix:PyData->Bool
 | .none=>true | .bool _=>true | .int _=>true | .str _=>true
 | .list _=>false
 | .tuple ds=>L6 ds
 | .dict _=>false
noncomputable def L6:List PyData->Bool
 | []=>true
 | d::ds=>fix d && L6 ds
end
mutual
theorem Dv.tupK{K:Fg}{H H':Hp}(k:R6 H H'):∀(d:PyData) (v:V),fix d=true->Dv K H d v->Dv K H' d v
 | .none,_,_,h=>ww4.mpr (ww4.mp h)
 | .bool _,_,_,h=>ww5.mpr (ww5.mp h)
 | .int _,_,_,h=>J7.mpr (J7.mp h)
 | .str _,_,_,h=>D6.mpr (D6.mp h)
 | .list _,_,f,_=>by rw[fix] at f;cases f
 | .tuple ds,v,f,h=>by
   rw[fix] at f;obtain⟨a,vs,rfl,hq,h⟩:=C6.mp h;exact C6.mpr ⟨a,vs,rfl,k.sqT hq,Dvs.tupK k ds vs f h⟩
 | .dict _,_,f,_=>by rw[fix] at f;cases f
theorem Dvs.tupK{K:Fg}{H H':Hp}(k:R6 H H'):∀(ds:List PyData) (vs:List V),L6 ds=true->Dvs K H ds vs->Dvs K H' ds vs
 | [],_,_,h=>by rw[Dvs] at h ⊢;exact h
 | d::ds,vs,f,h=>by
   rw[L6,Bool.and_eq_true] at f;rw[Dvs] at h ⊢;obtain⟨v,r,e,h1,h2⟩:=h;exact⟨v,r,e,Dv.tupK k d v f.1 h1,Dvs.tupK k ds r f.2 h2⟩
end
mutual
theorem Dv.same{K:Fg}{H H':Hp}(k:A3 H H'):∀(d:PyData) (v:V),Dv K H d v->Dv K H' d v
 | .none,_,h=>ww4.mpr (ww4.mp h)
 | .bool _,_,h=>ww5.mpr (ww5.mp h)
 | .int _,_,h=>J7.mpr (J7.mp h)
 | .str _,_,h=>D6.mpr (D6.mp h)
 | .list ds,v,h=>by
   obtain⟨a,vs,rfl,hq,h⟩:=Z7.mp h;exact Z7.mpr ⟨a,vs,rfl,k.sqL hq,Dvs.same k ds vs h⟩
 | .tuple ds,v,h=>by
   obtain⟨a,vs,rfl,hq,h⟩:=C6.mp h;exact C6.mpr ⟨a,vs,rfl,k.sqT hq,Dvs.same k ds vs h⟩
 | .dict _,_,h=>by rw[Dv] at h;exact h.elim
theorem Dvs.same{K:Fg}{H H':Hp}(k:A3 H H'):∀(ds:List PyData) (vs:List V),Dvs K H ds vs->Dvs K H' ds vs
 | [],_,h=>by rw[Dvs] at h ⊢;exact h
 | d::ds,vs,h=>by
   rw[Dvs] at h ⊢;obtain⟨v,r,e,h1,h2⟩:=h;exact⟨v,r,e,Dv.same k d v h1,Dvs.same k ds r h2⟩
end
mutual
theorem Dv.reads{X:Cx}{pins:List (Addr×Obj)}{σ:St}{H:Hp}{s:Shared}(I:Inv X pins σ H s):∀(d:PyData) (v:V) (u:Value),Dv X.K H d v->D8 v u->∃as,Reads s.heap u d as
 | .none,_,_,h,r=>by rw[ww4.mp h] at r;cases r;exact⟨_,.none⟩
 | .bool b,_,_,h,r=>by rw[ww5.mp h] at r;cases r;exact⟨_,.bool b⟩
 | .int i,_,_,h,r=>by rw[J7.mp h] at r;obtain⟨t,rfl⟩:=r;exact⟨_,.int i t⟩
 | .str x,_,_,h,r=>by rw[D6.mp h] at r;obtain⟨t,rfl⟩:=r;exact⟨_,.str x t⟩
 | .list ds,_,_,h,r=>by
   obtain⟨a,vs,rfl,hq,h⟩:=Z7.mp h;cases r;obtain⟨its,rv,pl,_⟩:=I.list hq;obtain⟨o,e,c,n,d⟩:=pl.isList;obtain⟨as,ra⟩:=Dvs.reads I ds vs its h rv;exact⟨_,.list e c d (by simpa using ra)⟩
 | .tuple ds,_,_,h,r=>by
   obtain⟨a,vs,rfl,hq,h⟩:=C6.mp h;cases r;obtain⟨its,rv,pl,_⟩:=I.tuple hq;obtain⟨o,e,c,n,d⟩:=pl;obtain⟨as,ra⟩:=Dvs.reads I ds vs its h rv;exact⟨_,.tuple e c d (by simpa using ra)⟩
 | .dict _,_,_,h,_=>by rw[Dv] at h;exact h.elim
theorem Dvs.reads{X:Cx}{pins:List (Addr×Obj)}{σ:St}{H:Hp}{s:Shared}(I:Inv X pins σ H s):∀(ds:List PyData) (vs:List V) (us:List Value),Dvs X.K H ds vs->D3 vs us->∃as,ReadsAll s.heap us ds as
 | [],_,_,h,r=>by rw[Dvs] at h;subst h;cases r;exact⟨_,.nil⟩
 | d :: ds,_,_,h,r=>by
   rw[Dvs] at h;obtain⟨v,r',rfl,h1,h2⟩:=h;cases r with
   | cons r1 r2 =>
     obtain⟨as,a1⟩:=Dv.reads I d v _ h1 r1
     obtain⟨bs,a2⟩:=Dvs.reads I ds r' _ h2 r2
     exact⟨_,.cons a1 a2⟩
end
open PySem.SeqAt
mutual
noncomputable def nd:PyData->Bool
 | .none=>true | .bool _=>true | .int _=>true | .str _=>true
 | .list ds=>nds ds
 | .tuple ds=>nds ds
 | .dict _=>false
noncomputable def nds:List PyData->Bool
 | []=>true
 | d::ds=>nd d && nds ds
end
mutual
theorem Dv.nd{K:Fg}{H:Hp}:∀(d:PyData) (v:V),Dv K H d v->nd d=true
 | .none,_,_=>by rw[L2.nd]
 | .bool _,_,_=>by rw[L2.nd]
 | .int _,_,_=>by rw[L2.nd]
 | .str _,_,_=>by rw[L2.nd]
 | .list ds,_,h=>by
   obtain⟨a,vs,_,_,h⟩:=Z7.mp h;rw[L2.nd];exact Dvs.nd ds vs h
 | .tuple ds,_,h=>by
   obtain⟨a,vs,_,_,h⟩:=C6.mp h;rw[L2.nd];exact Dvs.nd ds vs h
 | .dict _,_,h=>by rw[Dv] at h;exact h.elim
theorem Dvs.nd{K:Fg}{H:Hp}:∀(ds:List PyData) (vs:List V),Dvs K H ds vs->nds ds=true
 | [],_,_=>by rw[nds]
 | d::ds,vs,h=>by
   rw[Dvs] at h;obtain⟨v,r,_,h1,h2⟩:=h;rw[nds,Dv.nd d v h1,Dvs.nd ds r h2];rfl
end
mutual
theorem xr0{h:Heap}:∀(d d':PyData) (v:Value) (as as':List Addr),nd d=true->Reads h v d as->Reads h v d' as'->d=d'
 | .none,_,_,_,_,_,r,q=>by cases r;cases q;rfl
 | .bool _,_,_,_,_,_,r,q=>by cases r;cases q;rfl
 | .int _,_,_,_,_,_,r,q=>by cases r;cases q;rfl
 | .str _,_,_,_,_,_,r,q=>by cases r;cases q;rfl
 | .dict _,_,_,_,_,n,_,_=>by rw[L2.nd] at n;cases n
 | .list xs,d',_,_,_,n,r,q=>by
   rw[L2.nd] at n;cases r with
   | list a1 a2 a3 a4 =>
     cases q with
     | list b1 b2 b3 b4=>rw[a1] at b1;cases b1;rw[a3] at b3;cases b3;rw[xc8 xs _ _ _ _ n a4 b4]
     | tuple b1 b2 b3 b4=>rw[a1] at b1;cases b1;rw[a2] at b2;exact absurd b2 (by simp)
     | dict b1 b2=>rw[a1] at b1;cases b1;rw[a2] at b2;exact absurd b2 (by simp)
 | .tuple xs,d',_,_,_,n,r,q=>by
   rw[L2.nd] at n;cases r with
   | tuple a1 a2 a3 a4 =>
     cases q with
     | tuple b1 b2 b3 b4=>rw[a1] at b1;cases b1;rw[a3] at b3;cases b3;rw[xc8 xs _ _ _ _ n a4 b4]
     | list b1 b2 b3 b4=>rw[a1] at b1;cases b1;rw[a2] at b2;exact absurd b2 (by simp)
     | dict b1 b2=>rw[a1] at b1;cases b1;rw[a2] at b2;exact absurd b2 (by simp)
theorem xc8{h:Heap}:∀(xs ys:List PyData) (vs:List Value) (as as':List Addr),nds xs=true->ReadsAll h vs xs as->ReadsAll h vs ys as'->xs=ys
 | [],_,_,_,_,_,r,q=>by cases r;cases q;rfl
 | x :: xs,_,_,_,_,n,r,q=>by
   rw[nds,Bool.and_eq_true] at n;cases r with
   | cons r1 r2 =>
     cases q with
     | cons q1 q2=>rw[xr0 x _ _ _ _ n.1 r1 q1,xc8 xs _ _ _ _ n.2 r2 q2]
end
mutual
theorem wk1:∀d:PyData,nd d=true->PyData.eqv d d=true
 | .none,_=>rfl
 | .bool b,_=>by simp[PyData.eqv]
 | .int i,_=>by simp[PyData.eqv]
 | .str x,_=>by simp[PyData.eqv]
 | .list xs,h=>by rw[PyData.eqv];rw[L2.nd] at h;exact xc9 xs h
 | .tuple xs,h=>by rw[PyData.eqv];rw[L2.nd] at h;exact xc9 xs h
 | .dict _,h=>by rw[L2.nd] at h;cases h
theorem xc9:∀xs:List PyData,nds xs=true->PyData.eqvAll xs xs=true
 | [],_=>rfl
 | x::xs,h=>by
   rw[nds,Bool.and_eq_true] at h;rw[PyData.eqvAll,wk1 x h.1,xc9 xs h.2];rfl
end
theorem G4{h:Heap}:∀{xs:List PyData} {vs:List Value} {as:List Addr},ReadsAll h vs xs as->vs.length=xs.length
 | [],_,_,r=>by cases r;rfl
 | _::xs,_,_,r=>by
   cases r with
   | cons _ r'=>rw[length_cons,length_cons,G4 r']
mutual
theorem zo1:∀(da db:PyData) (A:Around) (s:Shared) (a b:Value) (as bs:List Addr),Reads s.heap a da as->Reads s.heap b db bs->nd da=true->nd db=true->A.units+min da.depth db.depth<cLine->EqAt A s a b (PyData.eqv da db)
 | .none,db,A,s,_,_,_,_,ra,rb,_,hb,hu=>by
   cases ra;cases rb with
   | none=>exact EqAt.same _
   | bool y=>exact EqAt.none_bool y
   | int y u=>exact EqAt.none_int y u
   | str y u=>exact EqAt.none_str y u
   | list k1 k2 k3 k4=>exact EqAt.none_list ⟨_,k1,k2,_,k3⟩ #[9]
   | tuple k1 k2 k3 k4=>exact EqAt.none_tuple ⟨_,k1,k2,_,k3⟩ #[9]
   | dict=>rw[L2.nd] at hb;cases hb
 | .bool x,db,A,s,_,_,_,_,ra,rb,_,hb,hu=>by
   cases ra;cases rb with
   | none=>exact EqAt.bool_none x
   | bool y=>exact EqAt.bool_bool x y
   | int y u=>exact EqAt.bool_int x y u
   | str y u=>exact EqAt.bool_str x y u
   | list k1 k2 k3 k4=>exact EqAt.bool_list x ⟨_,k1,k2,_,k3⟩ #[9]
   | tuple k1 k2 k3 k4=>exact EqAt.bool_tuple x ⟨_,k1,k2,_,k3⟩ #[9]
   | dict=>rw[L2.nd] at hb;cases hb
 | .int x,db,A,s,_,_,_,_,ra,rb,_,hb,hu=>by
   cases ra;cases rb with
   | none=>exact EqAt.int_none x _
   | bool y=>exact EqAt.int_bool x _ y
   | int y u=>exact EqAt.int_int x _ y u
   | str y u=>exact EqAt.int_str x _ y u
   | list k1 k2 k3 k4=>exact EqAt.int_list x _ ⟨_,k1,k2,_,k3⟩ #[9]
   | tuple k1 k2 k3 k4=>exact EqAt.int_tuple x _ ⟨_,k1,k2,_,k3⟩ #[9]
   | dict=>rw[L2.nd] at hb;cases hb
 | .str x,db,A,s,_,_,_,_,ra,rb,_,hb,hu=>by
   cases ra;cases rb with
   | none=>exact EqAt.str_none x _
   | bool y=>exact EqAt.str_bool x _ y
   | int y u=>exact EqAt.str_int x _ y u
   | str y u=>exact EqAt.str_str x _ y u
   | list k1 k2 k3 k4=>exact EqAt.str_list x _ ⟨_,k1,k2,_,k3⟩ #[9]
   | tuple k1 k2 k3 k4=>exact EqAt.str_tuple x _ ⟨_,k1,k2,_,k3⟩ #[9]
   | dict=>rw[L2.nd] at hb;cases hb
 | .list xs,db,A,s,_,_,_,_,ra,rb,ha,hb,hu=>by
   have ra0:=ra;have rb0:=rb;cases ra with
   | @list l o1 vs1 n1 xs as h1 h2 h3 h4 =>
     cases rb with
     | none=>exact EqAt.list_none ⟨_,h1,h2,_,h3⟩ #[9]
     | bool y=>exact EqAt.list_bool y ⟨_,h1,h2,_,h3⟩ #[9]
     | int y u=>exact EqAt.list_int y u ⟨_,h1,h2,_,h3⟩ #[9]
     | str y u=>exact EqAt.list_str y u ⟨_,h1,h2,_,h3⟩ #[9]
     | tuple k1 k2 k3 k4=>exact EqAt.list_tuple ⟨_,h1,h2,_,h3⟩ ⟨_,k1,k2,_,k3⟩ #[9]
     | @list b o vs2 n2 ys bs k1 k2 k3 k4 =>
       by_cases e:l=b
       ·subst e
        rw[xr0 _ _ _ _ _ ha ra0 rb0,wk1 _ hb]
        exact EqAt.same _
       ·refine EqAt.of_refs e ?_
        have l1:=G4 h4
        have l2:=G4 k4
        rw[L2.nd] at ha hb
        by_cases hz:xs.length=ys.length
        ·have:=RcAt.lists (A:=A) (s:=s) (e:=pairEq xs ys) ⟨_,h1,h2,_,h3⟩ ⟨_,k1,k2,_,k3⟩ (by simp at l1 l2;omega) #[9] (λj h1 h2=>by have q:=qe9 xs ys A.in1 s _ _ _ _ h4 k4 ha hb (room_in (by rw[PyData.depth,PyData.depth] at hu;exact hu)) j (by simpa using h1) (by simpa using h2);rw[Array.getElem_toList,Array.getElem_toList] at q;exact q)
         rw[show PyData.eqv (.list xs) (.list ys)=PyData.eqvAll xs ys by rw[PyData.eqv],<-eqvAll_same_length hz]
         have e1:vs1.size=xs.length:=by simpa using l1
         rw[e1] at this
         exact this
        ·rw[show PyData.eqv (.list xs) (.list ys)=PyData.eqvAll xs ys by rw[PyData.eqv],eqvAll_other_length hz]
         exact RcAt.lists_lengths ⟨_,h1,h2,_,h3⟩ ⟨_,k1,k2,_,k3⟩ (by simp at l1 l2;simp;omega) #[9]
     | dict=>rw[L2.nd] at hb;cases hb
 | .tuple xs,db,A,s,_,_,_,_,ra,rb,ha,hb,hu=>by
   have ra0:=ra;have rb0:=rb;cases ra with
   | @tuple l o1 vs1 n1 xs as h1 h2 h3 h4 =>
     cases rb with
     | none=>exact EqAt.tuple_none ⟨_,h1,h2,_,h3⟩ #[9]
     | bool y=>exact EqAt.tuple_bool y ⟨_,h1,h2,_,h3⟩ #[9]
     | int y u=>exact EqAt.tuple_int y u ⟨_,h1,h2,_,h3⟩ #[9]
     | str y u=>exact EqAt.tuple_str y u ⟨_,h1,h2,_,h3⟩ #[9]
     | list k1 k2 k3 k4=>exact EqAt.tuple_list ⟨_,h1,h2,_,h3⟩ ⟨_,k1,k2,_,k3⟩ #[9]
     | @tuple b o vs2 n2 ys bs k1 k2 k3 k4 =>
       by_cases e:l=b
       ·subst e
        rw[xr0 _ _ _ _ _ ha ra0 rb0,wk1 _ hb]
        exact EqAt.same _
       ·refine EqAt.of_refs e ?_
        have l1:=G4 h4
        have l2:=G4 k4
        rw[L2.nd] at ha hb
        have:=RcAt.tuples (A:=A) (s:=s) (e:=pairEq xs ys) ⟨_,h1,h2,_,h3⟩ ⟨_,k1,k2,_,k3⟩ #[9] (λj h1 h2=>by have q:=qe9 xs ys A.in1 s _ _ _ _ h4 k4 ha hb (room_in (by rw[PyData.depth,PyData.depth] at hu;exact hu)) j (by simpa using h1) (by simpa using h2);rw[Array.getElem_toList,Array.getElem_toList] at q;exact q)
        rw[show PyData.eqv (.tuple xs) (.tuple ys)=PyData.eqvAll xs ys by rw[PyData.eqv],<-eqvAll_eq xs ys]
        have e1:vs1.size=xs.length:=by simpa using l1
        have e2:vs2.size=ys.length:=by simpa using l2
        rw[e1,e2] at this
        exact this
     | dict=>rw[L2.nd] at hb;cases hb
 | .dict _,_,_,_,_,_,_,_,_,_,ha,_,_=>by rw[L2.nd] at ha;cases ha
theorem qe9:∀(xs ys:List PyData) (A:Around) (s:Shared) (us ws:List Value) (as bs:List Addr),ReadsAll s.heap us xs as->ReadsAll s.heap ws ys bs->nds xs=true->nds ys=true->A.units+min (PyData.depthAll xs) (PyData.depthAll ys)<cLine ->
 ∀j (h1:j<us.length) (h2:j<ws.length),EqAt A s us[j] ws[j] (pairEq xs ys j)
 | [],_,_,_,_,_,_,_,r,_,_,_,_=>by cases r;intro j h1;simp at h1
 | x :: xs,ys,A,s,_,ws,_,_,r,q,ha,hb,hu=>by
   cases r with
   | @cons u us d ds as1 as2 r1 r2 =>
     cases q with
     | nil=>intro j h1 h2;simp at h2
     | @cons w ws y ys bs1 bs2 q1 q2 =>
       rw[nds,Bool.and_eq_true] at ha hb
       rw[PyData.depthAll,PyData.depthAll] at hu
       intro j h1 h2
       cases j with
       | zero=>exact zo1 x y A s u w _ _ r1 q1 ha.1 hb.1 (room_head hu)
       | succ j =>
         exact qe9 xs ys A s us ws _ _ r2 q2 ha.2 hb.2 (room_tail hu) j (by simpa using h1) (by simpa using h2)
end
variable{db:PyData}
theorem Aj5{da:PyData}{a b:Value}{bs:List Addr}(ra:Reads s.heap a da as)(rb:Reads s.heap b db bs)(ha:nd da=true)(hb:nd db=true)(hu:A.units+min da.depth db.depth<cLine):RcAt A s a b (PyData.eqv da db):=by
 cases ra with
 | none =>
   cases rb with
   | none=>exact RcAt.none_none
   | bool y=>exact RcAt.none_bool y
   | int y u=>exact RcAt.none_int y u
   | str y u=>exact RcAt.none_str y u
   | @list l2 o2 ws n2 ys bs k1 k2 k3 k4=>exact RcAt.none_list ⟨_,k1,k2,_,k3⟩ #[9]
   | @tuple l2 o2 ws n2 ys bs k1 k2 k3 k4=>exact RcAt.none_tuple ⟨_,k1,k2,_,k3⟩ #[9]
   | dict=>rw[L2.nd] at hb;cases hb
 | bool x =>
   cases rb with
   | none=>exact RcAt.bool_none x
   | bool y=>exact RcAt.bool_bool x y
   | int y u=>exact RcAt.bool_int x y u
   | str y u=>exact RcAt.bool_str x y u
   | @list l2 o2 ws n2 ys bs k1 k2 k3 k4=>exact RcAt.bool_list x ⟨_,k1,k2,_,k3⟩ #[9]
   | @tuple l2 o2 ws n2 ys bs k1 k2 k3 k4=>exact RcAt.bool_tuple x ⟨_,k1,k2,_,k3⟩ #[9]
   | dict=>rw[L2.nd] at hb;cases hb
 | int x t =>
   cases rb with
   | none=>exact RcAt.int_none x t
   | bool y=>exact RcAt.int_bool x t y
   | int y u=>exact RcAt.int_int x t y u
   | str y u=>exact RcAt.int_str x t y u
   | @list l2 o2 ws n2 ys bs k1 k2 k3 k4=>exact RcAt.int_list x t ⟨_,k1,k2,_,k3⟩ #[9]
   | @tuple l2 o2 ws n2 ys bs k1 k2 k3 k4=>exact RcAt.int_tuple x t ⟨_,k1,k2,_,k3⟩ #[9]
   | dict=>rw[L2.nd] at hb;cases hb
 | str x t =>
   cases rb with
   | none=>exact RcAt.str_none x t
   | bool y=>exact RcAt.str_bool x t y
   | int y u=>exact RcAt.str_int x t y u
   | str y u=>exact RcAt.str_str x t y u
   | @list l2 o2 ws n2 ys bs k1 k2 k3 k4=>exact RcAt.str_list x t ⟨_,k1,k2,_,k3⟩ #[9]
   | @tuple l2 o2 ws n2 ys bs k1 k2 k3 k4=>exact RcAt.str_tuple x t ⟨_,k1,k2,_,k3⟩ #[9]
   | dict=>rw[L2.nd] at hb;cases hb
 | @list l o vs n xs as h1 h2 h3 h4 =>
   cases rb with
   | none=>exact RcAt.list_none ⟨_,h1,h2,_,h3⟩ #[9]
   | bool y=>exact RcAt.list_bool y ⟨_,h1,h2,_,h3⟩ #[9]
   | int y u=>exact RcAt.list_int y u ⟨_,h1,h2,_,h3⟩ #[9]
   | str y u=>exact RcAt.list_str y u ⟨_,h1,h2,_,h3⟩ #[9]
   | @list l2 o2 ws n2 ys bs k1 k2 k3 k4 =>
     walk_at"8"
     have hi:∀j (h1:j<vs.size) (h2:j<ws.size),EqAt A.in1 s vs[j] ws[j] (pairEq xs ys j):=λj h1 h2=>by
      walk_at"5"
     have hu':A.units<cLine:=room_here hu
     rw[show PyData.eqv (.list xs) (.list ys)=PyData.eqvAll xs ys by rw[PyData.eqv]]
     by_cases hz:xs.length=ys.length
     ·have q:=RcAt.lists (A:=A) (s:=s) (e:=pairEq xs ys) ⟨_,h1,h2,_,h3⟩ ⟨_,k1,k2,_,k3⟩ #[0] hu' hi
      rw[l1,eqvAll_same_length hz] at q
      exact q
     ·rw[eqvAll_other_length hz]
      exact RcAt.lists_lengths ⟨_,h1,h2,_,h3⟩ ⟨_,k1,k2,_,k3⟩ (by simp;omega) hu'
   | @tuple l2 o2 ws n2 ys bs k1 k2 k3 k4=>exact RcAt.list_tuple ⟨_,h1,h2,_,h3⟩ ⟨_,k1,k2,_,k3⟩ #[9]
   | dict=>rw[L2.nd] at hb;cases hb
 | @tuple l o vs n xs as h1 h2 h3 h4 =>
   cases rb with
   | none=>exact RcAt.tuple_none ⟨_,h1,h2,_,h3⟩ #[9]
   | bool y=>exact RcAt.tuple_bool y ⟨_,h1,h2,_,h3⟩ #[9]
   | int y u=>exact RcAt.tuple_int y u ⟨_,h1,h2,_,h3⟩ #[9]
   | str y u=>exact RcAt.tuple_str y u ⟨_,h1,h2,_,h3⟩ #[9]
   | @list l2 o2 ws n2 ys bs k1 k2 k3 k4=>exact RcAt.tuple_list ⟨_,h1,h2,_,h3⟩ ⟨_,k1,k2,_,k3⟩ #[9]
   | @tuple l2 o2 ws n2 ys bs k1 k2 k3 k4 =>
     walk_at"8"
     have hi:∀j (h1:j<vs.size) (h2:j<ws.size),EqAt A.in1 s vs[j] ws[j] (pairEq xs ys j):=λj h1 h2=>by
      walk_at"5"
     have hu':A.units<cLine:=room_here hu
     rw[show PyData.eqv (.tuple xs) (.tuple ys)=PyData.eqvAll xs ys by rw[PyData.eqv]]
     have q:=RcAt.tuples (A:=A) (s:=s) (e:=pairEq xs ys) ⟨_,h1,h2,_,h3⟩ ⟨_,k1,k2,_,k3⟩ hu' hi
     rw[l1,l2,eqvAll_eq xs ys] at q
     exact q
   | dict=>rw[L2.nd] at hb;cases hb
 | dict=>rw[L2.nd] at ha;cases ha
theorem zo2{da:PyData}{a b:Value}{bs:List Addr}(ra:Reads s.heap a da as)(rb:Reads s.heap b db bs)(ha:nd da=true)(hb:nd db=true)(hu:A.units+min da.depth db.depth<cLine):RcNeAt A s a b (!PyData.eqv da db):=by
 cases ra with
 | none =>
   cases rb with
   | none=>exact RcNeAt.none_none
   | bool y=>exact RcNeAt.none_bool y
   | int y u=>exact RcNeAt.none_int y u
   | str y u=>exact RcNeAt.none_str y u
   | @list l2 o2 ws n2 ys bs k1 k2 k3 k4=>exact RcNeAt.none_list ⟨_,k1,k2,_,k3⟩ #[9]
   | @tuple l2 o2 ws n2 ys bs k1 k2 k3 k4=>exact RcNeAt.none_tuple ⟨_,k1,k2,_,k3⟩ #[9]
   | dict=>rw[L2.nd] at hb;cases hb
 | bool x =>
   cases rb with
   | none=>exact RcNeAt.bool_none x
   | bool y=>exact RcNeAt.bool_bool x y
   | int y u=>exact RcNeAt.bool_int x y u
   | str y u=>exact RcNeAt.bool_str x y u
   | @list l2 o2 ws n2 ys bs k1 k2 k3 k4=>exact RcNeAt.bool_list x ⟨_,k1,k2,_,k3⟩ #[9]
   | @tuple l2 o2 ws n2 ys bs k1 k2 k3 k4=>exact RcNeAt.bool_tuple x ⟨_,k1,k2,_,k3⟩ #[9]
   | dict=>rw[L2.nd] at hb;cases hb
 | int x t =>
   cases rb with
   | none=>exact RcNeAt.int_none x t
   | bool y=>exact RcNeAt.int_bool x t y
   | int y u=>exact RcNeAt.int_int x t y u
   | str y u=>exact RcNeAt.int_str x t y u
   | @list l2 o2 ws n2 ys bs k1 k2 k3 k4=>exact RcNeAt.int_list x t ⟨_,k1,k2,_,k3⟩ #[9]
   | @tuple l2 o2 ws n2 ys bs k1 k2 k3 k4=>exact RcNeAt.int_tuple x t ⟨_,k1,k2,_,k3⟩ #[9]
   | dict=>rw[L2.nd] at hb;cases hb
 | str x t =>
   cases rb with
   | none=>exact RcNeAt.str_none x t
   | bool y=>exact RcNeAt.str_bool x t y
   | int y u=>exact RcNeAt.str_int x t y u
   | str y u=>exact RcNeAt.str_str x t y u
   | @list l2 o2 ws n2 ys bs k1 k2 k3 k4=>exact RcNeAt.str_list x t ⟨_,k1,k2,_,k3⟩ #[9]
   | @tuple l2 o2 ws n2 ys bs k1 k2 k3 k4=>exact RcNeAt.str_tuple x t ⟨_,k1,k2,_,k3⟩ #[9]
   | dict=>rw[L2.nd] at hb;cases hb
 | @list l o vs n xs as h1 h2 h3 h4 =>
   cases rb with
   | none=>exact RcNeAt.list_none ⟨_,h1,h2,_,h3⟩ #[9]
   | bool y=>exact RcNeAt.list_bool y ⟨_,h1,h2,_,h3⟩ #[9]
   | int y u=>exact RcNeAt.list_int y u ⟨_,h1,h2,_,h3⟩ #[9]
   | str y u=>exact RcNeAt.list_str y u ⟨_,h1,h2,_,h3⟩ #[9]
   | @list l2 o2 ws n2 ys bs k1 k2 k3 k4 =>
     walk_at"8"
     have hi:∀j (h1:j<vs.size) (h2:j<ws.size),EqAt A.in1 s vs[j] ws[j] (pairEq xs ys j):=λj h1 h2=>by
      walk_at"5"
     have hu':A.units<cLine:=room_here hu
     rw[show PyData.eqv (.list xs) (.list ys)=PyData.eqvAll xs ys by rw[PyData.eqv]]
     by_cases hz:xs.length=ys.length
     ·have q:=RcNeAt.lists (A:=A) (s:=s) (e:=pairEq xs ys) ⟨_,h1,h2,_,h3⟩ ⟨_,k1,k2,_,k3⟩ #[0] hu' hi
      rw[l1,eqvAll_same_length hz] at q
      exact q
     ·rw[eqvAll_other_length hz]
      exact RcNeAt.lists_lengths ⟨_,h1,h2,_,h3⟩ ⟨_,k1,k2,_,k3⟩ (by simp;omega) hu'
   | @tuple l2 o2 ws n2 ys bs k1 k2 k3 k4=>exact RcNeAt.list_tuple ⟨_,h1,h2,_,h3⟩ ⟨_,k1,k2,_,k3⟩ #[9]
   | dict=>rw[L2.nd] at hb;cases hb
 | @tuple l o vs n xs as h1 h2 h3 h4 =>
   cases rb with
   | none=>exact RcNeAt.tuple_none ⟨_,h1,h2,_,h3⟩ #[9]
   | bool y=>exact RcNeAt.tuple_bool y ⟨_,h1,h2,_,h3⟩ #[9]
   | int y u=>exact RcNeAt.tuple_int y u ⟨_,h1,h2,_,h3⟩ #[9]
   | str y u=>exact RcNeAt.tuple_str y u ⟨_,h1,h2,_,h3⟩ #[9]
   | @list l2 o2 ws n2 ys bs k1 k2 k3 k4=>exact RcNeAt.tuple_list ⟨_,h1,h2,_,h3⟩ ⟨_,k1,k2,_,k3⟩ #[9]
   | @tuple l2 o2 ws n2 ys bs k1 k2 k3 k4 =>
     walk_at"8"
     have hi:∀j (h1:j<vs.size) (h2:j<ws.size),EqAt A.in1 s vs[j] ws[j] (pairEq xs ys j):=λj h1 h2=>by
      walk_at"5"
     have hu':A.units<cLine:=room_here hu
     rw[show PyData.eqv (.tuple xs) (.tuple ys)=PyData.eqvAll xs ys by rw[PyData.eqv]]
     have q:=RcNeAt.tuples (A:=A) (s:=s) (e:=pairEq xs ys) ⟨_,h1,h2,_,h3⟩ ⟨_,k1,k2,_,k3⟩ hu' hi
     rw[l1,l2,eqvAll_eq xs ys] at q
     exact q
   | dict=>rw[L2.nd] at hb;cases hb
 | dict=>rw[L2.nd] at ha;cases ha
theorem xj7{k:Nat}(r:qk3 k A):A.units+190<cLine:=by have:=r.un;omega
def P7(K:Fg):R2:=λx y H Q=>rEq x y H Q\/∃d e,Dv K H d x/\Dv K H e y/\min d.depth e.depth<=190/\Q (.bl (PyData.eqv d e)) H
def wq1(K:Fg):R2:=λx y H Q=>rNe x y H Q\/∃d e,Dv K H d x/\Dv K H e y/\min d.depth e.depth<=190/\Q (.bl (!PyData.eqv d e)) H
theorem wk2(hu:X.A.units+190<cLine):OpR X (compareOp .Eq) (P7 X.K):=by
 refine Ao4.or ?_;walk_at"7";walk_at"39";exact Aj5 ra rb (Dv.nd d x hx) (Dv.nd e y hy) hroom X.prog X.w X.xe _ ⟨.bl _,H,I,rfl,q⟩
theorem yh9(hu:X.A.units+190<cLine):OpR X (compareOp .NotEq) (wq1 X.K):=by
 refine Ao5.or ?_;walk_at"7";walk_at"39";exact zo2 ra rb (Dv.nd d x hx) (Dv.nd e y hy) hroom X.prog X.w X.xe _ ⟨.bl _,H,I,rfl,q⟩
def C8(K:Fg):R2:=λx y H Q=>rI0 (λi j=>.int (i+j)) x y H Q\/(∃i j,x=.str i/\y=.str j/\i.length+j.length<=sizeLine/\Q (.str (i++j)) H)\/Ap6 x y H Q\/Ae6 K x y H Q
theorem J5:OpR X (binaryOp .Add) (C8 X.K):=Ah9.or (yu5.or (Ai7.or zx5))
def Ae8:R2:=λx y H Q=>∃z n,x=.str z/\y=.int n/\0<=n/\n<=1000/\z.length<=1000/\Q (.str (PySem.Txt.mul z n)) H
theorem yw2:OpR X (binaryOp .Mult) Ae8:=by
 walk_at"7";obtain⟨z,n,rfl,rfl,h0,h1,h2,q⟩:=h;obtain⟨t,rfl⟩:=rx;obtain⟨t',rfl⟩:=ry;refine wpAny_with_toks (n:=1) I.tk (SB.mul ⟨?_,λhn _=>?_,λhn _=>?_⟩ λt' k ht=>⟨.str _,H,I.tok _ ht,⟨_,rfl⟩,q⟩)
 ·rw[decide_eq_false #[0],decide_eq_false #[0]];rfl
 ·have e1:(2 ^ 63-1:Int) / n>=(2 ^ 63-1) / 1000:=by
   have hp:(0:Int)<n:=by omega
   apply Int.le_ediv_of_mul_le hp;have:(2 ^ 63-1:Int) / 1000*n<=(2 ^ 63-1) / 1000*1000:=Int.mul_le_mul_of_nonneg_left h1 #[7];have e:(2 ^ 63-1:Int) / 1000*1000<=2 ^ 63-1:=by decide
   omega
  have e2:(2 ^ 63-1:Int) / 1000>=1000:=by decide
  omega
 ·have:z.length*n.toNat<=1000*1000:=Nat.mul_le_mul h2 #[0];have hs:sizeLine=16777216:=sizeLine_eq;unfold Builtin.Str.tooLong;exact decide_eq_false #[0]
def qv4:R2:=λx y H Q=>rI zf8 (λi j=>.int (i*j)) x y H Q\/Ae8 x y H Q\/Ap7 x y H Q
theorem qv5:OpR X (binaryOp .Mult) qv4:=Ai0.or (yw2.or Ai8)
def Au1:R2:=λx y H Q=>∃i j:Str,x=.str i/\y=.str j/\Q (.bl (decide (i.cps.toList<j.cps.toList))) H
def Aq2:R2:=λx y H Q=>∃i j:Str,x=.str i/\y=.str j/\Q (.bl (!decide (j.cps.toList<i.cps.toList))) H
def Aq3:R2:=λx y H Q=>∃i j:Str,x=.str i/\y=.str j/\Q (.bl (decide (j.cps.toList<i.cps.toList))) H
def Aq4:R2:=λx y H Q=>∃i j:Str,x=.str i/\y=.str j/\Q (.bl (!decide (i.cps.toList<j.cps.toList))) H
theorem zh3:OpR X (compareOp .LtE) Aq2:=by
 walk_at"1";exact PySem.P.le_str ⟨.bl _,H,I,rfl,q⟩
theorem zh4:OpR X (compareOp .Gt) Aq3:=by
 walk_at"1";exact PySem.P.gt_str ⟨.bl _,H,I,rfl,q⟩
theorem zh5:OpR X (compareOp .GtE) Aq4:=by
 walk_at"1";exact PySem.P.ge_str ⟨.bl _,H,I,rfl,q⟩
def xr1:R2:=λx y H Q=>rI0 (λi j=>.bl (decide (i<j))) x y H Q\/Au1 x y H Q
def yw3:R2:=λx y H Q=>rI0 (λi j=>.bl (decide (i<=j))) x y H Q\/Aq2 x y H Q
def xj8:R2:=λx y H Q=>rI0 (λi j=>.bl (decide (j<i))) x y H Q\/Aq3 x y H Q
def zh6:R2:=λx y H Q=>rI0 (λi j=>.bl (decide (j<=i))) x y H Q\/Aq4 x y H Q
theorem yw4:OpR X (compareOp .Lt) xr1:=Ao6.or zf9
theorem yi0:OpR X (compareOp .LtE) yw3:=Ao7.or zh3
theorem yw5:OpR X (compareOp .Gt) xj8:=Ao8.or zh4
theorem zo3:OpR X (compareOp .GtE) zh6:=Ao9.or zh5
def Au2(neg:Bool):R2:=λx y H Q=>∃i j:Str,x=.str i/\y=.str j/\Q (.bl (if neg then !(!(Builtin.Str.occurrences j i 0 j.length 1).isEmpty) else !(Builtin.Str.occurrences j i 0 j.length 1).isEmpty)) H
def zo4(K:Fg)(neg:Bool):R2:=λx y H Q=>rIn K neg x y H Q\/Au2 neg x y H Q
theorem Aj6:OpR X (compareOp .In) (zo4 X.K false):=zg9.or zg0
theorem zh7:OpR X (compareOp .NotIn) (zo4 X.K true):=yh3.or yh4
def xz8:R2:=λx y H Q=>y=.non/\Q (.bl (decide (x=.non))) H
def qv6:R2:=λx y H Q=>y=.non/\Q (.bl (!decide (x=.non))) H
theorem yi1:OpR X (compareOp .Is) xz8:=Ai1
theorem wo7:OpR X (compareOp .IsNot) qv6:=zw9
def J6(K:Fg):List V->Hp->VK->Prop:=λxs H Q=>(∃p ys,xs=[.ref p]/\(SqL K H p ys\/SqT K H p ys)/\Q (.int ys.length) H)\/(∃z,xs=[.str z]/\z.length<=sizeLine/\Q (.int z.length) H) \/
 ∃a kvs,xs=[V.ref a]/\H a=some (.dK kvs)/\Q (.int kvs.length) H
theorem R1:Y0 X (.builtin "len") (J6 X.K):=yh5.or (yh6.or zh2)
def ql3(K:Fg):List V->Hp->VK->Prop:=λxs H Q=>∃p ys,xs=[.ref p]/\((SqL K H p ys/\∀l,H l=none->Q (.ref l) (upd H l (.tup ys)))\/(SqT K H p ys/\Q (.ref p) H))
theorem wk3:Y0 X (.type "tuple") (ql3 X.K):=xz7
def zo5:List V->Hp->VK->Prop:=λxs H Q=>(∃i,xs=[.int i]/\Q (.int i) H)\/∃k,xs=[.bl k]/\Q (.int (if k then 1 else 0)) H
theorem ye0:Y0 X (.type "int") zo5:=zg3
theorem ww6:∀{xs:List Str} {us:List Value},D3 (B0 xs) us->StrsAre us xs
 | [],_,h=>by cases h;exact .nil
 | x :: xs,_,h=>by
   have h:D3 (V.str x::B0 xs) _:=h;cases h with
   | cons r t =>
     obtain⟨t',rfl⟩:=r
     exact .cons x t' (ww6 t)
theorem ye1:∀{xs:List Str} {us:List Value},StrsAre us xs->D3 (B0 xs) us
 | _,_,.nil=>.nil
 | _,_,.cons y t h=>.cons ⟨t,rfl⟩ (ye1 h)
def xr2(K:Fg):List V->Hp->VK->Prop:=λxs H Q=>∃p ys,xs=[.ref p]/\SqL K H p (B0 ys)/\ys.length<64 /\
 ∀l ys',ys'.Perm ys->sortedS ys'=true->H l=none->Q (.ref l) (upd H l #[23,ys'])
theorem yi2:Y0 X (.builtin "sorted") (xr2 X.K):=by
 walk_at"35";obtain⟨p,ys,rfl,hq,hl,q⟩:=h;obtain⟨u,rfl,rx⟩:=qv2 r;cases rx;obtain⟨its,rv,pl,hz⟩:=I.list hq;have hlen:=rv.length;have hn:(B0 ys).length=ys.length:=length_map _;refine sorted_strs pl.isList (ww6 rv) #[0] λout ss' h1 h2 h3=>?_;have kp:∀b o,s.heap.get? b=some o->(sortedAll s.heap its out).get? b=some o:=λb o e=>sortedAll_old e;obtain⟨e,he⟩:=sortedAll_at s.heap its out;have hf:H (s.heap.objs.size+1)=none:=I.hok.fresh (Nat.le_succ _);have hz':(B0 ss').length<=sizeLine:=by
  have:=h2.length_eq;show(ss'.map V.str).length<=_;rw[length_map];rw[hn] at hz;omega
 refine⟨.ref (s.heap.objs.size+1),_,I.laid (t':=s.toks) (o:=.lst (B0 ss')) kp (Nat.le_succ _) ?_,rfl,q _ _ h2 h3 hf⟩;exact⟨hz',out.toList,e,ye1 h1,by simpa [seqObj] using he⟩
def yo8(K:Fg):V->List V->Hp->VK->Prop:=λx vs H Q=>∃z p ys,x=.str z/\vs=[.ref p]/\(SqL K H p (B0 ys)\/SqT K H p (B0 ys))/\(ys.map (·.length)).sum+ys.length*z.length<=16777216/\Q (.str (PySem.Txt.join z ys)) H
theorem yi3:MtR X "str.join" (yo8 X.K):=by
 walk_at"33";obtain⟨z,p,ys,rfl,rfl,hq,hs,q⟩:=h;obtain⟨t,rfl⟩:=rx;obtain⟨u,rfl,ru⟩:=rv.one;cases ru;rcases hq with hq|hq
 ·obtain⟨its,r,pl,hz⟩:=I.list hq;exact wpAny_with_toks (n:=1) I.tk (join_list pl.isList (by simpa using ww6 r) hs λt' k ht=>⟨.str _,H,I.tok _ ht,⟨_,rfl⟩,q⟩)
 ·obtain⟨its,r,pl,hz⟩:=I.tuple hq;exact wpAny_with_toks (n:=1) I.tk (join_tuple pl (by simpa using ww6 r) hs λt' k ht=>⟨.str _,H,I.tok _ ht,⟨_,rfl⟩,q⟩)
def qy3(K:Fg)(tl:TE):TI:=λσ H R=>tl σ H λx H1=>∃a,x=.ref a/\(((∃xs,SqL K H1 a xs)/\R (Itl K a) H1)\/((∃xs,SqT K H1 a xs)/\R (Itt K a) H1))
variable{tl:TE}
theorem wk4{tg l:Expr}(hl:PE X l tl):PI X tg l (qy3 X.K tl):=by
 intro pins s σ H R I h;refine thn (hl pins s σ H _ I h) λv s1 zq=>?_;walk_at"32";obtain⟨a,e,q⟩:=q1;subst e;cases r1;rcases q with⟨⟨xs,hq⟩,q⟩|⟨⟨xs,hq⟩,q⟩
 ·obtain⟨its,rv,p,hz⟩:=I1.list hq;refine wpAny_pyIter_list p.isList ?_;refine⟨s1.heap.objs.size,[s1.heap.objs.size],_,_,H1,rfl,I1.kept (t':=s1.toks) λb o e=>Heap.get?_push_of_some _ e,zf6 a _,⟨_,Heap.get?_push_size _ rfl,rfl,rfl⟩,λb hb=>?_,q⟩;walk_at"20"
 ·obtain⟨its,rv,p,hz⟩:=I1.tuple hq;refine wpAny_pyIter_tuple (show s1.heap.IsTuple a its.toArray from p) ?_;refine⟨s1.heap.objs.size,[s1.heap.objs.size],_,_,H1,rfl,I1.kept (t':=s1.toks) λb o e=>Heap.get?_push_of_some _ e,yu1 a _,⟨_,Heap.get?_push_size _ rfl,rfl,rfl⟩,λb hb=>?_,q⟩;walk_at"20"
theorem zo6 (h:wi σ H λJ H1=>∃W:Nat->Nat->St->Hp->Prop,(∃m,W 0 m σ H1)/\∀i m σ H,W i m σ H ->
 (J.stop i H/\D.nx σ H)\/#[20]):qc8 wi g tb D σ H:=h
abbrev wq2(g:TG)(tb:TS)(D:W8)(σ:St)(J:It)(H1:Hp):Prop:=∃W:Nat->Nat->St->Hp->Prop,(∃m,W 0 m σ H1)/\∀i m σ H,W i m σ H ->
 (J.stop i H/\D.nx σ H)\/#[20]
theorem zc9(hq:SqL K H a xs\/SqT K H a xs)(Pv:Nat->St->Hp->Prop)(h0:Pv 0 σ H)(hl:SqL K H a xs->∀i σ H,i<=xs.length->Pv i σ H->SqL K H a xs)(ht:SqT K H a xs->∀i σ H,i<=xs.length->Pv i σ H->SqT K H a xs)(hs:∀i x σ H,xs[i]?=some x->Pv i σ H->g x σ H λσ2 H2=>tb {D with nx:=PAt Pv (i+1),ct:=PAt Pv (i+1),bk:=D.nx} σ2 H2)(hd:∀σ H,Pv xs.length σ H->D.nx σ H) :
 ∃b,V.ref a=.ref b/\(((∃xs,SqL K H b xs)/\wq2 g tb D σ (Itl K b) H)\/((∃xs,SqT K H b xs)/\wq2 g tb D σ (Itt K b) H)):=by
 refine⟨a,rfl,?_⟩
 rcases hq with hq|hq
 ·exact .inl ⟨⟨xs,hq⟩,xq0 Pv h0 (hl hq) hs hd⟩
 ·exact .inr ⟨⟨xs,hq⟩,yh0 Pv h0 (ht hq) hs hd⟩
theorem qs0{n:Int}(h0:0<=n)(hn:n<2 ^ 62)(Pv:Nat->St->Hp->Prop)(p0:Pv 0 σ H)(hs:∀(i:Nat) σ H,(i:Int)<n->Pv i σ H->g (.int i) σ H λσ2 H2=>tb {D with nx:=PAt Pv (i+1),ct:=PAt Pv (i+1),bk:=D.nx} σ2 H2)(hd:∀σ H,Pv n.toNat σ H->D.nx σ H) :
 ∃j:Int,[V.int n]=[.int j]/\-(2 ^ 62)<=j/\j<2 ^ 62/\wq2 g tb D σ (Itr 0 j.toNat) H :=
 ⟨n,rfl,by omega,hn,yd1 (lo:=0) (n:=n.toNat) Pv p0 (λi σ H hi p=>by rw[Int.zero_add];exact hs i σ H #[0] p) hd⟩
theorem zo7{lo hi:Int}(h1:-(2 ^ 62)<=lo)(h2:lo<=hi)(h3:hi<2 ^ 62)(Pv:Nat->St->Hp->Prop)(p0:Pv 0 σ H)(hs:∀(i:Nat) σ H,lo+i<hi->Pv i σ H->g (.int (lo+i)) σ H λσ2 H2=>tb {D with nx:=PAt Pv (i+1),ct:=PAt Pv (i+1),bk:=D.nx} σ2 H2)(hd:∀σ H,Pv (hi-lo).toNat σ H->D.nx σ H) :
 ∃i j:Int,[V.int lo,V.int hi]=[.int i,.int j]/\(-(2 ^ 62)<=i/\i<2 ^ 62/\-(2 ^ 62)<=j/\j<2 ^ 62)/\wq2 g tb D σ (Itr i (j-i).toNat) H :=
 ⟨lo,hi,rfl,⟨h1,by omega,by omega,h3⟩,yd1 (lo:=lo) (n:=(hi-lo).toNat) Pv p0 (λi σ H hi p=>hs i σ H #[0] p) hd⟩
abbrev qp1(g:TG)(tt:TT)(te:TE)(σ':St)(Q:VK)(J:It)(H1:Hp):Prop:=∃W:Nat->Nat->List V->Hp->Prop,(∃m,W 0 m [] H1)/\∀i m ys H,W i m ys H->ys.length<=sizeLine /\
 ((J.stop i H/\∀p,H p=none->Q (.ref p) (upd H p (.lst ys))) \/
  (J.go i H/\∃NN:List V->Hp->Prop,(∀ys' H',NN ys' H'->∃m',m'<m/\W (i+1) m' ys' H')/\∀x H',J.yld i H x H'->g x σ' H' λσ2 H2=>tt σ2 H2 λb H3 =>
   if b=true then te σ2 H3 λy H4=>NN (ys++[y]) H4 else NN ys H3))
theorem zy4{Q:VK}(h:wi σ H (qp1 g tt te (wk0 fr σ) Q)):qr9 fr wi g tt te σ H Q:=h
variable{σ':St}
theorem wo8{Q:VK}(item:Nat->V->Prop)(Pv:Nat->List V->Hp->Prop)(h0:Pv 0 [] H)(hlen:∀i ys H,i<=n->Pv i ys H->ys.length<=sizeLine)(hgo:∀i ys H,i<n->Pv i ys H->J.go i H)(hy:∀i ys H x H',i<n->Pv i ys H->J.yld i H x H'->H'=H/\item i x)(hst:∀ys H,Pv n ys H->J.stop n H)(hs:∀i x ys H,i<n->item i x->Pv i ys H->g x σ' H λσ2 H2=>tt σ2 H2 λb H3=>if b=true then te σ2 H3 λy H4=>PAt Pv (i+1) (ys++[y]) H4 else PAt Pv (i+1) ys H3)(hd:∀ys H,Pv n ys H->∀p,H p=none->Q (.ref p) (upd H p (.lst ys))):qp1 g tt te σ' Q J H:=by
 refine⟨λi m ys H=>m=n-i/\i<=n/\Pv i ys H,⟨n,by simp,Nat.zero_le _,h0⟩,?_⟩;rintro i m ys H ⟨rfl,hi,p⟩;refine⟨hlen i ys H hi p,?_⟩;by_cases hlt:i<n
 ·refine .inr ⟨hgo i ys H hlt p,Pv (i+1),λys' H' q=>⟨n-(i+1),by omega,rfl,hlt,q⟩,λx H' y=>?_⟩;obtain⟨rfl,hx⟩:=hy i ys H x H' hlt p y;exact hs i x ys _ hlt hx p
 ·have e:i=n:=by omega
  subst e;exact .inl ⟨hst ys H p,hd ys H p⟩
theorem xr3{Q:VK}(hq:SqL K H a xs\/SqT K H a xs)(Pv:Nat->List V->Hp->Prop)(h0:Pv 0 [] H)(hlen:∀i ys H,i<=xs.length->Pv i ys H->ys.length<=sizeLine)(hl:SqL K H a xs->∀i ys H,i<=xs.length->Pv i ys H->SqL K H a xs)(ht:SqT K H a xs->∀i ys H,i<=xs.length->Pv i ys H->SqT K H a xs)(hs:∀i x ys H,xs[i]?=some x->Pv i ys H->g x σ' H λσ2 H2=>tt σ2 H2 λb H3=>if b=true then te σ2 H3 λy H4=>PAt Pv (i+1) (ys++[y]) H4 else PAt Pv (i+1) ys H3)(hd:∀ys H,Pv xs.length ys H->∀p,H p=none->Q (.ref p) (upd H p (.lst ys))) :
 ∃b,V.ref a=.ref b/\(((∃xs,SqL K H b xs)/\qp1 g tt te σ' Q (Itl K b) H)\/((∃xs,SqT K H b xs)/\qp1 g tt te σ' Q (Itt K b) H)):=by
 refine⟨a,rfl,?_⟩
 have get:∀i,i<xs.length->∃x,xs[i]?=some x:=λi hi=>⟨xs[i],by simp[hi]⟩
 rcases hq with hq|hq
 ·refine .inl ⟨⟨xs,hq⟩,wo8 (n:=xs.length) (λi x=>xs[i]?=some x) Pv h0 hlen (λi ys H hi p=>?_) (λi ys H x H' hi p y=>?_) (λys H p=>?_) (λi x ys H _ hx p=>hs i x ys H hx p) hd⟩
  ·obtain⟨x,hx⟩:=get i hi
   exact⟨xs,x,hl hq i ys H (Nat.le_of_lt hi) p,hx⟩
  ·exact⟨y.1,y.2 xs (hl hq i ys H (Nat.le_of_lt hi) p)⟩
  ·exact⟨xs,hl hq _ ys H #[6] p,Nat.le_refl _⟩
 ·refine .inr ⟨⟨xs,hq⟩,wo8 (n:=xs.length) (λi x=>xs[i]?=some x) Pv h0 hlen (λi ys H hi p=>?_) (λi ys H x H' hi p y=>?_) (λys H p=>?_) (λi x ys H _ hx p=>hs i x ys H hx p) hd⟩
  ·obtain⟨x,hx⟩:=get i hi
   exact⟨xs,x,ht hq i ys H (Nat.le_of_lt hi) p,hx⟩
  ·exact⟨y.1,y.2 xs (ht hq i ys H (Nat.le_of_lt hi) p)⟩
  ·exact⟨xs,ht hq _ ys H #[6] p,Nat.le_refl _⟩
theorem ye2{Q:VK}(hq:SqL K H a xs)(Pv:Nat->List V->Hp->Prop)(h0:Pv 0 [] H)(hlen:∀i ys H,i<=xs.length->Pv i ys H->ys.length<=sizeLine)(hl:∀i ys H,i<=xs.length->Pv i ys H->SqL K H a xs)(hs:∀i x ys H,xs[i]?=some x->Pv i ys H->g x σ' H λσ2 H2=>tt σ2 H2 λb H3=>if b=true then te σ2 H3 λy H4=>PAt Pv (i+1) (ys++[y]) H4 else PAt Pv (i+1) ys H3)(hd:∀ys H,Pv xs.length ys H->∀p,H p=none->Q (.ref p) (upd H p (.lst ys))) :
 ∃b,V.ref a=.ref b/\(((∃xs,SqL K H b xs)/\qp1 g tt te σ' Q (Itl K b) H)\/((∃xs,SqT K H b xs)/\qp1 g tt te σ' Q (Itt K b) H)):=by
 refine⟨a,rfl,.inl ⟨⟨xs,hq⟩,wo8 (n:=xs.length) (λi x=>xs[i]?=some x) Pv h0 hlen (λi ys H hi p=>?_) (λi ys H x H' hi p y=>?_) (λys H p=>?_) (λi x ys H _ hx p=>hs i x ys H hx p) hd⟩⟩
 ·exact⟨xs,xs[i],hl i ys H (Nat.le_of_lt hi) p,by simp[hi]⟩
 ·exact⟨y.1,y.2 xs (hl i ys H (Nat.le_of_lt hi) p)⟩
 ·exact⟨xs,hl _ ys H #[6] p,Nat.le_refl _⟩
theorem wa4(hq:SqL K H a xs)(Pv:Nat->St->Hp->Prop)(h0:Pv 0 σ H)(hl:∀i σ H,i<=xs.length->Pv i σ H->SqL K H a xs)(hs:∀i x σ H,xs[i]?=some x->Pv i σ H->g x σ H λσ2 H2=>tb {D with nx:=PAt Pv (i+1),ct:=PAt Pv (i+1),bk:=D.nx} σ2 H2)(hd:∀σ H,Pv xs.length σ H->D.nx σ H) :
 ∃b,V.ref a=.ref b/\(((∃xs,SqL K H b xs)/\wq2 g tb D σ (Itl K b) H)\/((∃xs,SqT K H b xs)/\wq2 g tb D σ (Itt K b) H)) :=
 ⟨a,rfl,.inl ⟨⟨xs,hq⟩,xq0 Pv h0 hl hs hd⟩⟩
theorem wo9{Q:VK}{n:Int}(h0:0<=n)(hn:n<2 ^ 62)(Pv:Nat->List V->Hp->Prop)(p0:Pv 0 [] H)(hlen:∀(i:Nat) ys H,(i:Int)<=n->Pv i ys H->ys.length<=sizeLine)(hs:∀(i:Nat) ys H,(i:Int)<n->Pv i ys H->g (.int i) σ' H λσ2 H2=>tt σ2 H2 λb H3=>if b=true then te σ2 H3 λy H4=>PAt Pv (i+1) (ys++[y]) H4 else PAt Pv (i+1) ys H3)(hd:∀ys H,Pv n.toNat ys H->∀p,H p=none->Q (.ref p) (upd H p (.lst ys))) :
 ∃j:Int,[V.int n]=[.int j]/\-(2 ^ 62)<=j/\j<2 ^ 62/\qp1 g tt te σ' Q (Itr 0 j.toNat) H :=
 ⟨n,rfl,by omega,hn,wo8 (n:=n.toNat) (λi x=>x=.int i) Pv p0 (λi ys H hi p=>hlen i ys H #[0] p) (λi ys H hi _=>hi) (λi ys H x H' hi _ y=>⟨y.1,by rw[y.2,Int.zero_add]⟩) (λys H _=>Nat.le_refl _)
  (λi x ys H hi hx p=>by subst hx;exact hs i ys H #[0] p) hd⟩
theorem zh8{Q:VK}{lo hi:Int}(h1:-(2 ^ 62)<=lo)(h2:lo<=hi)(h3:hi<2 ^ 62)(Pv:Nat->List V->Hp->Prop)(p0:Pv 0 [] H)(hlen:∀(i:Nat) ys H,lo+i<=hi->Pv i ys H->ys.length<=sizeLine)(hs:∀(i:Nat) ys H,lo+i<hi->Pv i ys H->g (.int (lo+i)) σ' H λσ2 H2=>tt σ2 H2 λb H3=>if b=true then te σ2 H3 λy H4=>PAt Pv (i+1) (ys++[y]) H4 else PAt Pv (i+1) ys H3)(hd:∀ys H,Pv (hi-lo).toNat ys H->∀p,H p=none->Q (.ref p) (upd H p (.lst ys))) :
 ∃i j:Int,[V.int lo,V.int hi]=[.int i,.int j]/\(-(2 ^ 62)<=i/\i<2 ^ 62/\-(2 ^ 62)<=j/\j<2 ^ 62)/\qp1 g tt te σ' Q (Itr i (j-i).toNat) H :=
 ⟨lo,hi,rfl,⟨h1,by omega,by omega,h3⟩,wo8 (n:=(hi-lo).toNat) (λi x=>x=.int (lo+i)) Pv p0 (λi ys H hi' p=>hlen i ys H #[0] p) (λi ys H hi' _=>hi') (λi ys H x H' hi' _ y=>y) (λys H _=>Nat.le_refl _)
  (λi x ys H hi' hx p=>by subst hx;exact hs i ys H #[0] p) hd⟩
section
variable{Q:VK}
theorem V1{t u:TS}(h:t {D with nx:=u D} σ H):B1 t u D σ H:=h
theorem zd0(h:D.nx σ H):J8 D σ H:=h
theorem zo8(h:te σ H λx H1=>g x σ H1 D.nx):B8 te g D σ H:=h
theorem D0{i:Nat}{R:St->Hp->Prop}(h:R (σ.set i (some v)) H):A6 i v σ H R:=h
theorem yi4{i:Nat}(e:σ[i]?=some (some v))(h:Q v H):A0 i σ H Q:=⟨v,e,h⟩
theorem Aq5(h:Q v H):tC v σ H Q:=h
theorem zo9{r:R2}{tb:TE}(h:ta σ H λx H1=>tb σ H1 λy H2=>r x y H2 Q):tOp r ta tb σ H Q:=h
theorem Aq6{r:V->Hp->VK->Prop}(h:ta σ H λx H1=>r x H1 Q):tUn r ta σ H Q:=h
theorem Aj7(h:te σ H D.rt):E1 te D σ H:=h
theorem zy5(h:D.rt .non H):yn7 D σ H:=h
theorem zy6(h:te σ H λ_ H1=>D.nx σ H1):D2 te D σ H:=h
theorem ww7{c:TT}{t u:TS}(h:c σ H λb H1=>if b=true then t D σ H1 else u D σ H1):M4 c t u D σ H:=h
theorem Aj8{c:TT}{tb:TE}(h:c σ H λb H1=>if b=true then ta σ H1 Q else tb σ H1 Q):tIf c ta tb σ H Q:=h
theorem zd1{t:TE}{R:Bool->Hp->Prop}(h:t σ H λx H'=>∃k,x=.bl k/\R k H'):C1 t σ H R:=h
theorem Au3{t:TE}{R:Bool->Hp->Prop}(h:t σ H λx H'=>∃k,x=.bl k/\R k H'):tB t σ H R:=h
theorem Ae9{b:Bool}{R:Bool->Prop}(h:R b):∃k,V.bl b=.bl k/\R k:=⟨b,rfl,h⟩
theorem yw6{t u:TT}{R:Bool->Hp->Prop}(h:t σ H λc H1=>if c=true then u σ H1 R else R false H1):xc1 t u σ H R:=h
theorem Aq7{t u:TT}{R:Bool->Hp->Prop}(h:t σ H λc H1=>if c=true then R true H1 else u σ H1 R):tOr t u σ H R:=h
theorem Aj9{t:TT}{R:Bool->Hp->Prop}(h:t σ H λc H1=>R (!c) H1):zl5 t σ H R:=h
theorem zy7{tb:TE}(h:ta σ H λx H1=>∃c,x=.bl c/\if c=true then tb σ H1 Q else Q (.bl false) H1):yn5 ta tb σ H Q:=h
theorem zy8(h:ta σ H λx H1=>∃c,x=.bl c/\Q (.bl (!c)) H1):zb9 ta σ H Q:=h
theorem Ak0{R:List V->Hp->Prop}(h:R [] H):A5 σ H R:=h
theorem zy9{tr:TA}{R:List V->Hp->Prop}(h:ta σ H λx H1=>tr σ H1 λxs H2=>R (x::xs) H2):A1 ta tr σ H R:=h
theorem Ak1(h:t σ H λxs H1=>xs.length<=sizeLine/\∀p,H1 p=none->Q (.ref p) (upd H1 p (.tup xs))):Y1 t σ H Q:=h
theorem Ak2(h:t σ H λxs H1=>xs.length<=sizeLine/\∀p,H1 p=none->Q (.ref p) (upd H1 p (.lst xs))):T2 t σ H Q:=h
theorem zz0{E:XK}(h:t σ H λvs H1=>sp (vs++dvs) H1 Q E):B9 sp dvs E t σ H Q:=h
theorem Aq8{r:List V->Hp->VK->Prop}(h:t σ H λvs H1=>r vs H1 Q):tCB r t σ H Q:=h
theorem Aq9{R:Bool->Hp->Prop}(h:R true H):tTT σ H R:=h
theorem zp0(h:D.bk σ H):yu0 D σ H:=h
theorem zp1(h:tl σ H λx H1=>∃a,x=.ref a/\(((∃xs,SqL K H1 a xs)/\R (Itl K a) H1)\/((∃xs,SqT K H1 a xs)/\R (Itt K a) H1))):qy3 K tl σ H R:=h
theorem zz1{ta:TA}(h:ta σ H λvs H1=>∃j:Int,vs=[.int j]/\-(2 ^ 62)<=j/\j<2 ^ 62/\R (Itr 0 j.toNat) H1):wa1 ta σ H R:=h
theorem zz2{ta:TA}(h:ta σ H λvs H1=>∃i j:Int,vs=[.int i,.int j]/\(-(2 ^ 62)<=i/\i<2 ^ 62/\-(2 ^ 62)<=j/\j<2 ^ 62)/\R (Itr i (j-i).toNat) H1):zc0 ta σ H R:=h
theorem Ak3{t:zm0}{R:St->Hp->Prop}(h:to σ H λo H1=>ti σ H1 λi H2=>t o i v H2 λH3=>R σ H3):yg9 to ti t v σ H R:=h
theorem Ar0{r:V->List V->Hp->VK->Prop}(h:to σ H λx H1=>tyV K T x H1/\t σ H1 λxs H2=>r x xs H2 Q):tBM K T r to t σ H Q:=h
theorem zp2{r r':R2}{tb:TE}(h:ta σ H λx H1=>tb σ H1 λy H2=>r x y H2 λz H3=>∃k,z=.bl k/\(if k=true then tc σ H3 λw' H4=>r' y w' H4 Q else Q (.bl false) H3)):yh1 r r' ta tb tc σ H Q:=h
end
variable{z:Str}
section
variable{Q:VK}
theorem yi5(h:Q (.int (i+j)) H):C8 K (.int i) (.int j) H Q:=.inl ⟨i,j,rfl,rfl,h⟩
theorem T4{i j:Str}(hz:i.length+j.length<=sizeLine)(h:Q (.str (i++j)) H):C8 K (.str i) (.str j) H Q:=.inr (.inl ⟨i,j,rfl,rfl,hz,h⟩)
theorem yo9(h1:H a=some (.lst xs))(h2:H b=some (.lst ys))(hz:xs.length+ys.length<=sizeLine)(h:∀p,H p=none->Q (.ref p) (upd H p (.lst (xs++ys)))):C8 K (.ref a) (.ref b) H Q:=.inr (.inr (.inl ⟨a,b,xs,ys,rfl,rfl,h1,h2,hz,h⟩))
theorem Ak4(h:Q (.int (i-j)) H):rI0 (λi j=>.int (i-j)) (.int i) (.int j) H Q:=⟨i,j,rfl,rfl,h⟩
theorem qs1(c:zf8 i j)(h:Q (.int (i*j)) H):qv4 (.int i) (.int j) H Q:=.inl ⟨i,j,rfl,rfl,c,h⟩
theorem Ak5(c:qy1 i j)(h:Q (.int (i / j)) H):rI qy1 (λi j=>.int (i / j)) (.int i) (.int j) H Q:=⟨i,j,rfl,rfl,c,h⟩
theorem zd2(c:0<j)(h:Q (.int (i % j)) H):rI (λ_ j=>0<j) (λi j=>.int (i % j)) (.int i) (.int j) H Q:=⟨i,j,rfl,rfl,c,h⟩
theorem Ar1(h:Q (.bl (decide (i<j))) H):xr1 (.int i) (.int j) H Q:=.inl ⟨i,j,rfl,rfl,h⟩
theorem Ar2(h:Q (.bl (decide (i<=j))) H):yw3 (.int i) (.int j) H Q:=.inl ⟨i,j,rfl,rfl,h⟩
theorem Ar3(h:Q (.bl (decide (j<i))) H):xj8 (.int i) (.int j) H Q:=.inl ⟨i,j,rfl,rfl,h⟩
theorem Af0(h:Q (.bl (decide (j<=i))) H):zh6 (.int i) (.int j) H Q:=.inl ⟨i,j,rfl,rfl,h⟩
theorem Af1{i j:Str}(h:Q (.bl (!decide (j.cps.toList<i.cps.toList))) H):yw3 (.str i) (.str j) H Q:=.inr ⟨i,j,rfl,rfl,h⟩
theorem yp0{x:V}(c:zw8 x y=true)(h:Q (.bl (decide (x=y))) H):P7 K x y H Q:=.inl ⟨c,h⟩
theorem Ar4{x:V}(c:zw8 x y=true)(h:Q (.bl (!decide (x=y))) H):wq1 K x y H Q:=.inl ⟨c,h⟩
theorem Af2{x:V}{d e:PyData}(h1:Dv K H d x)(h2:Dv K H e y)(hz:min d.depth e.depth<=190)(h:Q (.bl (PyData.eqv d e)) H):P7 K x y H Q:=.inr ⟨d,e,h1,h2,hz,h⟩
theorem Af3{x:V}{d e:PyData}(h1:Dv K H d x)(h2:Dv K H e y)(hz:min d.depth e.depth<=190)(h:Q (.bl (!PyData.eqv d e)) H):wq1 K x y H Q:=.inr ⟨d,e,h1,h2,hz,h⟩
theorem Au4{x:V}(h:Q (.bl (decide (x=.non))) H):xz8 x .non H Q:=⟨rfl,h⟩
theorem zz3{x:V}(h:Q (.bl (!decide (x=.non))) H):qv6 x .non H Q:=⟨rfl,h⟩
theorem L8(h1:SqL K H p xs)(e:atI xs i=some v)(h:Q v H):rIx K (.ref p) (.int i) H Q:=.inl ⟨p,xs,i,v,rfl,rfl,h1,e,h⟩
theorem P6(h1:SqT K H p xs)(e:atI xs i=some v)(h:Q v H):rIx K (.ref p) (.int i) H Q:=.inr (.inl ⟨p,xs,i,v,rfl,rfl,h1,e,h⟩)
theorem yp1{c:Nat}(hz:z.length<=sizeLine)(e:atI z.cps.toList i=some c)(h:Q (.str ⟨#[c]⟩) H):rIx K (.str z) (.int i) H Q:=.inr (.inr ⟨z,i,c,rfl,rfl,hz,e,h⟩)
theorem yi6{x:V}(h1:SqL K H p xs\/SqT K H p xs)(fx:wa3 x=true)(fs:xs.all wa3=true)(h:Q (.bl (inV x xs)) H):zo4 K false x (.ref p) H Q:=.inl ⟨p,xs,rfl,h1,fx,fs,h⟩
theorem zz4{x:V}(h1:SqL K H p xs\/SqT K H p xs)(fx:wa3 x=true)(fs:xs.all wa3=true)(h:Q (.bl (!inV x xs)) H):zo4 K true x (.ref p) H Q:=.inl ⟨p,xs,rfl,h1,fx,fs,h⟩
theorem M6(h1:SqL K H p xs\/SqT K H p xs)(h:Q (.int xs.length) H):J6 K [.ref p] H Q:=.inl ⟨p,xs,rfl,h1,h⟩
theorem wt4(hz:z.length<=sizeLine)(h:Q (.int z.length) H):J6 K [.str z] H Q:=.inr (.inl ⟨z,rfl,hz,h⟩)
theorem yw7{k:Int}{j:Nat}{R:Hp->Prop}(h1:H p=some (.lst xs))(e:ixN xs.length k=some j)(h:R (upd H p (.lst (xs.set j v)))):zn1 (.ref p) (.int k) v H R:=⟨p,xs,k,j,rfl,rfl,h1,e,h⟩
theorem E7(h1:H p=some (.lst xs))(hz:xs.length<sizeLine)(h:Q .non (upd H p (.lst (xs++[y])))):D9 (.ref p) [y] H Q:=⟨p,xs,y,rfl,rfl,h1,hz,h⟩
end
theorem xj9:isSubtype (.type "range_iterator") (.type "reversed")=pure false:=by rw[isSubtype_type];kernel_rfl
theorem xk0(r:Addr)(a b c:Int)(t u v:Tok)(hc0:¬(!(Builtin.Range.rangeFitsLong a && Builtin.Range.rangeFitsLong b && Builtin.Range.rangeFitsLong c && Builtin.Range.rangeFitsLong (-c) && Builtin.Range.rangeFitsLong (a-c) && Builtin.Range.rangeFitsLong (Builtin.Range.rangeSize a b c)))=true) :
 Meets (Builtin.«range.__reversed__» ⟨[.ref r],[]⟩) (λ_ R s=>s.heap.get? r=some {cls:=.type "range",dict:=none,data:=.fields #[.int a t,.int b u,.int c v],slots:=#[]} /\
  R (.ok (.ret (Value.ref s.heap.objs.size))) {s with heap:=s.heap.push {cls:=Value.type (if(Builtin.Range.rangeFitsLong a && Builtin.Range.rangeFitsLong b && Builtin.Range.rangeFitsLong c && Builtin.Range.rangeFitsLong (-c) && Builtin.Range.rangeFitsLong (a-c) && Builtin.Range.rangeFitsLong (Builtin.Range.rangeSize a b c))=true then "range_iterator" else "longrange_iterator"),data:=.fields #[rawInt (a+(Builtin.Range.rangeSize a b c-1)*c),rawInt (Builtin.Range.rangeSize a b c),rawInt (-c)]}}) :=
 .of_wp λprog w A R s h=>by obtain⟨hp,g,d,tk,os⟩:=s;obtain⟨hl,h⟩:=h;wp_walk;exact⟨_,rfl,h⟩
noncomputable def yi7(n:Int):Obj:={cls:=.type "range_iterator",data:=.fields #[rawInt (n-1),rawInt n,rawInt (-1)]}
theorem xr4{r:Addr}{n:Int}{t u v:Tok}(hr:s.heap.get? r=some {cls:=.type "range",data:=.fields #[.int 0 t,.int n u,.int 1 v]})(h0:0<=n)(h1:n<2 ^ 62)(h:Q (.ref s.heap.objs.size) {s with heap:=s.heap.push (yi7 n)}):wpAny #[10] A (call (.builtin "range.__reversed__") [.ref r]) Q E s:=by
 have e1:Builtin.Range.rangeSize 0 n 1=n:=by rw[rangeSize_one];split <;> omega
 have fit:∀k:Int,-(2 ^ 62)<=k->k<=2 ^ 62->Builtin.Range.rangeFitsLong k=true:=λk a b=>by
  unfold Builtin.Range.rangeFitsLong;simp only[Bool.and_eq_true,decide_eq_true_eq];constructor <;> omega
 have sm:(Builtin.Range.rangeFitsLong 0 && Builtin.Range.rangeFitsLong n && Builtin.Range.rangeFitsLong 1 && Builtin.Range.rangeFitsLong (-1) && Builtin.Range.rangeFitsLong (0-1) && Builtin.Range.rangeFitsLong (Builtin.Range.rangeSize 0 n 1))=true:=by
  rw[e1,fit 0 #[7] #[7],fit n #[0] #[0],fit 1 #[7] #[7],fit (-1) #[7] #[7],fit (0-1) #[7] #[7]];rfl
 refine call_meets F.slot_range_reversed ⟨_,hr,rfl⟩ F.entry_range_reversed (F.args_range_reversed_1 _) (xk0 r 0 n 1 t u v (by rw[sm];decide)) ⟨hr,?_⟩;rw[if_pos sm,e1];have e2:(0:Int)+(n-1)*1=n-1:=by omega
 rw[e2];exact h
theorem ww8{r:Addr}{n:Int}{t u v:Tok}{Q₁:Value->Shared->Prop}(hr:s.heap.get? r=some {cls:=.type "range",data:=.fields #[.int 0 t,.int n u,.int 1 v]})(h0:0<=n)(h1:n<2 ^ 62)(h:Q₁ (.ref s.heap.objs.size) {s with heap:=s.heap.push (yi7 n)}) :
 codeAny #[10] A (.call (.builtin "reversed.__new__") ⟨[.type "reversed",.ref r],[]⟩) (wants Q₁ E) s:=by
 have hT:s.TypeIs (.ref r) "range":=⟨_,hr,rfl⟩
 refine codeAny_of_tree ?_
 show wpAny _ A.in1 (do checkBuiltinCall "reversed.__new__" ⟨[.type "reversed",.ref r],[]⟩;again (.builtin "reversed.__new__" ⟨[.type "reversed",.ref r],[]⟩)) _ _ s
 refine wpAny_bind (wpAny_of_eq (F.newCall_reversed_1 _) (wpAny_pure ⟨plainId_quiet F.plain_reversed_new _,codeAny_builtin F.entry_reversed_new ?_⟩))
 rw[Around.under_plainId F.plain_reversed_new _]
 unfold Builtin.«reversed.__new__»
 refine wpAny_bind (wpAny_of_eq (newClass_reversed _) ?_)
 try dsimp only
 refine wpAny_bind (wpAny_of_eq (a:=()) (by first|rfl|kernel_rfl) ?_)
 refine wpAny_bind (wpAny_of_eq (a:=()) (by first|rfl|kernel_rfl) ?_)
 try dsimp only
 refine wpAny_bind (wpAny_specialOf hT F.slot_range_reversed.lookup ?_)
 try dsimp only
 refine wpAny_bind (wpAny_of_eq (F.slot_range_reversed.bind _) ?_)
 try dsimp only
 first
 | rw[if_neg (show ¬((Value.builtin "range.__reversed__" == Value.none)=true) from Bool.false_ne_true)]
 | (show wpAny _ _ (if(Value.builtin "range.__reversed__" == Value.none)=true then _ else _) _ _ _;rw[if_neg (show ¬((Value.builtin "range.__reversed__" == Value.none)=true) from Bool.false_ne_true)])
 refine wpAny_bind (wpAny_rule ?_)
 refine wpAny_bind (m:=runValue (.call (.builtin "range.__reversed__") ⟨[.ref r],[]⟩)) (show wpAny _ _ (call (.builtin "range.__reversed__") [.ref r]) _ _ _ from xr4 hr h0 h1 ?_)
 first
 | exact wpAny_pure h
 | exact wpAny_bind (wpAny_pure (wpAny_pure h))
theorem ww9{r:Addr}{n:Int}{t u v:Tok}(hr:s.heap.get? r=some {cls:=.type "range",data:=.fields #[.int 0 t,.int n u,.int 1 v]})(h0:0<=n)(h1:n<2 ^ 62)(h:Q (.ref s.heap.objs.size) {s with heap:=s.heap.push (yi7 n)}):wpAny #[10] A (call (.type "reversed") [.ref r]) Q E s:=by
 refine callType_other (U := "range_iterator") (Q₁:=λobj s₁=>obj=.ref s.heap.objs.size/\s₁={s with heap:=s.heap.push (yi7 n)}) #[11] F.create_reversed ⟨_,_,F.mro_reversed⟩ F.made_reversed xj9 (F.typeCall_reversed_1 _) (ww8 hr h0 h1 ⟨rfl,rfl⟩) ?_;rintro obj s₁ ⟨rfl,rfl⟩;exact⟨⟨_,Heap.get?_push_size _ rfl,rfl⟩,h⟩
noncomputable def Itv(n:Nat):It:=⟨λi _=>i<n,λi H x H'=>H'=H/\x=.int ((n:Int)-1-i),λi _=>n<=i⟩
theorem yp2{tg:Expr}(it:Addr)(n:Nat):xj4 P w K tg (Itv n) [it] it (λi h=>IsRangeIter h it ((n:Int)-1+(i:Nat)*(-1)) ((n:Int)-(i:Nat)) (-1)) where
 mem:=by simp
 obj:=λi h st b hb=>by
  have e:b=it:=by simpa using hb
  subst e;exact⟨_,st,λv z=>by
   have z':Data.fields _=Data.cell v:=z;cases z'⟩
 keep:=λi h h' st k=>k it (by simp) _ st
 item:=by
  walk_at"0";walk_at"12";have W:=Walks.range (prog:=X.prog) (w:=X.w) (I.ok.hd hc) it ((n:Int)-1) (-1) n;walk_at"31";refine⟨_,rfl,yc9 (s:={s with heap:=h',toks:=tk}) (n := "range_iterator") st' rfl rfl #[7] ⟨.int ((n:Int)-1-i),H,I1,⟨t,?_⟩,⟨rfl,rfl⟩,st',λb hb=>(hf b hb).1⟩⟩;have e:(n:Int)-1+(i:Int)*(-1)=(n:Int)-1-i:=by omega
  rw[e]
 done:=by
  walk_at"0";walk_at"12";exact wpAny_pyNext_range_end (I.ok.hd hc) st (by have:n<=i:=hg;omega) λh' eb=>⟨rfl,I.turned (t':=s.toks) (λb o hb e=>eb b o hb e) f0 f1 f3 f4 f5⟩
 self:=λ_ _ _ _ _ st h=>wpAny_pyIter_rangeiter st h
def yi8(ta:TA):TI:=λσ H R=>ta σ H λvs H1=>∃n:Nat,vs=[.int n]/\(n:Int)<2 ^ 62/\R (Itv n) H1
theorem xi6{tg:Expr}{a:Expr}{ta:TA}{p pos2:Pos}(hg:Gl X "reversed")(hm:X.mg "reversed"=none)(hg2:Gl X "range")(hm2:X.mg "range"=none)(ha:PA X [a] ta)(hs:autoParam (starEach [a] X.env=[(false,eval a X.env)]) zAr)(hs2:autoParam (starEach [.Call (.Name "range" p2) [a] [] pos2] X.env=[(false,eval (.Call (.Name "range" p2) [a] [] pos2) X.env)]) zAr) :
 PI X tg (.Call (.Name "reversed" p) [.Call (.Name "range" p2) [a] [] pos2] [] pos) (yi8 ta):=by
 intro pins s σ H R I h
 refine Call_ (qr6 I hg hm boot_reversed (PyProof.Rows.callWith_type1 (Calls.spliced_cons ?_) hs2 rfl))
 refine Call_ (qr6 I hg2 hm2 boot_range (PyProof.Rows.callWith_type1 (thn (ha pos2 pins s σ H _ I h) λus s1 zq=>?_) hs rfl))
 obtain⟨vs,H1,I1,r1,q1⟩:=zq
 obtain⟨n,e,q1,q⟩:=q1
 subst e
 cases r1 with
 | cons r rr =>
   cases rr
   obtain⟨t,rfl⟩:=r
   refine call_range_1 (Calls.spliced_nil ?_)
   have I2:Inv X pins σ H1 {s1 with heap:=s1.heap.push {cls:=.type "range",data:=.fields #[.int 0 s1.toks,.int n t,.int 1 (s1.toks+1)]},toks:=s1.toks+1+1}:=I1.kept λb o e=>Heap.get?_push_of_some _ e
   refine ww9 (n:=n) (Heap.get?_push_size _ rfl) #[0] q1 ?_
   refine wpAny_pyIter_rangeiter (x:=(n:Int)-1) (left:=n) (step:=-1) (Heap.get?_push_size _ rfl) ?_
   refine⟨_,[_],_,_,H1,rfl,I2.kept (t':=s1.toks+1+1) λb o e=>Heap.get?_push_of_some _ e,yp2 _ n,?_,λb hb=>?_,q⟩
   ·have e1:(n:Int)-1+((0:Nat):Int)*(-1)=(n:Int)-1:=by simp
    have e2:(n:Int)-((0:Nat):Int)=n:=by simp
    rw[e1,e2]
    exact Heap.get?_push_size _ rfl
   ·have e:b=(s1.heap.push {cls:=.type "range",data:=.fields #[.int 0 s1.toks,.int n t,.int 1 (s1.toks+1)]}).objs.size:=by simpa using hb
    subst e
    exact I2.fpOk #[6] (I2.hok.fresh #[6])
theorem Ak6{ta:TA}(h:ta σ H λvs H1=>∃n:Nat,vs=[.int n]/\(n:Int)<2 ^ 62/\R (Itv n) H1):yi8 ta σ H R:=h
theorem zd3(hn:(n:Int)<2 ^ 62)(Pv:Nat->St->Hp->Prop)(p0:Pv 0 σ H)(hs:∀(i:Nat) σ H,i<n->Pv i σ H->g (.int ((n:Int)-1-i)) σ H λσ2 H2=>tb {D with nx:=PAt Pv (i+1),ct:=PAt Pv (i+1),bk:=D.nx} σ2 H2)(hd:∀σ H,Pv n σ H->D.nx σ H) :
 ∃m:Nat,[V.int n]=[.int m]/\(m:Int)<2 ^ 62/\wq2 g tb D σ (Itv m) H:=by
 refine⟨n,rfl,hn,λi m σ H=>m=n-i/\i<=n/\Pv i σ H,⟨n,by simp,Nat.zero_le _,p0⟩,?_⟩
 rintro i m σ H ⟨rfl,hi,p⟩
 by_cases hlt:i<n
 ·refine .inr ⟨hlt,Pv (i+1),λσ' H' p'=>⟨n-(i+1),by omega,rfl,hlt,p'⟩,λx H' y=>?_⟩
  obtain⟨e,y⟩:=y
  subst e y
  exact hs i σ _ hlt p
 ·have e:i=n:=by omega
  subst e
  exact .inl ⟨Nat.le_refl _,hd σ H p⟩
def xr5:zm0:=λo i v H Q=>zn1 o i v H Q\/∃a H',o=.ref a/\yw1 H a i v H'/\Q H'
theorem wk5(hu:X.A.units+1<cLine):Ah7 X xr5:=by
 intro pins s σ H o i v ov iv u Q I ro ri rv h;rcases h with h|⟨a,H',rfl,g,q⟩
 ·exact zn2 pins s σ H o i v ov iv u Q I ro ri rv h
 ·cases ro;exact zh1 hu I g ri rv λs' I'=>⟨H',I',q⟩
def D7(K:Fg):R2:=rIx K
theorem G5(hu:X.A.units+1<cLine):IxR X (D7 X.K):=Ai5
def Au5(neg:Bool):R2:=λx y H Q=>∃a o,y=.ref a/\yw0 H a x o/\Q (.bl (if neg then !o.isSome else o.isSome)) H
def wa5(K:Fg)(neg:Bool):R2:=λx y H Q=>zo4 K neg x y H Q\/Au5 neg x y H Q
theorem qy4(hu:X.A.units+1<cLine):OpR X (compareOp .In) (wa5 X.K false):=by
 refine Aj6.or ?_;walk_at"7";obtain⟨a,o,rfl,g,q⟩:=h;cases ry;exact Au0 hu I g rx λs' I'=>⟨.bl o.isSome,H,I',rfl,q⟩
theorem wa6(hu:X.A.units+1<cLine):OpR X (compareOp .NotIn) (wa5 X.K true):=by
 refine zh7.or ?_;walk_at"7";obtain⟨a,o,rfl,g,q⟩:=h;cases ry;exact zy0 hu I g rx λs' I'=>⟨.bl (!o.isSome),H,I',rfl,q⟩
def zh9(K:Fg):List V->Hp->VK->Prop:=λxs H Q=>(∃(x:V) (T:String) (t:Value) (b:Bool),xs=[x,.ty T]/\wv9 K H x t/\PySem.W.kitOne K t (.type T)=some b/\Q (.bl b) H) \/
 ∃(a:Addr) (ys:List V) (T:String) (b:Bool),xs=[.ref a,.ty T]/\SqT K H a ys/\PySem.W.kitOne K (.type "tuple") (.type T)=some b/\Q (.bl b) H
theorem xd0:Y0 X (.builtin "isinstance") (zh9 X.K):=by
 walk_at"35";rcases h with⟨x,T,t,b,rfl,ty,e,q⟩|⟨a,ys,T,b,rfl,hq,e,q⟩
 ·obtain⟨u,w',rfl,r1,r2⟩:=xq1 r;cases r2;exact wpAny_with_toks (n:=1) I.tk (zg6 I r1 ty e λtk ht=>⟨.bl b,H,I.tok _ ht,rfl,q⟩)
 ·obtain⟨u,w',rfl,r1,r2⟩:=xq1 r;cases r2;cases r1;obtain⟨its,rv,pl,hz⟩:=I.tuple hq;obtain⟨o,h1,h2,_⟩:=pl;exact wpAny_with_toks (n:=1) I.tk (PySem.W.kia_one PySem.W.kitx_tuple I.kIn ⟨o,h1,h2⟩ e (λz=>nomatch z) λtk ht=>⟨.bl b,H,I.tok _ ht,rfl,q⟩)
theorem Ar5{Q:VK}{x:V}{t:Value}{b:Bool}(ty:wv9 K H x t)(e:PySem.W.kitOne K t (.type T)=some b)(h:Q (.bl b) H):zh9 K [x,.ty T] H Q:=.inl ⟨x,T,t,b,rfl,ty,e,h⟩
theorem Ak7{Q:VK}{b:Bool}(hq:SqT K H a ys)(e:PySem.W.kitOne K (.type "tuple") (.type T)=some b)(h:Q (.bl b) H):zh9 K [.ref a,.ty T] H Q:=.inr ⟨a,ys,T,b,rfl,hq,e,h⟩
example (K:Fg):PySem.W.kitOne K (.type "str") (.type "str")=some true:=by rfl
example (K:Fg):PySem.W.kitOne K (.type "bool") (.type "int")=some true:=by rfl
example (K:Fg):PySem.W.kitOne K (.type "int") (.type "bool")=some false:=by rfl
example (K:Fg):PySem.W.kitOne K (.type "list") (.type "list")=some true:=by rfl
section
variable{σ:List (Option V)}
theorem Inv.turnLaid{o:HO}(I:Inv X pins σ H s)(hf:∀b∈ch,xz5 X pins H b)(k:∀b u,b∉ch->s.heap.get? b=some u->h'.get? b=some u)(hp:s.heap.objs.size<=a)(new:Q8 X.prog X.w (upd H a o) h' a o)(ht:0<t') :
 Inv X pins σ (upd H a o) {s with heap:=h',toks:=t'}:=by
 have hn:H a=none:=I.hok.fresh hp
 have nit:∀b u,H b=some u->b∉ch:=λb u e z=>by rw[(hf b z).1] at e;cases e
 have up:∀{b:Addr} {u:HO},H b=some u->upd H a o b=some u:=λ{b u} e=>by rw[A8 (U8 e hn)];exact e
 have neA:∀b u,s.heap.get? b=some u->b≠a:=λb u e=>Nat.ne_of_lt (Nat.lt_of_lt_of_le (Heap.lt_size e) hp)
 refine I.step (g':=s.gens) (d':=s.drawn) (ch:=ch) (λb hb=>?_) (λb u _ _ hc e _=>k b u hc e) (λb u _ _ hc e _=>⟨u.slots,k b u hc e⟩) (λb u _ e n=>by rw[A8 (neA b u e)];exact n)
  (λb u hc e=>⟨u,k b u hc e⟩) (λ_ _ e=>up e) (λ_ _ _ e=>up e) (λb ps e=>⟨#[],by rw[up e];simp⟩) (λm hm=>?_) (λb u e=>?_) I.bare ht
 ·obtain⟨f0,f1,f2,f3,f4,f5⟩:=hf b hb
  exact⟨f3,f1,f4,f5⟩
 ·obtain⟨ob,es,ep,ho,r⟩:=hm
  exact⟨ob,es,ep,k _ ob (λz=>(hf _ z).2.1 rfl) ho,r⟩
 ·by_cases hb:b=a
  ·subst hb;rw[A2] at e;cases e;exact new
  ·rw[A8 hb] at e
   refine(I.hok b u e).stay (λc v hc q=>k c v ?_ q) (λ_ q=>up q) λ_ _ q=>up q
   rcases hc with z|z
   ·rw[z];exact nit b u e
   ·exact nit c _ z
end
noncomputable def Itx(n:Nat)(V':Nat->V->Prop):It:=⟨λi _=>i<n,λi H x H'=>H'=H/\V' i x,λi _=>n<=i⟩
theorem yw8{tg:Expr}{Pv:Nat->Value->Prop}{St:Nat->Heap->Prop}{V':Nat->V->Prop}{vs:Nat->Array Value}(W:∀A:Around,A.handled=none->Walks P w A it [it] [it] n Pv St)(hV:∀i v,Pv i v->∃x,D8 x v/\V' i x)(hO:∀i h,St i h->∃o,h.get? it=some o/\o.cls=.type T/\o.data=.fields (vs i))(hT:["enumerate","zip","dict_itemiterator","dict_reverseitemiterator","odict_iterator","itertools.zip_longest","itertools.pairwise"].contains T=false)(hS:∀(A:Around) (i:Nat) (s:Shared) (Q:Value->Shared->Prop) (E:Value->Shared->Prop),St i s.heap->Q (.ref it) s->wpAny (model P w) A (pyIter (.ref it)) Q E s) :
 xj4 P w K tg (Itx n V') [it] it (λi h=>i<=n/\St i h) where
 mem:=by simp
 obj:=λi h st b hb=>by
  have e:b=it:=by simpa using hb
  subst e;obtain⟨o,e,_,d⟩:=hO i h st.2;exact⟨o,e,λv z=>by rw[d] at z;cases z⟩
 keep:=λi h h' st k=>⟨st.1,(W {} rfl).frame i h h' st.2 k⟩
 item:=by
  walk_at"0";walk_at"12";refine wpAny_with_toks (n:=1) I.tk ((W X.A (I.ok.hd hc)).item i s _ _ hg st.2 λv h' tk hv st' kk ht=>?_);have ht:0<tk:=ht;obtain⟨x,rx,vx⟩:=hV i v hv;have I1:Inv X pins σ H {s with heap:=h',toks:=tk}:=I.turned (λb o hb e=>kk b o (by simpa using hb) e) f0 f1 f3 f4 f5;obtain⟨o,e,c,d⟩:=hO _ _ st';exact⟨v,rfl,yc9 (s:={s with heap:=h',toks:=tk}) e c d hT ⟨x,H,I1,rx,⟨rfl,vx⟩,⟨hg,st'⟩,λb hb=>(hf b hb).1⟩⟩
 done:=by
  walk_at"0";walk_at"12";have hi:i=n:=Nat.le_antisymm st.1 hg;subst hi;exact wpAny_with_toks (n:=1) I.tk ((W X.A (I.ok.hd hc)).done s _ _ st.2 λh' tk eb ht=>⟨rfl,I.turned (λb o hb e=>eb b o (by simpa using hb) e) f0 f1 f3 f4 f5 ht⟩)
 self:=λA i s Q E st h=>hS A i s Q E st.2 h
section
variable{σ:List (Option V)}
theorem Inv.turnedL(I:Inv X pins σ H s)(hf:∀b∈ch,xz5 X pins H b)(k:∀b u,b∉ch->s.heap.get? b=some u->h'.get? b=some u)(ht:0<t') :
 Inv X pins σ H {s with heap:=h',toks:=t'}:=by
 have nit:∀b u,H b=some u->b∉ch:=λb u e z=>by rw[(hf b z).1] at e;cases e
 refine I.step (g':=s.gens) (d':=s.drawn) (ch:=ch) (λb hb=>?_) (λb u _ _ hc e _=>k b u hc e) (λb u _ _ hc e _=>⟨u.slots,k b u hc e⟩) (λ_ _ _ _ n=>n)
  (λb u hc e=>⟨u,k b u hc e⟩) (λ_ _ e=>e) (λ_ _ _ e=>e) (λb ps e=>⟨#[],by rw[e];simp⟩) (λm hm=>?_) (λb u e=>?_) I.bare ht
 ·obtain⟨f0,f1,f2,f3,f4,f5⟩:=hf b hb
  exact⟨f3,f1,f4,f5⟩
 ·obtain⟨ob,es,ep,ho,r⟩:=hm
  exact⟨ob,es,ep,k _ ob (λz=>(hf _ z).2.1 rfl) ho,r⟩
 ·refine(I.hok b u e).stay (λc v hc q=>k c v ?_ q) (λ_ q=>q) λ_ _ q=>q
  rcases hc with z|z
  ·rw[z];exact nit b u e
  ·exact nit c _ z
end
noncomputable def Itp(n:Nat)(V':Nat->List V->Prop):It:=⟨λi _=>i<n,λi H x H'=>∃p xs,x=.ref p/\H p=none/\V' i xs/\H'=upd H p (.tup xs),λi _=>n<=i⟩
variable{elts:List Expr}
theorem yp3{k:Nat}{fp wr:List Addr}{Pt:Nat->Array Value->Prop}{St:Nat->Heap->Prop}{Mid:Nat->Addr->Heap->Prop}{V':Nat->List V->Prop}(W:∀A:Around,A.handled=none->WalksT P w A it fp wr n Pt St Mid)(hmem:it∈fp)(hV:∀i vs,Pt i vs->∃xs,D3 xs vs.toList/\V' i xs/\xs.length<=64)(hO:∀i h,St i h->∀b∈fp,∃o,h.get? b=some o/\∀v,o.data≠.cell v)(hS:∀(A:Around) (i:Nat) (s:Shared) (Q:Value->Shared->Prop) (E:Value->Shared->Prop),St i s.heap->Q (.ref it) s->wpAny (model P w) A (pyIter (.ref it)) Q E s) :
 xj4 P w K (.Tuple elts k pos) (Itp n V') fp it (λi h=>i<=n/\St i h) where
 mem:=hmem
 obj:=λi h st b hb=>hO i h st.2 b hb
 keep:=λi h h' st kk=>⟨st.1,(W {} rfl).frame i h h' st.2 kk⟩
 item:=by
  walk_at"0";have W:=W X.A (I.ok.hd hc);refine wpAny_with_toks (n:=1) I.tk (W.item i s _ _ hg st.2 λT vs h' tk hv hT htup hmid kk ht=>?_);have ht:0<tk:=ht;obtain⟨xs,rx,vx,hz⟩:=hV i vs hv;have hap:=W.apart i T h' hmid;refine⟨_,rfl,W.go elts k pos i T {s with heap:=h',toks:=tk} _ _ hmid λh2 st2 k2=>?_⟩;have htup2:IsTup h2 T vs.toList.toArray:=by
   obtain⟨o,e,c⟩:=htup;exact⟨o,k2 T o hap e,by simpa using c⟩
  have I1:Inv X pins σ (upd H T (.tup xs)) {s with heap:=h2,toks:=tk}:=I.turnLaid (ch:=wr) (λb hb=>hf b (W.sub b hb)) (λb u hb e=>k2 b u hb (kk b u hb e)) hT ⟨by rw[sizeLine_eq];omega,vs.toList,rx,htup2⟩ ht;refine⟨.ref T,_,I1,rfl,⟨T,xs,rfl,I.hok.fresh hT,vx,rfl⟩,⟨hg,st2⟩,λb hb=>?_⟩;obtain⟨o,e,_⟩:=hO i _ st.2 b hb;rw[A8 #[22,hT]];exact(hf b hb).1
 done:=by
  walk_at"0";have W:=W X.A (I.ok.hd hc);have hi:i=n:=Nat.le_antisymm st.1 hg;subst hi;exact wpAny_with_toks (n:=1) I.tk (W.done s _ _ st.2 λh' tk eb ht=>⟨rfl,I.turnedL (ch:=wr) (λb hb=>hf b (W.sub b hb)) eb ht⟩)
 self:=λA i s Q E st h=>hS A i s Q E st.2 h
theorem zi0(hh:A.handled=none)(it:Addr)(x:Str)(t:Tok) :
 Draws P w A it [it] x.cps.size (λi v=>∃c u,x.cps[i]?=some c/\v=.str ⟨#[c]⟩ u) (λi h=>h.IsStrIter it (strIterType x) x t i):=by
 unfold strIterType
 split
 ·exact Draws.strAscii hh it x t
 ·exact Draws.strWide hh it x t
theorem zi1(hh:A.handled=none)(it:Addr)(x:Str)(t:Tok):Walks P w A it [it] [it] x.cps.size (SignAt x) (λi h=>h.IsStrIter it (strIterType x) x t i):=by
 unfold strIterType;split
 ·exact Walks.strAscii hh it x t
 ·exact Walks.strWide hh it x t
theorem yp4{t:Tok}{i:Nat}(hit:s.heap.IsStrIter it (strIterType x) x t i)(h:Q (.ref it) s) :
 wpAny (model P w) A (pyIter (.ref it)) Q E s:=by
 unfold strIterType at hit
 split at hit
 ·exact wpAny_pyIter_striter_ascii hit h
 ·exact wpAny_pyIter_striter_wide hit h
def ye3(z:Str)(i:Nat)(x:V):Prop:=∃c,z.cps.toList[i]?=some c/\x=.str ⟨#[c]⟩
theorem zp3(i:Nat)(v:Value)(h:SignAt z i v):∃x,D8 x v/\ye3 z i x:=by
 obtain⟨c,u,e,rfl⟩:=h;exact⟨.str ⟨#[c]⟩,⟨u,rfl⟩,c,by simpa using e,rfl⟩
theorem zp4{tg:Expr}(it:Addr)(z:Str)(t:Tok):xj4 P w K tg (Itx z.cps.size (ye3 z)) [it] it (λi h=>i<=z.cps.size/\h.IsStrIter it (strIterType z) z t i):=by
 refine yw8 (T:=strIterType z) (vs:=λi=>#[.str z t,.int i 0]) (λA hA=>zi1 hA it z t) zp3 (λi h st=>?_) ?_ (λA i s Q E st h=>yp4 st h)
 ·obtain⟨o,e,c,d⟩:=st;exact⟨o,e,c,d⟩
 ·unfold strIterType;split <;> decide
def zz5(tl:TE):TI:=λσ H R=>tl σ H λx H1=>∃z,x=.str z/\R (Itx z.cps.size (ye3 z)) H1
theorem yi9{tg l:Expr}(hl:PE X l tl):PI X tg l (zz5 tl):=by
 intro pins s σ H R I h;refine thn (hl pins s σ H _ I h) λv s1 zq=>?_;walk_at"32";obtain⟨z,e,q⟩:=q1;subst e;obtain⟨t,rfl⟩:=r1;refine wpAny_pyIter_strU ?_;refine⟨s1.heap.objs.size,[s1.heap.objs.size],_,_,H1,rfl,I1.kept (t':=s1.toks) λb o e=>Heap.get?_push_of_some _ e,zp4 _ z t,⟨Nat.zero_le _,_,Heap.get?_push_size _ rfl,rfl,rfl⟩,λb hb=>?_,q⟩;walk_at"20"
def yw9(ta:TA):TI:=λσ H R=>ta σ H λvs H1=>∃z,vs=[.str z]/\R (Itp z.cps.size λi xs=>∃c,z.cps.toList[i]?=some c/\xs=[.int i,.str ⟨#[c]⟩]) H1
theorem yp5{k:Nat}{p:Pos}{l:Expr}{ta:TA}(hg:Gl X "enumerate")(hm:X.mg "enumerate"=none)(ha:PA X [l] ta)(hs:autoParam (starEach [l] X.env=[(false,eval l X.env)]) zAr) :
 PI X (.Tuple elts k tpos) (.Call (.Name "enumerate" p) [l] [] pos) (yw9 ta):=by
 intro pins s σ H R I h
 refine Call_ (qr6 I hg hm boot_enumerate (PyProof.Rows.callWith_type1 (thn (ha pos pins s σ H _ I h) λus s1 zq=>?_) hs rfl))
 obtain⟨vs,H1,I1,r1,q1⟩:=zq
 obtain⟨z,e,q⟩:=q1
 subst e
 obtain⟨v,rfl,rv⟩:=qv2 r1
 obtain⟨t,rfl⟩:=rv
 refine call_enumerate_str λh' he hit hz hk=>?_
 have I2:Inv X pins σ H1 {s1 with heap:=h'}:=I1.kept (t':=s1.toks) hk
 refine wpAny_pyIter_enum he ?_
 have ne:s1.heap.objs.size+1≠s1.heap.objs.size:=by omega
 refine⟨s1.heap.objs.size+1,_,_,_,H1,rfl,I2,yp3 (V':=λi xs=>∃c,z.cps.toList[i]?=some c/\xs=[.int i,.str ⟨#[c]⟩]) (λA hA=>WalksT.enumerateD (zi0 (show A.in1.handled=none from hA) s1.heap.objs.size z t) (s1.heap.objs.size+1) ne (by simpa using ne) (by simp)) (by simp) ?_ ?_ ?_,⟨Nat.zero_le _,⟨_,he⟩,hit⟩,λb hb=>?_,q⟩
 ·rintro i vs ⟨t1,v,⟨c,u,e,rfl⟩,rfl⟩
  exact⟨[.int i,.str ⟨#[c]⟩],.cons ⟨t1,rfl⟩ (.cons ⟨u,rfl⟩ .nil),⟨c,by simpa using e,rfl⟩,by simp⟩
 ·rintro i h ⟨⟨old,e1⟩,o2,e2,_,d2⟩ b hb
  have hb:b=s1.heap.objs.size+1\/b=s1.heap.objs.size:=by simpa using hb
  rcases hb with rfl|rfl
  ·exact⟨_,e1,λv z=>by cases (show Data.fields _=Data.cell v from z)⟩
  ·exact⟨_,e2,λv z=>by rw[d2] at z;cases z⟩
 ·rintro A i s Q E ⟨⟨old,e1⟩,_⟩ h
  exact wpAny_pyIter_enum e1 h
 ·have hb:b=s1.heap.objs.size+1\/b=s1.heap.objs.size:=by simpa using hb
  rcases hb with rfl|rfl
  ·exact I1.fpOk (Nat.le_succ _) (I1.hok.fresh (Nat.le_succ _))
  ·exact I1.fpOk #[6] (I1.hok.fresh #[6])
def ye4(te:TE)(y z:Str):TE:=λσ H Q=>te σ H λx H1=>∃a,x=.str a/\a.length<=1048576/\Q (.str (PySem.Txt.replace a y z)) H1
variable{j1 j2:Nat}{p1:Pos}
theorem xo6{y:Str}(ho:PE X o te)(hz:autoParam (z.length<=14) zAd)(hyz:autoParam ((y == z)=false) zAd)(hbase:autoParam (attributeBase o "replace" X.env (eval o X.env)=eval o X.env) zAr) (hfew:((backTo cpos (starEach [.Constant (.str y) j1 p1,.Constant (.str z) j2 p2] X.env)).all (λx=>!x.1) && (backToKw cpos (keywordEach [] X.env)).all (λx=>x.1.isSome)
  && decide (([.Constant (.str y) j1 p1,.Constant (.str z) j2 p2]:List Expr).length+([]:List Keyword).length+(if([]:List Keyword).isEmpty then 0 else 1)<30))=true:=by rfl) (hline:autoParam ((apos.endLine == cpos.line)=true) zAr) (hs:autoParam (starEach [.Constant (.str y) j1 p1,.Constant (.str z) j2 p2] X.env=[(false,eval (.Constant (.str y) j1 p1) X.env),(false,eval (.Constant (.str z) j2 p2) X.env)]) zAr) :
 PE X (.Call (.Attribute o "replace" apos) [.Constant (.str y) j1 p1,.Constant (.str z) j2 p2] [] cpos) (ye4 te y z):=by
 walk_at"22"
 refine wpAny_Call_method_late hbase hfew hline rfl (thn (ho pins s σ H _ I h) λv s1 zq=>?_)
 walk_at"32"
 obtain⟨a,rfl,hl,q⟩:=q1
 obtain⟨h1,h2⟩:=yv8 (T := "str") I1 r1 (show tyV X.K "str" (.str a) H1 from rfl)
 refine⟨"str","str.replace",PySem.F.plainAttrs_str,PySem.F.slot_str_replace,PySem.F.type_str_replace,h1,h2,?_⟩
 obtain⟨t,rfl⟩:=r1
 rw[hs]
 refine Calls.callWith_builtin rfl (Calls.evalArgs_plain ?_)
 refine Calls.spliced_cons (Calls.Constant_str (k:=j1) (pos:=p1) (Calls.spliced_cons (Calls.Constant_str (k:=j2) (pos:=p2) (Calls.spliced_nil ?_))))
 exact wpAny_with_toks (n:=1) (s:={s1 with toks:=s1.toks+1+1}) (Nat.succ_pos _) (PySem.SC.replaceW (Nat.ne_of_gt I1.tk) (Nat.succ_ne_zero _) (by show s1.toks≠s1.toks+1;omega) hyz hl hz λt' k ht=>⟨.str _,H1,I1.tok _ ht,⟨_,rfl⟩,q⟩)
noncomputable def Z8(x:Str)(lo hi:Option Int):Str:=⟨((x.cps.toList.drop (HT.sIx x.cps.toList.length 0 lo)).take (HT.sIx x.cps.toList.length x.cps.toList.length hi-HT.sIx x.cps.toList.length 0 lo)).toArray⟩
def Ar6:V->Option Int->Option Int->Hp->VK->Prop:=λx lo hi H Q=>∃z,x=.str z/\z.length<=sizeLine/\Q (.str (Z8 z lo hi)) H
theorem zi2(x:Str)(lo hi:Option Int):(⟨((Builtin.Str.strSliceIndices lo hi 1 x.length).filterMap (x.cps[·]?)).toArray⟩:Str)=Z8 x lo hi:=by
 obtain⟨h1,h2,h3⟩:=we3 lo hi x.length;have e:Builtin.Str.strSliceIndices lo hi 1 x.length=sliceRange (sliceBounds lo hi none x.length).1 (sliceBounds lo hi none x.length).2.1 (sliceBounds lo hi none x.length).2.2:=rfl;rw[e,h1,h2,h3];unfold Z8;rw[sliceRange_one,pick_run];rfl
theorem yv4(n d:Nat)(o:Option Int)(h:d<=n):HT.sIx n d o<=n:=by
 cases o with
 | none=>exact h
 | some v =>
   show(if v<0 then(v+(n:Int)).toNat else min v.toNat n)<=n
   split <;> omega
theorem Ak8:SlR X Ar6:=by
 intro pins s σ H x v vl vu lo hi sl Q I rx hs pl pu h;obtain⟨z,rfl,hz,q⟩:=h;obtain⟨t,rfl⟩:=rx;refine⟨"str",_,PySem.F.slot_str_getitem.lookup,typeIs_str _ _ _,?_⟩;have part:∀{v:Value} {k:Option Int},IsPart v k->∃l:Option (Int×Tok),v=partValue l/\l.map (·.1)=k:=λ{v k} h=>by
  cases h with
  | none=>exact⟨none,rfl,rfl⟩
  | int i t=>exact⟨some (i,t),rfl,rfl⟩
 obtain⟨l,rfl,el⟩:=part pl;obtain⟨u,rfl,eu⟩:=part pu;refine wpAny_getItem_str_slice (l:=l) (u:=u) (st:=none) hs rfl ?_;have ep:slicePicked z l u none=Builtin.Str.strSliceIndices lo hi 1 z.length:=by unfold slicePicked;rw[el,eu];rfl
 have ec:=zi2 z lo hi;unfold sliceMade;rw[ep];split
 ·rename_i hc;have hlen:(Builtin.Str.strSliceIndices lo hi 1 z.length).length=z.length:=by simpa using hc
  have:Z8 z lo hi=z:=by
   obtain⟨h1,h2,h3⟩:=we3 lo hi z.length;have e:Builtin.Str.strSliceIndices lo hi 1 z.length=sliceRange (sliceBounds lo hi none z.length).1 (sliceBounds lo hi none z.length).2.1 (sliceBounds lo hi none z.length).2.2:=rfl;rw[e,h1,h2,h3,sliceRange_one,length_map,length_range] at hlen;have hb:=yv4 z.length z.length hi #[6];have el:z.cps.toList.length=z.length:=Array.length_toList;obtain⟨⟨l⟩⟩:=z;unfold Z8;rw[el,hlen];by_cases h0:HT.sIx (Str.length ⟨⟨l⟩⟩) 0 lo=0
   ·rw[h0,drop_zero,take_of_length_le (Nat.le_of_eq el)]
   ·have:Str.length ⟨⟨l⟩⟩=0:=by omega
    rw[this,take_zero];have:l=[]:=eq_nil_of_length_eq_zero (by rw[<-this];exact el.symm▸rfl);rw[this]
  rw[this] at q;exact⟨.str z,H,I,⟨_,rfl⟩,q⟩
 ·rw[ec];refine⟨?_,.str _,H,I.tok _,⟨_,rfl⟩,q⟩;have:(Z8 z lo hi).length<=z.length:=by
   unfold Z8 Str.length;simp only[size_toArray,length_take,length_drop,Array.length_toList];omega
  omega
def qu8(K:Fg):V->Option Int->Option Int->Hp->VK->Prop:=λx lo hi H Q=>Ar6 x lo hi H Q\/Ap1 K x lo hi H Q\/Ap5 K x lo hi H Q
theorem qn7:SlR X (qu8 X.K):=Ak8.or (Ai2.or zx8)
variable{hi lo:Option Int}
section
variable{Q:VK}
theorem wx0(hz:z.length<=sizeLine)(h:Q (.str (Z8 z lo hi)) H):qu8 K (.str z) lo hi H Q:=.inl ⟨z,rfl,hz,h⟩
theorem wx1(hx:SqL K H a xs)(h:∀p,H p=none->Q (.ref p) (upd H p (.lst (qe8 xs lo hi)))):qu8 K (.ref a) lo hi H Q:=.inr (.inr ⟨a,xs,rfl,hx,h⟩)
theorem Ar7{tl:TO}(h:te σ H λx H1=>tl σ H1 λl H2=>th σ H2 λu H3=>r x l u H3 Q):tSl r te tl th σ H Q:=h
theorem zz6{t:TE}{R:Option Int->Hp->Prop}(h:t σ H λx H1=>∃i,x=.int i/\R (some i) H1):O9 t σ H R:=h
theorem zi3{R:Option Int->Hp->Prop}(h:R none H):U9 σ H R:=h
theorem Ak9{R:Int->Prop}(h:R i):∃j,V.int i=.int j/\R j:=⟨i,rfl,h⟩
theorem zz7{y:Str}(h:te σ H λx H1=>∃a,x=.str a/\a.length<=1048576/\Q (.str (PySem.Txt.replace a y z)) H1):ye4 te y z σ H Q:=h
theorem zp5{ta:TA}(h:ta σ H λvs H1=>∃z,vs=[.str z]/\R (Itp z.cps.size λi xs=>∃c,z.cps.toList[i]?=some c/\xs=[.int i,.str ⟨#[c]⟩]) H1):yw9 ta σ H R:=h
theorem zz8(h:tl σ H λx H1=>∃z,x=.str z/\R (Itx z.cps.size (ye3 z)) H1):zz5 tl σ H R:=h
theorem zz9(Pv:Nat->St->Hp->Prop)(p0:Pv 0 σ H)(hs:∀(i c:Nat) σ H,z.cps.toList[i]?=some c->Pv i σ H->g (.str ⟨#[c]⟩) σ H λσ2 H2=>tb {D with nx:=PAt Pv (i+1),ct:=PAt Pv (i+1),bk:=D.nx} σ2 H2)(hd:∀σ H,Pv z.cps.size σ H->D.nx σ H) :
 ∃z',V.str z=.str z'/\wq2 g tb D σ (Itx z'.cps.size (ye3 z')) H:=by
 refine⟨z,rfl,λi m σ H=>m=z.cps.size-i/\i<=z.cps.size/\Pv i σ H,⟨z.cps.size,by simp,Nat.zero_le _,p0⟩,?_⟩
 rintro i m σ H ⟨rfl,hi,p⟩
 by_cases hlt:i<z.cps.size
 ·refine .inr ⟨hlt,Pv (i+1),λσ' H' p'=>⟨z.cps.size-(i+1),by omega,rfl,hlt,p'⟩,λx H' y=>?_⟩
  obtain⟨rfl,c,ec,rfl⟩:=y
  exact hs i c σ _ ec p
 ·have e:i=z.cps.size:=by omega
  subst e
  exact .inl ⟨Nat.le_refl _,hd σ H p⟩
theorem yx0(Pv:Nat->List V->Hp->Prop)(h0:Pv 0 [] H)(hlen:∀i ys H,i<=z.cps.size->Pv i ys H->ys.length<=sizeLine)(hs:∀(i c:Nat) (p:Addr) ys H,z.cps.toList[i]?=some c->H p=none->Pv i ys H->g (.ref p) σ' (upd H p (.tup [.int i,.str ⟨#[c]⟩])) λσ2 H2=>tt σ2 H2 λb H3=>if b=true then te σ2 H3 λy H4=>PAt Pv (i+1) (ys++[y]) H4 else PAt Pv (i+1) ys H3)(hd:∀ys H,Pv z.cps.size ys H->∀p,H p=none->Q (.ref p) (upd H p (.lst ys))) :
 ∃z',[V.str z]=[.str z']/\qp1 g tt te σ' Q (Itp z'.cps.size λi xs=>∃c,z'.cps.toList[i]?=some c/\xs=[.int i,.str ⟨#[c]⟩]) H:=by
 refine⟨z,rfl,λi m ys H=>m=z.cps.size-i/\i<=z.cps.size/\Pv i ys H,⟨z.cps.size,by simp,Nat.zero_le _,h0⟩,?_⟩
 rintro i m ys H ⟨rfl,hi,p⟩
 refine⟨hlen i ys H hi p,?_⟩
 by_cases hlt:i<z.cps.size
 ·refine .inr ⟨hlt,Pv (i+1),λys' H' p'=>⟨z.cps.size-(i+1),by omega,rfl,hlt,p'⟩,λx H' y=>?_⟩
  obtain⟨a,xs,rfl,ha,⟨c,ec,rfl⟩,rfl⟩:=y
  exact hs i c a ys H ec ha p
 ·have e:i=z.cps.size:=by omega
  subst e
  exact .inl ⟨Nat.le_refl _,hd ys H p⟩
theorem zd4{y:Str}(h:Q (.bl (decide (x=y))) H):P7 K (.str x) (.str y) H Q:=by
 refine yp0 rfl ?_;have e:(decide ((V.str x)=V.str y))=decide (x=y):=by simp
 rw[e];exact h
theorem zp6{y:Str}(h:Q (.bl (!decide (x=y))) H):wq1 K (.str x) (.str y) H Q:=by
 refine Ar4 rfl ?_;have e:(decide ((V.str x)=V.str y))=decide (x=y):=by simp
 rw[e];exact h
theorem Af4{x y:Int}(h:Q (.bl (decide (x=y))) H):P7 K (.int x) (.int y) H Q:=by
 refine yp0 rfl ?_;have e:(decide ((V.int x)=V.int y))=decide (x=y):=by simp
 rw[e];exact h
end
def ye5(xs:List Str):TA:=λ_ H R=>R (B0 xs) H
theorem zp7:PA X [] (ye5 []):=B4
theorem qi8{xs:List Str}{j:Nat}{p:Pos}(h:PA X es (ye5 xs)):PA X (.Constant (.str x) j p::es) (ye5 (x::xs)):=A4 (te:=tC (.str x)) N7 h
theorem Aa0{xs:List Str}{R:List V->Hp->Prop}(h:R (B0 xs) H):ye5 xs σ H R:=h
section
open PySem.Builtin PySem.Builtin.Str
noncomputable def ye6(x y:Str)(i j:Int):Int:=match occurrences x y (fromIndex x.length i) (min (fromIndex x.length j) x.length) 1 with|k::_=>(k:Int) | []=>-1
theorem yp6(x y:Str)(i j:Int)(t u v v':Tok):Gives («str.find» ⟨[.str x t,.str y u,.int i v,.int j v'],[]⟩) (.int (ye6 x y i j)):=by
 unfold ye6;show Gives (match occurrences x y (fromIndex x.length i) (min (fromIndex x.length j) x.length) 1 with|k::_=>retInt k | []=>(do rule "str.find.not-found";retInt (-1))) _;cases occurrences x y (fromIndex x.length i) (min (fromIndex x.length j) x.length) 1 with
 | nil=>exact .rule (.of_eq rfl)
 | cons k _=>exact .of_eq rfl
theorem D3.three{x z:V}(r:D3 [x,y,z] us):∃u v w',us=[u,v,w']/\D8 x u/\D8 y v/\D8 z w':=by
 cases r with
 | cons r1 r2=>obtain⟨v,w',rfl,a,b⟩:=xq1 r2;exact⟨_,_,_,rfl,r1,a,b⟩
def xr6:V->List V->Hp->VK->Prop:=λx vs H Q=>∃(z y:Str) (i:Int),x=.str z/\vs=[.str y,.int i]/\Q (.int (PySem.Txt.find3 z y i)) H
theorem zp8:MtR X "str.find" xr6:=by
 walk_at"33";obtain⟨z,y,i,rfl,rfl,q⟩:=h;obtain⟨t,rfl⟩:=rx;obtain⟨u,w',rfl,⟨t1,rfl⟩,⟨t2,rfl⟩⟩:=xq1 rv;exact SC.find3 ⟨.int _,H,I.tok _,⟨_,rfl⟩,q⟩
def yx1:V->List V->Hp->VK->Prop:=λx vs H Q=>∃(z y:Str) (i j:Int),x=.str z/\vs=[.str y,.int i,.int j]/\Q (.int (ye6 z y i j)) H
theorem zp9:MtR X "str.find" yx1:=by
 walk_at"33";obtain⟨z,y,i,j,rfl,rfl,q⟩:=h;obtain⟨t,rfl⟩:=rx;obtain⟨u,w',w2,rfl,⟨t1,rfl⟩,⟨t2,rfl⟩,⟨t3,rfl⟩⟩:=D3.three rv;exact call_gives F.slot_str_find (typeIs_str _ _ _) F.entry_str_find (F.args_str_find_4 _ _ _ _) (yp6 z y i j t t1 t2 t3) ⟨.int _,H,I.tok _,⟨_,rfl⟩,q⟩
def yj0:V->List V->Hp->VK->Prop:=λx vs H Q=>∃(z y:Str) (i:Int),x=.str z/\vs=[.str y,.int i]/\Q (.bl (PySem.Txt.startswith3 z y i)) H
theorem zi4:MtR X "str.startswith" yj0:=by
 walk_at"33";obtain⟨z,y,i,rfl,rfl,q⟩:=h;obtain⟨t,rfl⟩:=rx;obtain⟨u,w',rfl,⟨t1,rfl⟩,⟨t2,rfl⟩⟩:=xq1 rv;exact SC.startswith3 ⟨.bl _,H,I,rfl,q⟩
theorem yx2:∀{bs:List Bool} {us:List Value},D3 (bs.map V.bl) us->us=bs.map Value.bool
 | [],_,h=>by cases h;rfl
 | b::bs,_,h=>by
   have h:D3 (V.bl b::bs.map V.bl) _:=h;cases h with
   | cons r t=>rw[yx2 t];cases (show _=Value.bool b from r);rfl
theorem zi5(bs:List Bool):(List.range bs.length).all (λi=>(bs[i]?).getD false)=bs.all id:=by
 rw[Bool.eq_iff_iff,all_eq_true,all_eq_true];constructor
 ·intro h b hb;obtain⟨i,hi,e⟩:=List.getElem_of_mem hb;have:=h i (mem_range.mpr hi);rw[List.getElem?_eq_getElem hi,e] at this;exact this
 ·intro h i hi;have hi:=mem_range.mp hi;rw[List.getElem?_eq_getElem hi];exact h _ (List.getElem_mem hi)
theorem zi6(bs:List Bool):(List.range bs.length).any (λi=>(bs[i]?).getD false)=bs.any id:=by
 rw[Bool.eq_iff_iff,any_eq_true,any_eq_true];constructor
 ·rintro⟨i,hi,h⟩;have hi:=mem_range.mp hi;rw[List.getElem?_eq_getElem hi] at h;exact⟨_,List.getElem_mem hi,h⟩
 ·rintro⟨b,hb,h⟩;obtain⟨i,hi,e⟩:=List.getElem_of_mem hb;exact⟨i,mem_range.mpr hi,by rw[List.getElem?_eq_getElem hi,e];exact h⟩
def zq0(K:Fg):List V->Hp->VK->Prop:=λxs H Q=>∃(p:Addr) (bs:List Bool),xs=[.ref p]/\SqL K H p (bs.map V.bl)/\Q (.bl (bs.all id)) H
def zq1(K:Fg):List V->Hp->VK->Prop:=λxs H Q=>∃(p:Addr) (bs:List Bool),xs=[.ref p]/\SqL K H p (bs.map V.bl)/\Q (.bl (bs.any id)) H
theorem zi7(hc:X.calm=true):Y0 X (.builtin "all") (zq0 X.K):=by
 walk_at"35";obtain⟨p,bs,rfl,hq,q⟩:=h;obtain⟨u,rfl,ru⟩:=qv2 r;cases ru;obtain⟨its,rv,pl,hz⟩:=I.list hq;have ei:=yx2 rv;subst ei;refine wpAny_with_toks (n:=1) I.tk (call_all_walk (wpAny_pyIter_list pl.isList ?_));walk_at"15"
 ·intro i v s Q E hP hQ;have hP:(bs.map Value.bool)[i]?=some v:=by simpa using hP
  rw[List.getElem?_map] at hP;obtain⟨b,hb,rfl⟩:=Option.map_eq_some_iff.mp hP;have hQ:Q ((bs[i]?).getD false) s:=hQ;rw[hb] at hQ;exact wpAny_pure hQ
 ·refine⟨.bl (bs.all id),H,I.kept (λb o e=>hk b o ?_ (Heap.get?_push_of_some _ e)) ht,?_,q⟩
  ·intro z;have:b=s.heap.objs.size:=by simpa using z
   exact absurd (Heap.lt_size e) (by rw[this];exact Nat.lt_irrefl _)
  ·show Value.bool _=Value.bool _;rw[<-zi5 bs];congr 2;simp
theorem zi8(hc:X.calm=true):Y0 X (.builtin "any") (zq1 X.K):=by
 walk_at"35";obtain⟨p,bs,rfl,hq,q⟩:=h;obtain⟨u,rfl,ru⟩:=qv2 r;cases ru;obtain⟨its,rv,pl,hz⟩:=I.list hq;have ei:=yx2 rv;subst ei;refine wpAny_with_toks (n:=1) I.tk (call_any_walk (wpAny_pyIter_list pl.isList ?_));walk_at"15"
 ·intro i v s Q E hP hQ;have hP:(bs.map Value.bool)[i]?=some v:=by simpa using hP
  rw[List.getElem?_map] at hP;obtain⟨b,hb,rfl⟩:=Option.map_eq_some_iff.mp hP;have hQ:Q ((bs[i]?).getD false) s:=hQ;rw[hb] at hQ;exact wpAny_pure hQ
 ·refine⟨.bl (bs.any id),H,I.kept (λb o e=>hk b o ?_ (Heap.get?_push_of_some _ e)) ht,?_,q⟩
  ·intro z;have:b=s.heap.objs.size:=by simpa using z
   exact absurd (Heap.lt_size e) (by rw[this];exact Nat.lt_irrefl _)
  ·show Value.bool _=Value.bool _;rw[<-zi6 bs];congr 2;simp
section
variable{Q:VK}
theorem Ar8{bs:List Bool}(h:SqL K H p (bs.map V.bl))(q:Q (.bl (bs.all id)) H):zq0 K [.ref p] H Q:=⟨p,bs,rfl,h,q⟩
theorem Ar9{bs:List Bool}(h:SqL K H p (bs.map V.bl))(q:Q (.bl (bs.any id)) H):zq1 K [.ref p] H Q:=⟨p,bs,rfl,h,q⟩
theorem zq2(Pv:Nat->List V->Hp->Prop)(h0:Pv 0 [] H)(hlen:∀i ys H,i<=z.cps.size->Pv i ys H->ys.length<=sizeLine)(hs:∀(i c:Nat) ys H,z.cps.toList[i]?=some c->Pv i ys H->g (.str ⟨#[c]⟩) σ' H λσ2 H2=>tt σ2 H2 λb H3=>if b=true then te σ2 H3 λy H4=>PAt Pv (i+1) (ys++[y]) H4 else PAt Pv (i+1) ys H3)(hd:∀ys H,Pv z.cps.size ys H->∀p,H p=none->Q (.ref p) (upd H p (.lst ys))) :
 ∃z',V.str z=.str z'/\qp1 g tt te σ' Q (Itx z'.cps.size (ye3 z')) H:=by
 refine⟨z,rfl,λi m ys H=>m=z.cps.size-i/\i<=z.cps.size/\Pv i ys H,⟨z.cps.size,by simp,Nat.zero_le _,h0⟩,?_⟩
 rintro i m ys H ⟨rfl,hi,p⟩
 refine⟨hlen i ys H hi p,?_⟩
 by_cases hlt:i<z.cps.size
 ·refine .inr ⟨hlt,Pv (i+1),λys' H' p'=>⟨z.cps.size-(i+1),by omega,rfl,hlt,p'⟩,λx H' y=>?_⟩
  obtain⟨rfl,c,ec,rfl⟩:=y
  exact hs i c ys _ ec p
 ·have e:i=z.cps.size:=by omega
  subst e
  exact .inl ⟨Nat.le_refl _,hd ys H p⟩
end
end
theorem zi9(n:Nat):((List.range n).map λ(k:Nat)=>((n:Int)-1 + -1*(k:Int)).toNat)=(List.range n).reverse:=by
 apply ext_getElem
 ·simp
 ·intro i h1 h2;simp only[List.getElem_map,List.getElem_range,List.getElem_reverse,length_range];simp only[length_map,length_range] at h1;omega
theorem yx3(xs:List α):(List.range xs.length).filterMap (xs[·]?)=xs:=by
 induction xs with
 | nil=>rfl
 | cons x xs ih =>
   rw[length_cons,range_succ_eq_map,filterMap_cons,filterMap_map]
   show x::_=_
   congr 1
theorem xz9(items:List Value):slicePick items.toArray none none (some (-1))=items.reverse.toArray:=by
 unfold slicePick sliceBounds sliceRange;simp only[Option.getD_some,size_toArray];have h:¬((-1:Int) > 0):=by decide
 simp only[if_neg h];have ec:(if(items.length:Int)-1 > -1 then((items.length:Int)-1 - -1 - -1-1) / (- -1) else 0).toNat=items.length:=by
  by_cases h0:(items.length:Int)-1 > -1
  ·rw[if_pos h0];have:(- -1:Int)=1:=by decide
   rw[this,Int.ediv_one];omega
  ·rw[if_neg h0];omega
 rw[ec,zi9,filterMap_reverse];congr 2;have:(λ(x:Nat)=>(items.toArray)[x]?)=λ(x:Nat)=>items[x]?:=by funext x;simp
 rw[this,yx3]
def zq3(K:Fg)(te:TE):TE:=λσ H Q=>te σ H λx H1=>∃a xs,x=.ref a/\SqL K H1 a xs/\∀p,H1 p=none->Q (.ref p) (upd H1 p (.lst xs.reverse))
theorem Aa1{k:Expr}(he:PE X e te)(hk:PE X k #[12]):PE X (.Subscript e (.Slice none none (some k) p2) pos) (zq3 X.K te):=by
 walk_at"22";refine Subscript_ (thn (he pins s σ H _ I h) λv s1 zq=>?_);walk_at"32";obtain⟨a,xs,rfl,hx,q⟩:=q1;refine wpAny_Slice ?_;rw[evalPart_none];refine wpAny_pure (wpAny_pure ?_);rw[evalPart_some];refine thn (hk pins s1 σ H1 (λy H2=>y=.int (-1)/\H2=H1) I1 ⟨1,rfl,rfl,rfl⟩) λvk s2 zq=>?_;obtain⟨y,H2,I2,r2,ey,eH⟩:=zq;subst ey;subst eH;obtain⟨tk,rfl⟩:=r2;have I4:Inv X pins σ H2 {s2 with heap:=s2.heap.push {cls:=.type "slice",data:=.fields #[.none,.none,.int (-1) tk]}}:=I2.kept (t':=s2.toks) λb ob q=>Heap.get?_push_of_some _ q;cases r1;obtain⟨its,r,ht,hz⟩:=I4.list hx;have hlen:=r.length;refine tail_any (ops:=[.ref a,.ref s2.heap.objs.size]) ht.isList.typeIs slot_list_getitem.lookup ?_ #[19];refine wpAny_getItem_list_slice ht.isList (Heap.IsSliceOf.new ..) .none .none (.int (-1) tk) (by simp) ?_ (by rw[size_toArray] <;> omega);rw[xz9];refine⟨.ref _,_,I4.laid (t':=s2.toks) (o:=.lst xs.reverse) (λb ob q=>Heap.get?_push_of_some _ q) #[6] ?_,rfl,q _ (I4.hok.fresh #[6])⟩;exact⟨by rw[length_reverse];exact hz,_,0,D3.reverse r,Heap.get?_push_size _ rfl⟩
def zq4(_:Fg):List V->Hp->VK->Prop:=λxs H Q=>∃i j,xs=[.int i,.int j]/\Q (.int (if j<i then j else i)) H
def zq5(_:Fg):List V->Hp->VK->Prop:=λxs H Q=>∃i j,xs=[.int i,.int j]/\Q (.int (if j > i then j else i)) H
theorem zj0(hc:X.calm=true):Y0 X (.builtin "min") (zq4 X.K):=zg2 hc
theorem zj1(hc:X.calm=true):Y0 X (.builtin "max") (zq5 X.K):=zg1 hc
section
variable{Q:VK}
theorem Aa2(h:te σ H λx H1=>∃a xs,x=.ref a/\SqL K H1 a xs/\∀p,H1 p=none->Q (.ref p) (upd H1 p (.lst xs.reverse))):zq3 K te σ H Q:=h
theorem Al0{r:V->List V->Hp->VK->Prop}(h:to σ H λx H1=>tyV K T x H1/\r x [] H1 Q):xq4 K T r to σ H Q:=h
theorem ye7(h1:H p=some (.lst (xs++[y])))(h:Q y (upd H p (.lst xs))):xj5 (.ref p) [] H Q :=
 ⟨p,xs++[y],y,rfl,rfl,h1,by simp,by rw[dropLast_concat];exact h⟩
theorem As0(h:Q (.int (if j<i then j else i)) H):zq4 K [.int i,.int j] H Q:=⟨i,j,rfl,h⟩
theorem As1(h:Q (.int (if j > i then j else i)) H):zq5 K [.int i,.int j] H Q:=⟨i,j,rfl,h⟩
end
variable{items:Array Value}
theorem wq3{t sl:Addr}{vl vu:Value}(ht:IsTup s.heap t items)(hs:s.heap.IsSliceOf sl vl vu .none)(pl:IsPart vl lo)(pu:IsPart vu hi)(hw:HT.sIx items.size 0 lo=0/\HT.sIx items.size items.size hi=items.size)(h:Q (.ref t) s):wpAny #[10] A (getItem (.ref t) (.ref sl)) Q E s:=by
 obtain⟨os,hos,hcs,hds⟩:=id hs;have hTs:s.TypeIs (.ref sl) "slice":=⟨os,hos,hcs⟩;unfold getItem
 try with_reducible refine wpAny_holding ?_
 first|refine wpAny_bind (wpAny_pure ?_)|skip
 refine wpAny_bind (wpAny_sequenceKey ht.typeIs #[7] ?_);refine wpAny_bind (wpAny_callSpecial?_slot (name:=Str.ofString "__getitem__") ht.typeIs PyProof.Rows.slot_tuple_getitem
  (wpAny_call_entry PyProof.Rows.slot_tuple_getitem ht.typeIs entry_tuple_getitem ?_ (args_tuple_getitem _ _)));show wpAny _ _ (Builtin.Tuple.tupleItemsOf (.ref t) >>= _) _ _ s;refine wpAny_bind (tupleItemsOf_ ht ?_);refine wpAny_bind (wpAny_typeOf hTs ?_);rw[if_pos #[7]];refine wpAny_bind (HT.wa2 hs pl pu ?_);have hyes:((((HT.sIx items.size 0 lo:Nat):Int) == 0 && (1:Int) == 1 && (HT.sIx items.size items.size hi-HT.sIx items.size 0 lo) == items.size)=true):=by
  rw[hw.1,hw.2];simp
 show wpAny _ _ (if(((HT.sIx items.size 0 lo:Nat):Int) == 0 && (1:Int) == 1 && (HT.sIx items.size items.size hi-HT.sIx items.size 0 lo) == items.size)=true then _ else _) _ _ s;rw[if_pos hyes];refine wpAny_bind (m:=Builtin.Tuple.tupleIsExact (.ref t)) ?_;unfold Builtin.Tuple.tupleIsExact;refine wpAny_bind (wpAny_typeOf ht.typeIs (wpAny_pure ?_));rw[if_pos #[7]]
 first
  | exact wpAny_bind (wpAny_rule (wpAny_bind (wpAny_pure ⟨_,rfl,wpAny_pure h⟩)))
  | exact wpAny_bind (wpAny_rule (wpAny_pure ⟨_,rfl,wpAny_pure h⟩))
  | exact wpAny_bind (wpAny_rule (wpAny_pure (wpAny_pure ⟨_,rfl,wpAny_pure h⟩)))
def As2(K:Fg):V->Option Int->Option Int->Hp->VK->Prop:=λx lo hi H Q=>∃a xs,x=.ref a/\SqT K H a xs/\(HT.sIx xs.length 0 lo=0/\HT.sIx xs.length xs.length hi=xs.length)/\Q (.ref a) H
theorem Aa3:SlR X (As2 X.K):=by
 walk_at"25";exact wq3 ht hs pl pu (by rw[hlen];exact hw) ⟨.ref a,H,I,rfl,q⟩
def yp7(K:Fg):V->Option Int->Option Int->Hp->VK->Prop:=λx lo hi H Q=>qu8 K x lo hi H Q\/As2 K x lo hi H Q
theorem Aa4:SlR X (yp7 X.K):=qn7.or Aa3
def Af5(K:Fg):R2:=λx y H Q=>∃a b ys,x=.ref a/\y=.ref b/\SqT K H a []/\SqT K H b ys/\Q (.ref b) H
theorem Aa5:OpR X (binaryOp .Add) (Af5 X.K):=by
 walk_at"7";obtain⟨a,b,ys,rfl,rfl,ha,hb,q⟩:=h;cases rx;cases ry;obtain⟨its,r1,p1,_⟩:=I.tuple ha;obtain⟨its2,r2,p2,_⟩:=I.tuple hb;cases r1;obtain⟨⟨cls,dd,data,sl⟩,ho,hc,n,hd⟩:=id p1;obtain⟨⟨cls2,dd2,data2,sl2⟩,ho2,hc2,n2,hd2⟩:=id p2;simp only at hc hd hc2 hd2;subst hc hd hc2 hd2;exact concat_meets ⟨_,ho,rfl⟩ ⟨_,ho2,rfl⟩ noFill_tuple_add seq_tuple_add PySem.F.slot_tuple_add PySem.F.entry_tuple_add (PySem.F.args_tuple_add_2 _ _)
  (tuple_addW0 a b _ its2.toArray n n2 dd dd2 sl sl2 (by simp)) ⟨ho,ho2,⟨.ref b,H,I,rfl,q⟩⟩
def qv7(K:Fg):R2:=λx y H Q=>C8 K x y H Q\/Af5 K x y H Q
theorem wx2:OpR X (binaryOp .Add) (qv7 X.K):=J5.or Aa5
section
variable{Q:VK}
theorem wt5(h1:SqT K H a xs)(h2:SqT K H b ys)(hz:xs.length+ys.length<=sizeLine)(h:∀p H',A3 H H'->SqT K H' p (xs++ys)->Q (.ref p) H'):qv7 K (.ref a) (.ref b) H Q:=by
 by_cases hx:xs=[]
 ·subst hx;exact .inr ⟨a,b,ys,rfl,rfl,h1,h2,h b H (λ_ _ e=>e) h2⟩
 ·refine .inl (.inr (.inr (.inr ⟨a,b,xs,ys,rfl,rfl,h1,h2,hx,hz,λhy=>?_,λhy p hp=>h p _ (A3.new hp _) (SqT.of A2)⟩)));subst hy;exact h a H (λ_ _ e=>e) (by rw[append_nil];exact h1)
theorem yp8(h1:SqT K H a xs)(h:∀p H',A3 H H'->SqT K H' p (qe8 xs lo hi)->Q (.ref p) H'):yp7 K (.ref a) lo hi H Q:=by
 by_cases hw:HT.sIx xs.length 0 lo=0/\HT.sIx xs.length xs.length hi=xs.length
 ·refine .inr ⟨a,xs,rfl,h1,hw,h a H (λ_ _ e=>e) ?_⟩;unfold qe8;rw[hw.1,hw.2,drop_zero,Nat.sub_zero,take_length];exact h1
 ·exact .inl (.inr (.inl ⟨a,xs,rfl,h1,hw,λp hp=>h p _ (A3.new hp _) (SqT.of A2)⟩))
end
def zq6(ta:TA):TI:=λσ H R=>ta σ H λvs H1=>∃n:Nat,vs=[.int ((n:Int)-1),.int (-1),.int (-1)]/\(n:Int)<2 ^ 62/\R (Itv n) H1
theorem ye8(n:Nat):Builtin.Range.rangeSize ((n:Int)-1) (-1) (-1)=n:=by
 unfold Builtin.Range.rangeSize;rw[if_neg #[7]];have e:(- (-1):Int)=1:=by decide
 rw[e,Int.ediv_one];split <;> omega
theorem zj2 {tg:Expr} {a b:Expr} {ta:TA} {p:Pos} (hg:Gl X "range") (hm:X.mg "range"=none) (ha:PA X [a,b,c] ta) (hs:autoParam (starEach [a,b,c] X.env=(false,eval a X.env)::starEach [b,c] X.env) zAr) (hs2:autoParam (starEach [b,c] X.env=[(false,eval b X.env),(false,eval c X.env)]) zAr) :
 PI X tg (.Call (.Name "range" p) [a,b,c] [] pos) (zq6 ta):=by
 intro pins s σ H R I h
 refine Call_ (qr6 I hg hm boot_range (PyProof.Rows.callWith_type1 (thn (ha pos pins s σ H _ I h) λus s1 zq=>?_) hs (by rw[hs2];rfl)))
 obtain⟨vs,H1,I1,r1,q1⟩:=zq
 obtain⟨n,e,q1,q⟩:=q1
 subst e
 cases r1 with
 | cons r rr =>
   cases rr with
   | cons r' rr =>
     cases rr with
     | cons r'' rr =>
       cases rr
       obtain⟨t,rfl⟩:=r
       obtain⟨t',rfl⟩:=r'
       obtain⟨t'',rfl⟩:=r''
       refine call_range_3 #[7] ?_ (Or.inl (PyProof.noPylong_small #[7]))
       have I2:Inv X pins σ H1 {s1 with heap:=s1.heap.push {cls:=.type "range",data:=.fields #[.int ((n:Int)-1) t,.int (-1) t',.int (-1) t'']},toks:=s1.toks}:=I1.kept (t':=s1.toks) λb o e=>Heap.get?_push_of_some _ e
       refine wpAny_pyIter_range (IsRange.new ..) ?_ ?_
       ·unfold Builtin.Range.small
        rw[ye8]
        simp only[Builtin.Range.rangeFitsLong,Bool.and_eq_true,Bool.or_eq_true,decide_eq_true_eq,beq_iff_eq,show ¬((-1:Int) > 0) by decide,if_false]
        omega
       refine⟨_,[_],_,_,H1,rfl,I2.kept (t':=s1.toks) λb o e=>Heap.get?_push_of_some _ e,yp2 _ n,?_,λb hb=>?_,q⟩
       ·have e1:(n:Int)-1+((0:Nat):Int)*(-1)=(n:Int)-1:=by simp
        have e2:(n:Int)-((0:Nat):Int)=n:=by simp
        rw[e1,e2]
        have:=Heap.get?_push_size (s1.heap.push {cls:=.type "range",data:=.fields #[.int ((n:Int)-1) t,.int (-1) t',.int (-1) t'']}) (o:={cls:=.type "range_iterator",data:=.fields #[rawInt ((n:Int)-1),rawInt (Builtin.Range.rangeSize ((n:Int)-1) (-1) (-1)),rawInt (-1)]}) rfl
        rw[ye8] at this ⊢
        exact this
       ·have e:b=(s1.heap.push {cls:=.type "range",data:=.fields #[.int ((n:Int)-1) t,.int (-1) t',.int (-1) t'']}).objs.size:=by simpa using hb
        subst e
        exact I2.fpOk #[6] (I2.hok.fresh #[6])
theorem Aa6{ta:TA}(h:ta σ H λvs H1=>∃n:Nat,vs=[.int ((n:Int)-1),.int (-1),.int (-1)]/\(n:Int)<2 ^ 62/\R (Itv n) H1):zq6 ta σ H R:=h
theorem wx3{i:Nat}{items}{x:Value}(hit:s.heap.IsTupleIter it l i)(hl:s.heap.IsTuple l items)(hx:items[i]?=some x)(hQ:∀h',h'.IsTupleIter it l (i+1)->Heap.SameBut it s.heap h'->Q x {s with heap:=h'}) :
 wpAny #[10] A (Builtin.SmallTypes.nextOf (.ref it)) Q E s:=by
 obtain⟨o,ho,hc,hd⟩:=id hit
 obtain⟨ol,hol,_,nl,hdl⟩:=hl
 unfold Builtin.SmallTypes.nextOf
 refine wpAny_bind (wpAny_callSpecial?_slot (name:=Str.ofString "__next__") hit.typeIs F.slot_tuple_iterator_next
  (wpAny_call_entry F.slot_tuple_iterator_next hit.typeIs F.entry_tuple_iterator_next ?_ (F.args_tuple_iterator_next_1 _)))
 walk_at"6"
 simp only[Int.toNat_natCast,hx]
 refine wpAny_bind (wpAny_setField ho hd (by simp) (wpAny_pure ⟨x,rfl,wpAny_pure (hQ _ ?_ (Heap.SameBut.update ..))⟩))
 exact⟨_,Heap.get?_update_self _ ho (Obj.isFreed_of_fields (Obj.data_mapFields hd _)),(Obj.cls_mapFields ..).trans hc,by
  rw[Obj.data_mapFields hd];simp[rawInt]⟩
theorem wa7{i:Nat}{items}(hh:A.handled=none)(hit:s.heap.IsTupleIter it l i)(hl:s.heap.IsTuple l items)(hx:items[i]?=none)(hE:∀h' e,Heap.ExtBut it s.heap h'->(∃o,h'.get? e=some o/\o.cls=.type "StopIteration")->E (.ref e) {s with heap:=h'}) :
 wpAny #[10] A (Builtin.SmallTypes.nextOf (.ref it)) Q E s:=by
 obtain⟨o,ho,hc,hd⟩:=id hit
 obtain⟨ol,hol,_,nl,hdl⟩:=hl
 unfold Builtin.SmallTypes.nextOf
 refine wpAny_bind (wpAny_callSpecial?_slot (name:=Str.ofString "__next__") hit.typeIs F.slot_tuple_iterator_next
  (wpAny_call_entry F.slot_tuple_iterator_next hit.typeIs F.entry_tuple_iterator_next ?_ (F.args_tuple_iterator_next_1 _)))
 walk_at"6"
 simp only[Int.toNat_natCast,hx]
 refine wpAny_bind (wpAny_rule (wpAny_bind (wpAny_setField ho hd (by simp) ?_)))
 show wpAny _ _ (newExc (.type "StopIteration") [] >>= _) _ _ _
 walk_at"21"
 first|rw[show A.in1.handled=none from hh]|rw[hh]
 refine wpAny_bind (wpAny_pure (wpAny_throw ?_))
 exact hE _ _ (((Heap.SameBut.update ..).extBut.push _).push _) ⟨_,Heap.get?_push_size _ rfl,rfl⟩
theorem yp9(hh:A.handled=none)(it l:Addr)(hne:l≠it)(items:Array Value) :
 Draws prog w A it [it,l] items.size (λi v=>items[i]?=some v) (λi h=>h.IsTupleIter it l i/\h.IsTuple l items) where
 live:=λ_ _ st=>let ⟨o,ho,_⟩:=st.1;⟨o,ho⟩
 frame:=λ_ _ _ st hk=>⟨st.1.at λo e=>hk it (by simp) o e,st.2.at λo e=>hk l (by simp) o e⟩
 item:=λi s Q E hi st hQ=>by
  refine wx3 st.1 st.2 (x:=items[i]) (by simp[hi]) λh' hit' hs'=>?_;exact hQ _ h' s.toks (by simp[hi]) ⟨hit',st.2.extBut hs'.extBut hne⟩ hs'
 done:=λs Q E st hE=>wa7 hh st.1 st.2 (by simp) hE
set_option maxHeartbeats 1000000 in
theorem wk6(l:Addr)(items:Array Value)(n:Nat)(dct:Option Addr)(sl:Array (Option Value)) :
 Meets (Builtin.«enumerate.__new__» ⟨[.type "enumerate",.ref l],[]⟩) (λ_ R s=>s.heap.get? l=some {cls:=.type "tuple",dict:=dct,data:=.seq items n,slots:=sl} /\
  R (.ok (.ret (.ref (s.heap.push {cls:=.type "tuple_iterator",data:=.fields #[.ref l,.int 0 0]}).objs.size)))
   {s with heap:=(s.heap.push {cls:=.type "tuple_iterator",data:=.fields #[.ref l,.int 0 0]}).push {cls:=.type "enumerate",data:=.fields #[.none,.bool false,.ref s.heap.objs.size,rawInt 0,.none,.none]}}) :=
 .of_wp λprog w A R s h=>by
  obtain⟨hp,g,d,tk,os⟩:=s;obtain⟨hl,h⟩:=h;have hsub:=sub_enumerate;have hL:Heap.IsTuple (Shared.heap ⟨hp,g,d,tk,os⟩) l items:=⟨_,hl,rfl,n,rfl⟩
  wp_walk using AutoSeq1.wpAny_loadPart' hl
  refine wpAny_stack_any λst=>wpAny_pure ?_;split
  ·rename_i c _ _ _ _ _;cases (c == Value.type "enumerate")
   ·wp_walk using AutoSeq1.wpAny_loadPart' hl,wpAny_pyIter_tuple hL
    exact⟨_,rfl,h⟩
   ·wp_walk using AutoSeq1.wpAny_loadPart' hl,wpAny_pyIter_tuple hL
    exact⟨_,rfl,h⟩
  ·wp_walk using AutoSeq1.wpAny_loadPart' hl,wpAny_pyIter_tuple hL
   exact⟨_,rfl,h⟩
theorem wk7(hL:s.heap.IsTuple l items) (h:∀h',IsEnum h' (s.heap.objs.size+1) s.heap.objs.size 0 .none->h'.IsTupleIter s.heap.objs.size l 0->h'.objs.size=s.heap.objs.size+2 ->
  (∀b o,s.heap.get? b=some o->h'.get? b=some o)->Q (.ref (s.heap.objs.size+1)) {s with heap:=h'}) :
 wpAny #[10] A (call (.type "enumerate") [.ref l]) Q E s:=by
 obtain⟨⟨c,dct,dt,sl⟩,hl,hc,n,hd⟩:=hL
 replace hc:c=.type "tuple":=hc
 replace hd:dt=.seq items n:=hd
 subst hc hd
 refine callType_new F.called_enumerate #[7] (F.typeCall_enumerate_1 _) (F.newCall_enumerate_1 _) (λobj=>F.args_object_init_2 obj _) F.entry_enumerate_new
  (wk6 l items n dct sl) ⟨hl,?_⟩
 have hz:(s.heap.push {cls:=.type "tuple_iterator",data:=.fields #[.ref l,.int 0 0]}).objs.size=s.heap.objs.size+1:=Heap.size_push ..
 show _/\_
 rw[hz]
 have he:IsEnum ((s.heap.push {cls:=.type "tuple_iterator",data:=.fields #[.ref l,.int 0 0]}).push
  {cls:=.type "enumerate",data:=.fields #[.none,.bool false,.ref s.heap.objs.size,rawInt 0,.none,.none]}) (s.heap.objs.size+1) s.heap.objs.size 0 .none:=by
  have:=Heap.get?_push_size (s.heap.push {cls:=.type "tuple_iterator",data:=.fields #[.ref l,.int 0 0]})
   (o:={cls:=.type "enumerate",data:=.fields #[.none,.bool false,.ref s.heap.objs.size,rawInt 0,.none,.none]}) rfl
  rw[hz] at this;exact this
 refine⟨⟨_,he,rfl⟩,h _ he ⟨_,Heap.get?_push_of_some _ (Heap.get?_push_size _ rfl),rfl,rfl⟩ (by rw[Heap.size_push,hz]) λb o y=>Heap.get?_push_of_some _ (Heap.get?_push_of_some _ y)⟩
noncomputable def Ite(K:Fg)(a:Addr):It:=⟨λi H=>∃xs x,SqT K H a xs/\xs[i]?=some x,λi H x H'=>∃p y,x=.ref p/\H p=none/\(∀xs,SqT K H a xs->xs[i]?=some y)/\H'=upd H p (.tup [.int i,y]),λi H=>∃xs,SqT K H a xs/\xs.length<=i⟩
theorem yx4{k:Nat}(a e it:Addr)(hei:e≠it) :
 xj4 P w K (.Tuple elts k pos) (Ite K a) [e,it] e (λi h=>(∃old,IsEnum h e it i old)/\h.IsTupleIter it a i) where
 mem:=by simp
 obj:=by
  rintro i h ⟨⟨old,e1⟩,o2,e2,_,d2⟩ b hb;have hb:b=e\/b=it:=by simpa using hb
  rcases hb with rfl|rfl
  ·exact⟨_,e1,λv z=>by cases (show Data.fields _=Data.cell v from z)⟩
  ·exact⟨_,e2,λv z=>by rw[d2] at z;cases z⟩
 keep:=λi h h' st kk=>⟨let ⟨old,e1⟩:=st.1;⟨old,kk e (by simp) _ e1⟩,st.2.at λo q=>kk it (by simp) o q⟩
 item:=by
  walk_at"0";obtain⟨xs,x,hq,hx⟩:=hg;obtain⟨its,rv,p,hz⟩:=I.tuple hq;obtain⟨u,hu,ru⟩:=rv.get hx;have hil:i<its.toArray.size:=by rw[size_toArray];exact(List.getElem?_eq_some_iff.mp hu).1
  have pT:s.heap.IsTuple a its.toArray:=p;have nea:a≠it:=λz=>by
   obtain⟨o1,h1,c1,_⟩:=pT;obtain⟨o2,h2,c2,_⟩:=st.2;rw[z,h2] at h1;cases h1;rw[c1] at c2;exact absurd c2 #[7]
  have nee:e≠a:=λz=>by
   obtain⟨o1,h1,c1,_⟩:=pT;obtain⟨old,h2⟩:=st.1;rw[<-z] at h1;have h2:s.heap.get? e=some _:=h2;rw[h2] at h1;cases h1;exact absurd c1 (show ¬(Value.type "enumerate"=Value.type "tuple") by decide)
  have W:=WalksT.enumerateD (prog:=X.prog) (w:=X.w) (A:=X.A) (yp9 (A:=X.A.in1) (show X.A.in1.handled=none from I.ok.hd hc) it a nea its.toArray) e hei (by simp[hei,nee]) (by simp);refine wpAny_with_toks (n:=1) I.tk (W.item i s _ _ hil ⟨st.1,st.2,pT⟩ λT vs h' tk hv hT htup hmid kk ht=>?_);have ht:0<tk:=ht;obtain⟨tk1,y,hy,rfl⟩:=hv;have hy:its[i]?=some y:=by simpa using hy
  rw[hu] at hy;injection hy with hy;subst hy;have hap:=W.apart i T h' hmid;refine⟨_,rfl,W.go elts k pos i T {s with heap:=h',toks:=tk} _ _ hmid λh2 st2 k2=>?_⟩;have htup2:IsTup h2 T [Value.int i tk1,u].toArray:=by
   obtain⟨o,e,c⟩:=htup;exact⟨o,k2 T o hap e,by simpa using c⟩
  have I1:Inv X pins σ (upd H T (.tup [.int i,x])) {s with heap:=h2,toks:=tk}:=I.turnLaid (ch:=[e,it]) (λb hb=>hf b hb) (λb u hb e=>k2 b u hb (kk b u hb e)) hT ⟨by rw[sizeLine_eq];simp,[Value.int i tk1,u],.cons ⟨tk1,rfl⟩ (.cons ru .nil),htup2⟩ ht;refine⟨.ref T,_,I1,rfl,⟨T,x,rfl,I.hok.fresh hT,λys hy=>by rw[I.tuple_inj hy hq];exact hx,rfl⟩,⟨st2.1,st2.2.1⟩,λb hb=>?_⟩;have hb2:∃o,s.heap.get? b=some o:=by
   have hb:b=e\/b=it:=by simpa using hb
   rcases hb with rfl|rfl
   ·obtain⟨old,e1⟩:=st.1;exact⟨_,e1⟩
   ·obtain⟨o,e1,_⟩:=st.2;exact⟨_,e1⟩
  obtain⟨o,e⟩:=hb2;rw[A8 #[22,hT]];exact(hf b hb).1
 done:=by
  walk_at"0";obtain⟨xs,hq,hx⟩:=hg;obtain⟨its,rv,p,hz⟩:=I.tuple hq;have pT:s.heap.IsTuple a its.toArray:=p;have hno:its.toArray[i]?=none:=by
   have:=rv.length;simp;omega
  obtain⟨old,he⟩:=st.1;have D:Draws X.prog X.w X.A.in1 it [it,a] 0 (λ_ _=>True) (λ_ h=>h.IsTupleIter it a i/\h.IsTuple a its.toArray) :=
   { live:=λ_ _ st=>let ⟨o,ho,_⟩:=st.1;⟨o,ho⟩
     frame:=λ_ _ _ st hk=>⟨st.1.at λo e=>hk it (by simp) o e,st.2.at λo e=>hk a (by simp) o e⟩
     item:=λj s Q E hj=>absurd hj (Nat.not_lt_zero _)
     done:=λs Q E st hE=>wa7 (show X.A.in1.handled=none from I.ok.hd hc) st.1 st.2 hno hE};exact wpAny_pyNext_enum_endD D he ⟨st.2,pT⟩ λh' hx=>⟨rfl,I.turnedL (ch:=[e,it]) (t':=s.toks) (λb hb=>hf b hb) (λb o hb y=>hx b o (λz=>hb (by simp[z])) y) I.tk⟩
 self:=λA i s Q E st h=>let ⟨old,e1⟩:=st.1;wpAny_pyIter_enum e1 h
def yj1(K:Fg)(ta:TA):TI:=λσ H R=>ta σ H λvs H1=>∃a xs,vs=[.ref a]/\SqT K H1 a xs/\R (Ite K a) H1
theorem zq7{k:Nat}{p:Pos}{l:Expr}{ta:TA}(hg:Gl X "enumerate")(hm:X.mg "enumerate"=none)(ha:PA X [l] ta)(hs:autoParam (starEach [l] X.env=[(false,eval l X.env)]) zAr) :
 PI X (.Tuple elts k tpos) (.Call (.Name "enumerate" p) [l] [] pos) (yj1 X.K ta):=by
 intro pins s σ H R I h
 refine Call_ (qr6 I hg hm boot_enumerate (PyProof.Rows.callWith_type1 (thn (ha pos pins s σ H _ I h) λus s1 zq=>?_) hs rfl))
 obtain⟨vs,H1,I1,r1,q1⟩:=zq
 obtain⟨a,xs,e,hq,q⟩:=q1
 subst e
 obtain⟨v,rfl,rv⟩:=qv2 r1
 cases rv
 obtain⟨its,rv,pT,hz⟩:=I1.tuple hq
 refine wk7 (show s1.heap.IsTuple a its.toArray from pT) λh' he hit hz hk=>?_
 have I2:Inv X pins σ H1 {s1 with heap:=h'}:=I1.kept (t':=s1.toks) hk
 refine wpAny_pyIter_enum he ?_
 have ne:s1.heap.objs.size+1≠s1.heap.objs.size:=by omega
 refine⟨s1.heap.objs.size+1,_,_,_,H1,rfl,I2,yx4 a (s1.heap.objs.size+1) s1.heap.objs.size ne,⟨⟨_,he⟩,hit⟩,λb hb=>?_,q⟩
 have hb:b=s1.heap.objs.size+1\/b=s1.heap.objs.size:=by simpa using hb
 rcases hb with rfl|rfl
 ·exact I1.fpOk (Nat.le_succ _) (I1.hok.fresh (Nat.le_succ _))
 ·exact I1.fpOk #[6] (I1.hok.fresh #[6])
theorem zq8{ta:TA}(h:ta σ H λvs H1=>∃a xs,vs=[.ref a]/\SqT K H1 a xs/\R (Ite K a) H1):yj1 K ta σ H R:=h
theorem ye9(hq:SqT K H a xs)(Pv:Nat->St->Hp->Prop)(h0:Pv 0 σ H)(hk:∀i σ H',Pv i σ H'->SqT K H' a xs)(hs:∀i x σ H p,xs[i]?=some x->Pv i σ H->H p=none->g (.ref p) σ (upd H p (.tup [.int i,x])) λσ2 H2=>tb {D with nx:=PAt Pv (i+1),ct:=PAt Pv (i+1),bk:=D.nx} σ2 H2)(hd:∀σ H,Pv xs.length σ H->D.nx σ H) :
 ∃b ys,[V.ref a]=[.ref b]/\SqT K H b ys/\wq2 g tb D σ (Ite K b) H:=by
 refine⟨a,xs,rfl,hq,λi m σ H=>m=xs.length-i/\i<=xs.length/\Pv i σ H,⟨xs.length,by simp,Nat.zero_le _,h0⟩,?_⟩
 rintro i m σ H ⟨rfl,hi,p⟩
 have sq:=hk i σ H p
 by_cases hlt:i<xs.length
 ·refine .inr ⟨⟨xs,xs[i],sq,by simp[hlt]⟩,Pv (i+1),λσ' H' p'=>⟨xs.length-(i+1),by omega,rfl,hlt,p'⟩,λx H' y=>?_⟩
  obtain⟨t,z,rfl,ht,hz,rfl⟩:=y
  exact hs i z σ H t (hz xs sq) p ht
 ·have e:i=xs.length:=by omega
  subst e
  exact .inl ⟨⟨xs,sq,Nat.le_refl _⟩,hd σ H p⟩
theorem zq9(hn:(n:Int)<2 ^ 62)(Pv:Nat->St->Hp->Prop)(p0:Pv 0 σ H)(hs:∀(i:Nat) σ H,i<n->Pv i σ H->g (.int ((n:Int)-1-i)) σ H λσ2 H2=>tb {D with nx:=PAt Pv (i+1),ct:=PAt Pv (i+1),bk:=D.nx} σ2 H2)(hd:∀σ H,Pv n σ H->D.nx σ H) :
 ∃m:Nat,[V.int ((n:Int)-1),V.int (-1),V.int (-1)]=[.int ((m:Int)-1),.int (-1),.int (-1)]/\(m:Int)<2 ^ 62/\wq2 g tb D σ (Itv m) H:=by
 obtain⟨m,e,h1,h2⟩:=zd3 hn Pv p0 hs hd
 injection e with e
 injection e with e
 have:n=m:=by omega
 subst this
 exact⟨n,rfl,h1,h2⟩
section
variable{Q:VK}
theorem xr7(h1:H p=some (.lst xs))(h2:H b=some (.lst zs))(hz:xs.length+zs.length<=sizeLine)(h:Q .non (upd H p (.lst (xs++zs)))):we4 (.ref p) [.ref b] H Q:=⟨p,b,xs,zs,rfl,rfl,h1,h2,hz,h⟩
end
section
variable{Q:VK}
theorem Aa7(h:td σ H λx H1=>ty σ H1 λy H2=>∃a v,x=.ref a/\yw0 H2 a y (some v)/\Q v H2):zn7 td ty σ H Q:=h
end
section
variable{t:TE}
def tFs(c1 c2:Str)(t:TE):TE:=λσ H Q=>t σ H λx H1=>∃z,x=.str z/\z.length<=4096/\Q (.str (c1++z++c2)) H1
theorem Af6{c1 c2:Str}{p3:Pos}(he:PE X e t)(h1:autoParam (c1.length<=4096) zAd)(h2:autoParam (c2.length<=4096) zAd) :
 PE X (.JoinedStr [.Constant (.str c1) j1 p1,.FormattedValue e (-1) none p2,.Constant (.str c2) j2 p3] pos) (tFs c1 c2 t):=by
 walk_at"22"
 have e0:Str.empty++c1=c1:=Str.empty_append c1
 have hs:sizeLine=16777216:=sizeLine_eq
 refine JoinedStr_many (joinParts_cons (Calls.Constant_str ?_))
 refine⟨by rw[e0,hs];omega,?_⟩
 rw[e0]
 refine joinParts_cons (FormattedValue_plain (thn (he pins _ σ H _ (I.tok _) h) λu s1 zq=>?_))
 obtain⟨x,H1,I1,r1,z,e1,hz,q⟩:=zq
 subst e1
 obtain⟨tk,rfl⟩:=r1
 refine wpAny_with_toks (n:=1) I1.tk (formatField_str (λt' tk'=>?_) (by rw[hs];omega))
 intro htk
 refine⟨by rw[strLen_append,hs];omega,?_⟩
 refine joinParts_consE (joinParts_cons (Calls.Constant_str ?_))
 refine⟨by rw[strLen_append,strLen_append,hs];omega,joinParts_nilE (joinParts_nil ?_ (by rw[strLen_append,strLen_append,hs];omega))⟩
 exact⟨.str (c1++z++c2),H1,I1.tok _,⟨_,rfl⟩,q⟩
end
theorem yf0:Manifest.owners.lookup (String.ofList ['d','e','s','r','e','v','e','r'].reverse)=some Manifest.sig_reversed:=by kernel_rfl
theorem qc9:Slot "reversed" "__next__" "reversed.__next__" :=
 .of (owner := "reversed") (n := "__next__") (by rw[typeLookup_type,builtinLookup_eq_fast];kernel_rfl) #[11] #[11] #[11]
  (by first|exact .inl #[11]|exact .inr #[11]) (by rw[isSubtype_type];kernel_rfl)
theorem wk8:entryFor table "reversed.__next__"=some Builtin.«reversed.__next__»:=entryFor_of_tree (by kernel_rfl)
theorem wg9(a:Value):argsOk "reversed.__next__" ⟨[a],[]⟩:=by
 unfold argsOk;rw[signature?_of (id := "reversed.__next__") (n:=['_','_','t','x','e','n','_','_']) (o:=['d','e','s','r','e','v','e','r']) (by kernel_rfl) yf0];kernel_rfl
theorem wr9:Slot "reversed" "__iter__" "reversed.__iter__" :=
 .of (owner := "reversed") (n := "__iter__") (by rw[typeLookup_type,builtinLookup_eq_fast];kernel_rfl) #[11] #[11] #[11]
  (by first|exact .inl #[11]|exact .inr #[11]) (by rw[isSubtype_type];kernel_rfl)
theorem xk1(a:Value):argsOk "reversed.__iter__" ⟨[a],[]⟩:=by
 unfold argsOk;rw[signature?_of (id := "reversed.__iter__") (n:=['_','_','r','e','t','i','_','_']) (o:=['d','e','s','r','e','v','e','r']) (by kernel_rfl) yf0];kernel_rfl
theorem xr8:entryFor table "reversed.__iter__"=some Builtin.«dict_keyiterator.__iter__» :=
 entryFor_alias (id' := "dict_keyiterator.__iter__") (by kernel_rfl) (by first | rfl | decide +kernel | (unfold String.splitOn; simp +decide [String.splitOnAux])) #[11] (by kernel_rfl)
theorem ya0:Slot "reversed" "__init__" "object.__init__" :=
 .of (owner := "object") (n := "__init__") (by rw[typeLookup_type,builtinLookup_eq_fast];kernel_rfl) #[11] #[11] #[11]
  (by first|exact .inl #[11]|exact .inr #[11]) (by rw[isSubtype_type];kernel_rfl)
theorem xk2:TypeCalled "reversed" "reversed.__new__" "object.__init__" :=
 ⟨by decide +kernel,by decide +kernel,⟨_,_,F.mro_reversed⟩,F.made_reversed,by decide +kernel,by rw[isSubtype_type];kernel_rfl,ya0⟩
theorem xk3:typeLookup (.type "tuple") "__reversed__"=pure none:=by rw[typeLookup_type,builtinLookup_eq_fast];kernel_rfl
theorem wk9:typeLookup (.type "tuple") "__getitem__"=pure (some (.builtin "tuple.__getitem__")):=by rw[typeLookup_type,builtinLookup_eq_fast];kernel_rfl
noncomputable def yx5(l:Addr)(i:Int):Obj:={cls:=.type "reversed",data:=.fields #[.ref l,rawInt i]}
def wl0(h:Heap)(a l:Addr)(i:Int):Prop:=∃o,h.get? a=some o/\o.cls=.type "reversed"/\o.data=.fields #[.ref l,rawInt i]
theorem wl0.typeIs(x:wl0 s.heap a l i):s.TypeIs (.ref a) "reversed":=let ⟨o,ho,hc,_⟩:=x;⟨o,ho,hc⟩
theorem wl0.at(x:wl0 h a l i)(e:∀o,h.get? a=some o->h'.get? a=some o):wl0 h' a l i:=let ⟨o,ho,r⟩:=x;⟨o,e _ ho,r⟩
theorem wq4(l:Addr)(items:Array Value)(hz:(items.size:Int)<2 ^ 63) :
 Meets (Builtin.«reversed.__new__» ⟨[.type "reversed",.ref l],[]⟩) (λ_ R s=>IsTup s.heap l items /\
  R (.ok (.ret (.ref s.heap.objs.size))) {s with heap:=s.heap.push (yx5 l ((items.size:Int)-1)),toks:=s.toks+1+1}) :=
 .of_wp λprog w A R s h=>by
  obtain⟨ht,h⟩:=h;unfold Builtin.«reversed.__new__»;refine wpAny_bind (wpAny_of_eq (newClass_reversed _) ?_)
  try dsimp only
  refine wpAny_bind (wpAny_of_eq (a:=()) (by first|rfl|kernel_rfl) ?_);refine wpAny_bind (wpAny_of_eq (a:=()) (by first|rfl|kernel_rfl) ?_)
  try dsimp only
  refine wpAny_bind (wpAny_specialOf ht.typeIs xk3 ?_)
  try dsimp only
  refine wpAny_bind ?_;show wpAny _ _ (isInstance (.ref l) (.type "dict") >>= _) _ _ _;refine wpAny_bind (wpAny_isInstance ht.typeIs sub_tuple_dict ?_)
  try dsimp only
  rw[if_neg #[7]];refine wpAny_bind (wpAny_specialOf ht.typeIs wk9 ?_)
  try dsimp only
  rw[if_pos #[7]];refine wpAny_pure ?_
  try dsimp only
  rw[if_neg #[7]];refine wpAny_bind (len_tuple ht hz ?_);refine wpAny_bind (m:=asInt? _) (wpAny_of_eq (a:=some (items.size:Int)) rfl ?_)
  try dsimp only
  refine wpAny_bind ?_;show wpAny _ _ (newObj (.type "reversed") (.fields #[.ref l,rawInt ((items.size:Int)-1)]) none) _ _ _;refine wpAny_newObj_type ?_ (by size_fits);exact wpAny_pure ⟨_,rfl,h⟩
theorem wx4(hl:IsTup s.heap l items)(hz:(items.size:Int)<2 ^ 63)(h:Q (.ref s.heap.objs.size) {s with heap:=s.heap.push (yx5 l ((items.size:Int)-1)),toks:=s.toks+1+1}):wpAny #[10] A (call (.type "reversed") [.ref l]) Q E s :=
 callType_new xk2 #[7] (F.typeCall_reversed_1 _) (F.newCall_reversed_1 _) (λobj=>F.args_object_init_2 obj _) F.entry_reversed_new (wq4 l items hz)
  ⟨hl,⟨_,Heap.get?_push_size _ rfl,rfl⟩,h⟩
theorem xk4{i:Nat}{x:Value}{Q:Option Value->Shared->Prop}(hit:wl0 s.heap it l (i:Int))(hl:IsTup s.heap l items)(hi:(i:Int)<2 ^ 63)(hx:items[i]?=some x)(hQ:∀h' tk,wl0 h' it l ((i:Int)-1)->Heap.SameBut it s.heap h'->Q (some x) {s with heap:=h',toks:=tk}):wpAny #[10] A (pyNext (.ref it)) Q E s:=by
 obtain⟨o,ho,hc,hd⟩:=id hit;unfold pyNext;refine wpAny_bind (wpAny_attempt (wpAny_callSpecial?_slot (name:=Str.ofString "__next__") hit.typeIs qc9
  (wpAny_call_entry qc9 hit.typeIs wk8 ?_ (wg9 _))));unfold Builtin.«reversed.__next__»;refine wpAny_bind (wpAny_of_eq (a:=(Value.ref it,[])) rfl ?_)
 try dsimp only
 refine wpAny_bind (wpAny_field ho hd (x:=.ref l) rfl ?_);refine wpAny_bind (wpAny_field ho hd (x:=rawInt (i:Int)) rfl ?_);show wpAny _ _ (if(i:Int)<0 then _ else _) _ _ s;rw[if_neg #[0]];refine wpAny_bind (wpAny_specialOf hl.typeIs wk9 ?_)
 try dsimp only
 rw[if_neg #[7]];have hil:i<items.size:=(Array.getElem?_eq_some_iff.mp hx).1;refine wpAny_bind (wpAny_mkInt ?_);refine wpAny_bind (wpAny_attempt (getItem_tuple (j:=i) hl #[0] hi (by unfold seqIndex?;simp;omega) hx ?_))
 try dsimp only
 refine wpAny_bind (wpAny_field (s:={s with toks:=s.toks+1}) ho hd (x:=rawInt (i:Int)) rfl ?_);show wpAny _ _ (setField (.ref it) 1 (rawInt ((i:Int)-1)) >>= _) _ _ _;refine wpAny_bind (wpAny_setField (s:={s with toks:=s.toks+1}) ho hd (by simp) ?_);refine wpAny_pure ⟨x,rfl,wpAny_pure (hQ _ _ ?_ (Heap.SameBut.update ..))⟩;exact⟨_,Heap.get?_update_self _ ho (Obj.isFreed_of_fields (Obj.data_mapFields hd _)),(Obj.cls_mapFields ..).trans hc,by
  rw[Obj.data_mapFields hd];simp⟩
theorem xr9{Q:Option Value->Shared->Prop}(hh:A.handled=none)(hit:wl0 s.heap it l (-1))(hQ:∀h',Heap.ExtBut it s.heap h'->Q none {s with heap:=h'}):wpAny #[10] A (pyNext (.ref it)) Q E s:=by
 obtain⟨o,ho,hc,hd⟩:=id hit;unfold pyNext;refine wpAny_bind (wpAny_attempt (wpAny_callSpecial?_slot (name:=Str.ofString "__next__") hit.typeIs qc9
  (wpAny_call_entry qc9 hit.typeIs wk8 ?_ (wg9 _))));unfold Builtin.«reversed.__next__»;refine wpAny_bind (wpAny_of_eq (a:=(Value.ref it,[])) rfl ?_)
 try dsimp only
 refine wpAny_bind (wpAny_field ho hd (x:=.ref l) rfl ?_);refine wpAny_bind (wpAny_field ho hd (x:=rawInt (-1)) rfl ?_);show wpAny _ _ (if(-1:Int)<0 then _ else _) _ _ s;rw[if_pos #[7]];refine wpAny_bind (wpAny_rule ?_);refine wpAny_bind ?_;show wpAny _ _ (setField (.ref it) 1 (rawInt (-1)) >>= _) _ _ _;refine wpAny_bind (wpAny_setField ho hd (by simp) ?_);have h1:=Heap.get?_update_self (Obj.mapFields (·.setIfInBounds 1 (rawInt (-1)))) ho (Obj.isFreed_of_fields (Obj.data_mapFields hd _));have d1:=Obj.data_mapFields hd (·.setIfInBounds 1 (rawInt (-1)));refine wpAny_setField (s:={s with heap:=_}) h1 d1 (by simp) ?_;have eb:Heap.ExtBut it s.heap ((s.heap.update it (Obj.mapFields (·.setIfInBounds 1 (rawInt (-1))))).update it (Obj.mapFields (·.setIfInBounds 0 Value.none))):=by
  intro b u hb e;exact((Heap.SameBut.update _ _ _).2 b hb).trans (((Heap.SameBut.update _ _ _).2 b hb).trans e)
 first
 | show wpAny _ _ (newExc (.type "StopIteration") [] >>= _) _ _ _
 | (refine wpAny_bind ?_;show wpAny _ _ (newExc (.type "StopIteration") [] >>= _) _ _ _)
 walk_at"21"
 first|rw[show A.in1.handled=none from hh]|rw[hh]
 refine wpAny_bind (wpAny_pure (wpAny_throw ?_));refine wpAny_bind (wpAny_isInstance (T := "StopIteration") (b:=true) ⟨_,Heap.get?_push_size _ rfl,rfl⟩ isSubtype_stop ?_);exact wpAny_pure (hQ _ ((eb.push _).push _))
theorem xs0(hit:wl0 s.heap it l i)(h:Q (.ref it) s):wpAny #[10] A (pyIter (.ref it)) Q E s:=by
 refine wpAny_pyIter_slot hit.typeIs wr9 (wpAny_call_entry wr9 hit.typeIs xr8 ?_ (xk1 _));show wpAny _ _ (ret (.ref it)) _ _ s;exact wpAny_pure ⟨_,rfl, "reversed",_,hit.typeIs,qc9.lookup,h⟩
noncomputable def Aa8(K:Fg)(a:Addr)(n:Nat):It :=
 ⟨λi H=>i<n/\∃xs x,SqT K H a xs/\xs[n-1-i]?=some x,λi H x H'=>H'=H/\∀xs,SqT K H a xs->xs[n-1-i]?=some x,λi _=>i=n⟩
theorem zj3{tg:Expr}(a it:Addr)(n:Nat):xj4 P w K tg (Aa8 K a n) [it] it (λi h=>wl0 h it a ((n:Int)-1-(i:Int))) where
 mem:=by simp
 obj:=λi h st b hb=>by
  walk_at"38"
 keep:=λi h h' st k=>st.at λo e=>k it (by simp) o e
 item:=by
  walk_at"0";obtain⟨hi,xs,x,hq,hx⟩:=hg;obtain⟨its,rv,p,hz⟩:=I.tuple hq;obtain⟨u,hu,ru⟩:=rv.get hx;walk_at"12";have e:(n:Int)-1-(i:Int)=((n-1-i:Nat):Int):=by omega
  have st1:=st;rw[e] at st1;have hlt:=(List.getElem?_eq_some_iff.mp hx).1;have hs:sizeLine=16777216:=sizeLine_eq;refine wpAny_with_toks (n:=1) I.tk (xk4 st1 p #[0] (x:=u) (by simpa using hu) λh' tk st' sb=>?_);intro htk;have I1:Inv X pins σ H {s with heap:=h',toks:=tk}:=I.turned (t':=tk) (λb o hb e=>(sb.2 b hb).trans e) f0 f1 f3 f4 f5;obtain⟨o,e',c,d⟩:=id st';have e2:((n-1-i:Nat):Int)-1=(n:Int)-1-((i+1:Nat):Int):=by omega
  rw[e2] at st';exact⟨u,rfl,yc9 (s:={s with heap:=h',toks:=tk}) e' c d #[7] ⟨x,H,I1,ru,⟨rfl,λys hy=>by rw[I.tuple_inj hy hq];exact hx⟩,st',λb hb=>(hf b hb).1⟩⟩
 done:=by
  walk_at"0";have hg:i=n:=hg;subst hg;walk_at"12";have e:(i:Int)-1-(i:Int)=-1:=by omega
  have st1:=st;rw[e] at st1;exact xr9 (I.ok.hd hc) st1 λh' eb=>⟨rfl,I.turned (t':=s.toks) (λb o hb e=>eb b o hb e) f0 f1 f3 f4 f5⟩
 self:=λ_ _ _ _ _ st h=>xs0 st h
def zr0(K:Fg)(ta:TA):TI:=λσ H R=>ta σ H λvs H1=>∃a xs,vs=[.ref a]/\SqT K H1 a xs/\R (Aa8 K a xs.length) H1
theorem Aa9{tg:Expr}{l:Expr}{ta:TA}{p:Pos}(hg:Gl X "reversed")(hm:X.mg "reversed"=none)(ha:PA X [l] ta)(hs:autoParam (starEach [l] X.env=[(false,eval l X.env)]) zAr) :
 PI X tg (.Call (.Name "reversed" p) [l] [] pos) (zr0 X.K ta):=by
 intro pins s σ H R I h
 refine Call_ (qr6 I hg hm boot_reversed (PyProof.Rows.callWith_type1 (thn (ha pos pins s σ H _ I h) λus s1 zq=>?_) hs rfl))
 obtain⟨vs,H1,I1,r1,q1⟩:=zq
 obtain⟨a,xs,e,hq,q⟩:=q1
 subst e
 obtain⟨v,rfl,rv⟩:=qv2 r1
 cases rv
 obtain⟨its,rv,p,hz⟩:=I1.tuple hq
 have hsz:sizeLine=16777216:=sizeLine_eq
 have hlen:=rv.length
 refine wx4 p (by simp only[size_toArray];omega) ?_
 have e:((its.toArray.size:Nat):Int)-1=(xs.length:Int)-1-((0:Nat):Int):=by rw[rv.length];simp
 rw[e]
 have hit:wl0 (s1.heap.push (yx5 a ((xs.length:Int)-1-((0:Nat):Int)))) s1.heap.objs.size a ((xs.length:Int)-1-((0:Nat):Int)):=⟨_,Heap.get?_push_size _ rfl,rfl,rfl⟩
 refine xs0 hit ?_
 refine⟨s1.heap.objs.size,[s1.heap.objs.size],_,_,H1,rfl,I1.kept (t':=s1.toks+1+1) λb o e=>Heap.get?_push_of_some _ e,zj3 a _ xs.length,hit,λb hb=>?_,q⟩
 walk_at"20"
section
variable{Q:VK}
theorem Ab0{ta:TA}(h:ta σ H λvs H1=>∃a xs,vs=[.ref a]/\SqT K H1 a xs/\R (Aa8 K a xs.length) H1):zr0 K ta σ H R:=h
end
variable{d:Addr}{ep:Nat}
section
variable[DecidableEq κ]{knd:KeyKind prog w κ}
theorem zj4{kvs:List (κ×Value)}{Q:Bool->Shared->Prop}(hm:s.heap.DictOf knd d kvs)(h:Q false s):wpAny #[10] A (Builtin.List.listLengthHint (.ref d)) Q E s:=by
 unfold Builtin.List.listLengthHint;refine wpAny_bind (wpAny_specialOf hm.typeIs F.slot_dict_len.lookup ?_);generalize hid:("dict.__len__":String)=id0
 wp_delta
 rw[show splitId id0=some ("dict","__len__") from by subst hid;decide +kernel];subst hid;refine wpAny_bind (wpAny_isInstance (T := "dict") (b:=true) hm.typeIs (by rw[isSubtype_type];kernel_rfl) ?_);refine wpAny_ite_split (λhab=>absurd hab #[7]) (λ_=>?_);refine wpAny_ite_split (λ_=>?_) (λhab=>absurd #[11] hab);exact wpAny_bind (wpAny_typeOf (T := "dict") hm.typeIs (wpAny_pure h))
abbrev zr1(knd:KeyKind prog w κ)(kvs:List (κ×Value)):Nat->Value->Prop:=λi v=>∃k x,kvs[i]?=some (k,x)/\knd.is k v=true
theorem yq0{R:Result->Shared->Prop}{kvs:List (κ×Value)}(hh:A.handled=none)(hd:(d == sysModules)=false)(hm:s.heap.DictAt knd d kvs ep)(hlen:kvs.length<=2 ^ 24)(S:Addr)(res:Value)(c₀:Nat)(hSd:S≠d)(hS:s.heap.get? S=some {cls:=.type "list",data:=.seq #[] c₀}) (hR:∀h' tk acc' c',(∀b o,b≠S->s.heap.get? b=some o->h'.get? b=some o)->h'.get? S=some {cls:=.type "list",dict:=none,data:=.seq acc' c',slots:=#[]} ->
  ItemsOf (zr1 knd kvs) acc' kvs.length->R (.ok (.ret res)) {s with heap:=h',toks:=tk}) :
 wpAny #[10] A.in1 (Builtin.List.listExtendWith (.ref S) (.ref d) res)
  (λfin s'=>match fin with | .done f=>R (.ok f) s' | .again c'=>c'.quiet=true/\codeAny #[10] A c' R s') (λe s'=>R (.error e) s') s:=by
 have hSlt:S<s.heap.objs.size:=Heap.lt_size hS
 have hSI:S≠s.heap.objs.size:=Nat.ne_of_lt hSlt
 have hdI:d≠s.heap.objs.size:=by obtain⟨o,es,ho,_⟩:=hm;exact Nat.ne_of_lt (Heap.lt_size ho)
 have hSf:S∉[s.heap.objs.size,d]:=by simp[hSI,hSd]
 have W:=(Walks.dictKeys (knd:=knd) (prog:=prog) (w:=w) (A:=A.in1) hh s.heap.objs.size d hdI kvs ep).toS
 have key:∀(h:Heap) (c₁ tk:Nat),h.IsKeyIter s.heap.objs.size d 0 kvs.length ep->h.DictAt knd d kvs ep->(∀b o,b≠S->s.heap.get? b=some o->h.get? b=some o) ->
  h.get? S=some {cls:=.type "list",data:=.seq #[] c₁}->codeAny #[10] A (.builtin "list.extend.loop" ⟨[.ref S,.ref s.heap.objs.size,res],[]⟩) R {s with heap:=h,toks:=tk}:=by
  intro h c₁ tk hit hdt hk hS₁
  refine codeAny_extend_loopS W #[16] S hSf res kvs.length 0 _ #[] c₁ rfl (Nat.zero_le _) ⟨hit,hdt⟩ hS₁ (ItemsOf.nil _) λs' acc' c' hm hS' hacc=>?_
  rw[Moved.eq_with hm]
  refine hR s'.heap s'.toks acc' c' (λb o hb e=>hm.heap b o (λhmem=>?_) (hk b o hb e)) hS' hacc
  rcases mem_cons.mp hmem with e' | hmem
  ·exact hb e'
  ·exact absurd (Heap.lt_size e) (by rw[mem_singleton.mp hmem];exact Nat.lt_irrefl _)
 unfold Builtin.List.listExtendWith
 refine wpAny_bind (wpAny_typeOf (T := "dict") hm.dictOf.typeIs ?_)
 have h1:Builtin.List.listSameRef (.ref S) (.ref d)=false:=by simp[Builtin.List.listSameRef,hSd]
 have h2:(Value.type "dict" == Value.type "list")=false:=by decide
 have h3:(Value.type "dict" == Value.type "tuple")=false:=by decide
 simp only[h1,h2,h3,Bool.or_false,Bool.false_eq_true,if_false]
 refine wpAny_bind (wpAny_pyIter_dict hd hm ?_)
 have hdP:(s.heap.push {cls:=.type "dict_keyiterator",data:=.fields #[.ref d,.int 0 0,.int kvs.length 0,.int ep 0]}).DictAt knd d kvs ep:=hm.at' λo e=>Heap.get?_push_of_some _ e
 refine wpAny_bind (wpAny_holding (zj4 hdP.dictOf ?_))
 have hit₁:Heap.IsKeyIter (s.heap.push {cls:=.type "dict_keyiterator",data:=.fields #[.ref d,.int 0 0,.int kvs.length 0,.int ep 0]}) s.heap.objs.size d 0 kvs.length ep:=⟨_,Heap.get?_push_size _ rfl,rfl,rfl⟩
 have hS₁:=Heap.get?_push_of_some {cls:=.type "dict_keyiterator",data:=.fields #[.ref d,.int 0 0,.int kvs.length 0,.int ep 0]} hS
 refine wpAny_ite_split (λ_=>?_) (λ_=>wpAny_pure ⟨plainId_quiet F.plain_extend_loop _,key _ c₀ _ hit₁ hdP (λb o _ e=>Heap.get?_push_of_some _ e) hS₁⟩)
 refine wpAny_bind (wpAny_rule ?_)
 refine wpAny_bind ?_
 show wpAny _ _ (updateSeq S (·.push .none) >>= λ_=>updateSeq S (·.pop)) _ _ _
 refine wpAny_bind (wpAny_updateSeq hS₁ rfl ?_)
 have hS₂:=Heap.get?_update_self (Obj.mapSeq (·.push Value.none)) hS₁ rfl
 refine wpAny_updateSeq (hz:=by seq_fits) hS₂ rfl ?_
 have hS₃:=Heap.get?_update_self (Obj.mapSeq (·.pop)) hS₂ rfl
 refine wpAny_pure ⟨plainId_quiet F.plain_extend_loop _,key _ _ _ ?_ ?_ (λb o hb e=>?_) hS₃⟩
 ·exact hit₁.at λo e=>(Heap.get?_update_other _ _ hSI).trans ((Heap.get?_update_other _ _ hSI).trans e)
 ·exact hdP.at' λo e=>(Heap.get?_update_other _ _ hSd).trans ((Heap.get?_update_other _ _ hSd).trans e)
 ·exact(Heap.get?_update_other _ _ (Ne.symm hb)).trans ((Heap.get?_update_other _ _ (Ne.symm hb)).trans (Heap.get?_push_of_some _ e))
theorem xs1{R:Result->Shared->Prop}{kvs:List (κ×Value)}(hh:A.handled=none)(hd:(d == sysModules)=false)(hm:s.heap.DictAt knd d kvs ep)(hlen:kvs.length<=2 ^ 24)(S:Addr)(hSd:S≠d)(hS:s.heap.get? S=some {cls:=.type "list",data:=.seq #[]}) (hR:∀h' tk acc' c',(∀b o,b≠S->s.heap.get? b=some o->h'.get? b=some o)->h'.get? S=some {cls:=.type "list",dict:=none,data:=.seq acc' c',slots:=#[]} ->
  ItemsOf (zr1 knd kvs) acc' kvs.length->R (.ok (.ret .none)) {s with heap:=h',toks:=tk}) :
 wpAny #[10] A.in1 (Builtin.«list.__init__» ⟨[.ref S,.ref d],[]⟩)
  (λfin s'=>match fin with | .done f=>R (.ok f) s' | .again c'=>c'.quiet=true/\codeAny #[10] A c' R s') (λe s'=>R (.error e) s') s:=by
 show wpAny _ _ (do let old<-Builtin.List.listItems (.ref S);Builtin.List.listUpdate (.ref S) (λ_=>#[]);letGo old.toList.reverse;Builtin.List.listExtendWith (.ref S) (.ref d) .none) _ _ s
 refine wpAny_bind ?_
 unfold Builtin.List.listItems
 refine wpAny_bind (wpAny_seqItems hS rfl (wpAny_pure ?_))
 show wpAny _ _ (updateSeq S (λ_=>#[]) >>= λ_=>letGo (#[]:Array Value).toList.reverse >>= λ_=>Builtin.List.listExtendWith (.ref S) (.ref d) .none) _ _ s
 refine wpAny_bind (wpAny_updateSeq hS rfl ?_)
 have hS₂:=Heap.get?_update_self (Obj.mapSeq (λ_=>(#[]:Array Value))) hS rfl
 have oth:∀b o,b≠S->s.heap.get? b=some o->(s.heap.update S (Obj.mapSeq (λ_=>(#[]:Array Value)))).get? b=some o :=
  λb o hb e=>(Heap.get?_update_other _ _ (Ne.symm hb)).trans e
 refine wpAny_bind (wpAny_letGo ?_)
 refine yq0 hh hd (hm.at' λo e=>oth d o (Ne.symm hSd) e) hlen S .none _ hSd hS₂ λh' tk acc' c' hk hS' hacc=>?_
 exact hR h' tk acc' c' (λb o hb e=>hk b o hb (oth b o hb e)) hS' hacc
theorem xs2{kvs:List (κ×Value)}(hh:A.handled=none)(hd:(d == sysModules)=false)(hm:s.heap.DictAt knd d kvs ep)(hlen:kvs.length<=2 ^ 24) (hQ:∀h' tk acc' c',(∀b o,s.heap.get? b=some o->h'.get? b=some o) ->
  h'.get? s.heap.objs.size=some {cls:=.type "list",dict:=none,data:=.seq acc' c',slots:=#[]}->ItemsOf (zr1 knd kvs) acc' kvs.length->Q (.ref s.heap.objs.size) {s with heap:=h',toks:=tk}) :
 wpAny #[10] A (call (.type "list") [.ref d]) Q E s:=by
 refine callType_codes (Q₁:=λobj s₁=>obj=.ref s.heap.objs.size/\s₁={s with heap:=s.heap.push {cls:=.type "list",data:=.seq #[]}}) F.called_list (F.typeCall_list_1 _) F.entry_list_init
  (code_list_new _ ⟨rfl,rfl⟩) λobj s₁ h₁=>?_
 obtain⟨rfl,rfl⟩:=h₁
 have hS:(s.heap.push {cls:=.type "list",data:=.seq #[]}).get? s.heap.objs.size=some {cls:=.type "list",data:=.seq #[]}:=Heap.get?_push_size _ rfl
 have hdI:d≠s.heap.objs.size:=by obtain⟨o,es,ho,_⟩:=hm;exact Nat.ne_of_lt (Heap.lt_size ho)
 refine⟨⟨_,hS,rfl⟩,F.args_list_init_2 _ _,xs1 (A:=A.in1) hh hd (hm.at' λo e=>Heap.get?_push_of_some _ e) hlen _ (Ne.symm hdI) hS λh' tk acc' c' hk hS' hacc=>?_⟩
 exact⟨rfl,hQ h' tk acc' c' (λb o e=>hk b o (Nat.ne_of_lt (Heap.lt_size e)) (Heap.get?_push_of_some _ e)) hS' hacc⟩
end
theorem xs3:∀(xs:List V) (us:List Value),xs.length=us.length->(∀(j:Nat) (u:Value),us[j]?=some u->∃x,xs[j]?=some x/\D8 x u)->D3 xs us
 | [],[],_,_=>.nil
 | [],_::_,h,_=>by cases h
 | _::_,[],h,_=>by cases h
 | x::xs,u::us,h,g=>by
   obtain⟨y,e,r⟩:=g 0 u rfl;cases e;exact .cons r (xs3 xs us (by simpa using h) λj v e=>by simpa using g (j+1) v (by simpa using e))
theorem Af7{k:Key}(h:(R4 P w).is k u=true):D8 (kV k) u:=by
 rcases P5 (show xp6 k u=true from h) with⟨i,t,rfl,rfl⟩|⟨x,t,rfl,rfl⟩
 ·exact⟨t,rfl⟩
 ·exact⟨t,rfl⟩
def zr2:List V->Hp->VK->Prop:=λxs H Q=>∃p kvs,xs=[.ref p]/\Rd H p (.dK kvs)/\∀l,H l=none->Q (.ref l) (upd H l (.lst (kvs.map λy=>kV y.1)))
theorem xs4(hc:X.calm=true):Y0 X (.type "list") zr2:=by
 walk_at"35";obtain⟨p,kvs,rfl,hq,q⟩:=h;obtain⟨u,rfl,rx⟩:=qv2 r;cases rx;obtain⟨z,hd,vs,rel,o,es,ep,dd⟩:=xq5 I.hok hq;have hlen:=rel.length;have hkeys:=rel.keys;have hs:sizeLine=16777216:=sizeLine_eq;refine wpAny_with_toks (n:=1) I.tk (xs2 (knd:=R4 X.prog X.w) (kvs:=vs) (ep:=ep) (I.ok.hd hc) hd ⟨o,es,dd⟩ #[0] λh' tk acc' c' kp e it=>?_);intro htk;have hv:D3 (kvs.map λy=>kV y.1) acc'.toList:=by
  refine xs3 _ _ (by simp[it.1,hlen]) λj v hv=>?_;obtain⟨k,x,hx,hk⟩:=it.2 j v (by simpa using hv);refine⟨kV k,?_,Af7 hk⟩;have:(kvs.map (·.1))[j]?=some k:=by rw[hkeys,List.getElem?_map,hx];rfl
  rw[List.getElem?_map] at this ⊢;cases e2:kvs[j]? with
  | none=>rw[e2] at this;cases this
  | some y=>rw[e2] at this;cases this;rfl
 exact⟨.ref s.heap.objs.size,_,I.laid (t':=tk) kp #[6] (show Q8 X.prog X.w _ h' _ (.lst (kvs.map λy=>kV y.1)) from ⟨by rw[length_map];exact z,acc'.toList,c',hv,by simpa using e⟩),rfl,q _ (I.hok.fresh #[6])⟩
noncomputable def Iti(d:Addr)(o:Obj)(kvs:List (Key×V)):It :=
 ⟨λi H=>i<kvs.length/\H d=some (.frz o (.dK kvs)),λi H x H'=>∃p k v,x=.ref p/\H p=none/\kvs[i]?=some (k,v)/\H'=upd H p (.tup [kV k,v]),λi H=>i=kvs.length/\H d=some (.frz o (.dK kvs))⟩
theorem zr3:∀{kvs:List (Key×V)} {vs:List (Key×Value)} {i:Nat} {k:Key} {v:V},KV kvs vs->kvs[i]?=some (k,v)->∃u,vs[i]?=some (k,u)/\D8 v u
 | _,_,_,_,_,.nil,e=>by simp at e
 | _,(k',u)::_,0,_,_,.cons r _,e=>by simp at e;subst e;obtain⟨r1,r2⟩:=r;cases r1;exact⟨u,rfl,r2⟩
 | _,_,i+1,_,_,.cons _ t,e=>by
   obtain⟨u,h,r⟩:=zr3 (i:=i) t (by simpa using e);exact⟨u,by simpa using h,r⟩
theorem yx6{o:Obj}{es:Array DictEntry}(ok:HOk P w H h)(e:H d=some (.frz o (.dK kvs)))(ho:o.data=.dict es ep) :
 ∃vs,KV kvs vs/\h.DictAt (R4 P w) d vs ep:=by
 obtain⟨hd,z,hs,vs,rel,o',es',ep',e1,ex,e2,rest⟩:=(show Q8 P w H h d (.frz o (.dK kvs)) from ok d _ e)
 rw[hd] at e1
 cases e1
 rw[ho] at e2
 cases e2
 exact⟨vs,rel,o,es,hd,ex,ho,rest⟩
theorem wq5:entryFor table "dict_itemiterator.__iter__"=some Builtin.«dict_keyiterator.__iter__» :=
 entryFor_alias (id' := "dict_keyiterator.__iter__") (by kernel_rfl) (by first | rfl | decide +kernel | (unfold String.splitOn; simp +decide [String.splitOnAux])) #[11] (by kernel_rfl)
theorem xk5{i:Nat}{ok ov:Value}(hit:IsItemIter s.heap it d i n ep ok ov)(h:Q (.ref it) s):wpAny #[10] A (pyIter (.ref it)) Q E s:=by
 have hT:s.TypeIs (.ref it) "dict_itemiterator":=⟨_,hit,rfl⟩;refine wpAny_pyIter_slot hT F.slot_dict_itemiterator_iter (wpAny_call_entry F.slot_dict_itemiterator_iter hT wq5 ?_ (F.args_dict_itemiterator_iter_1 _));show wpAny _ _ (ret (.ref it)) _ _ s;exact wpAny_pure ⟨_,rfl, "dict_itemiterator",_,hT,F.slot_dict_itemiterator_next.lookup,h⟩
theorem yx7{k:Nat}(d it:Addr)(o:Obj)(es:Array DictEntry)(ep:Nat)(kvs:List (Key×V))(ho:o.data=.dict es ep) :
 xj4 P w K (.Tuple elts k pos) (Iti d o kvs) [it] it (λi h=>∃ok ov,IsItemIter h it d i kvs.length ep ok ov) where
 mem:=by simp
 obj:=by
  rintro i h ⟨ok,ov,e⟩ b hb;have hb:b=it:=by simpa using hb
  subst hb;exact⟨_,e,λv z=>by cases (show Data.fields _=Data.cell v from z)⟩
 keep:=λi h h' st kk=>let ⟨ok,ov,e⟩:=st;⟨ok,ov,kk it (by simp) _ e⟩
 item:=by
  walk_at"0";obtain⟨hi,hH⟩:=hg;obtain⟨ok,ov,st⟩:=st;obtain⟨vs,rel,dA⟩:=yx6 I.hok hH ho;have hlen:=rel.length;obtain⟨⟨kk',v⟩,hx⟩:∃y,kvs[i]?=some y:=⟨kvs[i],by simp[hi]⟩;obtain⟨u,hu,ru⟩:=zr3 rel hx;have hil:it<s.heap.objs.size:=Heap.lt_size st;rw[hlen] at st ⊢;refine wpAny_pyNext_items_item st dA hu λkey h' hk hout htup hsz kp=>⟨_,rfl,wpAny_letOwnedTupleGo_items hout λh2 st2 sb=>?_⟩;have htup2:h2.get? s.heap.objs.size=some {cls:=.type "tuple",data:=.seq #[key,u]}:=(sb.2 _ (Nat.ne_of_gt hil)).trans htup;have I1:Inv X pins σ (upd H s.heap.objs.size (.tup [kV kk',v])) {s with heap:=h2} :=
   I.turnLaid (t':=s.toks) (ch:=[it]) (λb hb=>hf b hb) (λb u hb e=>(sb.2 b (by simpa using hb)).trans (kp b u (by simpa using hb) e)) #[6] ⟨by rw[sizeLine_eq];simp,[key,u],.cons (Af7 hk) (.cons ru .nil),⟨_,htup2,rfl,_,rfl⟩⟩ I.tk;refine⟨.ref s.heap.objs.size,_,I1,rfl,⟨_,kk',v,rfl,I.hok.fresh #[6],hx,rfl⟩,⟨key,u,by simpa using st2⟩,λb hb=>?_⟩;have hb':b=it:=by simpa using hb
  rw[A8 (by rw[hb'];exact Nat.ne_of_lt hil)];exact(hf b hb).1
 done:=by
  walk_at"0";obtain⟨hi,hH⟩:=hg;obtain⟨ok,ov,st⟩:=st;obtain⟨vs,rel,dA⟩:=yx6 I.hok hH ho;have hlen:=rel.length;rw[hlen] at st;exact wpAny_pyNext_items_end (I.ok.hd hc) st dA (by rw[List.getElem?_eq_none_iff];omega) λh' eb=>⟨rfl,I.turnedL (ch:=[it]) (t':=s.toks) (λb hb=>hf b hb) (λb o hb y=>eb b o (λz=>hb (by simp[z])) y) I.tk⟩
 self:=λA i s Q E st h=>let ⟨_,_,e⟩:=st;xk5 e h
theorem Inv.freeze(I:Inv X pins σ H s)(e:H d=some (.dK kvs)) :
 ∃o es ep,o.data=.dict es ep/\Inv X pins σ (upd H d (.frz o (.dK kvs))) s:=by
 obtain⟨z,hs,vs,rel,o,es,ep,ho,r⟩:=zn6 I.hok e
 refine⟨o,es,ep,r.2.1,?_⟩
 exact yh7 (h':=s.heap) (t':=s.toks) I (by rw[e];exact True.intro) ⟨rfl,λ_ _=>rfl⟩ ⟨o,ho⟩ (show Q8 X.prog X.w _ s.heap d (.frz o (.dK kvs)) from ⟨ho,z,hs,vs,rel,o,es,ep,ho,r⟩) I.tk
def yx8(to:TE):TI:=λσ H R=>to σ H λx H1=>∃d kvs,x=.ref d/\H1 d=some (.dK kvs)/\∀o,R (Iti d o kvs) (upd H1 d (.frz o (.dK kvs)))
theorem zr4{k:Nat}(ho:PE X o to)(hbase:attributeBase o "items" X.env (eval o X.env)=eval o X.env)(hline:(apos.endLine == pos.line)=true) :
 PI X (.Tuple elts k tpos) (.Call (.Attribute o "items" apos) [] [] pos) (yx8 to):=by
 intro pins s σ H R I h
 refine wpAny_Call_method (T := "dict") (id := "dict.items") hbase rfl hline F.plainAttrs_dict F.slot_dict_items F.type_dict_items (thn (ho pins s σ H _ I h) λu s1 zq=>?_)
 walk_at"32"
 obtain⟨d,kvs,e,hd,q⟩:=q1
 subst e
 cases r1
 obtain⟨ob,es,ep,od,I2⟩:=I1.freeze hd
 obtain⟨vs,rel,dA⟩:=yx6 I2.hok A2 od
 have dd:=dA.dictOf
 obtain⟨_,hs,_⟩:=zn6 I1.hok hd
 refine⟨dd.typeIs,dd.mapOf.noDict,?_⟩
 show wpAny _ _ (callWith pos (.builtin "dict.items") [.ref d] [] []) _ _ s1
 refine method_meetsIn F.slot_dict_items F.entry_dict_items rfl (PySem.evalArgs_none ⟨rfl,dd.typeIs,F.args_dict_items_1 _,_,meets_dict_items (R4 X.prog X.w) d hs,⟨vs,dd⟩,?_⟩)
 have hlen:=rel.length
 refine wpAny_pyIter_items (v:=s1.heap.objs.size) ⟨_,Heap.get?_push_size _ rfl,rfl,rfl⟩ (dA.at' λo e=>Heap.get?_push_of_some _ e) ?_
 have z1:(s1.heap.push {cls:=.type "dict_items",data:=.fields #[.ref d]}).objs.size=s1.heap.objs.size+1:=Heap.size_push ..
 have I3:Inv X pins σ (upd H1 d (.frz ob (.dK kvs))) {s1 with heap:=(s1.heap.push {cls:=.type "dict_items",data:=.fields #[.ref d]}).push {cls:=.type "dict_itemiterator",data:=.fields #[.none,.bool false,.ref d,.int 0 0,.int vs.length 0,.int ep 0,.none,.none]}} :=
  I2.kept (t':=s1.toks) λb o e=>Heap.get?_push_of_some _ (Heap.get?_push_of_some _ e)
 refine⟨(s1.heap.push {cls:=.type "dict_items",data:=.fields #[.ref d]}).objs.size,_,_,_,_,rfl,I3,yx7 d _ ob es ep kvs od,⟨.none,.none,by rw[hlen];exact Heap.get?_push_size _ rfl⟩,λb hb=>?_,q ob⟩
 have e:b=(s1.heap.push {cls:=.type "dict_items",data:=.fields #[.ref d]}).objs.size:=by simpa using hb
 subst e
 exact I2.fpOk (by rw[z1];exact Nat.le_succ _) (I2.hok.fresh (by rw[z1];exact Nat.le_succ _))
theorem zr5(h:to σ H λx H1=>∃d kvs,x=.ref d/\H1 d=some (.dK kvs)/\∀o,R (Iti d o kvs) (upd H1 d (.frz o (.dK kvs)))):yx8 to σ H R:=h
theorem zj5(hd:H d=some (.dK kvs))(Pv:Obj->Nat->St->Hp->Prop)(h0:∀o,Pv o 0 σ (upd H d (.frz o (.dK kvs))))(hk:∀o i σ H',Pv o i σ H'->H' d=some (.frz o (.dK kvs)))(hs:∀o i k v p σ H,kvs[i]?=some (k,v)->H p=none->Pv o i σ H->g (.ref p) σ (upd H p (.tup [kV k,v])) λσ2 H2=>tb {D with nx:=PAt (Pv o) (i+1),ct:=PAt (Pv o) (i+1),bk:=D.nx} σ2 H2)(he:∀o σ H,Pv o kvs.length σ H->D.nx σ H) :
 ∃b ys,V.ref d=.ref b/\H b=some (.dK ys)/\∀o,wq2 g tb D σ (Iti b o ys) (upd H b (.frz o (.dK ys))):=by
 refine⟨d,kvs,rfl,hd,λo=>⟨λi m σ H=>m=kvs.length-i/\i<=kvs.length/\Pv o i σ H,⟨kvs.length,by simp,Nat.zero_le _,h0 o⟩,?_⟩⟩
 rintro i m σ H ⟨rfl,hi,p⟩
 have sq:=hk o i σ H p
 by_cases hlt:i<kvs.length
 ·refine .inr ⟨⟨hlt,sq⟩,Pv o (i+1),λσ' H' p'=>⟨kvs.length-(i+1),by omega,rfl,hlt,p'⟩,λx H' y=>?_⟩
  obtain⟨q,k,v,rfl,hn,hx,rfl⟩:=y
  exact hs o i k v q σ _ hx hn p
 ·have e:i=kvs.length:=by omega
  subst e
  exact .inl ⟨⟨rfl,sq⟩,he o σ H p⟩
section
variable{Q:VK}
theorem zr6(hq:SqT K H a xs)(Pv:Nat->St->Hp->Prop)(h0:Pv 0 σ H)(hk:∀i σ H',Pv i σ H'->SqT K H' a xs)(hs:∀i x σ H,xs[xs.length-1-i]?=some x->i<xs.length->Pv i σ H->g x σ H λσ2 H2=>tb {D with nx:=PAt Pv (i+1),ct:=PAt Pv (i+1),bk:=D.nx} σ2 H2)(hd:∀σ H,Pv xs.length σ H->D.nx σ H) :
 ∃b ys,[V.ref a]=[.ref b]/\SqT K H b ys/\wq2 g tb D σ (Aa8 K b ys.length) H:=by
 refine⟨a,xs,rfl,hq,λi m σ H=>m=xs.length-i/\i<=xs.length/\Pv i σ H,⟨xs.length,by simp,Nat.zero_le _,h0⟩,?_⟩
 rintro i m σ H ⟨rfl,hi,p⟩
 have sq:=hk i σ H p
 by_cases hlt:i<xs.length
 ·refine .inr ⟨⟨hlt,xs,xs[xs.length-1-i],sq,List.getElem?_eq_getElem #[0]⟩,Pv (i+1),λσ' H' p'=>⟨xs.length-(i+1),by omega,rfl,hlt,p'⟩,λx H' y=>?_⟩
  obtain⟨rfl,hz⟩:=y
  exact hs i x σ _ (hz xs sq) hlt p
 ·have e:i=xs.length:=by omega
  subst e
  exact .inl ⟨rfl,hd σ H p⟩
end
def yj2:V->List V->Hp->VK->Prop:=λx xs H Q=>∃z c:Str,x=.str z/\xs=[.str c]/\z.length<=1000000/\Q (.str (PySem.Txt.stripChars z c)) H
theorem zj6:MtR X "str.strip" yj2:=by
 walk_at"33";obtain⟨z,c,rfl,rfl,hz,q⟩:=h;obtain⟨t,rfl⟩:=rx;obtain⟨u,rfl,ru⟩:=rv.one;obtain⟨t',rfl⟩:=ru;refine wpAny_with_toks (n:=1) I.tk (call_gives F.slot_str_strip (typeIs_str _ _ _) F.entry_str_strip (F.args_str_strip_2 _ _) (gives_str_strip_chars z c t t') (post_val_or_made (λ_=>fits_stripped _ _ _ #[16]) λt2 k=>?_));intro hk;exact⟨.str (PySem.Txt.stripChars z c),H,I.tok _ hk,⟨_,rfl⟩,q⟩
section
variable{Q:VK}{f:Str}{E:XK}
theorem C2(h:ta σ H λx H1=>∃a C dx fs v,x=.ref a/\H1 a=some (.ins C dx fs)/\Cls K C/\wj4 K C f/\fs.lookup f=some v/\Q v H1):I0 K ta f σ H Q:=h
theorem R7(h:tv σ H λy H1=>ta σ H1 λx H2=>∃a C dx fs,x=.ref a/\H2 a=some (.ins C dx fs)/\Cls K C/\wj4 K C f/\fs.length<1000/\D.nx σ (upd H2 a (.ins C dx (qf6 f y fs)))):qi5 K ta tv f D σ H:=h
theorem C5(h:ta σ H λx H1=>∃a dx fs,x=.ref a/\H1 a=some (.ins C dx fs)/\fs.lookup m=none/\t σ H1 λvs H2=>sp (x::(vs++dvs)) H2 Q E):E9 C m sp dvs E ta t σ H Q:=h
theorem wp0(h:t σ H λvs H1=>∀x dx,H1 x=none->H1 dx=none->dx≠x->sp (.ref x::(vs++dvs)) (upd (upd H1 dx (.own x)) x (.ins C dx [])) (λv H2=>v=.non/\Q (.ref x) H2) E):xi3 C sp dvs E t σ H Q:=h
end
end L2
local macro_rules | `(tactic| lk) => do
 let a <- ("zo9 Aq5 Ak1 zy9 D0 zo8 V1 zd1 Ae9 ww7 qy2 qi6 Aq8 Ar0 Ak2 Au3 Aq9 zy6 Aj7 zo6 zz0 zz2 Aq6 zy5 Aj8 yw6 Aq7 Aj9 zy7 zy8 Ak0 zp0 zd0 Ak3 zp2 zy4 zp1 zz1 Ak6 Ar7 zz6 zi3 Ak9 zz7 zp5 zz8 Al0 Aa6 zq8 Aa2 Aa7 As0 As1 Aa0 yi5 Ak4 Ar1 Ar2 Ar3 Af0 Af4 zd4 zp6 Au4 zz3".splitOn " ").toArray.mapM λn => `(Lean.Parser.Tactic.tacticSeq| refine $(Lean.mkIdent (.str `L2 n)) ?_)
 `(tactic| (repeat (first | ((with_reducible refine' L2.yi4 ?ev ?_); (case ev => exact rfl)) | (with_reducible first $[| $a]*) | ((with_reducible refine L2.zd2 ?ec ?_); (case ec => first | decide | omega | assumption)) | ((with_reducible refine L2.Ak5 ?ec ?_); (case ec => first | exact ⟨by decide, by decide⟩ | exact ⟨by omega, by omega⟩)))))
local macro_rules | `(tactic| x_go) => `(tactic| refine L2.qy2 ?_)
local macro_rules | `(tactic| k_go) => `(tactic| refine L2.qi6 ?_)
namespace My
open PySem L2
variable{H H':Hp}{K:Fg}{Q:VK}{v:V}{x y:Str}{α:Type}{E:XK}{vs:List V}
section
open PyProof.Rows
set_option genInjectivity false in
structure Row where
 name:Str
 sort:Str
 host:Str
 shuts:List Str
 bars:List Str
noncomputable def Row.da(r:Row):PyData:=.tuple [.str r.name,.str r.sort,.str r.host,.tuple (sDa r.shuts),.tuple (sDa r.bars)]
noncomputable def oV:Option Str->V
 | some s=>.str s
 | none=>.non
theorem wa8{r:Row}(h:Dv K H r.da v):∃b sv bv,v=.ref b/\SqT K H b [.str r.name,.str r.sort,.str r.host,sv,bv]/\Dv K H (.tuple (sDa r.shuts)) sv/\Dv K H (.tuple (sDa r.bars)) bv:=by
 obtain⟨b,ys,rfl,hb,h⟩:=C6.mp h;rw[Dvs] at h;obtain⟨v1,r1,rfl,e1,h⟩:=h;rw[Dvs] at h;obtain⟨v2,r2,rfl,e2,h⟩:=h;rw[Dvs] at h;obtain⟨v3,r3,rfl,e3,h⟩:=h;rw[Dvs] at h;obtain⟨v4,r4,rfl,e4,h⟩:=h;rw[Dvs] at h;obtain⟨v5,r5,rfl,e5,h⟩:=h;rw[Dvs] at h;subst h;rw[D6.mp e1,D6.mp e2,D6.mp e3] at hb;exact⟨b,v4,v5,rfl,hb,e4,e5⟩
def Rws(K:Fg)(H:Hp)(v:V)(rs:List Row):Prop:=∃a vs,v=.ref a/\(SqL K H a vs\/SqT K H a vs)/\Dvs K H (rs.map Row.da) vs
theorem Af8 {n:Option Str} (h:Q (.bl (decide (some x=n))) H):P7 K (.str x) (oV n) H Q:=by
 cases n with
 | none => refine yp0 rfl ?_;have e:(decide ((V.str x)=oV none))=decide (some x=none):=by simp[oV]
           rw[e];exact h
 | some y => refine yp0 rfl ?_;have e:(decide ((V.str x)=oV (some y)))=decide (some x=some y):=by simp[oV]
             rw[e];exact h
theorem zd4(h:Q (.bl (decide (x=y))) H):P7 K (.str x) (.str y) H Q:=by
 refine yp0 rfl ?_;have e:(decide ((V.str x)=V.str y))=decide (x=y):=by simp
 rw[e];exact h
theorem zp6(h:Q (.bl (!decide (x=y))) H):wq1 K (.str x) (.str y) H Q:=by
 refine Ar4 rfl ?_;have e:(decide ((V.str x)=V.str y))=decide (x=y):=by simp
 rw[e];exact h
theorem Af4{x y:Int}(h:Q (.bl (decide (x=y))) H):P7 K (.int x) (.int y) H Q:=by
 refine yp0 rfl ?_;have e:(decide ((V.int x)=V.int y))=decide (x=y):=by simp
 rw[e];exact h
noncomputable def qs2(rs:List Row)(n:Option Str):Option Row:=rs.find? λr=>decide (some r.name=n)
noncomputable def P3(rs:List Row)(n:Option Str):Option Str:=(qs2 rs n).map (·.sort)
noncomputable def T0(rs:List Row)(n:Option Str):Option Str:=(qs2 rs n).bind λr=>if r.sort=("frame":Str) then some r.host else none
noncomputable def L9(rs:List Row)(n:Option Str):Option Str:=(rs.find? λr=>decide (r.sort=("frame":Str)) && decide (some r.host=n)).map (·.name)
def qf3(K:Fg):Sp:=λvs H Q _=>∃v n rs,vs=[v,oV n]/\Rws K H v rs/\(qs2 rs n=none->Q .non H)/\∀r u,qs2 rs n=some r->Dv K H r.da u->Q u H
theorem yx9(K:Fg):∀vs H Q E,qf3 K vs H Q E->vs.length=["rows","name"].length:=by
 rintro vs H Q E ⟨v,n,rs,rfl,_⟩;rfl
def wl1(K:Fg):TS :=
 (B1 (qc8 (qy3 K (A0 0)) (A6 2)
 (M4 (C1 (tOp (P7 K) (tOp (D7 K) (A0 2) #[1,0]) (A0 1)))
 (E1 (A0 2)) J8))
 (E1 (tC .non)))
theorem qs3{α:Type}{p:α->Bool}:∀{l:List α} {i:Nat} {x:α},l[i]?=some x->(∀y∈l.take i,p y=false)->p x=true->l.find? p=some x
 | y::l,0,x,e,_,hp=>by cases e;rw[find?_cons,hp]
 | y::l,i+1,x,e,h,hp=>by
   have hy:p y=false:=h y (by simp);rw[find?_cons,hy];exact qs3 (i:=i) (by simpa using e) (λz hz=>h z (by simp[hz])) hp
theorem xs5{P:α->Prop}{l:List α}{i:Nat}{x:α}(e:l[i]?=some x)(h:∀y∈l.take i,P y)(hx:P x):∀y∈l.take (i+1),P y:=by
 intro y hy;rw[take_add_one,e] at hy;rcases mem_append.mp hy with z|z
 ·exact h y z
 ·have:y=x:=by simpa using z
  subst this;exact hx
theorem zj7(h:qf3 K vs H Q E):wl1 K {nx:=λ_ H'=>Q .non H',rt:=Q} (C3 ["rows","name","row"] vs) H:=by
 obtain⟨v,n,rs,rfl,⟨a,xs,rfl,hq,hd⟩,h1,h2⟩:=h;show wl1 K _ [some (.ref a),some (oV n),none] H;have hlen:xs.length=rs.length:=by have:=hd.length;simpa using this
 unfold wl1;refine V1 (zo6 (zp1 (yi4 rfl ?_)));refine zc9 hq (λi σ H'=>H'=H/\(∃w,σ=[some (.ref a),some (oV n),w])/\∀r∈rs.take i,decide (some r.name=n)=false) ⟨rfl,⟨_,rfl⟩,by simp⟩ (λhl i σ H' _ p=>p.1▸hl) (λht i σ H' _ p=>p.1▸ht) ?_ ?_
 ·rintro i x σ H' hx ⟨rfl,⟨w,rfl⟩,hn⟩;obtain⟨d,hd1,hd2⟩:=hd.get' hx;rw[List.getElem?_map] at hd1;obtain⟨r,hr,rfl⟩:=Option.map_eq_some_iff.mp hd1;obtain⟨b,sv,bv,rfl,hb,hsv,hbv⟩:=wa8 hd2;refine D0 (ww7 (zd1 (zo9 (zo9 (yi4 rfl (Aq5 (P6 hb rfl (yi4 rfl (Af8 ⟨_,rfl,?_⟩)))))))));by_cases e:some r.name=n
  ·rw[decide_eq_true e,if_pos rfl];refine⟨_,rfl,?_⟩;exact h2 r _ (qs3 hr hn (decide_eq_true e)) hd2
  ·rw[decide_eq_false e,if_neg Bool.false_ne_true];exact zd0 ⟨rfl,⟨_,rfl⟩,xs5 hr hn (decide_eq_false e)⟩
 ·rintro σ H' ⟨rfl,⟨w,rfl⟩,hn⟩;show Q .non H';refine h1 ?_;unfold qs2;rw[find?_eq_none];intro r hr;rw[hlen,take_length] at hn;simp[hn r hr]
end
variable{rk:Str->Nat}{rs:List Row}
section
open PyProof.Rows
def Y2(K:Fg):Sp:=λvs H Q _=>∃v n rs,vs=[v,oV n]/\Rws K H v rs/\Q (oV (P3 rs n)) H
def wp1(K:Fg):TS :=
 (B1 (B8 (B9 (qf3 K) [] E0 (A1 (A0 0) #[4,1])) (A6 2))
 (E1 (tIf (C1 (tOp xz8 (A0 2) (tC .non))) (tC .non) (tOp (D7 K) (A0 2) #[1,1]))))
theorem yy0(h:Y2 K vs H Q E):wp1 K {nx:=λ_ H'=>Q .non H',rt:=Q} (C3 ["book","name","row"] vs) H:=by
 obtain⟨v,n,rs,rfl,hR,q⟩:=h;show wp1 K _ [some v,some (oV n),none] H;refine⟨_,rfl,_,rfl,v,n,rs,rfl,hR,λe=>?_,λr u e hu=>?_⟩
 ·refine⟨_,rfl,rfl,_,rfl,?_⟩;show Q .non H;have:P3 rs n=none:=by unfold P3;rw[e];rfl
  rw[this] at q;exact q
 ·obtain⟨b,sv,bv,rfl,hb,_,_⟩:=wa8 hu;refine⟨_,rfl,rfl,_,rfl,?_⟩;show(if decide (V.ref b=V.non)=true then _ else _);rw[decide_eq_false (by simp)];refine qi6 ?_;refine⟨_,rfl,P6 hb rfl ?_⟩;have:P3 rs n=some r.sort:=by unfold P3;rw[e];rfl
  rw[this] at q;exact q
def qs4(K:Fg):Sp:=λvs H Q _=>∃v n rs,vs=[v,oV n]/\Rws K H v rs/\Q (oV (T0 rs n)) H
def wp2(K:Fg):TS :=
 (B1 (B8 (B9 (qf3 K) [] E0 (A1 (A0 0) #[4,1])) (A6 2))
 (B1 (M4 (tOr (C1 (tOp xz8 (A0 2) (tC .non))) (C1 (tOp (wq1 K) (tOp (D7 K) (A0 2) #[1,1]) (tC (.str "frame")))))
 (E1 (tC .non)) J8)
 (E1 (tOp (D7 K) (A0 2) #[1,2]))))
theorem yy1(h:qs4 K vs H Q E):wp2 K {nx:=λ_ H'=>Q .non H',rt:=Q} (C3 ["book","name","row"] vs) H:=by
 obtain⟨v,n,rs,rfl,hR,q⟩:=h;show wp2 K _ [some v,some (oV n),none] H;refine⟨_,rfl,_,rfl,v,n,rs,rfl,hR,λe=>?_,λr u e hu=>?_⟩
 ·refine⟨_,rfl,rfl,_,rfl,?_⟩;show Q .non H;have:T0 rs n=none:=by unfold T0;rw[e];rfl
  rw[this] at q;exact q
 ·obtain⟨b,sv,bv,rfl,hb,_,_⟩:=wa8 hu;refine⟨_,rfl,rfl,_,rfl,?_⟩;show(if decide (V.ref b=V.non)=true then _ else _);rw[decide_eq_false (by simp)];refine qi6 ?_;refine⟨_,rfl,P6 hb rfl (zp6 ⟨_,rfl,?_⟩)⟩;by_cases hs:r.sort=("frame":Str)
  ·rw[decide_eq_true hs,Bool.not_true];refine qi6 ?_;refine⟨_,rfl,P6 hb rfl ?_⟩;have:T0 rs n=some r.host:=by unfold T0;rw[e];show(if r.sort=("frame":Str) then some r.host else none)=_;rw[if_pos hs]
   rw[this] at q;exact q
  ·rw[decide_eq_false hs,Bool.not_false];refine qy2 ?_;show Q .non H;have:T0 rs n=none:=by unfold T0;rw[e];show(if r.sort=("frame":Str) then some r.host else none)=_;rw[if_neg hs]
   rw[this] at q;exact q
def qf4(K:Fg):Sp:=λvs H Q _=>∃v n rs,vs=[v,oV n]/\Rws K H v rs/\Q (oV (L9 rs n)) H
def we6(K:Fg):TS :=
 (B1 (qc8 (qy3 K (A0 0)) (A6 2)
 (M4 (xc1 (C1 (tOp (P7 K) (tOp (D7 K) (A0 2) #[1,1]) (tC (.str "frame")))) (C1 (tOp (P7 K) (tOp (D7 K) (A0 2) #[1,2]) (A0 1))))
 (E1 (tOp (D7 K) (A0 2) #[1,0])) J8))
 (E1 (tC .non)))
theorem yq3(h:qf4 K vs H Q E):we6 K {nx:=λ_ H'=>Q .non H',rt:=Q} (C3 ["book","name","row"] vs) H:=by
 obtain⟨v,n,rs,rfl,⟨a,xs,rfl,hq,hd⟩,q⟩:=h;show we6 K _ [some (.ref a),some (oV n),none] H;have hlen:xs.length=rs.length:=by have:=hd.length;simpa using this
 refine⟨_,rfl,zc9 hq (λi σ H'=>H'=H/\(∃w,σ=[some (.ref a),some (oV n),w])/\∀r∈rs.take i,(decide (r.sort=("frame":Str)) && decide (some r.host=n))=false) ⟨rfl,⟨_,rfl⟩,by simp⟩ (λhl i σ H' _ p=>p.1▸hl) (λht i σ H' _ p=>p.1▸ht) ?_ ?_⟩
 ·rintro i x σ H' hx ⟨rfl,⟨w,rfl⟩,hn⟩;obtain⟨d,hd1,hd2⟩:=hd.get' hx;rw[List.getElem?_map] at hd1;obtain⟨r,hr,rfl⟩:=Option.map_eq_some_iff.mp hd1;obtain⟨b,sv,bv,rfl,hb,hsv,hbv⟩:=wa8 hd2;refine⟨_,rfl,P6 hb rfl (zd4 ⟨_,rfl,?_⟩)⟩;by_cases hs:r.sort=("frame":Str)
  ·rw[decide_eq_true hs];refine qy2 ?_;refine⟨_,rfl,P6 hb rfl ⟨_,rfl,Af8 ⟨_,rfl,?_⟩⟩⟩;by_cases e:some r.host=n
   ·rw[decide_eq_true e];refine qy2 ?_;refine⟨_,rfl,P6 hb rfl ?_⟩;have:L9 rs n=some r.name:=by
     unfold L9;rw[qs3 hr hn (by rw[decide_eq_true hs,decide_eq_true e];rfl)];rfl
    rw[this] at q;exact q
   ·rw[decide_eq_false e];refine qi6 ?_;exact⟨rfl,⟨_,rfl⟩,xs5 hr hn (by rw[decide_eq_false e,Bool.and_false])⟩
  ·rw[decide_eq_false hs];refine qi6 ?_;k_go;exact⟨rfl,⟨_,rfl⟩,xs5 hr hn (by rw[decide_eq_false hs,Bool.false_and])⟩
 ·rintro σ H' ⟨rfl,⟨w,rfl⟩,hn⟩;show Q .non H';have:L9 rs n=none:=by
   unfold L9;rw[find?_eq_none.mpr]
   ·rfl
   ·intro r hr;rw[hlen,take_length] at hn;rw[hn r hr];exact Bool.false_ne_true
  rw[this] at q;exact q
noncomputable def ups(rs:List Row):Nat->Option Str->List Str
 | 0,_=>[]
 | k+1,n=>match L9 rs n with
   | none=>[]
   | some y=>y::ups rs k (some y)
def wx5(rs:List Row)(rk:Str->Nat):Prop:=∀x y,L9 rs (some x)=some y->rk y<rk x
theorem xs6{rs:List Row}{rk:Str->Nat}(f:wx5 rs rk):∀(k:Nat) (x:Str),rk x<=k->ups rs k (some x)=ups rs (rk x) (some x)
 | 0, x, h => by have:rk x=0:=by omega
                 rw[this]
 | k + 1,x,h=>by
   cases e:L9 rs (some x) with
   | none =>
     have e1:ups rs (k+1) (some x)=[]:=by rw[ups,e]
     rw[e1]
     cases e2:rk x with
     | zero=>rfl
     | succ m=>rw[ups,e]
   | some y =>
     have hy:=f x y e
     have e1:ups rs (k+1) (some x)=y::ups rs k (some y):=by rw[ups,e]
     rw[e1,xs6 f k y #[0]]
     cases e2:rk x with
     | zero=>omega
     | succ m =>
       have e3:ups rs (m+1) (some x)=y::ups rs m (some y):=by rw[ups,e]
       rw[e3,xs6 f m y #[0]]
theorem zr7(f:wx5 rs rk)(e:L9 rs (some x)=some y):ups rs (rk x) (some x)=y::ups rs (rk y) (some y):=by
 have hy:=f x y e;cases e2:rk x with
 | zero=>omega
 | succ m =>
   have e3:ups rs (m+1) (some x)=y::ups rs m (some y):=by rw[ups,e]
   rw[e3,xs6 f m y #[0]]
theorem Ab1{k:Nat}{x:Option Str}(e:L9 rs x=none):ups rs k x=[]:=by
 cases k with
 | zero=>rfl
 | succ m=>rw[ups,e]
def we7(K:Fg):Sp:=λvs H Q _=>∃v n g rs rk,vs=[v,.str n,.str g]/\Rws K H v rs/\wx5 rs rk/\Q (.bl (decide (g∈ups rs (rk n) (some n)))) H
def wp3(K:Fg):TS :=
 (B1 (B8 (B9 (qf4 K) [] E0 (A1 (A0 0) #[4,1])) (A6 3))
 (B1 (wd9 (C1 (tOp qv6 (A0 3) (tC .non)))
 (B1 (M4 (C1 (tOp (P7 K) (A0 3) (A0 2)))
 (E1 (tC (.bl true))) J8)
 (B8 (B9 (qf4 K) [] E0 (A1 (A0 0) #[4,3])) (A6 3))))
 (E1 (tC (.bl false)))))
noncomputable def Ab2(rs:List Row)(rk:Str->Nat):Option Str->List Str
 | none=>[]
 | some y=>y::ups rs (rk y) (some y)
theorem yq5(f:wx5 rs rk)(x:Str):ups rs (rk x) (some x)=Ab2 rs rk (L9 rs (some x)):=by
 cases e:L9 rs (some x) with
 | none=>rw[Ab1 e];rfl
 | some y=>rw[zr7 f e];rfl
theorem yy2(h:we7 K vs H Q E):wp3 K {nx:=λ_ H'=>Q .non H',rt:=Q} (C3 ["book","name","frame","above"] vs) H:=by
 obtain⟨v,n,g,rs,rk,rfl,hR,f,q⟩:=h;show wp3 K _ [some v,some (.str n),some (.str g),none] H;refine⟨_,rfl,_,rfl,v,some n,rs,rfl,hR,?_⟩;refine yn9 (λσ H'=>H'=H/\∃x,σ=[some v,some (.str n),some (.str g),some (oV x)]/\(g∈ups rs (rk n) (some n)↔g∈Ab2 rs rk x))
  (λσ _=>match σ with | [_,_,_,some (.str y)]=>rk y+1|_=>0) ⟨rfl,L9 rs (some n),rfl,by rw[yq5 f]⟩ ?_ ?_
 ·rintro σ H' ⟨rfl,x,rfl,hx⟩;cases x with
  | none =>
    refine⟨_,rfl,rfl,_,rfl,?_⟩
    show Q (.bl false) H'
    have:¬g∈ups rs (rk n) (some n):=λz=>by have:=hx.mp z;simp[Ab2] at this
    rw[decide_eq_false this] at q;exact q
  | some y =>
    refine⟨_,rfl,rfl,_,rfl,?_⟩
    show(if(!decide (V.str y=V.non))=true then _ else _)
    rw[decide_eq_false (by simp),Bool.not_false];refine qy2 ?_
    refine⟨_,rfl,_,rfl,zd4 ⟨_,rfl,?_⟩⟩
    by_cases e:y=g
    ·rw[decide_eq_true e];refine qy2 ?_
     show Q (.bl true) H'
     have:g∈ups rs (rk n) (some n):=hx.mpr (by subst e;simp[Ab2])
     rw[decide_eq_true this] at q;exact q
    ·rw[decide_eq_false e];refine qi6 ?_
     refine⟨_,rfl,_,rfl,v,some y,rs,rfl,hR,?_⟩
     refine⟨⟨rfl,L9 rs (some y),rfl,?_⟩,?_⟩
     ·rw[hx]
      show g∈y::ups rs (rk y) (some y)↔_
      rw[yq5 f,mem_cons]
      exact⟨λz=>z.resolve_left λz=>e z.symm,Or.inr⟩
     ·show(match [some v,some (V.str n),some (V.str g),some (oV (L9 rs (some y)))] with | [_,_,_,some (.str y)]=>rk y+1|_=>0)<rk y+1
      cases e2:L9 rs (some y) with
      | none=>exact Nat.succ_pos _
      | some z=>have:=f y z e2;show rk z+1<rk y+1;omega
 ·rintro σ H' Q1 Q2 hQ ⟨v1,e1,e2,k,e3,q1⟩;exact⟨v1,e1,e2,k,e3,hQ _ _ q1⟩
end
variable{i:Int}{H1 H2 H0:Hp}{p r qA qC kB q:Addr}{xs us:List V}{o u:HO}{D:W8}{tb:TS}{σ:St}{te:TE}{d:PyData}{ds:List PyData}{n:Str}
section
variable{K:Fg}{vs:List V}{H:Hp}{Q:VK}{E:XK}
theorem B2(xs:List Str):(B0 xs).length=xs.length:=length_map _
noncomputable def Lt:Str := "abcdefghijklmnopqrstuvwxyz"
theorem we8(h:x.cps.toList=y.cps.toList):x=y:=by
 obtain⟨a⟩:=x;obtain⟨b⟩:=y;exact congrArg Str.mk (Array.toList_inj.mp h)
theorem Al1:∀j:Nat,j<26->Lt.cps.toList[j]?=some (97+j):=by decide +kernel
theorem yy3:Lt.length=26:=by decide +kernel
theorem zr8(h0:0<=i)(h1:i<26):atI Lt.cps.toList i=some (97+i.toNat):=by
 have e:i=((i.toNat:Nat):Int):=by omega
 have q:atI Lt.cps.toList ((i.toNat:Nat):Int)=some (97+i.toNat):=M8 (Al1 _ #[0]);rw[<-e] at q;exact q
theorem C7{n:Nat}(h:n<=100000):n<=sizeLine:=by rw[sizeLine_eq];omega
theorem A3.tr(a:A3 H H1)(b:A3 H1 H2):A3 H H2:=λc o e=>b c o (a c o e)
theorem A3.put(s:A3 H H1)(h:H p=none)(o:HO):A3 H (upd H1 p o):=λb u e=>by
 have nb:b≠p:=λz=>by rw[z,h] at e;cases e
 rw[A8 nb];exact s b u e
theorem wx6{d:Addr}{ys:List V}(h:H d=some (.lst xs)):R6 H (upd H d (.lst ys)) :=
 ⟨λb zs e=>by rw[A8 (λz=>by rw[z,h] at e;cases e)];exact e,λb o zs e=>by rw[A8 (λz=>by rw[z,h] at e;cases e)];exact e⟩
theorem N4{a b:Addr}(h:H a=some o)(g:H b=none):a≠b:=λe=>by rw[e,g] at h;cases h
theorem W7(xs:List Str):(B0 xs).all wa3=true:=by unfold B0;rw[all_map];exact all_eq_true.mpr λ_ _=>rfl
theorem qm3(x:Str):∀xs:List Str,inV (.str x) (B0 xs)=decide (x∈xs)
 | []=>by simp[B0,inV]
 | y::ys=>by
   have ih:=qm3 x ys;unfold inV at ih ⊢;show(eqV (.str y) (.str x) || (B0 ys).any λz=>eqV z (.str x))=_;rw[ih];by_cases e:x=y
   ·subst e;simp[eqV]
   ·have e':¬y=x:=λz=>e z.symm;simp[eqV,e,e']
noncomputable def M7(ns:List Int):List V:=ns.map V.int
theorem wx7(ns:List Int):(M7 ns).length=ns.length:=length_map _
theorem G6(a b:Str):(a++b).length=a.length+b.length:=PySem.Str.length_append a b
theorem zr9{n:Nat}(h:1<=n):ixN n (-1)=some (n-1):=by
 unfold ixN;rw[if_neg #[7],if_pos #[0]];congr 1;omega
theorem zd5(h:1<=xs.length)(e:xs[xs.length-1]?=some v):atI xs (-1)=some v:=by
 unfold atI;rw[zr9 h];exact e
theorem As3{n:Nat}(h:1<=n):ixN n 0=some 0:=by
 unfold ixN;rw[if_pos #[7],if_pos #[0]];rfl
theorem wx8{g:TG}{a:Addr}(hq:SqL K H0 a xs\/SqT K H0 a xs)(s0:A3 H0 H)(Pv:Nat->St->Hp->Prop)(h0:Pv 0 σ H)(hk:∀i σ H',Pv i σ H'->A3 H0 H')(hs:∀i x σ H,xs[i]?=some x->Pv i σ H->g x σ H λσ2 H2=>tb {D with nx:=PAt Pv (i+1),ct:=PAt Pv (i+1),bk:=D.nx} σ2 H2)(hd:∀σ H,Pv xs.length σ H->D.nx σ H) :
 ∃b,V.ref a=.ref b/\(((∃xs,SqL K H b xs)/\wq2 g tb D σ (Itl K b) H)\/((∃xs,SqT K H b xs)/\wq2 g tb D σ (Itt K b) H)):=by
 rcases hq with hq|hq
 ·exact⟨a,rfl,.inl ⟨⟨xs,s0.sqL hq⟩,xq0 Pv h0 (λi σ H' _ p=>(hk i σ H' p).sqL hq) hs hd⟩⟩
 ·exact⟨a,rfl,.inr ⟨⟨xs,s0.sqT hq⟩,yh0 Pv h0 (λi σ H' _ p=>(hk i σ H' p).sqT hq) hs hd⟩⟩
abbrev WlN(tb:TS)(D:W8)(Pv:St->Hp->Prop)(μ:St->Hp->Nat)(k:Nat)(σ:St)(H1:Hp):Prop :=
 ∃N:St->Hp->Prop,(∀σ' H',N σ' H'->∃m',m'<k/\m'=μ σ' H'/\Pv σ' H')/\tb {D with nx:=N,ct:=N,bk:=D.nx} σ H1
theorem zj8{c:TT}(Pv:St->Hp->Prop)(μ:St->Hp->Nat)(h0:Pv σ H)(hs:∀σ H,Pv σ H->c σ H λb H1=>if b=true then WlN tb D Pv μ (μ σ H) σ H1 else D.nx σ H1):wd9 c tb D σ H:=by
 refine⟨λm σ H=>m=μ σ H/\Pv σ H,⟨_,rfl,h0⟩,?_⟩;rintro m σ H ⟨rfl,p⟩;exact hs σ H p
theorem zj9{g:TG}{tt:TT}{σ':St}{a:Addr}(hq:SqL K H0 a xs\/SqT K H0 a xs)(s0:A3 H0 H)(Pv:Nat->List V->Hp->Prop)(h0:Pv 0 [] H)(hlen:∀i ys H,i<=xs.length->Pv i ys H->ys.length<=sizeLine)(hk:∀i ys H',Pv i ys H'->A3 H0 H')(hs:∀i x ys H,xs[i]?=some x->Pv i ys H->g x σ' H λσ2 H2=>tt σ2 H2 λb H3=>if b=true then te σ2 H3 λy H4=>PAt Pv (i+1) (ys++[y]) H4 else PAt Pv (i+1) ys H3)(hd:∀ys H,Pv xs.length ys H->∀p,H p=none->Q (.ref p) (upd H p (.lst ys))) :
 ∃b,V.ref a=.ref b/\(((∃xs,SqL K H b xs)/\qp1 g tt te σ' Q (Itl K b) H)\/((∃xs,SqT K H b xs)/\qp1 g tt te σ' Q (Itt K b) H)):=by
 rcases hq with hq|hq
 ·exact ye2 (s0.sqL hq) Pv h0 hlen (λi ys H' _ p=>(hk i ys H' p).sqL hq) hs hd
 ·refine⟨a,rfl,.inr ⟨⟨xs,s0.sqT hq⟩,wo8 (n:=xs.length) (λi x=>xs[i]?=some x) Pv h0 hlen (λi ys H hi p=>?_) (λi ys H x H' hi p y=>?_) (λys H p=>?_) (λi x ys H _ hx p=>hs i x ys H hx p) hd⟩⟩
  ·exact⟨xs,xs[i],(hk i ys H p).sqT hq,by simp[hi]⟩
  ·exact⟨y.1,y.2 xs ((hk i ys H p).sqT hq)⟩
  ·exact⟨xs,(hk _ ys H p).sqT hq,Nat.le_refl _⟩
theorem qm4{xs:List Str}{i:Nat}{x:V}(h:(B0 xs)[i]?=some x):∃y,xs[i]?=some y/\x=.str y:=by
 unfold B0 at h;rw[List.getElem?_map] at h;obtain⟨y,hy,e⟩:=Option.map_eq_some_iff.mp h;exact⟨y,hy,e.symm⟩
theorem wl2(xs:List Str)(x:Str):B0 xs++[V.str x]=B0 (xs++[x]):=by simp[B0]
theorem ixI{xs:List α}{v:α}(h0:0<=i)(e:xs[i.toNat]?=some v):atI xs i=some v:=by
 have:=M8 e
 rwa [Int.toNat_of_nonneg h0] at this
theorem Dvs.one(h:Dv K H d v):Dvs K H [d] [v]:=C0 h E4
theorem xi7:∀{vs:List V},vs.length=ds.length->(∀(i:Nat) (d:PyData) (v:V),ds[i]?=some d->vs[i]?=some v->Dv K H d v)->Dvs K H ds vs:=by
 induction ds with
 | nil=>intro vs h _;rw[length_eq_zero_iff.mp h];exact E4
 | cons d ds ih =>
   intro vs h g
   cases vs with
   | nil=>cases h
   | cons v vs =>
     refine C0 (g 0 d v rfl rfl) (ih (by simpa using h) λi d' v' a b=>g (i+1) d' v' (by simpa using a) (by simpa using b))
noncomputable def zk0(ns:List Int):List PyData:=ns.map .int
theorem wx9:∀{ns:List Int} {vs:List V},Dvs K H (zk0 ns) vs↔vs=M7 ns
 | [],_=>by show Dvs K H [] _↔_=[];rw[Dvs]
 | x::xs,vs=>by
   show Dvs K H (.int x::zk0 xs) vs↔vs=V.int x::M7 xs;rw[Dvs];constructor
   ·rintro⟨v,r,rfl,h1,h2⟩;rw[J7.mp h1,wx9.mp h2]
   ·rintro rfl;exact⟨_,_,rfl,J7.mpr rfl,wx9.mpr rfl⟩
theorem As4{e:Addr}(h1:Dv K H (.list ds) (.ref p))(h2:H e=some (.lst []))(h:Q (.bl (!ds.isEmpty)) H):wq1 K (.ref p) (.ref e) H Q:=by
 refine Af3 h1 (e:=.list []) (Z7.mpr ⟨e,[],rfl,SqL.of h2,E4⟩) ?_ ?_
 ·exact Nat.le_trans (Nat.min_le_right _ _) #[7]
 ·cases ds <;> exact h
theorem Af9{e:Addr}(h1:Dv K H (.list ds) (.ref p))(h2:H e=some (.lst []))(h:Q (.bl ds.isEmpty) H):P7 K (.ref p) (.ref e) H Q:=by
 refine Af2 h1 (e:=.list []) (Z7.mpr ⟨e,[],rfl,SqL.of h2,E4⟩) ?_ ?_
 ·exact Nat.le_trans (Nat.min_le_right _ _) #[7]
 ·cases ds <;> exact h
theorem none_of(s:A3 H H')(h:H' p=none):H p=none:=by
 cases e:H p with
 | none=>rfl
 | some o=>have:=s _ _ e;rw[h] at this;cases this
inductive Tr where
 | tx (s:Str)
 | nd (n:Str) (ps:List Tr)
mutual
noncomputable def Tr.da:Tr->PyData
 | .tx s=>.str s
 | .nd n ps=>.tuple [.str n,.tuple (Tr.das ps)]
noncomputable def Tr.das:List Tr->List PyData
 | []=>[]
 | t::ts=>t.da::Tr.das ts
end
theorem qp8:∀ts:List Tr,Tr.das ts=ts.map Tr.da
 | []=>by rw[Tr.das];rfl
 | t::ts=>by rw[Tr.das,qp8 ts];rfl
mutual
theorem zs0:∀t:Tr,fix t.da=true
 | .tx s=>by rw[Tr.da,fix]
 | .nd n ps=>by rw[Tr.da,fix,L6,fix,L6,fix,L6,qv8 ps];rfl
theorem qv8:∀ts:List Tr,L6 (Tr.das ts)=true
 | []=>by rw[Tr.das,L6]
 | t::ts=>by rw[Tr.das,L6,zs0 t,qv8 ts];rfl
end
noncomputable def Tr.isTx:Tr->Bool
 | .tx _=>true
 | .nd _ _=>false
mutual
noncomputable def pre(pl:List Int):Tr->List (List Int×Tr)
 | .tx s=>[(pl,.tx s)]
 | .nd n ps=>(pl,.nd n ps)::As5 pl 0 ps
noncomputable def As5(pl:List Int)(k:Nat):List Tr->List (List Int×Tr)
 | []=>[]
 | t::ts=>pre (pl++[(k:Int)]) t++As5 pl (k+1) ts
end
theorem yq6:∀ns:List Int,L6 (zk0 ns)=true
 | []=>by show L6 []=true;rw[L6]
 | x::xs=>by show L6 (.int x::zk0 xs)=true;rw[L6,yq6 xs,fix];rfl
theorem E3{α:Type}{f:α->PyData}(h:∀x,fix (f x)=true):∀l:List α,L6 (l.map f)=true
 | []=>by show L6 []=true;rw[L6]
 | x::l=>by show L6 (f x::l.map f)=true;rw[L6,h,E3 h l];rfl
theorem zs1{ps:List Tr}(h:Dv K H (Tr.nd n ps).da v):∃a b us,v=.ref a/\SqT K H a [.str n,.ref b]/\SqT K H b us/\Dvs K H (Tr.das ps) us:=by
 rw[Tr.da] at h;obtain⟨a,xs,rfl,ha,h⟩:=C6.mp h;rw[Dvs] at h;obtain⟨v1,r1,rfl,e1,h⟩:=h;rw[Dvs] at h;obtain⟨v2,r2,rfl,e2,h⟩:=h;rw[Dvs] at h;subst h;rw[D6.mp e1] at ha;obtain⟨b,ys,rfl,hb,h⟩:=C6.mp e2;exact⟨a,b,ys,rfl,ha,hb,h⟩
theorem As6{s:Str}(h:Dv K H (Tr.tx s).da v):v=.str s:=by rw[Tr.da] at h;exact D6.mp h
theorem Ab3{ts:List Tr}(h:Dvs K H (Tr.das ts) us){i:Nat}{t:Tr}(e:ts[i]?=some t):∃u,us[i]?=some u/\Dv K H t.da u :=
 h.get (by rw[qp8,List.getElem?_map,e];rfl)
theorem wy0{ts:List Tr}(h:Dvs K H (Tr.das ts) us):us.length=ts.length:=by have:=h.length;rw[qp8,length_map] at this;exact this
theorem Al2{t:Tr}(h:Dv K H t.da v)(q:Q (.bl t.isTx) H):zh9 K [v,.ty "str"] H Q:=by
 cases t with
 | tx s=>rw[As6 h];exact Ar5 (.str _) (b:=true) rfl q
 | nd n ps=>obtain⟨a,b,us,rfl,ha,_⟩:=zs1 h;exact Ak7 ha (b:=false) rfl q
def we9(K:Fg):Sp:=λvs H Q _=>∃(t:Tr) (v:V),vs=[v]/\Dv K H t.da v/\Q (.bl t.isTx) H
def wa9(K:Fg):TS :=
 (E1 (tCB (zh9 K) (A1 (A0 0) (A1 (tC (.ty "str")) A5))))
theorem yy4(h:we9 K vs H Q E):wa9 K {nx:=λ_ H'=>Q .non H',rt:=Q} (C3 ["part"] vs) H:=by
 obtain⟨t,v,rfl,hd,q⟩:=h;show wa9 K _ [some v] H;unfold wa9;lk;exact Al2 hd q
theorem Row.fix(r:Row):L2.fix r.da=true:=by
 unfold Row.da;have hs:∀xs:List Str,L6 (sDa xs)=true:=λxs=>E3 (f:=PyData.str) (λx=>by rw[L2.fix]) xs;rw[L2.fix,L6,L6,L6,L6,L6,L6,L2.fix,L2.fix,L2.fix,L2.fix,L2.fix,hs,hs];rfl
theorem Ag0{ps:List Tr}{t:Addr}(h1:SqT K H r [.str n,.ref t])(h2:SqT K H t us)(h3:Dvs K H (Tr.das ps) us):Dv K H (Tr.nd n ps).da (.ref r):=by
 rw[Tr.da];exact C6.mpr ⟨r,_,rfl,h1,C0 (D6.mpr rfl) (C0 (C6.mpr ⟨t,us,rfl,h2,h3⟩) E4)⟩
structure Cz(K:Fg)(qA:Addr)(qC:Addr):Prop where
 pg_Branch:PySem.W.plainGet K qA Str.empty=true
 hd_Branch:PySem.W.hasDictIn K qA=true
 po_Branch:PySem.W.plainOver K qA=true
 sa_Branch:PySem.W.findIn K (.ref qA) "__setattr__"=some (some (.builtin "object.__setattr__"))
 ns_Branch:PySem.W.nsIn K mainGlobals "Branch"=some (some (.ref qA))
 na_Branch_name:PySem.W.findIn K (.ref qA) "name"=some none
 na_Branch_place:PySem.W.findIn K (.ref qA) "place"=some none
 na_Branch_parts:PySem.W.findIn K (.ref qA) "parts"=some none
 na_Branch_waiting:PySem.W.findIn K (.ref qA) "waiting"=some none
 pg_Reader:PySem.W.plainGet K qC Str.empty=true
 hd_Reader:PySem.W.hasDictIn K qC=true
 po_Reader:PySem.W.plainOver K qC=true
 sa_Reader:PySem.W.findIn K (.ref qC) "__setattr__"=some (some (.builtin "object.__setattr__"))
 ns_Reader:PySem.W.nsIn K mainGlobals "Reader"=some (some (.ref qC))
 na_Reader_book:PySem.W.findIn K (.ref qC) "book"=some none
 na_Reader_branches:PySem.W.findIn K (.ref qC) "branches"=some none
 na_Reader_mends:PySem.W.findIn K (.ref qC) "mends"=some none
 na_Reader_laid:PySem.W.findIn K (.ref qC) "laid"=some none
theorem Cz.cl_Branch(z:Cz K qA qC):Cls K qA:=⟨z.pg_Branch,z.hd_Branch,z.po_Branch,z.sa_Branch⟩
theorem Cz.cl_Reader(z:Cz K qA qC):Cls K qC:=⟨z.pg_Reader,z.hd_Reader,z.po_Reader,z.sa_Reader⟩
structure Brn where
 n:Str
 pl:List Int
 ps:List Tr
 ws:List Str
structure BA where
 o:Addr
 x:Addr
 p:Addr
 q:Addr
 w:Addr
noncomputable def BA.fp(a:BA):List Addr:=[a.o,a.q,a.w]
noncomputable def bF(a:BA)(b:Brn):List (Str×V):=[("name",.str b.n),("place",.ref a.p),("parts",.ref a.q),("waiting",.ref a.w)]
structure BrO(K:Fg)(H:Hp)(kB:Addr)(a:BA)(b:Brn):Prop where
 o:H a.o=some (.ins kB a.x (bF a b))
 p:SqT K H a.p (M7 b.pl)
 q:∃us,H a.q=some (.lst us)/\Dvs K H (Tr.das b.ps) us
 w:H a.w=some #[23,b.ws]
structure Mnd where
 s:Int
 e:Int
 t:Str
 r:Str
noncomputable def Mnd.da(m:Mnd):PyData:=.tuple [.int m.s,.int m.e,.str m.t,.str m.r]
structure Lad where
 s:Int
 g:Str
 pl:List Int
 a:Int
noncomputable def Lad.da(m:Lad):PyData:=.tuple [.int m.s,.str m.g,.tuple (zk0 m.pl),.int m.a]
theorem Mnd.fix(m:Mnd):L2.fix m.da=true:=by unfold Mnd.da;simp[L2.fix,L6]
theorem Lad.fix(m:Lad):L2.fix m.da=true:=by unfold Lad.da;simp[L2.fix,L6,yq6]
structure Rst where
 bs:List Brn
 ms:List Mnd
 ls:List Lad
structure RAd where
 x:Addr
 L:Addr
 M:Addr
 A:Addr
 as:List BA
noncomputable def fpA(as:List BA):List Addr:=as.flatMap BA.fp
noncomputable def RAd.fp(r:Addr)(a:RAd):List Addr:=r::a.L::a.M::a.A::fpA a.as
inductive qk6(K:Fg)(H:Hp)(kB:Addr):List BA->List Brn->Prop
 | nil:qk6 K H kB [] []
 | cons {a:BA} {b:Brn} {as:List BA} {bs:List Brn}:BrO K H kB a b->qk6 K H kB as bs->qk6 K H kB (a::as) (b::bs)
structure RdO(K:Fg)(H:Hp)(kR kB r:Addr)(bv:V)(a:RAd)(st:Rst):Prop where
 kr:PySem.W.nsIn K mainGlobals "Reader"=some (some (.ref kR))
 kb:PySem.W.nsIn K mainGlobals "Branch"=some (some (.ref kB))
 o:H r=some (.ins kR a.x [("book",bv),("branches",.ref a.L),("mends",.ref a.M),("laid",.ref a.A)])
 l:H a.L=some (.lst (a.as.map λz=>V.ref z.o))
 b:qk6 K H kB a.as st.bs
 m:∃us,H a.M=some (.lst us)/\Dvs K H (st.ms.map Mnd.da) us
 d:∃us,H a.A=some (.lst us)/\Dvs K H (st.ls.map Lad.da) us
 nd:(RAd.fp r a).Nodup
def yy5(H:Hp)(p:Addr):Prop:=(∃xs,H p=some (.lst xs))\/∃C dx fs,H p=some (.ins C dx fs)
section
variable{kR kB r:Addr}{bv:V}{a a':RAd}{st st':Rst}{H':Hp}{ps:List Addr}
theorem qs5(bt:But ps H H')(hm:∀p∈ps,yy5 H p):R6 H H':=by
 have no:∀c o,H c=some o->(∀xs,o≠.lst xs)->(∀C dx fs,o≠.ins C dx fs)->c∉ps:=λc o e h1 h2 hc=>by
  rcases hm c hc with⟨xs,e2⟩|⟨C,dx,fs,e2⟩
  ·rw[e] at e2;cases e2;exact h1 xs rfl
  ·rw[e] at e2;cases e2;exact h2 C dx fs rfl
 exact⟨λc xs e=>bt c _ e (no c _ e (λ_ z=>by cases z) λ_ _ _ z=>by cases z),λc o xs e=>bt c _ e (no c _ e (λ_ z=>by cases z) λ_ _ _ z=>by cases z)⟩
variable{b:Brn}
theorem BrO.but{a:BA}(h:BrO K H kB a b)(bt:But ps H H')(tk:R6 H H')(hd:∀x∈a.fp,x∉ps):BrO K H' kB a b:=by
 obtain⟨us,h1,h2⟩:=h.q;exact⟨bt _ _ h.o (hd _ (by simp[BA.fp])),tk.sqT h.p,⟨us,bt _ _ h1 (hd _ (by simp[BA.fp])),Dvs.tupK tk _ _ (qv8 _) h2⟩,bt _ _ h.w (hd _ (by simp[BA.fp]))⟩
theorem qk6.but{as:List BA}{bs:List Brn}(h:qk6 K H kB as bs)(bt:But ps H H')(tk:R6 H H')(hd:∀x∈fpA as,x∉ps):qk6 K H' kB as bs:=by
 induction h with
 | nil=>exact .nil
 | cons h1 h2 ih=>exact .cons (h1.but bt tk λx hx=>hd x (by unfold fpA;rw[flatMap_cons];exact mem_append_left _ hx)) (ih λx hx=>hd x (by unfold fpA;rw[flatMap_cons];exact mem_append_right _ hx))
variable{as:List BA}
theorem qk6.app{as2:List BA}{bs bs2:List Brn}(h:qk6 K H kB as bs)(h2:qk6 K H kB as2 bs2):qk6 K H kB (as++as2) (bs++bs2):=by
 induction h with
 | nil=>exact h2
 | cons h1 _ ih=>exact .cons h1 ih
theorem qk6.len{bs:List Brn}(h:qk6 K H kB as bs):as.length=bs.length:=by
 induction h with
 | nil=>rfl
 | cons _ _ ih=>simp[ih]
theorem qk6.snoc{bs:List Brn}(h:qk6 K H kB as (bs++[b])):∃as' a,as=as'++[a]/\qk6 K H kB as' bs/\BrO K H kB a b:=by
 induction bs generalizing as with
 | nil=>cases h with|cons h1 h2=>cases h2;exact⟨[],_,rfl,.nil,h1⟩
 | cons c bs ih =>
   cases h with
   | cons h1 h2 =>
     obtain⟨as',a,rfl,h3,h4⟩:=ih h2
     exact⟨_::as',a,rfl,.cons h1 h3,h4⟩
theorem qk6.mut{bs:List Brn}(h:qk6 K H kB as bs):∀p∈fpA as,yy5 H p:=by
 induction h with
 | nil=>intro p hp;cases hp
 | cons h1 _ ih =>
   intro p hp
   unfold fpA at hp
   rw[flatMap_cons] at hp
   rcases mem_append.mp hp with hp|hp
   ·simp only[BA.fp,mem_cons,not_mem_nil,or_false] at hp
    rcases hp with rfl|rfl|rfl
    ·exact .inr ⟨_,_,_,h1.o⟩
    ·obtain⟨us,h2,_⟩:=h1.q;exact .inl ⟨_,h2⟩
    ·exact .inl ⟨_,h1.w⟩
   ·exact ih p hp
theorem RdO.mut(h:RdO K H kR kB r bv a st):∀p∈RAd.fp r a,yy5 H p:=by
 intro p hp;simp only[RAd.fp,mem_cons] at hp;rcases hp with rfl|rfl|rfl|rfl|hp
 ·exact .inr ⟨_,_,_,h.o⟩
 ·exact .inl ⟨_,h.l⟩
 ·obtain⟨us,h1,_⟩:=h.m;exact .inl ⟨_,h1⟩
 ·obtain⟨us,h1,_⟩:=h.d;exact .inl ⟨_,h1⟩
 ·exact h.b.mut p hp
structure Rup(K:Fg)(kR kB r:Addr)(bv:V)(H:Hp)(a:RAd)(H':Hp)(a':RAd)(st':Rst):Prop where
 ok:RdO K H' kR kB r bv a' st'
 bt:But (RAd.fp r a) H H'
 fr:∀x∈RAd.fp r a',x∈RAd.fp r a\/H x=none
variable{a2:RAd}{st2:Rst}
theorem Rup.tr(h1:Rup K kR kB r bv H a H' a' st')(h2:Rup K kR kB r bv H' a' H2 a2 st2)(hd:∀x,H' x=none->H x=none):Rup K kR kB r bv H a H2 a2 st2 :=
 ⟨h2.ok,λc o e n=>h2.bt c o (h1.bt c o e n) λhc=>(h1.fr c hc).elim n λz=>(by rw[z] at e;cases e),
  λx hx=>(h2.fr x hx).elim (h1.fr x) λz=>.inr (hd x z)⟩
theorem Rup.tupK(h:Rup K kR kB r bv H a H' a' st')(h0:RdO K H kR kB r bv a st):R6 H H':=qs5 h.bt h0.mut
theorem RdO.same(h:RdO K H kR kB r bv a st)(s:A3 H H'):RdO K H' kR kB r bv a st:=by
 obtain⟨us,m1,m2⟩:=h.m;obtain⟨vs,d1,d2⟩:=h.d;exact⟨h.kr,h.kb,s _ _ h.o,s _ _ h.l,h.b.but (ps:=[]) (λc o e _=>s c o e) s.tupK (λ_ _ z=>by cases z),⟨us,s _ _ m1,Dvs.same s _ _ m2⟩,⟨vs,s _ _ d1,Dvs.same s _ _ d2⟩,h.nd⟩
end
theorem E2{k k':Addr}(h:PySem.W.nsIn K mainGlobals x=some (some (.ref k)))(h':PySem.W.nsIn K mainGlobals x=some (some (.ref k'))):k=k':=by rw[h] at h';cases h';rfl
theorem Al3(v:V):qf6 ("name":Str) v []=[(("name":Str),v)]:=rfl
theorem Al4(n v:V):qf6 ("place":Str) v [(("name":Str),n)]=[(("name":Str),n),(("place":Str),v)]:=by
 show(if(("name":Str)) = "place" then _ else _)=_;rw[if_neg #[7]];rfl
theorem Al5(n p v:V):qf6 ("parts":Str) v [(("name":Str),n),(("place":Str),p)]=[(("name":Str),n),(("place":Str),p),(("parts":Str),v)]:=by
 show(if(("name":Str)) = "parts" then _ else _::(if(("place":Str)) = "parts" then _ else _))=_;rw[if_neg #[7],if_neg #[7]];rfl
theorem Al6(n p q v:V):qf6 ("waiting":Str) v [(("name":Str),n),(("place":Str),p),(("parts":Str),q)]=[(("name":Str),n),(("place":Str),p),(("parts":Str),q),(("waiting":Str),v)]:=by
 show(if(("name":Str)) = "waiting" then _ else _::(if(("place":Str)) = "waiting" then _ else _::(if(("parts":Str)) = "waiting" then _ else _)))=_;rw[if_neg #[7],if_neg #[7],if_neg #[7]];rfl
theorem T5{o:Addr}(h:upd H o u q=none):q≠o/\H q=none:=by
 by_cases e:q=o
 ·subst e;rw[A2] at h;cases h
 ·rw[A8 e] at h;exact⟨e,h⟩
abbrev wy1(K:Fg):TS :=
 (B1 (qi5 K (A0 0) (A0 2) "place")
 (B1 (qi5 K (A0 0) (T2 A5) "parts")
 (qi5 K (A0 0) (T2 A5) "waiting")))
def T6(K:Fg):Sp:=λvs H Q _=>∃(kB o x p:Addr) (n:Str) (pl:List Int),vs=[.ref o,.str n,.ref p]/\PySem.W.nsIn K mainGlobals "Branch"=some (some (.ref kB))/\H o=some (.ins kB x [])/\SqT K H p (M7 pl)/\∀(q w:Addr) (H':Hp),H q=none->H w=none->q≠w->But [o] H H'->BrO K H' kB ⟨o,x,p,q,w⟩ ⟨n,pl,[],[]⟩->(∀z,H' z=none->H z=none)->Q .non H'
def V7(K:Fg):TS :=
 (B1 (qi5 K (A0 0) (A0 1) "name")
 (wy1 K))
theorem xd1(cz:Cz K qA qC)(h:T6 K vs H Q E):V7 K {nx:=λ_ H'=>Q .non H',rt:=Q} (C3 ["self","name","place"] vs) H:=by
 obtain⟨kB,o,x,p,n,pl,rfl,hkB,ho,hp,q⟩:=h;obtain rfl:=E2 cz.ns_Branch hkB;show V7 K _ [some (.ref o),some (.str n),some (.ref p)] H;unfold V7;have c:=cz.cl_Branch;refine V1 (R7 ?_);lk;refine⟨o,_,x,_,rfl,ho,c,cz.na_Branch_name,by simp,?_⟩;rw[Al3];show B1 (qi5 K (A0 0) (A0 2) "place") _ _ _ _;refine V1 (R7 ?_);lk;refine⟨o,_,x,_,rfl,A2,c,cz.na_Branch_place,by simp,?_⟩;rw[Al4];show B1 (qi5 K (A0 0) (T2 A5) "parts") _ _ _ _;refine V1 (R7 ?_);lk;refine⟨C7 (by z_go),λq1 hq1=>?_⟩;lk;obtain⟨n1,hq2⟩:=T5 hq1;obtain⟨_,hq⟩:=T5 hq2;refine⟨o,_,x,_,rfl,by rw[A8 (Ne.symm n1),A2],c,cz.na_Branch_parts,by simp,?_⟩;rw[Al5];show qi5 K (A0 0) (T2 A5) "waiting" _ _ _;refine R7 ?_;lk;refine⟨C7 (by z_go),λw1 hw1=>?_⟩;lk;obtain⟨n2,hw2⟩:=T5 hw1;obtain⟨n3,hw3⟩:=T5 hw2;obtain⟨_,hw4⟩:=T5 hw3;obtain⟨_,hw⟩:=T5 hw4;refine⟨o,_,x,_,rfl,by rw[A8 (Ne.symm n2),A2],c,cz.na_Branch_waiting,by simp,?_⟩;rw[Al6];have bt:∀z u,H z=some u->z≠o->(upd (upd (upd (upd (upd (upd H o (.ins qA x [(("name":Str),.str n)])) o (.ins qA x [(("name":Str),.str n),(("place":Str),.ref p)])) q1 (.lst [])) o (.ins qA x [(("name":Str),.str n),(("place":Str),.ref p),(("parts":Str),.ref q1)])) w1 (.lst [])) o (.ins qA x [(("name":Str),.str n),(("place":Str),.ref p),(("parts":Str),.ref q1),(("waiting":Str),.ref w1)])) z=some u:=λz u e no=>by
  have a1:z≠q1:=λy=>by rw[y,hq] at e;cases e
  have a2:z≠w1:=λy=>by rw[y,hw] at e;cases e
  rw[A8 no,A8 a2,A8 no,A8 a1,A8 no,A8 no];exact e
 have b1:But [o] H _:=λz u e nz=>bt z u e (by simpa using nz);refine q q1 w1 _ hq hw (Ne.symm n3) b1 ⟨A2,(qs5 b1 λz hz=>?_).sqT hp,⟨[],by rw[A8 n1,A8 (Ne.symm n3),A8 n1,A2],by rw[Tr.das];exact E4⟩,by rw[A8 n2,A2];rfl⟩ λz hz=>?_
 ·rw[mem_singleton.mp hz];exact .inr ⟨_,_,_,ho⟩
 ·obtain⟨a1,hz⟩:=T5 hz;obtain⟨_,hz⟩:=T5 hz;obtain⟨_,hz⟩:=T5 hz;obtain⟨_,hz⟩:=T5 hz;obtain⟨_,hz⟩:=T5 hz;exact(T5 hz).2
theorem qv9{xs:List α}{v:α}{n:Nat}(hn:xs.length=n+1)(e:xs[n]?=some v):atI xs (-1)=some v:=by
 unfold atI ixN;rw[if_neg #[7],if_pos #[0]];show xs[((xs.length:Int) + -1).toNat]?=some v;rw[show((xs.length:Int) + -1).toNat=n by omega];exact e
section
variable{kR kB r:Addr}{bv:V}{a:RAd}{st:Rst}
theorem RdO.apart(h:RdO K H kR kB r bv a st):r≠a.L/\r≠a.M/\r≠a.A/\a.L≠a.M/\a.L≠a.A/\a.M≠a.A/\r∉fpA a.as/\a.L∉fpA a.as/\a.M∉fpA a.as/\a.A∉fpA a.as/\(fpA a.as).Nodup:=by
 have:=h.nd;simp only[RAd.fp,nodup_cons,mem_cons,not_or] at this;obtain⟨⟨a1,a2,a3,a4⟩,⟨b1,b2,b3⟩,⟨c1,c2⟩,d1,e1⟩:=this;exact⟨a1,a2,a3,b1,b2,c1,a4,b3,c2,d1,e1⟩
theorem But.upd1:But [p] H (upd H p o):=λz u e n=>by rw[A8 (by simpa using n)];exact e
theorem V8(h:yy5 H p):R6 H (upd H p o):=qs5 (ps:=[p]) But.upd1 λz hz=>by rw[mem_singleton.mp hz];exact h
theorem RdO.setM{ms:List Mnd}(h:RdO K H kR kB r bv a st)(hd:Dvs K H (ms.map Mnd.da) us):RdO K (upd H a.M (.lst us)) kR kB r bv a {st with ms:=ms}:=by
 obtain⟨a1,a2,a3,b1,b2,c1,d1,d2,d3,d4,e1⟩:=h.apart;obtain⟨us0,m1,_⟩:=h.m;obtain⟨vs,l1,l2⟩:=h.d;have tk:R6 H (upd H a.M (.lst us)):=V8 (.inl ⟨_,m1⟩);exact⟨h.kr,h.kb,by rw[A8 a2];exact h.o,by rw[A8 b1];exact h.l,h.b.but But.upd1 tk λx hx z=>d3 (by rw[mem_singleton.mp z] at hx;exact hx),⟨us,A2,Dvs.tupK tk _ _ (E3 Mnd.fix ms) hd⟩,⟨vs,by rw[A8 (Ne.symm c1)];exact l1,Dvs.tupK tk _ _ (E3 Lad.fix _) l2⟩,h.nd⟩
theorem RdO.setA{ls:List Lad}(h:RdO K H kR kB r bv a st)(hd:Dvs K H (ls.map Lad.da) us):RdO K (upd H a.A (.lst us)) kR kB r bv a {st with ls:=ls}:=by
 obtain⟨a1,a2,a3,b1,b2,c1,d1,d2,d3,d4,e1⟩:=h.apart;obtain⟨us0,m1,m2⟩:=h.m;obtain⟨vs,l1,_⟩:=h.d;have tk:R6 H (upd H a.A (.lst us)):=V8 (.inl ⟨_,l1⟩);exact⟨h.kr,h.kb,by rw[A8 a3];exact h.o,by rw[A8 b2];exact h.l,h.b.but But.upd1 tk λx hx z=>d4 (by rw[mem_singleton.mp z] at hx;exact hx),⟨us0,by rw[A8 c1];exact m1,Dvs.tupK tk _ _ (E3 Mnd.fix _) m2⟩,⟨us,A2,Dvs.tupK tk _ _ (E3 Lad.fix ls) hd⟩,h.nd⟩
def B3(H H':Hp):Prop:=∀z,H' z=none->H z=none
theorem A3.grow(s:A3 H H'):B3 H H':=λz hz=>by
 cases e:H z with
 | none=>rfl
 | some u=>rw[s z u e] at hz;cases hz
theorem B3.upd:B3 H (upd H p o):=λz hz=>(T5 hz).2
theorem B3.tr(g1:B3 H H1)(g2:B3 H1 H2):B3 H H2:=λz hz=>g1 z (g2 z hz)
variable{st':Rst}
theorem Rup.keep(ok:RdO K H' kR kB r bv a st')(bt:But (RAd.fp r a) H H'):Rup K kR kB r bv H a H' a st':=⟨ok,bt,λx hx=>.inl hx⟩
end
def G7(K:Fg):Sp:=λvs H Q _=>∃(kR kB r:Addr) (bv:V) (a:RAd) (st:Rst) (i:Int) (g rule:Str),vs=[.ref r,.int i,.str g,.str rule]/\RdO K H kR kB r bv a st/\st.ms.length<=9000000/\g.length<=1000000/\∀H',Rup K kR kB r bv H a H' a {st with ms:=st.ms++[⟨i,i+g.length, "",rule⟩]}->B3 H H'->Q .non H'
def V9(K:Fg):TS :=
 (D2 (tBM K "list" D9 (I0 K (A0 0) "mends") (A1 (Y1 (A1 (A0 1) (A1 (tOp (C8 K) (A0 1) (tCB (J6 K) #[4,2])) (A1 (tC (.str "")) #[4,3])))) A5)))
theorem xd2(cz:Cz K qA qC)(h:G7 K vs H Q E):V9 K {nx:=λ_ H'=>Q .non H',rt:=Q} (C3 ["self","start","signs","rule"] vs) H:=by
 obtain⟨kR,kB,r,bv,a,st,i,g,rule,rfl,h,hl,hg,q⟩:=h;obtain rfl:=E2 cz.ns_Reader h.kr;show V9 K _ [some (.ref r),some (.int i),some (.str g),some (.str rule)] H;unfold V9;obtain⟨us,m1,m2⟩:=h.m;have hul:us.length=st.ms.length:=by have:=m2.length;rw[length_map] at this;exact this
 walk_at"2";refine⟨r,_,a.x,_,_,rfl,h.o,cz.cl_Reader,cz.na_Reader_mends,rfl,?_⟩;lk;refine⟨.inl ⟨rfl,_,SqL.of m1⟩,?_⟩;lk;refine .inr (.inl ⟨g,rfl,by rw[sizeLine_eq];omega,?_⟩);walk_at"16";have s1:=A3.new hp (.tup [.int i,.int (i+g.length),.str "",.str rule]);have e1:(upd H p (.tup [.int i,.int (i+g.length),.str "",.str rule])) p=some (.tup [.int i,.int (i+g.length),.str "",.str rule]):=A2;generalize upd H p (.tup [.int i,.int (i+g.length),.str "",.str rule])=H1 at *
 have h1:=h.same s1;lk;refine E7 (s1 _ _ m1) #[16] ?_;refine q _ (.keep (h1.setM ?_) λc o e n=>?_) (B3.tr (A3.grow s1) B3.upd)
 ·rw[map_append];refine Dvs.append (Dvs.same s1 _ _ m2) (Dvs.one (C6.mpr ⟨p,_,rfl,SqT.of e1,C0 (J7.mpr rfl) (C0 (J7.mpr rfl) (C0 (D6.mpr rfl) (C0 (D6.mpr rfl) E4)))⟩))
 ·rw[A8 (λz=>n (by rw[z];simp[RAd.fp]))];exact s1 c o e
section
variable{kR kB r:Addr}{bv:V}{a:RAd}{st:Rst}
theorem Q3(as bs:List BA):fpA (as++bs)=fpA as++fpA bs:=by unfold fpA;rw[flatMap_append]
theorem RdO.dom(h:RdO K H kR kB r bv a st):∀p∈RAd.fp r a,H p≠none:=λp hp e=>by
 rcases h.mut p hp with⟨xs,e2⟩|⟨C,dx,fs,e2⟩ <;> rw[e] at e2 <;> cases e2
theorem RdO.push{H4:Hp}{x:BA}{b:Brn}(h:RdO K H kR kB r bv a st)(s:A3 H H4)(hb:BrO K H4 kB x b)(hn:∀z∈x.fp,H z=none)(hd:x.fp.Nodup) :
 RdO K (upd H4 a.L (.lst ((a.as++[x]).map λz=>V.ref z.o))) kR kB r bv {a with as:=a.as++[x]} {st with bs:=st.bs++[b]}:=by
 have h4:=h.same s
 obtain⟨a1,a2,a3,b1,b2,c1,d1,d2,d3,d4,e1⟩:=h.apart
 obtain⟨us,m1,m2⟩:=h4.m
 obtain⟨vs,l1,l2⟩:=h4.d
 have tk:R6 H4 (upd H4 a.L (.lst ((a.as++[x]).map λz=>V.ref z.o))):=V8 (.inl ⟨_,h4.l⟩)
 have nx:∀z∈RAd.fp r a,z∉x.fp:=λz hz hx=>h.dom z hz (hn z hx)
 have nL:∀z∈x.fp,z≠a.L:=λz hz e=>nx a.L (by simp[RAd.fp]) (e▸hz)
 refine⟨h.kr,h.kb,by rw[A8 a1];exact h4.o,A2,(h4.b.but But.upd1 tk λz hz w=>d2 (by rw[mem_singleton.mp w] at hz;exact hz)).app (.cons (hb.but But.upd1 tk λz hz w=>nL z hz (mem_singleton.mp w)) .nil),⟨us,by rw[A8 (Ne.symm b1)];exact m1,Dvs.tupK tk _ _ (E3 Mnd.fix _) m2⟩,⟨vs,by rw[A8 (Ne.symm b2)];exact l1,Dvs.tupK tk _ _ (E3 Lad.fix _) l2⟩,?_⟩
 have e:RAd.fp r {a with as:=a.as++[x]}=RAd.fp r a++x.fp:=by
  unfold RAd.fp;show r::a.L::a.M::a.A::fpA (a.as++[x])=_;rw[Q3];show _=r::a.L::a.M::a.A::(fpA a.as++x.fp);have:fpA [x]=x.fp:=by unfold fpA;rw[flatMap_cons,flatMap_nil,append_nil]
  rw[this]
 rw[e,nodup_append]
 exact⟨h.nd,hd,λp hp q hq e=>nx p hp (e▸hq)⟩
end
abbrev wt6(K:Fg)(qA:Addr):TS :=
 (D2 (tBM K "list" D9 (I0 K (A0 0) "branches") (A1 (xi3 qA (T6 K) [] E0 (A1 (A0 1) (A1 (tOp (qv7 K) (I0 K (A0 2) "place") (Y1 (A1 (tCB (J6 K) (A1 (I0 K (A0 2) "parts") A5)) A5))) A5))) A5)))
def R8(K:Fg):Sp:=λvs H Q _=>∃(kR kB r:Addr) (bv:V) (a:RAd) (st:Rst) (n:Str) (bs:List Brn) (b0:Brn),vs=[.ref r,.str n]/\RdO K H kR kB r bv a st/\st.bs=bs++[b0]/\bs.length<=1000/\b0.pl.length<=1000/\b0.ps.length<=9000000/\∀a' H',Rup K kR kB r bv H a H' a' {st with bs:=st.bs++[⟨n,b0.pl++[(b0.ps.length:Int)],[],[]⟩]}->B3 H H'->Q .non H'
def T7(K:Fg)(qA:Addr):TS :=
 (B1 (B8 (tOp (D7 K) (I0 K (A0 0) "branches") #[12]) (A6 2))
 (wt6 K qA))
theorem wy4(cz:Cz K qA qC)(h:R8 K vs H Q E):T7 K qA {nx:=λ_ H'=>Q .non H',rt:=Q} (C3 ["self","name","above"] vs) H:=by
 obtain⟨kR,kB,r,bv,a,st,n,bs,b0,rfl,h,eb,hl,hp,hz,q⟩:=h;walk_at"4";show T7 K _ _ [some (.ref r),some (.str n),none] H;unfold T7;have hb:=h.b;rw[eb] at hb;obtain⟨as',x,ea,hb1,hx⟩:=hb.snoc;obtain⟨us,q1,q2⟩:=hx.q;have hul:=wy0 q2;have hal:=hb1.len;have hLl:(a.as.map λz=>V.ref z.o).length=as'.length+1:=by rw[ea];simp
 walk_at"2";walk_at"14";lk;refine⟨1,rfl,?_⟩;refine L8 (SqL.of h.l) (v:=.ref x.o) (qv9 hLl (by rw[ea];simp)) ?_;walk_at"2";walk_at"14";lk;refine⟨.inl ⟨rfl,_,SqL.of h.l⟩,?_⟩;lk;refine wp0 ?_;walk_at"2";refine⟨x.o,_,x.x,_,_,rfl,hx.o,cz.cl_Branch,cz.na_Branch_place,rfl,?_⟩;walk_at"2";walk_at"11";refine M6 (.inl (SqL.of q1)) ?_;rw[hul];lk;refine⟨C7 (by z_go),λp1 h1=>?_⟩;have s1:=A3.new h1 (.tup [.int b0.ps.length]);refine wt5 (s1.sqT hx.p) (SqT.of A2) (by rw[wx7];exact C7 (by show _+1<=_;omega)) λp2 H2 s2 hp2=>?_;rw[show M7 b0.pl++[V.int b0.ps.length]=M7 (b0.pl++[(b0.ps.length:Int)]) by simp[M7]] at hp2;have s12:=A3.tr s1 s2;lk;intro o dx ho hdx ne;have s3:A3 H2 (upd (upd H2 dx (.own o)) o (.ins qA dx [])):=λz u e=>by rw[A8 (λy=>by rw[y,ho] at e;cases e),A8 (λy=>by rw[y,hdx] at e;cases e)];exact e
 have g3:B3 H2 (upd (upd H2 dx (.own o)) o (.ins qA dx [])):=B3.tr B3.upd B3.upd;have e3:(upd (upd H2 dx (.own o)) o (.ins qA dx [])) o=some (.ins qA dx []):=A2;generalize upd (upd H2 dx (.own o)) o (.ins qA dx [])=H3 at *
 refine⟨qA,o,dx,p2,n,_,rfl,cz.ns_Branch,e3,s3.sqT hp2,λqq ww H4 hq hw hqw bt hB g4=>⟨rfl,?_⟩⟩;have s4:A3 H2 H4:=λz u e=>bt z u (s3 z u e) (by simp;intro y;rw[y,ho] at e;cases e);have s14:=A3.tr s12 s4;lk;refine E7 (s14 _ _ h.l) (by rw[hLl,sizeLine_eq];omega) ?_;have nH:∀z,H2 z=none->H z=none:=A3.grow s12;have fq:∀z∈BA.fp ⟨o,dx,p2,qq,ww⟩,H z=none:=λz hz=>by
  simp only[BA.fp,mem_cons,not_mem_nil,or_false] at hz;rcases hz with rfl|rfl|rfl
  ·exact nH _ ho
  ·exact nH _ (g3 _ hq)
  ·exact nH _ (g3 _ hw)
 have nd:(BA.fp ⟨o,dx,p2,qq,ww⟩).Nodup:=by
  have n1:o≠qq:=λy=>by rw[<-y,e3] at hq;cases hq
  have n2:o≠ww:=λy=>by rw[<-y,e3] at hw;cases hw
  simp[BA.fp,n1,n2,hqw]
 have hp:=h.push s14 hB fq nd;rw[map_append] at hp;refine q _ _ ⟨hp,λc u e nc=>?_,λz hz=>?_⟩ (B3.tr (B3.tr (B3.tr (A3.grow s12) g3) g4) B3.upd)
 ·rw[A8 (λy=>nc (by rw[y];simp[RAd.fp]))];exact s14 c u e
 ·have:z∈RAd.fp r a\/z∈BA.fp ⟨o,dx,p2,qq,ww⟩:=by
   simp only[RAd.fp,Q3,mem_cons,mem_append] at hz ⊢;rcases hz with h|h|h|h|h|h
   ·exact .inl (.inl h)
   ·exact .inl (.inr (.inl h))
   ·exact .inl (.inr (.inr (.inl h)))
   ·exact .inl (.inr (.inr (.inr (.inl h))))
   ·exact .inl (.inr (.inr (.inr (.inr h))))
   ·exact .inr (by simpa [fpA] using h)
  exact this.imp id λh=>fq z h
def R3(K:Fg):Sp:=λvs H Q _=>∃(a:Addr) (ns:List Int) (k:Int),vs=[.ref a,.int k]/\SqL K H a (ns.map V.int)/\0<=k/\∀n:Int,Q (.int n) H
def Y3(K:Fg):TS :=
 (B1 (M4 (C1 (tOp xr1 (A0 1) (tCB (J6 K) #[4,0])))
 (E1 (tOp (D7 K) (A0 0) (A0 1))) J8)
 (E1 #[1,0]))
theorem xk6(h:R3 K vs H Q E):Y3 K {nx:=λ_ H'=>Q .non H',rt:=Q} (C3 ["_law_script","_law_k"] vs) H:=by
 obtain⟨a,ns,k,rfl,hS,h0,q⟩:=h;show Y3 K _ [some (.ref a),some (.int k)] H;unfold Y3;lk;refine M6 (.inl hS) ?_;lk;rw[length_map];by_cases hk:k<(ns.length:Int)
 ·rw[decide_eq_true hk];refine qy2 ?_;have hk':k.toNat<ns.length:=by omega
  lk;refine L8 hS (v:=.int ns[k.toNat]) ?_ (q _);have ek:k=((k.toNat:Nat):Int):=by omega
  have e:atI (ns.map V.int) ((k.toNat:Nat):Int)=some (.int ns[k.toNat]):=M8 (by rw[List.getElem?_map,List.getElem?_eq_getElem hk'] <;> rfl);rw[<-ek] at e;exact e
 ·rw[decide_eq_false hk];refine qi6 ?_;exact q 0
end
noncomputable def gd(l:List Str)(i:Nat):Str:=l.getD i ("":Str)
def wl3(x:Str):Prop:=x=("bare":Str)\/x=("plain":Str)\/x=("anew":Str)\/x=("room":Str)\/x=("frame":Str)
theorem yq8{l:List Str}{i:Nat}(h:i<l.length):gd (l.set i x) i=x:=by
 unfold gd;rw[getD_eq_getElem?_getD,List.getElem?_set_self h];rfl
variable{j:Nat}
theorem zk1{l:List Str}{i:Nat}(h:i≠j):gd (l.set i x) j=gd l j:=by
 unfold gd;rw[getD_eq_getElem?_getD,getD_eq_getElem?_getD,List.getElem?_set_ne h]
theorem wl4{l:List Str}{i:Nat}(h:i<l.length):l[i]?=some (gd l i):=by
 unfold gd;rw[getD_eq_getElem?_getD];simp[h]
theorem wt8{l:List Str}{i:Nat}(h:i<l.length):gd l i∈l:=mem_of_getElem? (wl4 h)
variable{names:List Str}
theorem zs2(hn:names.Nodup){i:Nat}(hi:i<names.length)(hj:j<names.length)(e:gd names i=gd names j):i=j:=by
 have e1:gd names i=names[i]:=by have:=wl4 hi;rw[List.getElem?_eq_getElem hi] at this;exact(Option.some.inj this).symm
 have e2:gd names j=names[j]:=by have:=wl4 hj;rw[List.getElem?_eq_getElem hj] at this;exact(Option.some.inj this).symm
 have h1:=hn.idxOf_getElem i hi;have h2:=hn.idxOf_getElem j hj;rw[<-e1,e,e2,h2] at h1;exact h1.symm
theorem qn8{xs:List Str}{i:Nat}(h:i<xs.length):atI (B0 xs) ((i:Nat):Int)=some (.str (gd xs i)):=M8 (by unfold B0;rw[List.getElem?_map,wl4 h];rfl)
noncomputable def yq9(js:List Nat):List V:=js.map λ(j:Nat)=>.int (j:Int)
def yy6(x:Str):Prop:=x=("plain":Str)\/x=("frame":Str)
instance (x:Str):Decidable (yy6 x):=inferInstanceAs (Decidable (_\/_))
structure Srt(names:List Str)(c:Nat)(S Hs:List Str)(T:List Nat)(k:Nat):Prop where
 ls:S.length=c
 lh:Hs.length=c
 srt:∀x∈S,wl3 x
 host:∀i,i<k->i<c->gd S i=("frame":Str)->∃j,i<j/\j<c/\gd Hs i=gd names j/\yy6 (gd S j)/\j∈T
 no:∀i,i<c->(k<=i\/gd S i≠("frame":Str))->gd Hs i=("":Str)
 tk:∀j∈T,j<c/\yy6 (gd S j)/\∃i,i<j/\i<k/\gd S i=("frame":Str)/\gd Hs i=gd names j
 uq:∀i i',i<k->i'<k->i<c->i'<c->gd S i=("frame":Str)->gd S i'=("frame":Str)->gd Hs i=gd Hs i'->i=i'
 tl:T.length<=k
theorem yr0:∀xs:List Str,L6 (sDa xs)=true
 | []=>by show L6 []=true;rw[L6]
 | x::xs=>by show L6 (.str x::sDa xs)=true;rw[L6,yr0 xs,fix];rfl
theorem Ab4(r:Row):fix r.da=true:=by
 unfold Row.da;simp[fix,L6,yr0]
theorem yr1:∀rs:List Row,L6 (rs.map Row.da)=true
 | []=>by show L6 []=true;rw[L6]
 | r::rs=>by show L6 (r.da::rs.map Row.da)=true;rw[L6,Ab4,yr1 rs];rfl
structure Boo(rs:List Row):Prop where
 l1:1<=rs.length
 l2:rs.length<=12
 nd:(rs.map (·.name)).Nodup
 ne:∀r∈rs,r.name≠("":Str)
 rk:∃rk:Str->Nat,(∀r∈rs,rk r.name<12)/\∀r∈rs,r.sort=("frame":Str)->(∃r'∈rs,r'.name=r.host/\yy6 r'.sort)/\rk r.name<rk r.host
 noh:∀r∈rs,r.sort≠("frame":Str)->r.host=("":Str)
 uq:∀r∈rs,∀r'∈rs,r.sort=("frame":Str)->r'.sort=("frame":Str)->r.host=r'.host->r.name=r'.name
 srt:∀r∈rs,wl3 r.sort
 nosh:∀r∈rs,∀x∈r.shuts,∀f∈rs,f.sort=("frame":Str)->f.host≠x
structure RA(names S Hs:List Str)(T:List Nat)(c j:Nat)(r:Row):Prop where
 sh:∀x∈r.shuts,∃i,i<c/\i∉T/\x=gd names i
 name:r.name=gd names j
 sort:r.sort=gd S j
 host:r.host=gd Hs j
theorem yy7(hn:names.Nodup)(hj:j<names.length):names.idxOf (gd names j)=j:=by
 have e:gd names j=names[j]:=by have:=wl4 hj;rw[List.getElem?_eq_getElem hj] at this;exact(Option.some.inj this).symm
 rw[e];exact hn.idxOf_getElem j hj
theorem Rws.same(h:Rws K H v rs)(s:A3 H H'):Rws K H' v rs:=by
 obtain⟨a,vs,rfl,hq,hd⟩:=h;exact⟨a,vs,rfl,hq.imp s.sqL s.sqT,Dvs.same s _ _ hd⟩
theorem wy5{r:Row}(h:qs2 rs (some n)=some r):r∈rs/\r.name=n:=by
 refine⟨mem_of_find?_eq_some h,?_⟩;have:=find?_some h;simpa using this
theorem yy8(h:∃r∈rs,r.name=n):∃r,qs2 rs (some n)=some r/\r∈rs/\r.name=n:=by
 cases e:qs2 rs (some n) with
 | none =>
   obtain⟨r,hr,hn⟩:=h
   have:=find?_eq_none.mp e r hr
   simp[hn] at this
 | some r=>exact⟨r,rfl,wy5 e⟩
noncomputable def X0(rs:List Row)(n:Str):Bool:=match qs2 rs (some n) with|none=>false|some r=>decide (r.sort∈[("room":Str),("frame":Str)])
noncomputable def qd0(rs:List Row)(ns:List Str):List Str:=ns.foldl (λacc n=>if X0 rs n then[] else acc++[n]) []
theorem xd4(rs:List Row)(ns:List Str)(n:Str):qd0 rs (ns++[n])=if X0 rs n then[] else qd0 rs ns++[n]:=by
 unfold qd0;rw[foldl_append];rfl
theorem wl5(rs:List Row):∀(k:Nat) (ns:List Str),ns.length=k->(qd0 rs ns).length<=k
 | 0,ns,h=>by rw[length_eq_zero_iff.mp h];exact Nat.le_refl _
 | k+1,ns,h=>by
   have hp:ns≠[]:=λe=>by rw[e] at h;cases h
   rw[<-dropLast_concat_getLast hp,xd4];have:=wl5 rs k ns.dropLast (by rw[length_dropLast];omega);split
   ·exact Nat.zero_le _
   ·rw[length_append,length_singleton];omega
theorem yj4{r:Row}(h:Dv K H r.da v):∃b ps pb,v=.ref b/\SqT K H b [.str r.name,.str r.sort,.str r.host,.ref ps,.ref pb]/\SqT K H ps (B0 r.shuts)/\SqT K H pb (B0 r.bars):=by
 obtain⟨b,sv,bv,rfl,hb,h1,h2⟩:=wa8 h;obtain⟨ps,vs,rfl,q1,d1⟩:=C6.mp h1;obtain⟨pb,ws,rfl,q2,d2⟩:=C6.mp h2;rw[qp7.mp d1] at q1;rw[qp7.mp d2] at q2;exact⟨b,ps,pb,rfl,hb,q1,q2⟩
noncomputable def T9(ys:List Str):Str:=gd ys (ys.length-1)
noncomputable def qi9(rs:List Row):Nat->Option Str->List Str
 | 0,_=>[]
 | k+1,n=>match T0 rs n with
   | none=>[]
   | some y=>y::qi9 rs k (some y)
def Al7(rs:List Row)(rk:Str->Nat):Prop:=∀x y,T0 rs (some x)=some y->rk x<rk y/\rk y<12
theorem Boo.rise(B:Boo rs):∃rk,Al7 rs rk:=by
 obtain⟨rk,h1,h2⟩:=B.rk;refine⟨rk,λx y e=>?_⟩;unfold T0 at e;cases er:qs2 rs (some x) with
 | none=>rw[er] at e;cases e
 | some r =>
   rw[er] at e
   obtain⟨hr,hn⟩:=wy5 er
   by_cases hf:r.sort=("frame":Str)
   ·have e:some r.host=some y:=by simpa [hf] using e
    injection e with e
    obtain⟨⟨r',hr',en,_⟩,h⟩:=h2 r hr hf
    subst e hn
    exact⟨h,by rw[<-en];exact h1 r' hr'⟩
   ·simp[hf] at e
theorem xs7{rs:List Row}{rk:Str->Nat}(f:Al7 rs rk):∀(k m:Nat) (x:Str),12-rk x<=k->k<=m->qi9 rs m (some x)=qi9 rs k (some x)
 | k, 0, x, h, hm => by have:k=0:=by omega
                        rw[this]
 | k,m+1,x,h,hm=>by
   cases e:T0 rs (some x) with
   | none =>
     have e1:∀k,qi9 rs k (some x)=[]:=λk=>by cases k with|zero=>rfl|succ k=>rw[qi9,e]
     rw[e1,e1]
   | some y =>
     obtain⟨hy,hy2⟩:=f x y e
     cases k with
     | zero=>omega
     | succ k =>
       rw[qi9,e,qi9,e]
       show y::qi9 rs m (some y)=y::qi9 rs k (some y)
       rw[xs7 f k m y #[0] #[0]]
noncomputable def L5(rs:List Row)(x:Str):List Str:=qi9 rs 12 (some x)
theorem qr5(rs:List Row):∀(k:Nat) (n:Option Str),(qi9 rs k n).length<=k
 | 0,_=>Nat.le_refl _
 | k+1,n=>by
   rw[qi9];split
   ·exact Nat.zero_le _
   ·rw[length_cons];have:=qr5 rs k;exact Nat.succ_le_succ (this _)
theorem xs8(e:T0 rs (some x)=none):L5 rs x=[]:=by
 unfold L5;rw[qi9,e]
theorem xs9(f:Al7 rs rk)(e:T0 rs (some x)=some y):L5 rs x=y::L5 rs y:=by
 unfold L5;rw[qi9,e];show y::qi9 rs 11 (some y)=y::qi9 rs 12 (some y);obtain⟨h1,h2⟩:=f x y e;rw[xs7 f 11 12 y #[0] #[0]]
def O2(K:Fg):Sp:=λvs H Q _=>∃(a:Addr) (ys:List Str),vs=[.ref a]/\(SqL K H a (B0 ys)\/SqT K H a (B0 ys))/\Q (.str (T9 ys)) H
def U0(K:Fg):TS :=
 (E1 (tIf (C1 (tOp xj8 (tCB (J6 K) #[4,0]) #[1,0])) (tOp (D7 K) (A0 0) #[12]) (tC (.str ""))))
theorem wy6(h:O2 K vs H Q E):U0 K {nx:=λ_ H'=>Q .non H',rt:=Q} (C3 ["names"] vs) H:=by
 obtain⟨a,ys,rfl,hq,q⟩:=h;show U0 K _ [some (.ref a)] H;unfold U0;lk;refine M6 hq ?_;rw[B2];lk;by_cases h0:(0:Int)<(ys.length:Int)
 ·rw[decide_eq_true h0];x_go;lk;refine⟨1,rfl,?_⟩;have e1:(B0 ys)[(B0 ys).length-1]?=some (.str (T9 ys)):=by
   rw[B2];unfold B0 T9;rw[List.getElem?_map,wl4 #[0]];rfl
  have e2:=zd5 (by rw[B2];omega) e1;rcases hq with hq|hq
  ·exact L8 hq e2 q
  ·exact P6 hq e2 q
 ·rw[decide_eq_false h0];k_go;lk;have:ys=[]:=length_eq_zero_iff.mp #[0];subst this;exact q
def W0(K:Fg):Sp:=λvs H Q _=>∃(v:V) (x:Str) (rs:List Row),vs=[v,.str x]/\Rws K H v rs/\Boo rs/\∀(p:Addr) (H':Hp),A3 H H'->SqT K H' p (B0 (L5 rs x))->Q (.ref p) H'
def Y4(K:Fg):TS :=
 (B1 (B8 (T2 A5) (A6 2))
 (B1 (B8 (B9 (qs4 K) [] E0 (A1 (A0 0) #[4,1])) (A6 3))
 (B1 (wd9 (C1 (tOp qv6 (A0 3) (tC .non)))
 (B1 (D2 (tBM K "list" D9 (A0 2) #[4,3]))
 (B8 (B9 (qs4 K) [] E0 (A1 (A0 0) #[4,3])) (A6 3))))
 (E1 (tCB (ql3 K) #[4,2])))))
theorem xk7(h:W0 K vs H Q E):Y4 K {nx:=λ_ H'=>Q .non H',rt:=Q} (C3 ["book","name","hosts","host"] vs) H:=by
 obtain⟨v,x,rs,rfl,hR,B,q⟩:=h;show Y4 K _ [some v,some (.str x),none,none] H;unfold Y4;obtain⟨rk,f⟩:=B.rise;lk;refine⟨C7 (by z_go),λd hd=>?_⟩;lk;refine⟨v,some x,rs,rfl,hR.same (A3.new hd _),?_⟩;lk;refine yn9 (λσ H'=>∃(n:Option Str) (ys:List Str),σ=[some v,some (.str x),some (.ref d),some (oV n)]/\A3 H H'/\H' d=some #[23,ys]/\L5 rs x=ys++(match n with|none=>[]|some y=>y::L5 rs y)/\ys.length<=12/\∀y,n=some y->∃x,T0 rs (some x)=some y)
  (λσ _=>match σ with | [_,_,_,some (.str y)]=>13-rk y|_=>0) ?_ ?_ ?_
 ·refine⟨T0 rs (some x),[],rfl,A3.new hd _,A2,?_,Nat.zero_le _,λy e=>⟨x,e⟩⟩;cases e:T0 rs (some x) with
  | none=>rw[xs8 e];rfl
  | some y=>rw[xs9 f e];rfl
 ·rintro σ H' ⟨n,ys,rfl,s1,h1,eh,hl,hn⟩;have hlen:(L5 rs x).length<=12:=qr5 rs 12 _;cases n with
  | none =>
    refine⟨_,rfl,rfl,_,rfl,?_⟩
    show(if(!decide (V.non=V.non))=true then _ else _)
    rw[decide_eq_true rfl,Bool.not_true];refine qi6 ?_
    lk
    refine⟨d,_,rfl,.inl ⟨SqL.of h1,λp hp=>?_⟩⟩
    have:L5 rs x=ys:=by rw[eh];exact append_nil _
    exact q p _ (A3.tr s1 (A3.new hp _)) (by rw[this];exact SqT.of A2)
  | some y =>
    refine⟨_,rfl,rfl,_,rfl,?_⟩
    show(if(!decide (V.str y=V.non))=true then _ else _)
    rw[decide_eq_false (by simp),Bool.not_false];refine qy2 ?_
    have hl2:ys.length+1<=12:=by
     rw[eh,length_append] at hlen;simp at hlen;omega
    lk
    refine⟨.inl ⟨rfl,_,SqL.of h1⟩,?_⟩
    lk
    refine E7 h1 (by rw[B2,sizeLine_eq];omega) ?_
    rw[show(oV (some y))=V.str y from rfl,wl2]
    lk
    refine⟨v,some y,rs,rfl,hR.same (A3.put s1 hd _),?_⟩
    lk
    refine⟨⟨T0 rs (some y),ys++[y],rfl,A3.put s1 hd _,A2,?_,by rw[length_append,length_singleton];omega,λz e=>⟨y,e⟩⟩,?_⟩
    ·rw[eh,append_assoc]
     congr 1
     cases e:T0 rs (some y) with
     | none=>show y::L5 rs y=_;rw[xs8 e];rfl
     | some z=>show y::L5 rs y=_;rw[xs9 f e];rfl
    ·show(match [some v,some (V.str x),some (V.ref d),some (oV (T0 rs (some y)))] with | [_,_,_,some (.str y)]=>13-rk y|_=>0)<13-rk y
     obtain⟨w,hw⟩:=hn y rfl
     have:=(f _ _ hw).2
     cases e2:T0 rs (some y) with
     | none=>show 0<13-rk y;omega
     | some z=>have:=f y z e2;show 13-rk z<13-rk y;omega
 ·rintro σ H' Q1 Q2 hQ ⟨v1,e1,e2,k,e3,q1⟩;exact⟨v1,e1,e2,k,e3,hQ _ _ q1⟩
def qp9(K:Fg):Sp:=λvs H Q _=>∃(v:V) (a:Addr) (ys:List Str) (rs:List Row),vs=[v,.ref a]/\Rws K H v rs/\Boo rs/\(SqL K H a (B0 ys)\/SqT K H a (B0 ys))/\(20<ys.length+(L5 rs (T9 ys)).length->∀H',A3 H H'->Q .non H')/\(¬20<ys.length+(L5 rs (T9 ys)).length->∀(p:Addr) (H':Hp),A3 H H'->SqT K H' p (B0 (L5 rs (T9 ys)))->Q (.ref p) H')
def qm5(K:Fg):TS :=
 (B1 (B8 (B9 (W0 K) [] E0 (A1 (A0 0) (A1 (B9 (O2 K) [] E0 #[4,1]) A5))) (A6 2))
 (E1 (tIf (C1 (tOp xj8 (tOp (C8 K) (tCB (J6 K) #[4,1]) (tCB (J6 K) #[4,2])) #[1,20])) (tC .non) (A0 2))))
theorem yj5(h:qp9 K vs H Q E):qm5 K {nx:=λ_ H'=>Q .non H',rt:=Q} (C3 ["book","names","hosts"] vs) H:=by
 obtain⟨v,a,ys,rs,rfl,hR,B,hq,q1,q2⟩:=h;show qm5 K _ [some v,some (.ref a),none] H;unfold qm5;lk;refine⟨a,ys,rfl,hq,?_⟩;lk;refine⟨v,_,rs,rfl,hR,B,λp H1 s1 hp=>?_⟩;lk;refine M6 (hq.imp s1.sqL s1.sqT) ?_;rw[B2];lk;refine M6 (.inr hp) ?_;rw[B2];lk;by_cases h:20<ys.length+(L5 rs (T9 ys)).length
 ·rw[decide_eq_true #[0]];x_go;lk;exact q1 h _ s1
 ·rw[decide_eq_false #[0]];k_go;lk;exact q2 h p _ s1 hp
variable{ys:List Str}
theorem xt0(k:Nat):qe8 (B0 ys) none (some ((k:Nat):Int))=B0 (ys.take k):=by
 unfold qe8;rw[HT.R5];show((B0 ys).drop 0).take (min k (B0 ys).length-0)=_;rw[drop_zero,Nat.sub_zero];unfold B0;rw[map_take,length_map];by_cases hh:k<=ys.length
 ·rw[Nat.min_eq_left hh]
 ·rw[Nat.min_eq_right #[0],take_of_length_le (by rw[length_map];exact Nat.le_refl _),take_of_length_le (by rw[length_map];omega)]
theorem yf1(e:L9 rs (some x)=some y):∃r∈rs,r.name=y/\r.sort=("frame":Str)/\r.host=x:=by
 unfold L9 at e;obtain⟨r,hr,rfl⟩:=Option.map_eq_some_iff.mp e;have hm:=mem_of_find?_eq_some hr;have hp:=find?_some hr;rw[Bool.and_eq_true,decide_eq_true_eq,decide_eq_true_eq] at hp;exact⟨r,hm,rfl,hp.1,Option.some.inj hp.2⟩
noncomputable def bel(rs:List Row)(rk:Str->Nat)(y x:Str):Bool:=decide (x∈ups rs (rk y) (some y))
noncomputable def clo(rs:List Row)(rk:Str->Nat)(ys:List Str)(x:Str):Nat->Option Nat
 | 0=>none
 | k+1=>if gd ys k=x then some k else if X0 rs (gd ys k) && !(bel rs rk (gd ys k) x) then none else clo rs rk ys x k
noncomputable def nV:Option Nat->V
 | some k=>.int (k:Int)
 | none=>.non
theorem Ab5(xs:List Str):inV .non (B0 xs)=false:=by
 induction xs with
 | nil=>rfl
 | cons x l ih =>
   unfold inV at ih ⊢
   show(eqV (.str x) .non || (B0 l).any λz=>eqV z .non)=false
   rw[ih];rfl
def qf0(K:Fg):Sp:=λvs H Q _=>∃v n rs,vs=[v,.str n]/\Rws K H v rs/\Q (.bl (X0 rs n)) H
def wb0(K:Fg)(c_WALL_SORTS:Addr):TS :=
 (E1 (tOp (wa5 K false) (B9 (Y2 K) [] E0 (A1 (A0 0) #[4,1])) (tC (.ref c_WALL_SORTS))))
theorem yy9{c_WALL_SORTS:Addr}(q_WALL_SORTS:∀H:Hp,SqT K H c_WALL_SORTS [.str "room",.str "frame"])(h:qf0 K vs H Q E):wb0 K c_WALL_SORTS {nx:=λ_ H'=>Q .non H',rt:=Q} (C3 ["book","name"] vs) H:=by
 obtain⟨v,n,rs,rfl,hR,q⟩:=h;show wb0 K c_WALL_SORTS _ [some v,some (.str n)] H;unfold wb0;lk;refine⟨v,some n,rs,rfl,hR,?_⟩;lk;have hw:X0 rs n=inV (oV (P3 rs (some n))) (B0 [("room":Str),("frame":Str)]):=by
  unfold X0 P3;cases qs2 rs (some n) with
  | none=>exact(Ab5 _).symm
  | some r=>exact(qm3 _ _).symm
 refine .inl (yi6 (xs:=B0 [("room":Str),("frame":Str)]) (.inr (q_WALL_SORTS H)) ?_ (W7 _) ?_)
 ·cases P3 rs (some n) <;> rfl
 ·rw[<-hw];exact q
def qs6(K:Fg):Sp:=λvs H Q _=>∃(v:V) (a:Addr) (ys:List Str) (x:Str) (rs:List Row) (rk:Str->Nat),vs=[v,.ref a,.str x]/\Rws K H v rs/\wx5 rs rk/\(SqL K H a (B0 ys)\/SqT K H a (B0 ys))/\ys.length<=1000/\Q (nV (clo rs rk ys x ys.length)) H
def wb1(K:Fg):TS :=
 (B1 (qc8 (zq6 (A1 (tOp (rI0 λi j=>.int (i-j)) (tCB (J6 K) #[4,1]) #[1,1]) (A1 #[12] (A1 #[12] A5)))) (A6 3)
 (B1 (M4 (C1 (tOp (P7 K) (tOp (D7 K) (A0 1) (A0 3)) (A0 2)))
 (E1 (A0 3)) J8)
 (M4 (xc1 (tB (B9 (qf0 K) [] E0 (A1 (A0 0) (A1 (tOp (D7 K) (A0 1) (A0 3)) A5)))) (zl5 (tB (B9 (we7 K) [] E0 (A1 (A0 0) (A1 (tOp (D7 K) (A0 1) (A0 3)) #[4,2]))))))
 (E1 (tC .non)) J8)))
 (E1 (tC .non)))
theorem yz0(h:qs6 K vs H Q E):wb1 K {nx:=λ_ H'=>Q .non H',rt:=Q} (C3 ["book","names","name","number"] vs) H:=by
 obtain⟨v,a,ys,x,rs,rk,rfl,hR,f,hq,hl,q⟩:=h;show wb1 K _ [some v,some (.ref a),some (.str x),none] H;unfold wb1;lk;refine M6 hq ?_;rw[B2];lk;refine⟨1,rfl,?_⟩;lk;refine⟨1,rfl,?_⟩;lk;refine zq9 #[0] (λi σ H'=>H'=H/\(∃w,σ=[some v,some (.ref a),some (.str x),w])/\clo rs rk ys x ys.length=clo rs rk ys x (ys.length-i)) ⟨rfl,⟨_,rfl⟩,rfl⟩ ?_ ?_
 ·rintro i σ H' hi ⟨rfl,⟨w,rfl⟩,hc⟩;obtain⟨k,hk⟩:∃k:Nat,ys.length-i=k+1:=⟨ys.length-i-1,by omega⟩;have ek:(ys.length:Int)-1-(i:Int)=((k:Nat):Int):=by omega
  have hk2:ys.length-(i+1)=k:=by omega
  have ix:∀Q':VK,Q' (.str (gd ys k)) H'->D7 K (.ref a) (.int ((k:Nat):Int)) H' Q':=λQ' h=>by
   rcases hq with hq|hq
   ·exact L8 hq (qn8 #[0]) h
   ·exact P6 hq (qn8 #[0]) h
  rw[hk,clo] at hc;rw[ek];lk;refine ix _ ?_;lk;by_cases e:gd ys k=x
  ·rw[decide_eq_true e];x_go;lk;rw[hc,if_pos e] at q;exact q
  ·rw [decide_eq_false e];k_go;rw[if_neg e] at hc;lk;refine ix _ ?_;lk;refine⟨v,_,rs,rfl,hR,?_⟩;lk;cases hw:X0 rs (gd ys k) with
   | false =>
     rw[hw,Bool.false_and,if_neg Bool.false_ne_true] at hc
     k_go
     k_go
     lk
     exact⟨rfl,⟨_,rfl⟩,by rw[hk2];exact hc⟩
   | true =>
     rw[hw,Bool.true_and] at hc
     x_go
     lk
     refine ix _ ?_
     lk
     refine⟨v,_,x,rs,rk,rfl,hR,f,?_⟩
     show ∃k_1,V.bl (bel rs rk (gd ys k) x)=V.bl k_1/\_
     lk
     cases hb:bel rs rk (gd ys k) x with
     | true =>
       rw[hb,Bool.not_true,if_neg Bool.false_ne_true] at hc
       rw[Bool.not_true]
       k_go
       lk
       exact⟨rfl,⟨_,rfl⟩,by rw[hk2];exact hc⟩
     | false =>
       rw[hb,Bool.not_false,if_pos rfl] at hc
       rw[Bool.not_false]
       x_go
       lk
       rw[hc] at q
       exact q
 ·rintro σ H' ⟨rfl,⟨w,rfl⟩,hc⟩;lk;rw[Nat.sub_self] at hc;rw[hc] at q;exact q
noncomputable def wf0(rs:List Row)(x:Str):List Str:=match qs2 rs (some x) with|none=>[]|some r=>r.shuts
noncomputable def xd6(rs:List Row)(x:Str):List Str:=match qs2 rs (some x) with|none=>[]|some r=>r.bars
noncomputable def kpt(ys sh:List Str):Nat->Nat->Nat
 | k,0=>k
 | k,m+1=>if gd ys k∈sh then k else kpt ys sh (k+1) m
theorem zs3(ys sh:List Str):∀m k,kpt ys sh k m<=k+m
 | 0,k=>Nat.le_refl _
 | m+1,k=>by
   rw[kpt];split
   ·omega
   ·have:=zs3 ys sh m (k+1);omega
noncomputable def xt1(rs:List Row)(ys:List Str)(x:Str):Nat:=kpt ys (wf0 rs x) (ys.length-(qd0 rs ys).length) (qd0 rs ys).length
noncomputable def qy5(rs:List Row)(ys:List Str)(x:Str):Nat×List Str:=if L5 rs (T9 ys)=[] then(xt1 rs ys x,[x]) else(ys.length,L5 rs (T9 ys)++[x])
noncomputable def xi8(rs:List Row)(rk:Str->Nat)(ys:List Str)(rec:Str->Nat×List Str)(x:Str):Nat×List Str :=
 match L9 rs (some x) with
 | none=>qy5 rs ys x
 | some y=>match clo rs rk ys y ys.length with
   | some k=>(k+1,[x])
   | none=>((rec y).1,(rec y).2++[x])
noncomputable def J4(rs:List Row)(rk:Str->Nat)(ys:List Str):Nat->Str->Nat×List Str
 | 0=>xi8 rs rk ys λ_=>(0,[])
 | n+1=>xi8 rs rk ys (J4 rs rk ys n)
theorem yj6{rs:List Row}{rk:Str->Nat}{ys:List Str}{x:Str}:∀{m k:Nat},clo rs rk ys x m=some k->k<m
 | 0,k,h=>by cases h
 | m+1,k,h=>by
   rw[clo] at h;split at h
   ·injection h with h;omega
   ·split at h
    ·cases h
    ·have:=yj6 h;omega
theorem wp4 {rs:List Row} (B:Boo rs):∀(m:Nat) (n:Option Str),∀z∈qi9 rs m n,∃r∈rs,r.name=z
 | 0,_,z,h=>by cases h
 | m + 1,n,z,h=>by
   rw[qi9] at h;split at h
   ·cases h
   ·rename_i y e;rcases mem_cons.mp h with h|h
    ·subst h;unfold T0 at e;cases er:qs2 rs n with
     | none=>rw[er] at e;cases e
     | some r =>
       rw[er] at e
       have hr:r∈rs:=mem_of_find?_eq_some er
       by_cases hf:r.sort=("frame":Str)
       ·have e:some r.host=some z:=by simpa [hf] using e
        injection e with e
        obtain⟨rk,_,h2⟩:=B.rk
        obtain⟨⟨r',hr',en,_⟩,_⟩:=h2 r hr hf
        exact⟨r',hr',by rw[en,e]⟩
       ·simp[hf] at e
    ·exact wp4 B m _ z h
structure Wok(rs:List Row)(ys:List Str)(n:Nat)(w:Nat×List Str):Prop where
 k:w.1<=ys.length
 m:∀z∈w.2,∃r∈rs,r.name=z
 l:w.2.length<=13+n
theorem zs4(rs:List Row)(ys:List Str)(x:Str):xt1 rs ys x<=ys.length:=by
 have:=zs3 ys (wf0 rs x) (qd0 rs ys).length (ys.length-(qd0 rs ys).length);have:=wl5 rs ys.length ys rfl;unfold xt1;omega
theorem zs5(B:Boo rs)(hx:∃r∈rs,r.name=x)(n:Nat):Wok rs ys n (qy5 rs ys x):=by
 unfold qy5;split
 ·exact⟨zs4 rs ys x,λz hz=>by rw[mem_singleton.mp hz];exact hx,by simp;omega⟩
 ·refine⟨Nat.le_refl _,λz hz=>?_,?_⟩
  ·rcases mem_append.mp hz with h|h
   ·exact wp4 B 12 _ z h
   ·rw[mem_singleton.mp h];exact hx
  ·show(L5 rs (T9 ys)++[x]).length<=_;rw[length_append,length_singleton];have:(L5 rs (T9 ys)).length<=12:=qr5 rs 12 _;omega
theorem wy7 {rs:List Row} (B:Boo rs) {rk:Str->Nat} (f:wx5 rs rk) {ys:List Str}:∀(n:Nat) (x:Str),(∃r∈rs,r.name=x)->rk x<=n->Wok rs ys n (J4 rs rk ys n x)
 | n, x, hx,hn=>by
   have go:∀rec:Str->Nat×List Str,(∀y,L9 rs (some x)=some y->∃m,n=m+1/\Wok rs ys m (rec y))->Wok rs ys n (xi8 rs rk ys rec x):=by
    intro rec hrec;unfold xi8;cases e:L9 rs (some x) with
    | none=>exact zs5 B hx n
    | some y =>
      dsimp only
      cases ec:clo rs rk ys y ys.length with
      | some k =>
        have:=yj6 ec
        exact⟨by show k+1<=_;omega,λz hz=>by rw[mem_singleton.mp hz];exact hx,by simp;omega⟩
      | none =>
        obtain⟨m,rfl,w⟩:=hrec y e
        refine⟨w.k,λz hz=>?_,?_⟩
        ·rcases mem_append.mp hz with h|h
         ·exact w.m z h
         ·rw[mem_singleton.mp h];exact hx
        ·show((rec y).2++[x]).length<=_
         rw[length_append,length_singleton];have:=w.l;omega
   cases n with
   | zero=>exact go _ λy e=>absurd (f x y e) #[0]
   | succ m=>exact go _ λy e=>⟨m,rfl,wy7 B f m y (let ⟨r,h1,h2,_⟩:=yf1 e;⟨r,h1,h2⟩) (by have:=f x y e;omega)⟩
noncomputable def bar(rs:List Row):List Str->List Str->Bool
 | _,[]=>false
 | there,x::xs=>(qd0 rs there).any (λy=>decide (y∈xd6 rs x)) || bar rs (there++[x]) xs
noncomputable def xt2(rs:List Row)(rk:Str->Nat)(ys:List Str)(x:Str):PyData :=
 if bar rs (ys.take (J4 rs rk ys 13 x).1) (J4 rs rk ys 13 x).2=true then .tuple [.str "drop",.str "barred"]
 else if 20<(J4 rs rk ys 13 x).1+(J4 rs rk ys 13 x).2.length then .tuple [.str "drop",.str "deep"]
 else .tuple [.str "open",.int (J4 rs rk ys 13 x).1,.tuple (sDa (J4 rs rk ys 13 x).2)]
def qk7(K:Fg):Sp:=λvs H Q _=>∃v a ys rs,vs=[v,.ref a]/\Rws K H v rs/\SqT K H a (B0 ys)/\ys.length<=1000/\∀p H',A3 H H'->SqT K H' p (B0 (qd0 rs ys))->Q (.ref p) H'
def wb2(K:Fg):TS :=
 (B1 (B8 #[1,0] (A6 2))
 (B1 (qc8 (yj1 K #[4,1]) (xz4 K 2 (qf2 (A6 3) (qf2 (A6 4) yg7)))
 (M4 (tB (B9 (qf0 K) [] E0 (A1 (A0 0) #[4,4])))
 (B8 (tOp (qv7 K) (A0 3) #[1,1]) (A6 2)) J8))
 (E1 (tCB (ql3 K) (A1 (tSl (yp7 K) (A0 1) (O9 (A0 2)) U9) A5)))))
theorem yz1(h:qk7 K vs H Q E):wb2 K {nx:=λ_ H'=>Q .non H',rt:=Q} (C3 ["book","names","start","number","name"] vs) H:=by
 obtain⟨v,a,ys,rs,rfl,hR,hq,hl,q⟩:=h;show wb2 K _ [some v,some (.ref a),none,none,none] H;unfold wb2;lk;refine ye9 hq (λi σ H'=>A3 H H'/\∃(st:Nat) (a3 a4:Option V),σ=[some v,some (.ref a),some (.int st),a3,a4]/\st<=i/\qd0 rs (ys.take i)=(ys.take i).drop st) ⟨A3.refl _,0,none,none,rfl,Nat.le_refl _,rfl⟩ (λi σ H' p=>p.1.sqT hq) ?_ ?_
 ·rintro i x σ H' p hx ⟨s1,st,a3,a4,rfl,hst,hnr⟩ hp;obtain⟨y,hy,rfl⟩:=qm4 hx;have il:=(List.getElem?_eq_some_iff.mp hy).1;have etk:ys.take (i+1)=ys.take i++[y]:=by rw[take_add_one,hy];rfl
  have s2:A3 H (upd H' p (.tup [.int (i:Int),.str y])):=A3.tr s1 (A3.new hp _);refine⟨p,_,rfl,SqT.of A2,rfl,_,_,rfl,D0 ⟨_,_,rfl,D0 ⟨rfl,?_⟩⟩⟩;lk;refine⟨v,y,rs,rfl,hR.same s2,?_⟩;lk;cases hw:X0 rs y with
  | true =>
    x_go
    lk
    refine .inl (yi5 ?_)
    lk
    refine⟨s2,i+1,_,_,rfl,Nat.le_refl _,?_⟩
    rw[etk,xd4,if_pos hw,drop_eq_nil_of_le (by rw[length_append,length_take,length_singleton];omega)]
  | false =>
    k_go
    lk
    refine⟨s2,st,_,_,rfl,by omega,?_⟩
    rw[etk,xd4,if_neg (by rw[hw];exact Bool.false_ne_true),hnr,drop_append_of_le_length (by rw[length_take];omega)]
 ·rintro σ H' ⟨s1,st,a3,a4,rfl,hst,hnr⟩;rw[B2,take_length] at hnr;lk;refine yp8 (s1.sqT hq) λp H2 s2 hp=>?_;have e:qe8 (B0 ys) (some (st:Int)) none=B0 (qd0 rs ys):=by
   unfold qe8;rw[HT.R5];show((B0 ys).drop (min st (B0 ys).length)).take ((B0 ys).length-min st (B0 ys).length)=_;rw[B2] at hst ⊢;rw[Nat.min_eq_left hst,take_of_length_le (by rw[length_drop,B2];exact Nat.le_refl _),hnr];unfold B0;rw[map_drop]
  rw[e] at hp;lk;refine⟨p,_,rfl,.inr ⟨hp,?_⟩⟩;exact q p H2 (A3.tr s1 s2) hp
def W1(K:Fg):Sp:=λvs H Q _=>∃(a b:Addr) (ys zs:List Str),vs=[.ref a,.ref b]/\SqT K H a (B0 ys)/\SqT K H b (B0 zs)/\ys.length<=1000/\∀H',A3 H H'->Q (.bl (ys.any λy=>decide (y∈zs))) H'
def qg0(K:Fg):TS :=
 (E1 (tCB (zq1 K) (A1 (qr9 [some 1,none] (qy3 K (A0 0)) (A6 1) tTT (tOp (wa5 K false) (A0 1) (A0 0))) A5)))
theorem xk8(h:W1 K vs H Q E):qg0 K {nx:=λ_ H'=>Q .non H',rt:=Q} (C3 ["names","others"] vs) H:=by
 obtain⟨a,b,ys,zs,rfl,ha,hb,hl,q⟩:=h;show qg0 K _ [some (.ref a),some (.ref b)] H;unfold qg0;lk;refine zj9 (H0:=H) (.inr ha) (A3.refl _) (λi us H'=>H'=H/\us=((ys.take i).map λy=>decide (y∈zs)).map V.bl) ⟨rfl,rfl⟩ ?_ (λi us H' p=>p.1▸A3.refl _) ?_ ?_
 ·rintro i us H' hi ⟨_,rfl⟩;rw[length_map,length_map,length_take];exact C7 #[0]
 ·rintro i x us H' hx ⟨rfl,rfl⟩;obtain⟨y,hy,rfl⟩:=qm4 hx;lk;refine .inl (yi6 (.inr hb) rfl (W7 _) ?_);rw[qm3];refine⟨rfl,?_⟩;rw[take_add_one,hy];simp
 ·rintro us H' ⟨rfl,rfl⟩ p hp;rw[B2,take_length];lk;refine Ar9 (SqL.of A2) ?_;rw[any_map];exact q _ (A3.new hp _)
def Z9(K:Fg):Sp:=λvs H Q _=>∃v a ys x rs,vs=[v,.ref a,.str x]/\Rws K H v rs/\SqT K H a (B0 ys)/\ys.length<=1000/\(∃r∈rs,Row.name r=x)/\∀H',A3 H H'->Q (.int (xt1 rs ys x)) H'
def W2(K:Fg):TS :=
 (B1 (B8 (tOp (D7 K) (B9 (qf3 K) [] E0 (A1 (A0 0) #[4,2])) #[1,3]) (A6 3))
 (B1 (B8 (tOp (rI0 λi j=>.int (i-j)) (tCB (J6 K) #[4,1]) (tCB (J6 K) (A1 (B9 (qk7 K) [] E0 (A1 (A0 0) #[4,1])) A5))) (A6 4))
 (B1 (qc8 (zc0 (A1 (A0 4) (A1 (tCB (J6 K) #[4,1]) A5))) (A6 5)
 (M4 (C1 (tOp (wa5 K false) (tOp (D7 K) (A0 1) (A0 5)) (A0 3)))
 (E1 (A0 5)) J8))
 (E1 (tCB (J6 K) #[4,1])))))
theorem xd8(h:Z9 K vs H Q E):W2 K {nx:=λ_ H'=>Q .non H',rt:=Q} (C3 ["book","names","name","shuts","first_near","number"] vs) H:=by
 obtain⟨v,a,ys,x,rs,rfl,hR,hq,hl,hx,q⟩:=h;show W2 K _ [some v,some (.ref a),some (.str x),none,none,none] H;unfold W2;obtain⟨r,er,mr,nr⟩:=yy8 hx;have hsh:wf0 rs x=r.shuts:=by unfold wf0;rw[er]
 lk;refine⟨v,some x,rs,rfl,hR,λe=>(by rw[er] at e;cases e),λr2 u e hu=>?_⟩;rw[er] at e;injection e with e;subst e;obtain⟨b,ps,pb,rfl,hb,h1,h2⟩:=yj4 hu;lk;refine P6 hb rfl ?_;lk;refine M6 (.inr hq) ?_;rw[B2];lk;refine⟨v,a,ys,rs,rfl,hR,hq,hl,λp H1 s1 hp=>?_⟩;have nl:=wl5 rs ys.length ys rfl;lk;refine M6 (.inr hp) ?_;rw[B2];lk;refine M6 (.inr (s1.sqT hq)) ?_;rw[B2];have e1:(ys.length:Int)-((qd0 rs ys).length:Int)=((ys.length-(qd0 rs ys).length:Nat):Int):=by omega
 rw[e1];refine zo7 #[0] #[0] #[0] (λi σ H'=>H'=H1/\(∃w,σ=[some v,some (.ref a),some (.str x),some (.ref ps),some (.int ((ys.length-(qd0 rs ys).length:Nat):Int)),w])/\xt1 rs ys x=kpt ys r.shuts (ys.length-(qd0 rs ys).length+i) ((qd0 rs ys).length-i)) ⟨rfl,⟨_,rfl⟩,by unfold xt1;rw[hsh];rfl⟩ ?_ ?_
 ·rintro i σ H' hi ⟨rfl,⟨w,rfl⟩,hk⟩;obtain⟨m,hm⟩:∃m:Nat,(qd0 rs ys).length-i=m+1:=⟨(qd0 rs ys).length-i-1,by omega⟩;have e2:((ys.length-(qd0 rs ys).length:Nat):Int)+(i:Int)=((ys.length-(qd0 rs ys).length+i:Nat):Int):=by omega
  rw[hm,kpt] at hk;rw[e2];lk;refine P6 (s1.sqT hq) (qn8 #[0]) ?_;lk;refine .inl (yi6 (.inr (s1.sqT h1)) rfl (W7 _) ?_);rw[qm3];lk;by_cases hs:gd ys (ys.length-(qd0 rs ys).length+i)∈r.shuts
  ·rw[decide_eq_true hs];x_go;lk;rw[if_pos hs] at hk;rw[hk] at q;exact q _ s1
  ·rw[decide_eq_false hs];k_go;lk;rw[if_neg hs] at hk;exact⟨rfl,⟨_,rfl⟩,by rw[hk,show(qd0 rs ys).length-(i+1)=m by omega];rfl⟩
 ·rintro σ H' ⟨rfl,⟨w,rfl⟩,hk⟩;lk;refine M6 (.inr (s1.sqT hq)) ?_;rw[B2];have e3:(((ys.length:Int)-((ys.length-(qd0 rs ys).length:Nat):Int))).toNat=(qd0 rs ys).length:=by omega
  rw[e3,Nat.sub_self,kpt,show ys.length-(qd0 rs ys).length+(qd0 rs ys).length=ys.length by omega] at hk;rw[hk] at q;exact q _ s1
def qq0(K:Fg):Sp:=λvs H Q _=>∃v a b ks ps rs,vs=[v,.ref a,.ref b]/\Rws K H v rs/\SqT K H a (B0 ks)/\SqT K H b (B0 ps)/\ks.length<=100/\ps.length<=100/\(∀z∈ps,∃r∈rs,Row.name r=z)/\∀H',A3 H H'->Q (.bl (bar rs ks ps)) H'
def qm6(K:Fg):TS :=
 (B1 (qc8 (yj1 K #[4,2]) (xz4 K 2 (qf2 (A6 3) (qf2 (A6 4) yg7)))
 (B1 (B8 (B9 (qk7 K) [] E0 (A1 (A0 0) (A1 (tOp (qv7 K) (A0 1) (tSl (yp7 K) (A0 2) U9 (O9 (A0 3)))) A5))) (A6 5))
 (M4 (tB (B9 (W1 K) [] E0 (A1 (A0 5) (A1 (tOp (D7 K) (B9 (qf3 K) [] E0 (A1 (A0 0) #[4,4])) #[1,4]) A5))))
 (E1 (tC (.bl true))) J8)))
 (E1 (tC (.bl false))))
theorem yj7(h:qq0 K vs H Q E):qm6 K {nx:=λ_ H'=>Q .non H',rt:=Q} (C3 ["book","kept","put","number","name","near"] vs) H:=by
 obtain⟨v,a,b,ks,ps,rs,rfl,hR,ha,hb,hlk,hlp,hps,q⟩:=h;show qm6 K _ [some v,some (.ref a),some (.ref b),none,none,none] H;unfold qm6;lk;refine ye9 hb (λi σ H'=>A3 H H'/\∃(a3 a4 a5:Option V),σ=[some v,some (.ref a),some (.ref b),a3,a4,a5]/\bar rs ks ps=bar rs (ks++ps.take i) (ps.drop i)) ⟨A3.refl _,none,none,none,rfl,by simp⟩ (λi σ H' p=>p.1.sqT hb) ?_ ?_
 ·rintro i x σ H' p hx ⟨s1,a3,a4,a5,rfl,hbr⟩ hp;obtain⟨y,hy,rfl⟩:=qm4 hx;have il:=(List.getElem?_eq_some_iff.mp hy).1;have etk:ps.take (i+1)=ps.take i++[y]:=by rw[take_add_one,hy];rfl
  have edr:ps.drop i=y::ps.drop (i+1):=by
   obtain⟨hil,he⟩:=List.getElem?_eq_some_iff.mp hy;rw[drop_eq_getElem_cons hil,he]
  rw[edr,bar] at hbr;have s2:A3 H (upd H' p (.tup [.int (i:Int),.str y])):=A3.tr s1 (A3.new hp _);obtain⟨r,er,mr,nr⟩:=yy8 (hps y (mem_of_getElem? hy));have hba:xd6 rs y=r.bars:=by unfold xd6;rw[er]
  refine⟨p,_,rfl,SqT.of A2,rfl,_,_,rfl,D0 ⟨_,_,rfl,D0 ⟨rfl,?_⟩⟩⟩;lk;refine yp8 (s2.sqT hb) λp3 H3 s3 hp3=>?_;rw[xt0] at hp3;have s23:=A3.tr s2 s3;refine wt5 (s23.sqT ha) hp3 (by rw[B2,B2,length_take];exact C7 #[0]) λp4 H4 s4 hp4=>?_;have e4:B0 ks++B0 (ps.take i)=B0 (ks++ps.take i):=by simp[B0]
  rw[e4] at hp4;have s24:=A3.tr s23 s4;lk;refine⟨v,p4,ks++ps.take i,rs,rfl,hR.same s24,hp4,by rw[length_append,length_take];omega,λp5 H5 s5 hp5=>?_⟩;have s25:=A3.tr s24 s5;have nl:=wl5 rs _ (ks++ps.take i) rfl;rw[length_append,length_take] at nl;lk;refine⟨v,some y,rs,rfl,hR.same s25,λe=>(by rw[er] at e;cases e),λr2 u e hu=>?_⟩;rw[er] at e;injection e with e;subst e;obtain⟨b6,p6,p7,rfl,hb6,_,h7⟩:=yj4 hu;lk;refine P6 hb6 rfl ?_;lk;refine⟨p5,p7,qd0 rs (ks++ps.take i),r.bars,rfl,hp5,h7,by omega,λH8 s8=>?_⟩;have s28:=A3.tr s25 s8;lk;rw[hba] at hbr;cases hc:(qd0 rs (ks++ps.take i)).any (λz=>decide (z∈r.bars)) with
  | true =>
    x_go
    lk
    rw[hc,Bool.true_or] at hbr
    rw[hbr] at q
    exact q _ s28
  | false =>
    k_go
    lk
    rw[hc,Bool.false_or] at hbr
    exact⟨s28,_,_,_,rfl,by rw[hbr,etk,append_assoc]⟩
 ·rintro σ H' ⟨s1,a3,a4,a5,rfl,hbr⟩;lk;rw[B2,drop_length,bar] at hbr;rw[hbr] at q;exact q _ s1
def V2(K:Fg):Sp:=λvs H Q _=>∃v a ys x rs,vs=[v,.ref a,.str x]/\Rws K H v rs/\Boo rs/\SqT K H a (B0 ys)/\ys.length<=1000/\(∃r∈rs,Row.name r=x)/\∀p p2 H',A3 H H'->SqT K H' p [.int (qy5 rs ys x).1,.ref p2]->SqT K H' p2 (B0 (qy5 rs ys x).2)->Q (.ref p) H'
def R9(K:Fg):TS :=
 (B1 (B8 (B9 (W0 K) [] E0 (A1 (A0 0) (A1 (B9 (O2 K) [] E0 #[4,1]) A5))) (A6 3))
 (B1 (M4 (C1 (tOp xj8 (tCB (J6 K) #[4,3]) #[1,0]))
 (E1 (Y1 (A1 (tCB (J6 K) #[4,1]) (A1 (tOp (qv7 K) (A0 3) (Y1 #[4,2])) A5)))) J8)
 (E1 (Y1 (A1 (B9 (Z9 K) [] E0 (A1 (A0 0) (A1 (A0 1) #[4,2]))) (A1 (Y1 #[4,2]) A5))))))
theorem wu0(h:V2 K vs H Q E):R9 K {nx:=λ_ H'=>Q .non H',rt:=Q} (C3 ["book","names","name","hosts"] vs) H:=by
 obtain⟨v,a,ys,x,rs,rfl,hR,B,hq,hl,hx,q⟩:=h;show R9 K _ [some v,some (.ref a),some (.str x),none] H;unfold R9;lk;refine⟨a,ys,rfl,.inr hq,?_⟩;lk;refine⟨v,_,rs,rfl,hR,B,λp H1 s1 hp=>?_⟩;have hlen:(L5 rs (T9 ys)).length<=12:=qr5 rs 12 _;lk;refine M6 (.inr hp) ?_;rw[B2];lk;by_cases h0:L5 rs (T9 ys)=[]
 ·rw[decide_eq_false (by rw[h0];simp)];k_go;have eg:qy5 rs ys x=(xt1 rs ys x,[x]):=by unfold qy5;rw[if_pos h0]
  lk;refine⟨v,a,ys,x,rs,rfl,hR.same s1,s1.sqT hq,hl,hx,λH2 s2=>?_⟩;lk;refine⟨C7 (by z_go),λp3 hp3=>?_⟩;lk;refine⟨C7 (by z_go),λp4 hp4=>?_⟩;rw[eg] at q;exact q p4 p3 _ (A3.tr s1 (A3.tr s2 (A3.tr (A3.new hp3 _) (A3.new hp4 _)))) (SqT.of A2) ((A3.new hp4 _).sqT (SqT.of A2))
 ·rw[decide_eq_true (by have:=length_pos_iff.mpr h0;omega)];x_go;have eg:qy5 rs ys x=(ys.length,L5 rs (T9 ys)++[x]):=by unfold qy5;rw[if_neg h0]
  lk;refine M6 (.inr (s1.sqT hq)) ?_;rw[B2];lk;refine⟨C7 (by z_go),λp3 hp3=>?_⟩;refine wt5 ((A3.new hp3 _).sqT hp) (SqT.of A2) (by rw[B2];exact C7 (by simp;omega)) λp4 H4 s4 hp4=>?_;rw[wl2] at hp4;lk;refine⟨C7 (by z_go),λp5 hp5=>?_⟩;rw[eg] at q;exact q p5 p4 _ (A3.tr s1 (A3.tr (A3.new hp3 _) (A3.tr s4 (A3.new hp5 _)))) (SqT.of A2) ((A3.new hp5 _).sqT hp4)
def qs7(n:Nat)(K:Fg):Sp:=λvs H Q _=>∃v a ys x rs rk,vs=[v,.ref a,.str x]/\Rws K H v rs/\Boo rs/\wx5 rs rk/\SqT K H a (B0 ys)/\ys.length<=1000/\(∃r∈rs,Row.name r=x)/\rk x<=n/\n<=50/\∀p p2 H',A3 H H'->SqT K H' p [.int (J4 rs rk ys n x).1,.ref p2]->SqT K H' p2 (B0 (J4 rs rk ys n x).2)->Q (.ref p) H'
def yf2(K:Fg):Sp:=qs7 13 K
def qm7(K:Fg):Nat->Sp
 | 0=>λ_ _ _ _=>False
 | n+1=>qs7 n K
def wl6(K:Fg)(spr:Sp):TS :=
 (B1 (B8 (B9 (qf4 K) [] E0 (A1 (A0 0) #[4,2])) (A6 3))
 (B1 (M4 (C1 (tOp xz8 (A0 3) (tC .non)))
 (E1 (B9 (V2 K) [] E0 (A1 (A0 0) (A1 (A0 1) #[4,2])))) J8)
 (B1 (B8 (B9 (qs6 K) [] E0 (A1 (A0 0) (A1 (A0 1) #[4,3]))) (A6 4))
 (B1 (M4 (C1 (tOp qv6 (A0 4) (tC .non)))
 (E1 (Y1 (A1 (tOp (qv7 K) (A0 4) #[1,1]) (A1 (Y1 #[4,2]) A5)))) J8)
 (B1 (B8 (B9 spr [] E0 (A1 (A0 0) (A1 (A0 1) #[4,3]))) (A6 5))
 (E1 (Y1 (A1 (tOp (D7 K) (A0 5) #[1,0]) (A1 (tOp (qv7 K) (tOp (D7 K) (A0 5) #[1,1]) (Y1 #[4,2])) A5)))))))))
theorem yf3(n:Nat)(h:qs7 n K vs H Q E):wl6 K (qm7 K n) {nx:=λ_ H'=>Q .non H',rt:=Q} (C3 ["book","names","name","frame","number","plan"] vs) H:=by
 obtain⟨v,a,ys,x,rs,rk,rfl,hR,B,f,hq,hl,hx,hn,hn50,q⟩:=h;show wl6 K _ _ [some v,some (.ref a),some (.str x),none,none,none] H;unfold wl6;have ew:∃rec,J4 rs rk ys n x=xi8 rs rk ys rec x/\∀m,n=m+1->rec=J4 rs rk ys m:=by
  cases n with
  | zero=>exact⟨_,rfl,λm h=>by cases h⟩
  | succ m=>exact⟨_,rfl,λk h=>by injection h with h;rw[h]⟩
 obtain⟨rec,ew,hrec⟩:=ew;rw[ew] at q;unfold xi8 at q;lk;refine⟨v,some x,rs,rfl,hR,?_⟩;lk;cases ef:L9 rs (some x) with
 | none =>
   rw[ef] at q
   dsimp only at q
   rw[decide_eq_true (show oV none=V.non from rfl)]
   x_go
   lk
   exact⟨v,a,ys,x,rs,rfl,hR,B,hq,hl,hx,q⟩
 | some y =>
   rw[ef] at q
   dsimp only at q
   have hyx:=f x y ef
   obtain⟨ry,my,ny,_⟩:=yf1 ef
   rw[decide_eq_false (show ¬oV (some y)=V.non by simp[oV])]
   k_go
   lk
   refine⟨v,a,ys,y,rs,rk,rfl,hR,f,.inr hq,hl,?_⟩
   lk
   cases ec:clo rs rk ys y ys.length with
   | some k =>
     rw[ec] at q
     dsimp only at q
     rw[decide_eq_false (show ¬nV (some k)=V.non by simp[nV]),Bool.not_false]
     x_go
     lk
     refine .inl (yi5 ?_)
     lk
     refine⟨C7 (by z_go),λp3 hp3=>?_⟩
     lk
     refine⟨C7 (by z_go),λp4 hp4=>?_⟩
     exact q p4 p3 _ (A3.tr (A3.new hp3 _) (A3.new hp4 _)) (SqT.of A2) ((A3.new hp4 _).sqT (SqT.of A2))
   | none =>
     rw[ec] at q
     dsimp only at q
     rw[decide_eq_true (show nV none=V.non from rfl),Bool.not_true]
     k_go
     obtain⟨m,rfl⟩:∃m,n=m+1:=⟨n-1,by omega⟩
     rw[hrec m rfl] at q
     have wk:=wy7 B f (ys:=ys) m y ⟨ry,my,ny⟩ #[0]
     lk
     refine⟨v,a,ys,y,rs,rk,rfl,hR,B,f,hq,hl,⟨ry,my,ny⟩,by omega,by omega,λp p2 H1 s1 hp hp2=>?_⟩
     lk
     refine P6 hp rfl ?_
     lk
     refine P6 hp rfl ?_
     lk
     refine⟨C7 (by z_go),λp3 hp3=>?_⟩
     refine wt5 ((A3.new hp3 _).sqT hp2) (SqT.of A2) (by rw[B2];exact C7 (by have:=wk.l;simp;omega)) λp4 H4 s4 hp4=>?_
     rw[wl2] at hp4
     lk
     refine⟨C7 (by z_go),λp5 hp5=>?_⟩
     exact q p5 p4 _ (A3.tr s1 (A3.tr (A3.new hp3 _) (A3.tr s4 (A3.new hp5 _)))) (SqT.of A2) ((A3.new hp5 _).sqT hp4)
def wf1(K:Fg):Sp:=λvs H Q _=>∃v a ys x rs rk,vs=[v,.ref a,.str x]/\Rws K H v rs/\Boo rs/\wx5 rs rk/\SqT K H a (B0 ys)/\ys.length<=50/\(∃r∈rs,Row.name r=x)/\rk x<=13/\∀p H',A3 H H'->Dv K H' (xt2 rs rk ys x) (.ref p)->Q (.ref p) H'
def wb3(K:Fg):TS :=
 (B1 (B8 (B9 (yf2 K) [] E0 (A1 (A0 0) (A1 (A0 1) #[4,2]))) (A6 3))
 (B1 (B8 (tCB (ql3 K) (A1 (tSl (yp7 K) (A0 1) U9 (O9 (tOp (D7 K) (A0 3) #[1,0]))) A5)) (A6 4))
 (B1 (B8 (tOp (D7 K) (A0 3) #[1,1]) (A6 5))
 (B1 (M4 (tB (B9 (qq0 K) [] E0 (A1 (A0 0) (A1 (A0 4) #[4,5]))))
 (E1 (Y1 (A1 (tC (.str "drop")) (A1 (tC (.str "barred")) A5)))) J8)
 (B1 (M4 (C1 (tOp xj8 (tOp (qv7 K) (tCB (J6 K) #[4,4]) (tCB (J6 K) #[4,5])) #[1,20]))
 (E1 (Y1 (A1 (tC (.str "drop")) (A1 (tC (.str "deep")) A5)))) J8)
 (E1 (Y1 (A1 (tC (.str "open")) (A1 (tCB (J6 K) #[4,4]) #[4,5])))))))))
theorem yz2(h:wf1 K vs H Q E):wb3 K {nx:=λ_ H'=>Q .non H',rt:=Q} (C3 ["book","names","name","plan","kept","put"] vs) H:=by
 obtain⟨v,a,ys,x,rs,rk,rfl,hR,B,f,hq,hl,hx,hn,q⟩:=h;show wb3 K _ [some v,some (.ref a),some (.str x),none,none,none] H;unfold wb3;have wk:=wy7 B f (ys:=ys) 13 x hx hn;lk;refine⟨v,a,ys,x,rs,rk,rfl,hR,B,f,hq,by omega,hx,hn,by decide,λp p2 H1 s1 hp hp2=>?_⟩;have wkk:=wk.k;have wkl:=wk.l;have il:(ys.take (J4 rs rk ys 13 x).1).length=(J4 rs rk ys 13 x).1:=by rw[length_take];omega
 unfold xt2 at q;generalize J4 rs rk ys 13 x=W at *
 lk;refine P6 hp rfl ?_;lk;refine yp8 (s1.sqT hq) λp3 H3 s3 hp3=>?_;rw[xt0] at hp3;lk;refine⟨p3,_,rfl,.inr ⟨hp3,?_⟩⟩;lk;refine P6 (s3.sqT hp) rfl ?_;lk;refine⟨v,p3,p2,_,_,rs,rfl,hR.same (A3.tr s1 s3),hp3,s3.sqT hp2,by omega,by omega,wk.m,λH4 s4=>?_⟩;have s14:=A3.tr s1 (A3.tr s3 s4);lk;cases hb:bar rs (ys.take W.1) W.2 with
 | true =>
   rw[hb,if_pos rfl] at q
   x_go
   lk
   refine⟨C7 (by z_go),λp5 hp5=>?_⟩
   exact q p5 _ (A3.tr s14 (A3.new hp5 _)) (C6.mpr ⟨p5,_,rfl,SqT.of A2,C0 (D6.mpr rfl) (C0 (D6.mpr rfl) E4)⟩)
 | false =>
   rw[hb,if_neg Bool.false_ne_true] at q
   k_go
   lk
   refine M6 (.inr (s4.sqT hp3)) ?_
   rw[B2,il]
   lk
   refine M6 (.inr ((A3.tr s3 s4).sqT hp2)) ?_
   rw[B2]
   refine .inl (yi5 ?_)
   lk
   by_cases h20:20<W.1+W.2.length
   ·rw[if_pos h20] at q
    rw[decide_eq_true #[0]]
    x_go
    lk
    refine⟨C7 (by z_go),λp5 hp5=>?_⟩
    exact q p5 _ (A3.tr s14 (A3.new hp5 _)) (C6.mpr ⟨p5,_,rfl,SqT.of A2,C0 (D6.mpr rfl) (C0 (D6.mpr rfl) E4)⟩)
   ·rw[if_neg h20] at q
    rw[decide_eq_false #[0]]
    k_go
    lk
    refine M6 (.inr (s4.sqT hp3)) ?_
    rw[B2,il]
    lk
    refine⟨C7 (by z_go),λp5 hp5=>?_⟩
    have s5:=A3.new hp5 (.tup [.str "open",.int (W.1:Int),.ref p2])
    exact q p5 _ (A3.tr s14 s5) (C6.mpr ⟨p5,_,rfl,SqT.of A2,C0 (D6.mpr rfl) (C0 (J7.mpr rfl) (C0 (C6.mpr ⟨p2,_,rfl,(A3.tr (A3.tr s3 s4) s5).sqT hp2,qp7.mpr rfl⟩) E4))⟩)
namespace TX
open PySem PySem.StrLaws PySem.Builtin PySem.Builtin.Str
noncomputable def rep(Y Z:List Nat):Nat->List Nat->List Nat
 | _,[]=>[]
 | k+1,_::l=>rep Y Z k l
 | 0,c::l=>if Y.isPrefixOf (c::l)=true then Z++rep Y Z (Y.length-1) l else c::rep Y Z 0 l
theorem yr6(Y Z:List Nat):∀(k:Nat) (l:List Nat),rep Y Z k l=rep Y Z 0 (l.drop k)
 | 0,l=>by simp
 | k+1,[]=>by simp[rep]
 | k+1,_::l=>by rw[rep,yr6 Y Z k l];simp
theorem rep_yes{Y Z l:List Nat}(h0:1<=Y.length)(h:Y <+: l):rep Y Z 0 l=Z++rep Y Z 0 (l.drop Y.length):=by
 cases l with
 | nil=>rw[prefix_nil] at h;subst h;simp at h0
 | cons c l =>
   rw[rep,if_pos (isPrefixOf_iff_prefix.mpr h),yr6]
   congr 2
   cases Y with
   | nil=>simp at h0
   | cons y Y=>simp
theorem rep_no{Y Z l:List Nat}{c:Nat}(h:¬Y <+: c::l):rep Y Z 0 (c::l)=c::rep Y Z 0 l:=by
 rw[rep,if_neg (by rw[isPrefixOf_iff_prefix];exact h)]
theorem yr7{Y Z:List Nat}:∀(l:List Nat),(∀j,j<l.length->¬Y <+: l.drop j)->rep Y Z 0 l=l
 | [],_=>rfl
 | c::l,h=>by
   rw[rep_no (h 0 (by simp)),yr7 l λj hj=>by have:=h (j+1) (by simpa using hj);simpa using this]
theorem zs6{Y Z:List Nat}(h0:1<=Y.length):∀(d:Nat) (l:List Nat),(∀j,j<d->¬Y <+: l.drop j)->Y <+: l.drop d->rep Y Z 0 l=l.take d++Z++rep Y Z 0 (l.drop (d+Y.length))
 | 0,l,_,h=>by simpa using rep_yes h0 (by simpa using h)
 | d+1,[],_,h=>by rw[drop_nil,prefix_nil] at h;subst h;simp at h0
 | d+1,c::l,hn,h=>by
   rw[rep_no (hn 0 #[0]),zs6 h0 d l (λj hj=>by have:=hn (j+1) #[0];simpa using this) (by simpa using h)];have e:d+1+Y.length=(d+Y.length)+1:=by omega
   rw[e];simp
theorem yz3{x y:Str}(h0:1<=y.length)(k:Nat):At x y x.length k↔y.cps.toList <+: x.cps.toList.drop k:=by
 have hn:x.cps.toList.length=x.length:=by simp[Str.length]
 have hy:y.cps.toList.length=y.length:=by simp[Str.length]
 unfold At;rw[subAt_eq,beq_iff_eq,prefix_iff_eq_take,hy];constructor
 ·rintro⟨_,h⟩;exact h.symm
 ·intro h;refine⟨?_,h.symm⟩;have:=congrArg List.length h;rw[length_take,length_drop,hy,hn] at this;omega
theorem zs7(sep a y:Str)(r:List Str):Str.join sep (a::y::r)=a++sep++Str.join sep (y::r):=by
 rfl
theorem yf4{x y z:Str}(h0:1<=y.length):∀(cuts:List Nat) (a f:Nat),ChainG x y x.length a cuts f->(∀k,f<=k->¬At x y x.length k) ->
 (Str.join z (partsFrom x y.length a cuts)).cps.toList=rep y.cps.toList z.cps.toList 0 (x.cps.toList.drop a)
 | [],a,f,h,hn=>by
   have e:f=a:=h;subst e;have hx:x.cps.toList.length=x.length:=by simp[Str.length]
   rw[yr7 _ λj hj hp=>hn (f+j) #[0] ((yz3 h0 _).mpr (by rw[<-drop_drop];exact hp))];show(strSub x f x.length).cps.toList=_;rw[strSub_toList,take_of_length_le (by rw[length_drop,hx];exact Nat.le_refl _)]
 | c::r,a,f,h,hn=>by
   obtain⟨h1,h2,h3,h4⟩:=h;have hy:y.cps.toList.length=y.length:=by simp[Str.length]
   have hp:y.cps.toList <+: (x.cps.toList.drop a).drop (c-a):=by
    rw[drop_drop,show a+(c-a)=c by omega];exact(yz3 h0 c).mp h2
   rw[zs6 (by rw[hy];exact h0) (c-a) _ (λj hj hq=>h3 (a+j) #[0] #[0] ((yz3 h0 _).mpr (by rw[<-drop_drop];exact hq))) hp];rw[drop_drop,hy,show a+(c-a+y.length)=c+y.length by omega,<-yf4 h0 r (c+y.length) f h4 hn];obtain⟨p,q,e⟩:=partsFrom_ne x y.length (c+y.length) r;show(Str.join z (strSub x a c::partsFrom x y.length (c+y.length) r)).cps.toList=_;rw[e,zs7];simp only[Str.cps_append,Array.toList_append,strSub_toList]
theorem replace_rep(x y z:Str)(h0:1<=y.length):(Txt.replace x y z).cps.toList=rep y.cps.toList z.cps.toList 0 x.cps.toList:=by
 obtain⟨f,h1,h2⟩:=occ_tight x y h0;have hy:(y.length == 0)=false:=by simp;omega
 have key:=yf4 (z:=z) h0 _ 0 f h1 h2;rw[drop_zero] at key;unfold Txt.replace;rw[hy,Bool.false_and,Bool.or_false];cases ho:occurrences x y 0 x.length (x.length+1) with
 | nil =>
   rw[if_pos (by simp),<-key,ho]
   show _=(strSub x 0 x.length).cps.toList
   rw[sub_whole]
 | cons c r =>
   rw[if_neg (by simp),glued_eq_join,partsBetween_eq,<-ho,key]
noncomputable abbrev El:List Nat:=[38,108,59]
noncomputable abbrev Ea:List Nat:=[38,97,59]
noncomputable def told:Nat->List Nat->List Nat
 | _,[]=>[]
 | k+1,_::l=>told k l
 | 0,c::l=>if El.isPrefixOf (c::l)=true then 60::told 2 l else if Ea.isPrefixOf (c::l)=true then 38::told 2 l else c::told 0 l
theorem xd9:∀(k:Nat) (l:List Nat),told k l=told 0 (l.drop k)
 | 0,l=>by simp
 | k+1,[]=>by simp[told]
 | k+1,_::l=>by rw[told,xd9 k l];simp
theorem Al8{l:List Nat}:told 0 (38::108::59::l)=60::told 0 l:=by
 rw[told,if_pos (by simp[List.isPrefixOf]),xd9];rfl
theorem Al9{l:List Nat}:told 0 (38::97::59::l)=38::told 0 l:=by
 rw[told,if_neg (by simp[List.isPrefixOf]),if_pos (by simp[List.isPrefixOf]),xd9];rfl
theorem Am0{c:Nat}{l:List Nat}(h1:¬El <+: c::l)(h2:¬Ea <+: c::l):told 0 (c::l)=c::told 0 l:=by
 rw[told,if_neg (by rw[isPrefixOf_iff_prefix];exact h1),if_neg (by rw[isPrefixOf_iff_prefix];exact h2)]
theorem zk2{a b c:Nat}{l:List Nat}:[a,b,c] <+: l↔∃r,l=a::b::c::r:=by
 constructor
 ·rintro⟨r,e⟩;exact⟨r,e.symm⟩
 ·rintro⟨r,rfl⟩;exact⟨r,rfl⟩
theorem yz4{a b c d:Nat}{l:List Nat}(h:d≠a):¬[a,b,c] <+: d::l:=by
 rw[zk2];rintro⟨r,e⟩;injection e with e _;exact h e
theorem yr8{c:Nat}{l r:List Nat}(hc:c≠60)(h:rep El [60] 0 l=c::r):∃l',l=c::l'/\r=rep El [60] 0 l':=by
 cases l with
 | nil=>cases h
 | cons d l =>
   by_cases hp:El <+: d::l
   ·rw[rep_yes (by simp) hp] at h
    injection h with e _
    exact absurd e.symm hc
   ·rw[rep_no hp] at h
    injection h with e1 e2
    subst e1
    exact⟨l,rfl,e2.symm⟩
theorem two_reps:∀(n:Nat) (l:List Nat),l.length<=n->rep Ea [38] 0 (rep El [60] 0 l)=told 0 l
 | _,[],_=>rfl
 | 0,_::_,h=>by simp at h
 | n + 1,c::l,h=>by
   have h:l.length<=n:=by simpa using h
   by_cases h1:El <+: c::l
   ·obtain⟨r,e⟩:=zk2.mp h1;rw[e] at h1 ⊢;have hr:r.length<=n:=by
     injection e with _ e;rw[e] at h;simp at h;omega
    rw[rep_yes (by simp) h1,Al8];show rep Ea [38] 0 (60::rep El [60] 0 r)=_;rw[rep_no (yz4 #[7]),two_reps n r hr]
   ·rw[rep_no h1];by_cases h2:Ea <+: c::l
    ·obtain⟨r,e⟩:=zk2.mp h2;have hr:r.length<=n:=by
      injection e with _ e;rw[e] at h;simp at h;omega
     injection e with ec e;subst ec e;rw[Al9,rep_no (Y:=El) (Z:=[60]) (c:=97) (l:=59::r) (yz4 #[7]),rep_no (Y:=El) (Z:=[60]) (c:=59) (l:=r) (yz4 #[7]),rep_yes (Y:=Ea) (Z:=[38]) (by simp) (zk2.mpr ⟨_,rfl⟩)];show 38::rep Ea [38] 0 (rep El [60] 0 r)=_;rw[two_reps n r hr]
    ·rw[Am0 h1 h2,rep_no λhp=>?_,two_reps n l h];obtain⟨r,e⟩:=zk2.mp hp;injection e with ec e;obtain⟨l',rfl,e2⟩:=yr8 #[7] e;obtain⟨l'',rfl,e3⟩:=yr8 #[7] e2.symm;subst ec;exact h2 (zk2.mpr ⟨l'',rfl⟩)
end TX
namespace TX
open PySem
noncomputable def letter(c:Nat):Bool:=decide (97<=c) && decide (c<=122)
noncomputable def nm(d:List Nat):Option Nat:=if 1<=(d.takeWhile letter).length/\(d.takeWhile letter).length<=8/\d[(d.takeWhile letter).length]?=some 62 then some (d.takeWhile letter).length else none
noncomputable def nst(l:List Nat)(k:Nat):Nat:=if l[k+1]?=some 47 then k+2 else k+1
noncomputable def tagAt(l:List Nat)(k:Nat):Option (Nat×Nat):=if l[k]?=some 60 then(nm (l.drop (nst l k))).map λn=>(nst l k,nst l k+n+1) else none
theorem nst_gt(l:List Nat)(k:Nat):k<nst l k:=by unfold nst;split <;> omega
theorem zs8{p:Nat->Bool}:∀(d:List Nat) (n:Nat),(∀i,i<n->∃c,d[i]?=some c/\p c=true)->(∀c,d[n]?=some c->p c=false)->(d.takeWhile p).length=n
 | [],0,_,_=>rfl
 | [],n+1,h,_=>by obtain⟨c,e,_⟩:=h 0 #[0];simp at e
 | c::d,0,_,h=>by rw[takeWhile_cons,h c rfl];rfl
 | c::d,n+1,h,h2=>by
   obtain⟨c',e,hc⟩:=h 0 #[0];have:c=c':=by simpa using e
   subst this;rw[takeWhile_cons,hc];simp only[if_true,length_cons];rw[zs8 d n (λi hi=>by have:=h (i+1) #[0];simpa using this) (λc e=>h2 c (by simpa using e))]
theorem zs9{p:Nat->Bool}:∀(d:List Nat) (i:Nat),i<(d.takeWhile p).length->∃c,d[i]?=some c/\p c=true
 | [],i,h=>by simp at h
 | c::d,0,h=>by
   rw[takeWhile_cons] at h;cases hc:p c with
   | true=>exact⟨c,rfl,hc⟩
   | false=>rw[hc] at h;simp at h
 | c::d,i+1,h=>by
   rw[takeWhile_cons] at h;cases hc:p c with
   | true=>rw[hc] at h;simp at h;obtain⟨c',e,h'⟩:=zs9 d i h;exact⟨c',by simpa using e,h'⟩
   | false=>rw[hc] at h;simp at h
theorem yz5:letter 62=false:=by decide
theorem nm_iff{d:List Nat}{n:Nat}:nm d=some n↔1<=n/\n<=8/\(∀i,i<n->∃c,d[i]?=some c/\letter c=true)/\d[n]?=some 62:=by
 constructor
 ·intro h;unfold nm at h;split at h
  ·rename_i hc;have e:(d.takeWhile letter).length=n:=by simpa using h
   rw[e] at hc;exact⟨hc.1,hc.2.1,λi hi=>zs9 d i (by rw[e];exact hi),hc.2.2⟩
  ·cases h
 ·rintro⟨h1,h2,h3,h4⟩;have e:(d.takeWhile letter).length=n:=zs8 d n h3 λc e=>by rw[h4] at e;cases e;exact yz5
  unfold nm;rw[e,if_pos ⟨h1,h2,h4⟩]
theorem tagAt_gt{l:List Nat}{k f e:Nat}(h:tagAt l k=some (f,e)):k<e/\e<=l.length/\f=nst l k/\f<e-1/\l[k]?=some 60/\nm (l.drop f)=some (e-1-f):=by
 unfold tagAt at h;split at h
 ·rename_i h60;obtain⟨n,hn,e1⟩:=Option.map_eq_some_iff.mp h;injection e1 with ef ee;subst ef ee;obtain⟨h1,h2,h3,h4⟩:=nm_iff.mp hn;have:=nst_gt l k;rw[List.getElem?_drop] at h4;have:=(List.getElem?_eq_some_iff.mp h4).1;exact⟨by omega,by omega,rfl,by omega,h60,by rw[hn];congr 1;omega⟩
 ·cases h
noncomputable def ofL(xs:List Nat):Str:=⟨xs.toArray⟩
noncomputable def runD(l:List Nat)(a b:Nat):PyData:=.tuple [.str "run",.int a,.int b,.str (ofL (told 0 ((l.drop a).take (b-a))))]
noncomputable def tagD(l:List Nat)(k f e:Nat):PyData:=.tuple [.str (if f=k+1 then "open" else "close"),.int k,.int e,.str (ofL ((l.drop f).take (e-1-f)))]
noncomputable def runs(l:List Nat)(a b:Nat):List PyData:=if a<b then[runD l a b] else[]
noncomputable def cutAt(l:List Nat):Nat->Nat->Nat->List PyData
 | 0,_,s=>runs l s l.length
 | n+1,k,s=>if l.length<=k then runs l s l.length else match tagAt l k with
   | none=>cutAt l n (k+1) s
   | some (f,e)=>runs l s k++tagD l k f e::cutAt l n e e
noncomputable def toks(l:List Nat)(k s:Nat):List PyData:=cutAt l (l.length-k) k s
theorem wf2(l:List Nat):∀(n m k s:Nat),l.length-k<=n->n<=m->cutAt l m k s=cutAt l n k s
 | 0,0,_,_,_,_=>rfl
 | 0,m+1,k,s,h,_=>by show(if l.length<=k then _ else _)=runs l s l.length;rw[if_pos #[0]]
 | n+1,0,_,_,_,h=>by omega
 | n+1,m+1,k,s,h,hm=>by
   rw[cutAt,cutAt];split
   ·rfl
   ·cases ht:tagAt l k with
    | none=>exact wf2 l n m (k+1) s #[0] #[0]
    | some fe =>
      obtain⟨f,e⟩:=fe
      have:=(tagAt_gt ht).1
      show _++_::cutAt l m e e=_++_::cutAt l n e e
      rw[wf2 l n m e e #[0] #[0]]
theorem toks_end{l:List Nat}{k s:Nat}(h:l.length<=k):toks l k s=runs l s l.length:=by
 unfold toks;rw[show l.length-k=0 by omega];rfl
theorem toks_none{l:List Nat}{k s:Nat}(h:k<l.length)(ht:tagAt l k=none):toks l k s=toks l (k+1) s:=by
 unfold toks;obtain⟨n,hn⟩:∃n,l.length-k=n+1:=⟨l.length-k-1,by omega⟩;rw[hn,cutAt,if_neg #[0],ht];exact(wf2 l _ _ _ _ #[0] #[0])
theorem toks_some{l:List Nat}{k s f e:Nat}(ht:tagAt l k=some (f,e)):toks l k s=runs l s k++tagD l k f e::toks l e e:=by
 obtain⟨h1,h2,_⟩:=tagAt_gt ht;unfold toks;obtain⟨n,hn⟩:∃n,l.length-k=n+1:=⟨l.length-k-1,by omega⟩;rw[hn,cutAt,if_neg #[0],ht];show _++_::cutAt l n e e=_;rw[wf2 l (l.length-e) n e e #[0] #[0]]
theorem toks_skip{l:List Nat}{s:Nat}:∀(d k:Nat),k+d<=l.length->(∀j,k<=j->j<k+d->l[j]?≠some 60)->toks l k s=toks l (k+d) s
 | 0,k,_,_=>rfl
 | d+1,k,h,hn=>by
   rw[toks_none #[0] (by unfold tagAt;rw[if_neg (hn k #[6] #[0])]),toks_skip d (k+1) #[0] λj h1 h2=>hn j #[0] #[0]];congr 1;omega
end TX
theorem A3.refl(H:Hp):A3 H H:=λ_ _ e=>e
theorem X3(x y:Str):x=y↔x.cps.toList=y.cps.toList:=⟨λe=>by rw[e],λe=>PySem.Str.ext' (Array.toList_inj.mp e)⟩
variable{z:Str}
theorem xo7{a b:Int}{i:Nat}(ha:a=(i:Int))(hb:b=(j:Int)):(Z8 z (some a) (some b)).cps.toList=(z.cps.toList.drop i).take (j-i):=by
 subst ha hb;unfold Z8;rw[HT.R5,HT.R5];show(z.cps.toList.drop (min i z.cps.toList.length)).take _=_;by_cases hi:i<=z.cps.toList.length
 ·rw[Nat.min_eq_left hi];by_cases hj:j<=z.cps.toList.length
  ·rw[Nat.min_eq_left hj]
  ·rw[Nat.min_eq_right #[0],take_of_length_le (by rw[length_drop];exact Nat.le_refl _),take_of_length_le (by rw[length_drop];omega)]
 ·rw[Nat.min_eq_right (Nat.le_of_lt (Nat.lt_of_not_le hi)),drop_eq_nil_of_le #[6],drop_eq_nil_of_le (Nat.le_of_lt (Nat.lt_of_not_le hi))];simp
theorem xo8(Y Z:List Nat):∀(k:Nat) (l:List Nat),(TX.rep Y Z k l).length<=l.length*(Z.length+1)
 | _,[]=>by simp[TX.rep]
 | k+1,_::l=>by
   rw[TX.rep,length_cons,Nat.succ_mul];exact Nat.le_trans (xo8 Y Z k l) (Nat.le_add_right _ _)
 | 0,c::l=>by
   have h1:=xo8 Y Z (Y.length-1) l;have h2:=xo8 Y Z 0 l;rw[TX.rep,length_cons,Nat.succ_mul];split
   ·rw[length_append];omega
   ·rw[length_cons];omega
theorem yr9(x y z:Str)(h0:1<=y.length):(PySem.Txt.replace x y z).length<=x.length*(z.length+1):=by
 have e:=TX.replace_rep x y z h0;have h:=xo8 y.cps.toList z.cps.toList 0 x.cps.toList;rw[<-e,Array.length_toList,Array.length_toList,Array.length_toList] at h;exact h
noncomputable def yz6(l:List Nat)(i:Nat):Bool:=decide (l[i]?=some 60) || (decide (l[i]?=some 38) && (!decide ((l.drop (i+1)).take 2=[108,59]) && !decide ((l.drop (i+1)).take 2=[97,59])))
noncomputable def qg1(l:List Nat)(i:Nat):List Nat:=(List.range i).filter (yz6 l)
theorem yz7(l:List Nat)(i:Nat):qg1 l (i+1)=if yz6 l i=true then qg1 l i++[i] else qg1 l i:=by
 unfold qg1;rw[range_succ,filter_append];by_cases h:yz6 l i=true
 ·rw[if_pos h];simp[h]
 ·rw[if_neg h];simp[h]
theorem xe0(l:List Nat)(i:Nat):(qg1 l i).length<=i:=by
 unfold qg1;exact Nat.le_trans (length_filter_le _ _) (Nat.le_of_eq (length_range))
variable{c:Nat}{l:List Nat}
theorem xe1{i:Nat}(h:l[i]?=some c):l.drop i=c::l.drop (i+1):=by
 obtain⟨hi,e⟩:=List.getElem?_eq_some_iff.mp h;rw[drop_eq_getElem_cons hi,e]
theorem Ab6{i:Nat}{a b:Int}(h:z.cps.toList[i]?=some c)(ha:a=(i:Int))(hb:b=((i+3:Nat):Int)) :
 (decide ((⟨#[c]⟩:Str)∈(["<","&"]:List Str)) && !decide (Z8 z (some a) (some b)∈(["&l;","&a;"]:List Str)))=yz6 z.cps.toList i:=by
 have e:=xo7 (z:=z) ha hb
 rw[show i+3-i=3 by omega,xe1 h,take_succ_cons] at e
 have e1:(⟨#[c]⟩:Str) = "<"↔c=60:=by
  rw[X3];show[c]=[60]↔_;simp
 have e2:(⟨#[c]⟩:Str) = "&"↔c=38:=by
  rw[X3];show[c]=[38]↔_;simp
 have e3:Z8 z (some a) (some b) = "&l;"↔c=38/\(z.cps.toList.drop (i+1)).take 2=[108,59]:=by
  rw[X3,e];show c::_=[38,108,59]↔_;simp
 have e4:Z8 z (some a) (some b) = "&a;"↔c=38/\(z.cps.toList.drop (i+1)).take 2=[97,59]:=by
  rw[X3,e];show c::_=[38,97,59]↔_;simp
 unfold yz6
 rw[h]
 simp only[mem_cons,not_mem_nil,or_false,e1,e2,e3,e4,Option.some.injEq]
 by_cases h1:c=60
 ·subst h1;simp
 ·by_cases h2:c=38
  ·subst h2;simp
  ·simp[h1,h2]
def wf3(K:Fg):Sp:=λvs H Q _=>∃z:Str,vs=[.str z]/\z.length<=100000/\∀w:Str,w.cps.toList=TX.told 0 z.cps.toList->Q (.str w) H
def wp5(K:Fg):TS :=
 (E1 (ye4 (ye4 (A0 0) ("&l;":Str) ("<":Str)) ("&a;":Str) ("&":Str)))
theorem yz8(h:wf3 K vs H Q E):wp5 K {nx:=λ_ H'=>Q .non H',rt:=Q} (C3 ["run"] vs) H:=by
 obtain⟨z,rfl,hz,q⟩:=h;show wp5 K _ [some (.str z)] H;unfold wp5;lk;refine⟨z,rfl,by omega,?_⟩;have l1:=yr9 z "&l;" "<" #[7];rw[show("<":Str).length=1 from rfl] at l1;refine⟨_,rfl,by omega,?_⟩;refine q _ ?_;rw[TX.replace_rep _ _ _ #[7],TX.replace_rep _ _ _ #[7]];exact TX.two_reps _ _ #[6]
def qq1(K:Fg):Sp:=λvs H Q _=>∃z:Str,vs=[.str z]/\z.length<=100000/\∀(p:Addr) (H':Hp),A3 H H'->H p=none->H' p=some (.lst (yq9 (qg1 z.cps.toList z.cps.toList.length)))->Q (.ref p) H'
def qw0(K:Fg)(c_TOLD_FOR:Addr)(c_ESCAPED:Addr):TS :=
 (E1 (qr9 [some 0,none,none] (yw9 #[4,0]) (xz4 K 2 (qf2 (A6 1) (qf2 (A6 2) yg7))) (xc1 (C1 (tOp (wa5 K false) (A0 2) (tC (.ref c_ESCAPED)))) (C1 (tOp (wa5 K true) (tSl (qu8 K) (A0 0) (O9 (A0 1)) (O9 (tOp (C8 K) (A0 1) #[1,3]))) (tC (.ref c_TOLD_FOR))))) (A0 1)))
variable{c_ESCAPED:Addr}
theorem yj8{c_TOLD_FOR:Addr}(q_TOLD_FOR:∀H:Hp,SqT K H c_TOLD_FOR [.str "&l;",.str "&a;"])(q_ESCAPED:∀H:Hp,SqT K H c_ESCAPED [.str "<",.str "&"])(h:qq1 K vs H Q E):qw0 K c_TOLD_FOR c_ESCAPED {nx:=λ_ H'=>Q .non H',rt:=Q} (C3 ["run"] vs) H:=by
 obtain⟨z,rfl,hz,q⟩:=h;show qw0 K _ _ _ [some (.str z)] H;unfold qw0;lk;have hl:z.cps.toList.length=z.cps.size:=Array.length_toList;have hz':z.cps.size<=100000:=hz;refine yx0 (λi ys H'=>A3 H H'/\ys=yq9 (qg1 z.cps.toList i)) ⟨A3.refl H,rfl⟩ ?_ ?_ ?_
 ·rintro i ys H' hi ⟨_,rfl⟩;have:=xe0 z.cps.toList i;rw[yq9,length_map];exact C7 #[0]
 ·rintro i c p ys H' hc hp ⟨hs,rfl⟩;refine⟨p,_,rfl,SqT.of A2,rfl,_,_,rfl,D0 ⟨_,_,rfl,D0 ⟨rfl,?_⟩⟩⟩;have hs2:A3 H (upd H' p (.tup [.int i,.str ⟨#[c]⟩])):=A3.tr hs (A3.new hp _);lk;refine .inl (yi6 (xs:=B0 ["<","&"]) (.inr (q_ESCAPED _)) rfl (W7 _) ?_);rw[qm3];lk;have key:=Ab6 hc (a:=(i:Int)) (b:=(i:Int)+3) rfl #[0];simp only[PAt];rw[yz7];by_cases h1:(⟨#[c]⟩:Str)∈(["<","&"]:List Str)
  ·rw[decide_eq_true h1];refine qy2 ?_;rw[decide_eq_true h1,Bool.true_and] at key;lk;refine wx0 (C7 hz) ?_;lk;refine .inl (zz4 (xs:=B0 ["&l;","&a;"]) (.inr (q_TOLD_FOR _)) rfl (W7 _) ?_);rw[qm3,key];lk;by_cases h2:yz6 z.cps.toList i=true
   ·rw[h2];refine qy2 ?_;rw[if_pos rfl];lk;exact⟨hs2,by simp[yq9]⟩
   ·rw[Bool.eq_false_iff.mpr h2];refine qi6 ?_;rw[if_neg Bool.false_ne_true];exact⟨hs2,rfl⟩
  ·rw[decide_eq_false h1];refine qi6 ?_;rw[decide_eq_false h1,Bool.false_and] at key;rw[<-key];k_go;rw[if_neg Bool.false_ne_true];exact⟨hs2,rfl⟩
 ·rintro ys H' ⟨hs,rfl⟩ p hp;refine q p _ (A3.tr hs (A3.new hp _)) ?_ ?_
  ·cases e:H p with
   | none=>rfl
   | some u=>rw[hs _ _ e] at hp;cases hp
  ·rw[hl];exact A2
section
open PySem.StrLaws PySem.Builtin.Str
theorem xo9{n k:Nat}(h:i=(k:Int)):fromIndex n i=k:=by
 subst h;unfold fromIndex;rw[if_neg #[0]];omega
theorem yz9(x:Str)(c hi i:Nat)(hh:hi<=x.length):At x ⟨#[c]⟩ hi i↔i<hi/\x.cps.toList[i]?=some c:=by
 have h:=subAt_one x c i;have e:(⟨#[c]⟩:Str).length=1:=rfl;unfold At;rw[e] at h ⊢;constructor
 ·rintro⟨a,b⟩;exact⟨by omega,h.mp ⟨by omega,b⟩⟩
 ·rintro⟨a,b⟩;exact⟨by omega,(h.mpr b).2⟩
theorem Ab7{lo n a:Nat}{pre post:List Nat}(e:List.range' lo n=pre++a::post):lo<=a/\a<lo+n/\∀k,lo<=k->k<a->k∈pre:=by
 have h:=range'_split_from e;have:a∈List.range' lo n:=by rw[e];simp
 have:=mem_range'_1.mp this;exact⟨h.1,this.2,h.2⟩
theorem zt0(x:Str)(c lo hi:Nat)(hh:hi<=x.length) :
 (occurrences x ⟨#[c]⟩ lo hi 1=[]/\∀i,lo<=i->i<hi->x.cps.toList[i]?≠some c) \/
 ∃i r,occurrences x ⟨#[c]⟩ lo hi 1=i::r/\lo<=i/\i<hi/\x.cps.toList[i]?=some c/\∀k,lo<=k->k<i->x.cps.toList[k]?≠some c:=by
 have go:=occ_first x ⟨#[c]⟩ hi 1 (Nat.le_refl 1) (List.range' lo (hi+1-lo)) lo (λi hi'=>(mem_range'_1.mp hi').1)
 rw[occ_eq]
 rcases go with⟨e,hn⟩|⟨pre,a,post,e,h0,ha,hn⟩
 ·refine .inl ⟨by rw[e],λi h1 h2 hc=>?_⟩
  exact hn i (mem_range'_1.mpr ⟨h1,by omega⟩) ((yz9 x c hi i hh).mpr ⟨h2,hc⟩)
 ·obtain⟨s1,s2,s3⟩:=Ab7 e
  obtain⟨a1,a2⟩:=(yz9 x c hi a hh).mp ha
  generalize (forIn (List.range' lo (hi+1-lo)) ((#[]:Array Nat),lo) (occBody x ⟨#[c]⟩ hi 1)).run.fst=arr at h0 ⊢
  have g0:arr.toList[0]?=some a:=by rw[<-h0];simp
  refine .inr ⟨a,arr.toList.tail,?_,s1,a1,a2,λk k1 k2 hc=>hn k (s3 k k1 k2) ((yz9 x c hi k hh).mpr ⟨by omega,hc⟩)⟩
  cases hL:arr.toList with
  | nil=>rw[hL] at g0;cases g0
  | cons b t=>rw[hL] at g0;simp at g0;rw[g0];rfl
theorem zt1{j:Int}{f g:Nat}(hi:i=(f:Int))(hj:j=(g:Int)) :
 (ye6 z ⟨#[c]⟩ i j=-1/\∀k,f<=k->k<g->z.cps.toList[k]?≠some c) \/
 ∃k:Nat,ye6 z ⟨#[c]⟩ i j=(k:Int)/\f<=k/\k<g/\z.cps.toList[k]?=some c/\∀m,f<=m->m<k->z.cps.toList[m]?≠some c:=by
 walk_at"19"
 unfold ye6
 rw[xo9 hi,xo9 hj]
 rcases zt0 z c f (min g z.length) (Nat.min_le_right _ _) with⟨e,hn⟩|⟨k,r,e,h1,h2,h3,h4⟩
 ·rw[e]
  refine .inl ⟨rfl,λk k1 k2 hc=>?_⟩
  have:=(List.getElem?_eq_some_iff.mp hc).1
  exact hn k k1 #[0] hc
 ·rw[e];exact .inr ⟨k,rfl,h1,by omega,h3,h4⟩
theorem zt2{f:Nat}(hi:i=(f:Int)) :
 (PySem.Txt.find3 z ⟨#[c]⟩ i=-1/\∀k,f<=k->z.cps.toList[k]?≠some c) \/
 ∃k:Nat,PySem.Txt.find3 z ⟨#[c]⟩ i=(k:Int)/\f<=k/\z.cps.toList[k]?=some c/\∀m,f<=m->m<k->z.cps.toList[m]?≠some c:=by
 walk_at"19"
 unfold PySem.Txt.find3
 rw[xo9 hi]
 rcases zt0 z c f z.length #[6] with⟨e,hn⟩|⟨k,r,e,h1,h2,h3,h4⟩
 ·rw[e]
  refine .inl ⟨rfl,λk k1 hc=>?_⟩
  have:=(List.getElem?_eq_some_iff.mp hc).1
  exact hn k k1 #[0] hc
 ·rw[e];exact .inr ⟨k,rfl,h1,h3,h4⟩
theorem zk3{k:Nat}(hi:i=(k:Int))(h:z.cps.toList[k]?=some 60):PySem.Txt.startswith3 z "</" i=decide (z.cps.toList[k+1]?=some 47):=by
 walk_at"19";unfold PySem.Txt.startswith3;rw[xo9 hi,subAt_eq];show(decide (k+2<=z.length) && ((z.cps.toList.drop k).take 2 == [60,47]))=_;rw[xe1 h];have hk:=(List.getElem?_eq_some_iff.mp h).1;cases h2:z.cps.toList[k+1]? with
 | none =>
   have:z.cps.toList.length<=k+1:=List.getElem?_eq_none_iff.mp h2
   rw[decide_eq_false #[0]];rfl
 | some c =>
   have:=(List.getElem?_eq_some_iff.mp h2).1
   rw[decide_eq_true #[0],xe1 h2]
   by_cases e:c=47 <;> simp[e]
def P4(K:Fg):Sp:=λvs H Q _=>∃z:Str,vs=[.str z]/\z.length<=100000/\∀H',A3 H H'->Q (.bl (decide (1<=z.length) && (decide (z.length<=8) && z.cps.toList.all TX.letter))) H'
def Q4(K:Fg):TS :=
 (E1 (yn5 (yh1 yw3 yw3 #[1,1] (tCB (J6 K) #[4,0]) #[1,8]) (tCB (zq0 K) (A1 (qr9 [none] (zz5 (A0 0)) (A6 0) tTT (yh1 yw3 yw3 (tC (.str "a")) (A0 0) (tC (.str "z")))) A5))))
theorem wf4(h:P4 K vs H Q E):Q4 K {nx:=λ_ H'=>Q .non H',rt:=Q} (C3 ["word"] vs) H:=by
 obtain⟨z,rfl,hz,q⟩:=h;show Q4 K _ [some (.str z)] H;unfold Q4;lk;refine wt4 (C7 hz) ?_;lk;by_cases h1:(1:Int)<=z.length
 ·rw [decide_eq_true h1];x_go;rw[decide_eq_true (by omega:1<=z.length),Bool.true_and] at q;lk;by_cases h2:(z.length:Int)<=8
  ·rw[decide_eq_true h2];x_go;rw[decide_eq_true (by omega:z.length<=8),Bool.true_and] at q;lk;have hl:z.cps.toList.length=z.cps.size:=Array.length_toList;refine zq2 (λi ys H'=>H'=H/\ys=((z.cps.toList.take i).map TX.letter).map V.bl) ⟨rfl,rfl⟩ ?_ ?_ ?_
   ·rintro i ys H' hi ⟨_,rfl⟩;rw[length_map,length_map,length_take];exact C7 (by have:z.cps.size<=100000:=hz;omega)
   ·rintro i c ys H' hc ⟨rfl,rfl⟩;have tk:z.cps.toList.take (i+1)=z.cps.toList.take i++[c]:=by rw[take_add_one,hc];rfl
    lk;refine Af1 ?_;have e1:(!decide ((⟨#[c]⟩:Str).cps.toList<("a":Str).cps.toList))=decide (97<=c):=by
     show(!decide ([c] < [97]))=_;rw[lt_cons_cons,lt_nil_nil,Bool.and_false,Bool.or_false];by_cases h:97<=c
     ·rw[decide_eq_true h,decide_eq_false #[0]];rfl
     ·rw[decide_eq_false h,decide_eq_true #[0]];rfl
    have e2:(!decide (("z":Str).cps.toList<(⟨#[c]⟩:Str).cps.toList))=decide (c<=122):=by
     show(!decide ([122] < [c]))=_;rw[lt_cons_cons,lt_nil_nil,Bool.and_false,Bool.or_false];by_cases h:c<=122
     ·rw[decide_eq_true h,decide_eq_false #[0]];rfl
     ·rw[decide_eq_false h,decide_eq_true #[0]];rfl
    rw[e1];refine⟨_,rfl,?_⟩;by_cases hc1:97<=c
    ·rw[decide_eq_true hc1];refine qy2 ?_;lk;refine Af1 ?_;rw[e2];exact⟨rfl,by rw[tk];simp[TX.letter,hc1]⟩
    ·rw[decide_eq_false hc1];refine qi6 ?_;exact⟨rfl,by rw[tk];simp[TX.letter,hc1]⟩
   ·rintro ys H' ⟨rfl,rfl⟩ p hp;lk;refine Ar8 (SqL.of A2) ?_;rw[<-hl,take_length];have e:(z.cps.toList.map TX.letter).all id=z.cps.toList.all TX.letter:=by rw[all_map];rfl
    rw[e];exact q _ (A3.new hp _)
  ·rw[decide_eq_false h2];k_go;rw[decide_eq_false (by omega:¬z.length<=8),Bool.false_and] at q;exact q _ (A3.refl H)
 ·rw[decide_eq_false h1];k_go;refine⟨false,rfl,qi6 ?_⟩;rw[decide_eq_false (by omega:¬1<=z.length),Bool.false_and] at q;exact q _ (A3.refl H)
def qd1(K:Fg):Sp:=λvs H Q _=>∃(z:Str) (k:Nat),vs=[.str z,.int k]/\z.cps.toList[k]?=some 60/\Q (.int (TX.nst z.cps.toList k)) H
def qg2(K:Fg):TS :=
 (E1 (tIf (tB (tBM K "str" yj0 (A0 0) (A1 (tC (.str "</")) #[4,1]))) (tOp (C8 K) (A0 1) #[1,2]) (tOp (C8 K) (A0 1) #[1,1])))
theorem ya4(h:qd1 K vs H Q E):qg2 K {nx:=λ_ H'=>Q .non H',rt:=Q} (C3 ["text","start"] vs) H:=by
 obtain⟨z,k,rfl,h60,q⟩:=h;show qg2 K _ [some (.str z),some (.int k)] H;unfold qg2;lk;refine⟨rfl,?_⟩;lk;refine⟨z, "</",k,rfl,rfl,?_⟩;rw[zk3 rfl h60];lk;unfold TX.nst at q;by_cases h:z.cps.toList[k+1]?=some 47
 ·rw[decide_eq_true h];refine qy2 ?_;rw[if_pos h] at q;lk;exact q
 ·rw[decide_eq_false h];refine qi6 ?_;rw[if_neg h] at q;lk;exact q
def qw1(K:Fg):Sp:=λvs H Q _=>∃(z:Str) (k:Nat),vs=[.str z,.int k]/\z.length<=100000/\z.cps.toList[k]?=some 60/\(TX.tagAt z.cps.toList k=none->∀H',A3 H H'->Q .non H') /\
 ∀(f e:Nat),TX.tagAt z.cps.toList k=some (f,e)->∀H',A3 H H'->Q (.int e) H'
def qs8(K:Fg):TS :=
 (B1 (B8 (B9 (qd1 K) [] E0 (A1 (A0 0) #[4,1])) (A6 2))
 (B1 (B8 (tBM K "str" yx1 (A0 0) (A1 (tC (.str ">")) (A1 (A0 2) (A1 (tOp (C8 K) (tOp (C8 K) (A0 2) #[1,8]) #[1,1]) A5)))) (A6 3))
 (B1 (M4 (tOr (C1 (tOp xr1 (A0 3) #[1,0])) (zl5 (tB (B9 (P4 K) [] E0 (A1 (tSl (qu8 K) (A0 0) (O9 (A0 2)) (O9 (A0 3))) A5)))))
 (E1 (tC .non)) J8)
 (E1 (tOp (C8 K) (A0 3) #[1,1])))))
theorem ys1(h:qw1 K vs H Q E):qs8 K {nx:=λ_ H'=>Q .non H',rt:=Q} (C3 ["text","start","first","end"] vs) H:=by
 obtain⟨z,k,rfl,hz,h60,q1,q2⟩:=h;show qs8 K _ [some (.str z),some (.int k),none,none] H;unfold qs8;walk_at"19";lk;refine⟨z,k,rfl,h60,?_⟩;lk;refine⟨rfl,?_⟩;lk;refine⟨z, ">",_,_,rfl,rfl,?_⟩;have tg:TX.tagAt z.cps.toList k=(TX.nm (z.cps.toList.drop (TX.nst z.cps.toList k))).map λn=>(TX.nst z.cps.toList k,TX.nst z.cps.toList k+n+1):=by unfold TX.tagAt;rw[if_pos h60]
 generalize TX.nst z.cps.toList k=f at *
 have e0:(">":Str)=⟨#[62]⟩:=rfl;rw[e0];rcases zt1 (z:=z) (c:=62) (i:=(f:Int)) (j:=(f:Int)+8+1) (f:=f) (g:=f+9) rfl #[0] with⟨e,hn⟩|⟨r,e,r1,r2,r3,r4⟩
 ·rw[e];lk;refine qy2 (qy2 ?_);lk;refine q1 ?_ _ (A3.refl H);rw[tg];cases hm:TX.nm (z.cps.toList.drop f) with
  | none=>rfl
  | some n =>
    obtain⟨n1,n2,n3,n4⟩:=TX.nm_iff.mp hm
    rw[List.getElem?_drop] at n4
    exact absurd n4 (hn (f+n) #[0] #[0])
 ·rw [e];lk;rw[decide_eq_false (by omega:¬((r:Nat):Int)<0)];refine qi6 ?_;lk;refine wx0 (C7 hz) ?_;have ct:=xo7 (z:=z) (a:=(f:Int)) (b:=(r:Int)) (i:=f) (j:=r) rfl rfl;generalize Z8 z (some (f:Int)) (some (r:Int))=nmz at *
  have rl:=(List.getElem?_eq_some_iff.mp r3).1;have ln:nmz.length=r-f:=by
   have h1:=congrArg List.length ct;rw[Array.length_toList,length_take,length_drop] at h1;show nmz.cps.size=_;omega
  lk;refine⟨nmz,rfl,by omega,λH' s'=>?_⟩;lk;have get:∀i,i<r-f->nmz.cps.toList[i]?=(z.cps.toList.drop f)[i]?:=λi hi=>by rw[ct,List.getElem?_take_of_lt hi]
  by_cases hb:(decide (1<=nmz.length) && (decide (nmz.length<=8) && nmz.cps.toList.all TX.letter))=true
  ·rw[hb,Bool.not_true];refine qi6 ?_;lk;simp only[Bool.and_eq_true,decide_eq_true_eq,all_eq_true] at hb;have hm:TX.nm (z.cps.toList.drop f)=some (r-f):=TX.nm_iff.mpr ⟨by omega,by omega,λi hi=>by
    have hi2:i<nmz.cps.toList.length:=by rw[Array.length_toList];show i<nmz.length;omega
    refine⟨nmz.cps.toList[i],by rw[<-get i hi,List.getElem?_eq_getElem hi2],hb.2.2 _ (List.getElem_mem hi2)⟩,by rw[List.getElem?_drop,show f+(r-f)=r by omega];exact r3⟩
   have:=q2 f (r+1) (by rw[tg,hm];show some (f,f+(r-f)+1)=_;rw[show f+(r-f)+1=r+1 by omega]) H' s';exact this
  ·rw [Bool.eq_false_iff.mpr hb,Bool.not_false];refine qy2 ?_;lk;refine q1 ?_ _ s';rw[tg];cases hm:TX.nm (z.cps.toList.drop f) with
   | none=>rfl
   | some n =>
     exfalso
     apply hb
     obtain⟨n1,n2,n3,n4⟩:=TX.nm_iff.mp hm
     rw[List.getElem?_drop] at n4
     have hr:r=f+n:=by
      rcases Nat.lt_trichotomy r (f+n) with h|h|h
      ·obtain⟨c,hc,hlc⟩:=n3 (r-f) #[0];rw[List.getElem?_drop,show f+(r-f)=r by omega,r3] at hc;cases hc;exact absurd hlc #[7]
      ·exact h
      ·exact absurd n4 (r4 (f+n) #[0] h)
     simp only[Bool.and_eq_true,decide_eq_true_eq,all_eq_true]
     refine⟨by omega,by omega,λc hc=>?_⟩
     obtain⟨i,hi,e⟩:=List.getElem_of_mem hc
     have hi2:i<r-f:=by rw[Array.length_toList] at hi;have:i<nmz.length:=hi;omega
     obtain⟨c',hc',hl'⟩:=n3 i #[0]
     rw[<-get i hi2,List.getElem?_eq_getElem hi,e] at hc'
     cases hc'
     exact hl'
def qg3(K:Fg):Sp:=λvs H Q _=>∃(z:Str) (k f e:Nat),vs=[.str z,.int k,.int e]/\z.length<=100000/\TX.tagAt z.cps.toList k=some (f,e) /\
 ∀t,H t=none->Q (.ref t) (upd H t (.tup [.str (if f=k+1 then "open" else "close"),.int k,.int e,.str (TX.ofL ((z.cps.toList.drop f).take (e-1-f)))]))
def qd2(K:Fg):TS :=
 (B1 (B8 (B9 (qd1 K) [] E0 (A1 (A0 0) #[4,1])) (A6 3))
 (B1 (B8 (tIf (C1 (tOp (P7 K) (A0 3) (tOp (C8 K) (A0 1) #[1,1]))) (tC (.str "open")) (tC (.str "close"))) (A6 4))
 (E1 (Y1 (A1 (A0 4) (A1 (A0 1) (A1 (A0 2) (A1 (tSl (qu8 K) (A0 0) (O9 (A0 3)) (O9 (tOp (rI0 λi j=>.int (i-j)) (A0 2) #[1,1]))) A5))))))))
theorem xt5(h:qg3 K vs H Q E):qd2 K {nx:=λ_ H'=>Q .non H',rt:=Q} (C3 ["text","start","stop","first","kind"] vs) H:=by
 obtain⟨z,k,f,e,rfl,hz,ht,q⟩:=h;show qd2 K _ [some (.str z),some (.int k),some (.int e),none,none] H;unfold qd2;obtain⟨g1,g2,g3,g4,g5,g6⟩:=TX.tagAt_gt ht;lk;refine⟨z,k,rfl,g5,?_⟩;rw[<-g3];lk;have ct:=xo7 (z:=z) (a:=(f:Int)) (b:=(e:Int)-1) (i:=f) (j:=e-1) rfl #[0];have ec:Z8 z (some (f:Int)) (some ((e:Int)-1))=TX.ofL ((z.cps.toList.drop f).take (e-1-f)):=(X3 _ _).mpr ct;by_cases hf:f=k+1
 ·rw[if_pos hf] at q;rw[decide_eq_true (by omega:(f:Int)=(k:Int)+1)];refine qy2 ?_;lk;refine wx0 (C7 hz) ?_;rw[ec];lk;exact⟨C7 (by z_go),q⟩
 ·rw[if_neg hf] at q;rw[decide_eq_false (by omega:¬(f:Int)=(k:Int)+1)];refine qi6 ?_;lk;refine wx0 (C7 hz) ?_;rw[ec];lk;exact⟨C7 (by z_go),q⟩
def O7(K:Fg):Sp:=λvs H Q _=>∃(z:Str) (a e:Nat),vs=[.str z,.int a,.int e]/\a<=e/\e<=z.length/\z.length<=100000/\(a=e->∀p,H p=none->Q (.ref p) (upd H p (.lst []))) /\
 (a<e->∀(w:Str) (t p:Addr) (H':Hp),w.cps.toList=TX.told 0 ((z.cps.toList.drop a).take (e-a))->A3 H H'->H p=none->H' p=some (.lst [.ref t])->H' t=some (.tup [.str "run",.int a,.int e,.str w])->Q (.ref p) H')
def Y5(K:Fg):TS :=
 (B1 (M4 (C1 (tOp (P7 K) (A0 1) (A0 2)))
 (E1 (T2 A5)) J8)
 (E1 (T2 (A1 (Y1 (A1 (tC (.str "run")) (A1 (A0 1) (A1 (A0 2) (A1 (B9 (wf3 K) [] E0 (A1 (tSl (qu8 K) (A0 0) (O9 (A0 1)) (O9 (A0 2))) A5)) A5))))) A5))))
theorem xl0(h:O7 K vs H Q E):Y5 K {nx:=λ_ H'=>Q .non H',rt:=Q} (C3 ["text","start","stop"] vs) H:=by
 obtain⟨z,a,e,rfl,hae,hez,hz,q1,q2⟩:=h;show Y5 K _ [some (.str z),some (.int a),some (.int e)] H;unfold Y5;lk;by_cases h:a=e
 ·rw[decide_eq_true (by rw[h])];refine qy2 ?_;lk;exact⟨C7 (by z_go),q1 h⟩
 ·rw[decide_eq_false (by intro h';exact h #[0])];refine qi6 ?_;lk;refine wx0 (C7 hz) ?_;lk;have ct:=xo7 (z:=z) (a:=(a:Int)) (b:=(e:Int)) (i:=a) (j:=e) rfl rfl;walk_at"19";refine⟨_,rfl,?_,λw hw=>?_⟩
  ·have h1:=congrArg List.length ct;rw[Array.length_toList,length_take,length_drop] at h1;show(Z8 z (some (a:Int)) (some (e:Int))).cps.size<=_;omega
  ·rw[ct] at hw;lk;refine⟨C7 (by z_go),λt ht=>?_⟩;walk_at"16";have hp0:H p=none:=by
    cases e:H p with
    | none=>rfl
    | some u=>rw[A3.new ht _ _ _ e] at hp;cases hp
   have ntp:t≠p:=λe=>by rw[<-e,A2] at hp;cases hp
   exact q2 #[0] w t p _ hw (A3.tr (A3.new ht _) (A3.new hp _)) hp0 A2 (by rw[A8 ntp];exact A2)
end
theorem zt3(Pv:St->Hp->Prop)(μ:St->Hp->Nat)(h0:Pv σ H)(i:Nat)(hs:∀σ H,Pv σ H->∃k:Int,σ[i]?=some (some (.int k))/\(0<=k->tb {D with nx:=λσ' H'=>Pv σ' H'/\μ σ' H'<μ σ H,ct:=λσ' H'=>Pv σ' H'/\μ σ' H'<μ σ H,bk:=D.nx} σ H)/\(¬0<=k->D.nx σ H)) :
 wd9 (C1 (tOp zh6 (A0 i) #[1,0])) tb D σ H:=by
 refine⟨λm σ H=>m=μ σ H/\Pv σ H,⟨_,rfl,h0⟩,?_⟩
 rintro m σ H ⟨rfl,p⟩
 obtain⟨k,e,h1,h2⟩:=hs σ H p
 refine⟨_,e,Af0 (Ae9 ?_)⟩
 by_cases hk:0<=k
 ·rw[decide_eq_true hk]
  exact⟨_,λσ' H' ⟨p',l⟩=>⟨_,l,rfl,p'⟩,h1 hk⟩
 ·rw[decide_eq_false hk]
  exact h2 hk
theorem wl7:∀xs ys:List PyData,L6 (xs++ys)=(L6 xs && L6 ys)
 | [],ys=>by simp[L6]
 | x::xs,ys=>by rw[cons_append,L6,L6,wl7 xs ys,Bool.and_assoc]
theorem zd6(l:List Nat)(a e:Nat):L6 (TX.runs l a e)=true:=by
 unfold TX.runs;split
 ·simp[L6,fix,TX.runD]
 ·simp[L6]
theorem yk0(l:List Nat)(k f e:Nat):fix (TX.tagD l k f e)=true:=by simp[L6,fix,TX.tagD]
theorem ys2(l:List Nat)(a e:Nat):(TX.runs l a e).length<=1:=by unfold TX.runs;split <;> simp
variable{e:Nat}
theorem Am1{w:Str}{t:Addr}{a:Nat}(hw:w.cps.toList=TX.told 0 ((z.cps.toList.drop a).take (e-a)))(ht:H t=some (.tup [.str "run",.int a,.int e,.str w])):Dv K H (TX.runD z.cps.toList a e) (.ref t):=by
 have ew:w=TX.ofL (TX.told 0 ((z.cps.toList.drop a).take (e-a))):=(X3 _ _).mpr (by rw[hw];rfl);rw[<-show TX.runD z.cps.toList a e=_ from rfl];unfold TX.runD;rw[<-ew];exact C6.mpr ⟨t,_,rfl,SqT.of ht,C0 (D6.mpr rfl) (C0 (J7.mpr rfl) (C0 (J7.mpr rfl) (C0 (D6.mpr rfl) E4)))⟩
theorem xt6{a:Nat}(hae:a<=e)(hez:e<=z.length)(hz:z.length<=100000)(q:∀(p:Addr) (zs:List V) (H1:Hp),A3 H H1->H p=none->H1 p=some (.lst zs)->Dvs K H1 (TX.runs z.cps.toList a e) zs->Q (.ref p) H1):O7 K [.str z,.int a,.int e] H Q E:=by
 refine⟨z,a,e,rfl,hae,hez,hz,λh p hp=>?_,λh w t p H' hw hs hp h1 ht=>?_⟩
 ·refine q p [] _ (A3.new hp _) hp A2 ?_;unfold TX.runs;rw[if_neg #[0]];exact E4
 ·refine q p [.ref t] H' hs hp h1 ?_;unfold TX.runs;rw[if_pos h];exact C0 (Am1 hw ht) E4
variable{s:Nat}
theorem zk4{q:Nat}(hq:q<=l.length)(hn:∀k,q<=k->l[k]?≠some 60):TX.toks l q s=TX.runs l s l.length:=by
 rw[TX.toks_skip (l.length-q) q #[0] (λj h1 _=>hn j h1),TX.toks_end #[0]]
theorem Ab8{q k:Nat}(hqk:q<=k)(hk:l[k]?=some 60)(hn:∀m,q<=m->m<k->l[m]?≠some 60):TX.toks l q s=TX.toks l k s:=by
 have:=(List.getElem?_eq_some_iff.mp hk).1;rw[TX.toks_skip (k-q) q #[0] (λj h1 h2=>hn j h1 #[0]),show q+(k-q)=k by omega]
noncomputable def TX.glue(l:List Nat):Nat->List (Nat×Nat×Nat)->List PyData
 | s,[]=>TX.runs l s l.length
 | s,t::ts=>TX.runs l s t.1++TX.tagD l t.1 t.2.1 t.2.2::TX.glue l t.2.2 ts
def TX.Ch(l:List Nat):Nat->List (Nat×Nat×Nat)->Prop
 | _,[]=>True
 | q,t::ts=>q<=t.1/\t.1<t.2.2/\t.2.2<=l.length/\TX.Ch l t.2.2 ts
noncomputable def TX.tg(l:List Nat)(t:Nat×Nat×Nat):PyData:=TX.tagD l t.1 t.2.1 t.2.2
theorem yk1{q r:Nat}:∀{ts:List (Nat×Nat×Nat)},q<=r->TX.Ch l r ts->TX.Ch l q ts
 | [],_,_=>trivial
 | t::ts,h,g=>⟨Nat.le_trans h g.1,g.2⟩
theorem zd7{l:List Nat}:∀ts:List (Nat×Nat×Nat),L6 (ts.map (TX.tg l))=true
 | []=>rfl
 | t::ts=>by rw[map_cons,L6,zd7 ts];exact Bool.and_eq_true_iff.mpr ⟨yk0 _ _ _ _,rfl⟩
def As7(z:Str)(q:Nat)(st:Int)(ts:List (Nat×Nat×Nat)):Prop :=
 (st=-1/\TX.Ch z.cps.toList q ts/\∀s,TX.toks z.cps.toList q s=TX.glue z.cps.toList s ts) \/
 ∃k:Nat,st=(k:Int)/\ts.length<=k/\z.cps.toList[k]?=some 60/\∀ts',TX.Ch z.cps.toList k ts'->(∀s,TX.toks z.cps.toList k s=TX.glue z.cps.toList s ts')->TX.Ch z.cps.toList q (ts++ts')/\∀s,TX.toks z.cps.toList q s=TX.glue z.cps.toList s (ts++ts')
theorem xe3{q r:Nat}{ts:List (Nat×Nat×Nat)}(hi:i=(r:Int))(hr:r<=z.cps.toList.length)(hl:ts.length<=r)(h:∀ts',TX.Ch z.cps.toList r ts'->(∀s,TX.toks z.cps.toList r s=TX.glue z.cps.toList s ts')->TX.Ch z.cps.toList q (ts++ts')/\∀s,TX.toks z.cps.toList q s=TX.glue z.cps.toList s (ts++ts')) :
 As7 z q (PySem.Txt.find3 z "<" i) ts/\∀k:Nat,PySem.Txt.find3 z "<" i=(k:Int)->r<=k:=by
 have e0:("<":Str)=⟨#[60]⟩:=rfl
 rw[e0]
 rcases zt2 (z:=z) (c:=60) hi with⟨e,hn⟩|⟨k,e,h1,h2,h3⟩
 ·rw[e]
  have g:=h [] trivial λs=>zk4 hr hn
  rw[append_nil] at g
  exact⟨.inl ⟨rfl,g.1,g.2⟩,λk hk=>by omega⟩
 ·rw[e]
  exact⟨.inr ⟨k,rfl,by omega,h2,λts' c g=>h ts' (yk1 h1 c) λs=>by rw[Ab8 h1 h2 h3];exact g s⟩,λm hm=>by omega⟩
def qq2(K:Fg):Sp:=λvs H Q _=>∃(z:Str) (q:Nat),vs=[.str z,.int q]/\q<=z.length/\z.length<=100000/\∀(p:Addr) (us:List V) (H':Hp) (ts:List (Nat×Nat×Nat)),A3 H H'->H p=none->H' p=some (.lst us)->Dvs K H' (ts.map (TX.tg z.cps.toList)) us->TX.Ch z.cps.toList q ts->(∀s,TX.toks z.cps.toList q s=TX.glue z.cps.toList s ts)->Q (.ref p) H'
def qm8(K:Fg):TS :=
 (B1 (B8 (T2 A5) (A6 2))
 (B1 (B8 (tBM K "str" xr6 (A0 0) (A1 (tC (.str "<")) #[4,1])) (A6 3))
 (B1 (wd9 (C1 (tOp zh6 (A0 3) #[1,0]))
 (B1 (B8 (B9 (qw1 K) [] E0 (A1 (A0 0) #[4,3])) (A6 4))
 (M4 (C1 (tOp xz8 (A0 4) (tC .non)))
 (B8 (tBM K "str" xr6 (A0 0) (A1 (tC (.str "<")) (A1 (tOp (C8 K) (A0 3) #[1,1]) A5))) (A6 3)) (B1 (D2 (tBM K "list" D9 (A0 2) (A1 (B9 (qg3 K) [] E0 (A1 (A0 0) (A1 (A0 3) #[4,4]))) A5)))
 (B8 (tBM K "str" xr6 (A0 0) (A1 (tC (.str "<")) #[4,4])) (A6 3))))))
 (E1 (A0 2)))))
theorem yk2(h:qq2 K vs H Q E):qm8 K {nx:=λ_ H'=>Q .non H',rt:=Q} (C3 ["text","searched","tags","start","stop"] vs) H:=by
 obtain⟨z,q0,rfl,hq,hz,q⟩:=h;show qm8 K _ [some (.str z),some (.int q0),none,none,none] H;unfold qm8;walk_at"19";lk;refine⟨C7 (by z_go),λd hd=>?_⟩;lk;refine⟨rfl,?_⟩;lk;refine⟨z, "<",_,rfl,rfl,?_⟩;lk;refine zt3 (λσ H'=>∃(st:Int) (a:Option V) (us:List V) (ts:List (Nat×Nat×Nat)),σ=[some (.str z),some (.int q0),some (.ref d),some (.int st),a]/\A3 H H'/\H' d=some (.lst us)/\Dvs K H' (ts.map (TX.tg z.cps.toList)) us/\As7 z q0 st ts)
  (λσ _=>match σ with | [_,_,_,some (.int st),_]=>(if st<0 then 0 else z.length+1-st.toNat)|_=>0) ?_ 3 ?_
 ·exact⟨_,none,[],[],rfl,A3.new hd _,A2,E4,(xe3 rfl #[0] (Nat.zero_le _) λts' c g=>⟨c,g⟩).1⟩
 rintro σ H1 ⟨st,a,us,ts,rfl,s1,hd1,dv1,at1⟩;have hul:us.length=ts.length:=by rw[dv1.length,length_map]
 refine⟨st,rfl,λh0=>?_,λh0=>?_⟩
 ·rcases at1 with⟨e,_⟩|⟨k,rfl,htk,h60,hts⟩
  ·omega
  have hkl:=(List.getElem?_eq_some_iff.mp h60).1;lk;refine⟨z,k,rfl,hz,h60,λht H2 s2=>?_,λf e ht H2 s2=>?_⟩
  ·lk;x_go;lk;refine⟨rfl,?_⟩;lk;refine⟨z, "<",_,rfl,rfl,?_⟩;obtain⟨fa,fb⟩:=xe3 (z:=z) (q:=q0) (r:=k+1) (i:=(k:Int)+1) (ts:=ts) #[0] #[0] #[0] λts' c g=>hts ts' (yk1 #[0] c) λs=>by rw[TX.toks_none #[0] ht];exact g s
   lk;refine⟨⟨_,_,us,ts,rfl,A3.tr s1 s2,s2 _ _ hd1,Dvs.same s2 _ _ dv1,fa⟩,?_⟩;show(if PySem.Txt.find3 z "<" ((k:Int)+1)<0 then 0 else z.length+1-(PySem.Txt.find3 z "<" ((k:Int)+1)).toNat)<(if(k:Int)<0 then 0 else z.length+1-((k:Int)).toNat);rw[if_neg (by omega:¬(k:Int)<0)];rcases fa with⟨e,_⟩|⟨k2,e,_⟩
   ·rw[e,if_pos #[7]];omega
   ·have:=fb k2 e;rw[e,if_neg #[0]];omega
  ·obtain⟨g1,g2,g3,g4,g5,g6⟩:=TX.tagAt_gt ht;have gk:=TX.nst_gt z.cps.toList k;lk;have hn0:decide (V.int (e:Int)=V.non)=false:=by simp
   rw[hn0];refine qi6 ?_;lk;have hd2:=s2 _ _ hd1;refine⟨.inl ⟨rfl,_,SqL.of hd2⟩,?_⟩;lk;refine⟨z,k,f,e,rfl,hz,ht,λt ht4=>?_⟩;have ntd:t≠d:=λz=>by rw[z,hd2] at ht4;cases ht4
   lk;refine E7 (by rw[A8 ntd.symm];exact hd2) #[16] ?_;have hd5:(upd H2 t (.tup [.str (if f=k+1 then "open" else "close"),.int k,.int e,.str (TX.ofL ((z.cps.toList.drop f).take (e-1-f)))])) d=some (.lst us):=by rw[A8 ntd.symm];exact hd2
   have tk6:=wx6 (ys:=us++[V.ref t]) hd5;have dvb:=Dvs.tupK tk6 _ _ (zd7 ts) (Dvs.same (A3.new ht4 _) _ _ (Dvs.same s2 _ _ dv1));have dvt:Dv K (upd (upd H2 t (.tup [.str (if f=k+1 then "open" else "close"),.int k,.int e,.str (TX.ofL ((z.cps.toList.drop f).take (e-1-f)))])) d (.lst (us++[V.ref t]))) (TX.tg z.cps.toList (k,f,e)) (.ref t) :=
    C6.mpr ⟨t,_,rfl,SqT.of (by rw[A8 ntd];exact A2),C0 (D6.mpr rfl) (C0 (J7.mpr rfl) (C0 (J7.mpr rfl) (C0 (D6.mpr rfl) E4)))⟩;lk;refine⟨rfl,?_⟩;lk;refine⟨z, "<",_,rfl,rfl,?_⟩;obtain⟨fa,fb⟩:=xe3 (z:=z) (q:=q0) (r:=e) (i:=(e:Int)) (ts:=ts++[(k,f,e)]) rfl g2 (by rw[length_append,length_singleton];omega) λts' c g=>by
    have:=hts ((k,f,e)::ts') ⟨Nat.le_refl _,g1,g2,c⟩ λs=>by rw[TX.toks_some ht,g e];rfl
    rw[append_assoc];exact this
   lk;refine⟨⟨_,_,us++[V.ref t],ts++[(k,f,e)],rfl,λc u eq=>?_,A2,by rw[map_append];exact Dvs.append dvb (C0 dvt E4),fa⟩,?_⟩
   ·have nc:c≠d:=λz=>by rw[z,hd] at eq;cases eq
    rw[A8 nc];exact A3.new ht4 _ c u (s2 c u (s1 c u eq))
   ·show(if PySem.Txt.find3 z "<" (e:Int)<0 then 0 else z.length+1-(PySem.Txt.find3 z "<" (e:Int)).toNat)<(if(k:Int)<0 then 0 else z.length+1-((k:Int)).toNat);rw[if_neg (by omega:¬(k:Int)<0)];rcases fa with⟨e',_⟩|⟨k2,e',_⟩
    ·rw[e',if_pos #[7]];omega
    ·have:=fb k2 e';rw[e',if_neg #[0]];omega
 ·rcases at1 with⟨e,hc,hts⟩|⟨k,rfl,_⟩
  ·lk;exact q d us H1 ts s1 hd hd1 dv1 hc hts
  ·omega
def S0(K:Fg):Sp:=λvs H Q _=>∃(z:Str) (s q:Nat),vs=[.str z,.int s,.int q]/\s<=q/\q<=z.length/\z.length<=100000/\∀(p:Addr) (us:List V) (H':Hp) (acc:List PyData) (s':Nat),A3 H H'->H p=none->H' p=some (.lst us)->Dvs K H' acc us->L6 acc=true->s<=s'->s'<=z.length->acc.length<=s'->acc++TX.runs z.cps.toList s' z.cps.toList.length=TX.toks z.cps.toList q s->(acc=[]/\s'=s\/∃acc0 k f,acc=acc0++[TX.tagD z.cps.toList k f s'])->Q (.ref p) H'
def U1(K:Fg):TS :=
 (B1 (B8 (T2 A5) (A6 3))
 (B1 (qc8 (qy3 K (B9 (qq2 K) [] E0 (A1 (A0 0) #[4,2]))) (A6 4)
 (B1 (D2 (tBM K "list" we4 (A0 3) (A1 (B9 (O7 K) [] E0 (A1 (A0 0) (A1 (A0 1) (A1 (tOp (D7 K) (A0 4) #[1,1]) A5)))) A5)))
 (B1 (D2 (tBM K "list" D9 (A0 3) #[4,4]))
 (B8 (tOp (D7 K) (A0 4) #[1,2]) (A6 1)))))
 (E1 (A0 3))))
theorem wy9(h:S0 K vs H Q E):U1 K {nx:=λ_ H'=>Q .non H',rt:=Q} (C3 ["text","settled","searched","tokens","tag"] vs) H:=by
 obtain⟨z,s0,q0,rfl,hsq,hq,hz,q⟩:=h;show U1 K _ [some (.str z),some (.int s0),some (.int q0),none,none] H;unfold U1;walk_at"19";lk;refine⟨C7 (by z_go),λd hd=>?_⟩;lk;refine⟨z,q0,rfl,hq,hz,λp1 uts H1 ts s1 hp1 h1 dvt hch hts=>?_⟩;have hd1:H1 d=some (.lst []):=s1 _ _ A2;have npd:p1≠d:=λe=>by rw[e,A2] at hp1;cases hp1
 have sH:A3 H H1:=A3.tr (A3.new hd _) s1;have utl:uts.length=ts.length:=by rw[dvt.length,length_map]
 refine wa4 (xs:=uts) (SqL.of h1) (λi σ H'=>∃(s':Nat) (a:Option V) (us:List V) (acc:List PyData),σ=[some (.str z),some (.int s'),some (.int q0),some (.ref d),a]/\But [d] H1 H'/\R6 H1 H'/\H' d=some (.lst us)/\Dvs K H' acc us/\L6 acc=true/\s0<=s'/\s'<=z.length/\acc.length<=s'/\TX.Ch z.cps.toList s' (ts.drop i)/\acc++TX.glue z.cps.toList s' (ts.drop i)=TX.toks z.cps.toList q0 s0/\(acc=[]/\s'=s0\/∃acc0 k f,acc=acc0++[TX.tagD z.cps.toList k f s'])) ?_ ?_ ?_ ?_
 ·exact⟨s0,none,[],[],rfl,But.refl _ _,R6.refl _,hd1,E4,rfl,Nat.le_refl _,by omega,Nat.zero_le _,yk1 hsq hch,(hts s0).symm,.inl ⟨rfl,rfl⟩⟩
 ·rintro i σ H' hi ⟨s',a,us,acc,rfl,bt,_⟩;exact SqL.of (bt _ _ h1 (by simpa using npd))
 ·rintro i x σ H' hx ⟨s',a,us,acc,rfl,bt,tk,hd',dva,fx,g1,g2,g3,g4,g5,g6⟩;obtain⟨dd,e1,dvx⟩:=Dvs.get' dvt hx;rw[List.getElem?_map] at e1;obtain⟨⟨k,f,e⟩,hti,rfl⟩:∃t,ts[i]?=some t/\TX.tg z.cps.toList t=dd:=by
   cases h:ts[i]? with
   | none=>rw[h] at e1;cases e1
   | some t=>rw[h] at e1;exact⟨t,rfl,by simpa using e1⟩
  have edrop:ts.drop i=(k,f,e)::ts.drop (i+1):=by
   obtain⟨hil,he⟩:=List.getElem?_eq_some_iff.mp hti;rw[drop_eq_getElem_cons hil,he]
  rw[edrop] at g4 g5;obtain⟨c1,c2,c3,c4⟩:=g4;have c1:s'<=k:=c1;have c2:k<e:=c2;have c3:e<=z.cps.toList.length:=c3;have dvx2:=dvx;obtain⟨t,vs4,rfl,qt,dv4⟩:=C6.mp (show Dv K H1 (.tuple [.str (if f=k+1 then "open" else "close"),.int k,.int e,.str (TX.ofL ((z.cps.toList.drop f).take (e-1-f)))]) x from dvx);walk_at"28";have w2:=J7.mp w2;have w3:=J7.mp w3;subst w2 w3;lk;refine⟨.inl ⟨rfl,_,SqL.of hd'⟩,?_⟩;lk;refine P6 (tk.sqT qt) (M8 (j:=1) rfl) ?_;lk;refine xt6 c1 #[0] hz λp zs H3 s3 hp h3 dv3=>?_;have hd3:=s3 _ _ hd';have rl:=ys2 z.cps.toList s' k;have zl:zs.length=(TX.runs z.cps.toList s' k).length:=dv3.length;have ul:=dva.length;lk;refine⟨d,p,us,zs,rfl,rfl,hd3,h3,C7 #[0],?_⟩;have tk4:=wx6 (ys:=us++zs) hd3;have dvb:Dvs K (upd H3 d (.lst (us++zs))) (acc++TX.runs z.cps.toList s' k) (us++zs):=Dvs.append (Dvs.tupK tk4 _ _ fx (Dvs.same s3 _ _ dva)) (Dvs.tupK tk4 _ _ (zd6 _ _ _) dv3);lk;refine⟨.inl ⟨rfl,_,SqL.of A2⟩,?_⟩;lk;refine E7 A2 (by rw[length_append,sizeLine_eq];omega) ?_;have tk5:=wx6 (H:=upd H3 d (.lst (us++zs))) (ys:=us++zs++[V.ref t]) A2;have fx2:L6 (acc++TX.runs z.cps.toList s' k)=true:=by rw[wl7,fx,zd6];rfl
  have tkA:R6 H1 (upd (upd H3 d (.lst (us++zs))) d (.lst (us++zs++[V.ref t]))):=tk.trans (s3.tupK.trans (tk4.trans tk5));lk;refine P6 (tkA.sqT qt) (M8 (j:=2) rfl) ?_;lk;refine⟨e,_,us++zs++[V.ref t],acc++TX.runs z.cps.toList s' k++[TX.tagD z.cps.toList k f e],rfl,?_,tkA,A2,Dvs.append (Dvs.tupK tk5 _ _ fx2 dvb) (C0 (Dv.tupK tkA _ _ (yk0 _ _ _ _) dvx2) E4),by rw[wl7,fx2];simp[L6,yk0],by omega,by omega,?_,c4,by rw[<-g5,TX.glue];simp,.inr ⟨_,_,_,rfl⟩⟩
  ·intro c u eq hc;have nc:c≠d:=by simpa using hc
   rw[A8 nc,A8 nc];exact s3 _ _ (bt c u eq hc)
  ·by_cases hsk:s'<k
   ·simp only[length_append,length_singleton];omega
   ·have:(TX.runs z.cps.toList s' k).length=0:=by unfold TX.runs;rw[if_neg hsk];rfl
    simp only[length_append,length_singleton];omega
 ·rintro σ H' ⟨s',a,us,acc,rfl,bt,tk,hd',dva,fx,g1,g2,g3,g4,g5,g6⟩;lk;have e0:ts.drop uts.length=[]:=drop_eq_nil_of_le #[0];rw[e0] at g5;refine q d us H' acc s' (λc u eq=>?_) hd hd' dva fx g1 g2 g3 g5 g6;have nc:c≠d:=λz=>by rw[z,hd] at eq;cases eq
  exact bt c u (sH c u eq) (by simpa using nc)
def qg4(K:Fg):Sp:=λvs H Q _=>∃z:Str,vs=[.str z]/\z.length<=100000/\∀(p:Addr) (us:List V) (H':Hp),A3 H H'->H p=none->H' p=some (.lst us)->Dvs K H' #[17] us->Q (.ref p) H'
def qm9(K:Fg):TS :=
 (B1 (B8 (B9 (S0 K) [] E0 (A1 (A0 0) (A1 #[1,0] (A1 #[1,0] A5)))) (A6 1))
 (B1 (B8 (tIf (C1 (tOp xj8 (tCB (J6 K) #[4,1]) #[1,0])) (tOp (D7 K) (tOp (D7 K) (A0 1) #[12]) #[1,2]) #[1,0]) (A6 2))
 (E1 (tOp (C8 K) (A0 1) (B9 (O7 K) [] E0 (A1 (A0 0) (A1 (A0 2) (A1 (tCB (J6 K) #[4,0]) A5))))))))
theorem yk3(h:qg4 K vs H Q E):qm9 K {nx:=λ_ H'=>Q .non H',rt:=Q} (C3 ["text","tokens","settled"] vs) H:=by
 obtain⟨z,rfl,hz,q⟩:=h;show qm9 K _ [some (.str z),none,none] H;unfold qm9;walk_at"19";lk;refine⟨z,0,0,rfl,Nat.le_refl _,Nat.zero_le _,hz,λp1 us H1 acc s' s1 hp1 h1 dva fx g1 g2 g3 g5 g6=>?_⟩;have ul:=dva.length;lk;refine M6 (.inl (SqL.of h1)) ?_;lk;have last:∀Q':VK,Q' (.int s') H1->(if decide ((0:Int)<us.length)=true then tOp (D7 K) (tOp (D7 K) (A0 1) #[12]) #[1,2] [some (.str z),some (.ref p1),none] H1 Q' else tC (.int 0) [some (.str z),some (.ref p1),none] H1 Q'):=by
  intro Q' hQ;rcases g6 with⟨rfl,rfl⟩|⟨acc0,k,f,rfl⟩
  ·have:us=[]:=length_eq_zero_iff.mp (by rw[ul];rfl);subst this;rw[decide_eq_false (by simp)];refine qi6 ?_;lk;exact hQ
  ·have hlen:0<us.length:=by rw[ul,length_append,length_singleton];omega
   obtain⟨us0,x,rfl⟩:∃us0 x,us=us0++[x]:=⟨us.dropLast,us.getLast (ne_nil_of_length_pos hlen),(dropLast_concat_getLast _).symm⟩;rw[decide_eq_true #[0]];refine qy2 ?_;have l0:us0.length=acc0.length:=by
    rw[length_append,length_append,length_singleton,length_singleton] at ul;omega
   obtain⟨d',e1,dvx⟩:=Dvs.get' (i:=us0.length) (v:=x) dva (by simp);rw[l0] at e1;have e1:TX.tagD z.cps.toList k f s'=d':=by simpa using e1
   subst e1;obtain⟨t,vs4,rfl,qt,dv4⟩:=C6.mp (show Dv K H1 (.tuple [.str (if f=k+1 then "open" else "close"),.int k,.int s',.str (TX.ofL ((z.cps.toList.drop f).take (s'-1-f)))]) x from dvx);walk_at"28";have w3:=J7.mp w3;subst w3;lk;refine⟨1,rfl,?_⟩;refine L8 (SqL.of h1) (zn0 _ _) ?_;lk;refine P6 qt (M8 (j:=2) rfl) ?_;exact hQ
 refine last _ ?_;lk;refine wt4 (C7 hz) ?_;lk;refine xt6 g2 #[6] hz λp2 zs H2 s2 hp2 h2 dv2=>?_;have rl:=ys2 z.cps.toList s' z.length;have zl:zs.length=(TX.runs z.cps.toList s' z.length).length:=dv2.length;lk;refine yo9 (s2 _ _ h1) h2 #[16] λp hp=>?_;have sA:A3 H2 (upd H2 p (.lst (us++zs))):=A3.new hp _;refine q p (us++zs) _ (A3.tr s1 (A3.tr s2 sA)) (A3.free (A3.tr s1 s2) hp) A2 ?_;rw[<-g5,hl];exact Dvs.same sA _ _ (Dvs.append (Dvs.same s2 _ _ dva) dv2)
noncomputable def esc:List Nat->List Nat
 | []=>[]
 | c::l=>(if c=60 then TX.El else if c=38 then TX.Ea else[c])++esc l
theorem xp0(y:Nat)(Z:List Nat):∀l:List Nat,TX.rep [y] Z 0 l=l.flatMap λc=>if c=y then Z else[c]
 | []=>rfl
 | c::l=>by
   by_cases h:c=y
   ·subst h;rw[TX.rep_yes (Y:=[c]) (l:=c::l) (by simp) ⟨l,rfl⟩];show Z++TX.rep [c] Z 0 l=_;rw[xp0 c Z l];simp
   ·rw[TX.rep_no (by rintro⟨r,e⟩;injection e with e _;exact h e.symm),xp0 y Z l];simp[h]
theorem Ab9(l:List Nat):TX.rep [60] TX.El 0 (TX.rep [38] TX.Ea 0 l)=esc l:=by
 rw[xp0,xp0]
 induction l with
 | nil=>rfl
 | cons c l ih =>
   rw[flatMap_cons,flatMap_append,ih,esc]
   congr 1
   by_cases h1:c=38
   ·subst h1;rfl
   ·by_cases h2:c=60
    ·subst h2;rfl
    ·simp[h1,h2]
noncomputable def zk5(z:Str):Str:=⟨(esc z.cps.toList).toArray⟩
theorem Ac0{w:Str}(h:w.cps.toList=esc z.cps.toList):w=zk5 z:=by rw[X3,h];unfold zk5;simp
noncomputable def opn(n:Str):Str := "<"++n ++ ">"
noncomputable def cls(n:Str):Str := "</"++n ++ ">"
def ql4(K:Fg):Sp:=λvs H Q _=>∃n:Str,vs=[.str n]/\n.length<=4000/\Q (.str (opn n)) H
def qq3(K:Fg):TS :=
 (E1 (tFs ("<":Str) (">":Str) (A0 0)))
theorem ya7(h:ql4 K vs H Q E):qq3 K {nx:=λ_ H'=>Q .non H',rt:=Q} (C3 ["name"] vs) H:=by
 obtain⟨n,rfl,hn,q⟩:=h;show qq3 K _ [some (.str n)] H;unfold qq3;lk;exact⟨.str n,rfl,n,rfl,by omega,q⟩
def ql5(K:Fg):Sp:=λvs H Q _=>∃n:Str,vs=[.str n]/\n.length<=4000/\Q (.str (cls n)) H
def qq4(K:Fg):TS :=
 (E1 (tFs ("</":Str) (">":Str) (A0 0)))
theorem ya8(h:ql5 K vs H Q E):qq4 K {nx:=λ_ H'=>Q .non H',rt:=Q} (C3 ["name"] vs) H:=by
 obtain⟨n,rfl,hn,q⟩:=h;show qq4 K _ [some (.str n)] H;unfold qq4;lk;exact⟨.str n,rfl,n,rfl,by omega,q⟩
def wf5(K:Fg):Sp:=λvs H Q _=>∃z:Str,vs=[.str z]/\z.length<=30000/\Q (.str (zk5 z)) H
def wp6(K:Fg):TS :=
 (E1 (ye4 (ye4 (A0 0) ("&":Str) ("&a;":Str)) ("<":Str) ("&l;":Str)))
theorem za0(h:wf5 K vs H Q E):wp6 K {nx:=λ_ H'=>Q .non H',rt:=Q} (C3 ["text"] vs) H:=by
 obtain⟨z,rfl,hz,q⟩:=h;show wp6 K _ [some (.str z)] H;unfold wp6;lk;refine⟨z,rfl,by omega,?_⟩;have l1:=yr9 z "&" "&a;" #[7];rw[show("&a;":Str).length=3 from rfl] at l1;refine⟨_,rfl,by omega,?_⟩;rw[Ac0 (z:=z) (w:=PySem.Txt.replace (PySem.Txt.replace z "&" "&a;") "<" "&l;") (by rw[TX.replace_rep _ _ _ #[7],TX.replace_rep _ _ _ #[7]];exact Ab9 _)];exact q
variable{a:RAd}{bv:V}{kR:Addr}{st:Rst}
theorem P0(x:BA)(as:List BA):fpA (x::as)=x.fp++fpA as:=by unfold fpA;rw[flatMap_cons]
variable{b:Brn}{l1 l2:List Brn}{m1 m2:List BA}
theorem qk6.split{x:BA}(h:qk6 K H kB (m1++x::m2) (l1++b::l2))(hl:m1.length=l1.length):qk6 K H kB m1 l1/\BrO K H kB x b/\qk6 K H kB m2 l2:=by
 induction m1 generalizing l1 with
 | nil =>
   cases l1 with
   | nil=>cases h with|cons h1 h2=>exact⟨.nil,h1,h2⟩
   | cons=>simp at hl
 | cons y m1 ih =>
   cases l1 with
   | nil=>simp at hl
   | cons c l1 =>
     cases h with
     | cons h1 h2 =>
       obtain⟨h3,h4,h5⟩:=ih h2 (by simpa using hl)
       exact⟨.cons h1 h3,h4,h5⟩
variable{b':Brn}{x':BA}
theorem RdO.swap{x:BA}{b:Brn}(h:RdO K H kR kB r bv a st)(ea:a.as=m1++x::m2)(eb:st.bs=l1++b::l2)(hl:m1.length=l1.length)(bt:But x.fp H H')(hB:BrO K H' kB x' b')(hf:∀z∈x'.fp,z∈x.fp\/H z=none)(hd:x'.fp.Nodup)(ho:x'.o=x.o) :
 RdO K H' kR kB r bv {a with as:=m1++x'::m2} {st with bs:=l1++b'::l2}:=by
 have hb:=h.b
 rw[ea,eb] at hb
 obtain⟨k1,k2,k3⟩:=hb.split hl
 have tk:R6 H H':=qs5 bt λp hp=>h.mut p (by
  simp only[RAd.fp,mem_cons,ea,Q3,P0,mem_append];exact .inr (.inr (.inr (.inr (.inr (.inl hp))))))
 obtain⟨a1,a2,a3,b1,b2,c1,d1,d2,d3,d4,e1⟩:=h.apart
 obtain⟨us,u1,u2⟩:=h.m
 obtain⟨vs,v1,v2⟩:=h.d
 rw[ea,Q3,P0] at d1 d2 d3 d4 e1
 have nf:∀z,z∉fpA m1++(x.fp++fpA m2)->z∉x.fp:=λz h1 h2=>h1 (mem_append_right _ (mem_append_left _ h2))
 rw[nodup_append,nodup_append] at e1
 obtain⟨e2,⟨e3,e4,e5⟩,e6⟩:=e1
 have f1:∀z∈fpA m1,z∉x.fp:=λz hz hx=>e6 z hz z (mem_append_left _ hx) rfl
 have f2:∀z∈fpA m2,z∉x.fp:=λz hz hx=>e5 z hx z hz rfl
 have old:∀z∈RAd.fp r a,H z≠none:=h.dom
 have ins:∀z,z∈r::a.L::a.M::a.A::(fpA m1++(x.fp++fpA m2))->H z≠none:=λz hz=>old z (by unfold RAd.fp;rw[ea,Q3,P0];exact hz)
 have nx:∀z,z∈r::a.L::a.M::a.A::(fpA m1++(x.fp++fpA m2))->z∉x.fp->z∉x'.fp:=λz hz h1 h2=>(hf z h2).elim h1 (ins z hz)
 refine⟨h.kr,h.kb,bt _ _ h.o (nf _ d1),?_,(k1.but bt tk f1).app (.cons hB (k3.but bt tk f2)),⟨us,bt _ _ u1 (nf _ d3),Dvs.tupK tk _ _ (E3 Mnd.fix _) u2⟩,⟨vs,bt _ _ v1 (nf _ d4),Dvs.tupK tk _ _ (E3 Lad.fix _) v2⟩,?_⟩
 ·have:=bt _ _ h.l (nf _ d2)
  show H' a.L=_
  rw[this,ea]
  simp[ho]
 ·show(r::a.L::a.M::a.A::fpA (m1++x'::m2)).Nodup
  rw[Q3,P0]
  have g:∀z,z∈r::a.L::a.M::a.A::(fpA m1++(x.fp++fpA m2))->z∉fpA m1++(x.fp++fpA m2)->z∉fpA m1++(x'.fp++fpA m2):=λz hz h1 h2=>by
   rcases mem_append.mp h2 with h3|h3
   ·exact h1 (mem_append_left _ h3)
   ·rcases mem_append.mp h3 with h4|h4
    ·exact nx z hz (nf z h1) h4
    ·exact h1 (mem_append_right _ (mem_append_right _ h4))
  simp only[nodup_cons,mem_cons,not_or]
  refine⟨⟨a1,a2,a3,g _ (by simp) d1⟩,⟨b1,b2,g _ (by simp) d2⟩,⟨c1,g _ (by simp) d3⟩,g _ (by simp) d4,?_⟩
  rw[nodup_append,nodup_append]
  refine⟨e2,⟨hd,e4,λp hp q hq e=>?_⟩,λp hp q hq e=>?_⟩
  ·subst e
   exact nx p (by simp[hq]) (f2 p hq) hp
  ·subst e
   rcases mem_append.mp hq with h4|h4
   ·exact nx p (by simp[hp]) (f1 p hp) h4
   ·exact e6 p hp p (mem_append_right _ h4) rfl
theorem zt4{x:BA}{z:Addr}(ea:a.as=m1++x::m2)(hz:z∈x.fp):z∈RAd.fp r a:=by
 simp only[RAd.fp,mem_cons,ea,Q3,P0,mem_append];exact .inr (.inr (.inr (.inr (.inr (.inl hz)))))
theorem Rup.swap{x:BA}(h:RdO K H kR kB r bv a st)(ea:a.as=m1++x::m2)(eb:st.bs=l1++b::l2)(hl:m1.length=l1.length)(bt:But x.fp H H')(hB:BrO K H' kB x' b')(hf:∀z∈x'.fp,z∈x.fp\/H z=none)(hd:x'.fp.Nodup)(ho:x'.o=x.o) :
 Rup K kR kB r bv H a H' {a with as:=m1++x'::m2} {st with bs:=l1++b'::l2}:=by
 refine⟨h.swap ea eb hl bt hB hf hd ho,λc o e n=>bt c o e λhc=>n (zt4 ea hc),λz hz=>?_⟩
 simp only[RAd.fp,Q3,P0,mem_cons,mem_append] at hz
 rcases hz with h1|h1|h1|h1|h1|h1|h1
 ·exact .inl (by simp[RAd.fp,h1])
 ·exact .inl (by simp[RAd.fp,h1])
 ·exact .inl (by simp[RAd.fp,h1])
 ·exact .inl (by simp[RAd.fp,h1])
 ·exact .inl (by simp[RAd.fp,ea,Q3,h1])
 ·exact(hf z h1).imp (λh=>zt4 ea h) id
 ·exact .inl (by simp[RAd.fp,ea,Q3,P0,h1])
theorem RdO.pop{x:BA}{b:Brn}(h:RdO K H kR kB r bv a st)(ea:a.as=m1++[x])(eb:st.bs=l1++[b])(hl:m1.length=l1.length) :
 RdO K (upd H a.L (.lst (m1.map λz=>V.ref z.o))) kR kB r bv {a with as:=m1} {st with bs:=l1}/\BrO K (upd H a.L (.lst (m1.map λz=>V.ref z.o))) kB x b:=by
 have hb:=h.b
 rw[ea,eb] at hb
 obtain⟨k1,k2,_⟩:=hb.split hl
 obtain⟨a1,a2,a3,b1,b2,c1,d1,d2,d3,d4,e1⟩:=h.apart
 obtain⟨us,u1,u2⟩:=h.m
 obtain⟨vs,v1,v2⟩:=h.d
 have tk:R6 H (upd H a.L (.lst (m1.map λz=>V.ref z.o))):=V8 (.inl ⟨_,h.l⟩)
 rw[ea,Q3,P0] at d1 d2 d3 d4 e1
 have nL:∀z∈fpA m1,z∉[a.L]:=λz hz e=>d2 (by rw[mem_singleton.mp e] at hz;exact mem_append_left _ hz)
 have nL2:∀z∈x.fp,z∉[a.L]:=λz hz e=>d2 (by rw[mem_singleton.mp e] at hz;exact mem_append_right _ (mem_append_left _ hz))
 refine⟨⟨h.kr,h.kb,by rw[A8 a1];exact h.o,A2,k1.but But.upd1 tk nL,⟨us,by rw[A8 (Ne.symm b1)];exact u1,Dvs.tupK tk _ _ (E3 Mnd.fix _) u2⟩,⟨vs,by rw[A8 (Ne.symm b2)];exact v1,Dvs.tupK tk _ _ (E3 Lad.fix _) v2⟩,?_⟩,k2.but But.upd1 tk nL2⟩
 have:=h.nd
 unfold RAd.fp at this ⊢
 rw[ea,Q3] at this
 exact this.sublist (by
  refine List.Sublist.cons_cons _ (List.Sublist.cons_cons _ (List.Sublist.cons_cons _ (List.Sublist.cons_cons _ ?_)));exact sublist_append_left _ _)
theorem RdO.as_split{b:Brn}(h:RdO K H kR kB r bv a st)(eb:st.bs=l1++b::l2):∃m1 x m2,a.as=m1++x::m2/\m1.length=l1.length/\BrO K H kB x b:=by
 have hb:=h.b;rw[eb] at hb;have hn:=hb.len;rw[length_append,length_cons] at hn;have e:a.as=a.as.take l1.length++a.as[l1.length]'#[0]::a.as.drop (l1.length+1):=by
  rw[List.getElem_cons_drop,take_append_drop]
 have hl:(a.as.take l1.length).length=l1.length:=by rw[length_take];omega
 rw[e] at hb;exact⟨_,_,_,e,hl,(hb.split hl).2.1⟩
def BkO(K:Fg)(H:Hp)(v:V)(rs:List Row):Prop:=∃p vs,v=.ref p/\SqT K H p vs/\Dvs K H (rs.map Row.da) vs
theorem BkO.rws(h:BkO K H v rs):Rws K H v rs:=by
 obtain⟨p,vs,rfl,h1,h2⟩:=h;exact⟨p,vs,rfl,.inr h1,h2⟩
theorem BkO.tupK(h:BkO K H v rs)(tk:R6 H H'):BkO K H' v rs:=by
 obtain⟨p,vs,rfl,h1,h2⟩:=h;exact⟨p,vs,rfl,tk.sqT h1,Dvs.tupK tk _ _ (yr1 rs) h2⟩
theorem BkO.same(h:BkO K H v rs)(s:A3 H H'):BkO K H' v rs:=h.tupK s.tupK
theorem Am2(v:V):qf6 ("book":Str) v []=[(("book":Str),v)]:=rfl
theorem Am3(n v:V):qf6 ("branches":Str) v [(("book":Str),n)]=[(("book":Str),n),(("branches":Str),v)]:=by
 show(if(("book":Str)) = "branches" then _ else _)=_;rw[if_neg #[7]];rfl
theorem Am4(n p v:V):qf6 ("mends":Str) v [(("book":Str),n),(("branches":Str),p)]=[(("book":Str),n),(("branches":Str),p),(("mends":Str),v)]:=by
 show(if(("book":Str)) = "mends" then _ else _::(if(("branches":Str)) = "mends" then _ else _))=_;rw[if_neg #[7],if_neg #[7]];rfl
theorem Am5(n p q v:V):qf6 ("laid":Str) v [(("book":Str),n),(("branches":Str),p),(("mends":Str),q)]=[(("book":Str),n),(("branches":Str),p),(("mends":Str),q),(("laid":Str),v)]:=by
 show(if(("book":Str)) = "laid" then _ else _::(if(("branches":Str)) = "laid" then _ else _::(if(("mends":Str)) = "laid" then _ else _)))=_;rw[if_neg #[7],if_neg #[7],if_neg #[7]];rfl
theorem BrO.upd{p:Addr}{o:HO}{a:BA}(h:BrO K H kB a b)(hp:yy5 H p\/H p=none)(hn:p∉a.fp):BrO K (upd H p o) kB a b :=
 h.but But.upd1 (hp.elim V8 λe=>(A3.new e o).tupK) λz hz e=>hn (by rw[mem_singleton.mp e] at hz;exact hz)
theorem D4(h:H q=some u)(n:q≠p):upd H p o q=some u:=by rw[A8 n];exact h
theorem N9(h:H p=none)(e:H q=some u):q≠p:=λz=>by rw[z,h] at e;cases e
variable{ps:List Addr}
theorem xe4(b:But ps H H')(hp:p∈ps\/H p=none):But ps H (upd H' p o):=λz u e n=>by
 rw[A8 (λy=>hp.elim (λh=>n (by rw[y];exact h)) λh=>by rw[y,h] at e;cases e)];exact b z u e n
abbrev qw2(K:Fg)(qA:Addr):TS :=
 (B1 (qi5 K (A0 0) (T2 (A1 (xi3 qA (T6 K) [] E0 (A1 (tC (.str "")) (A1 (Y1 A5) A5))) A5)) "branches")
 (B1 (qi5 K (A0 0) (T2 A5) "mends")
 (qi5 K (A0 0) (T2 A5) "laid")))
def U2(K:Fg):Sp:=λvs H Q _=>∃(kR r x:Addr) (bv:V),vs=[.ref r,bv]/\PySem.W.nsIn K mainGlobals "Reader"=some (some (.ref kR))/\H r=some (.ins kR x [])/\∀(kB:Addr) (a:RAd) (H':Hp),RdO K H' kR kB r bv a ⟨[⟨"",[],[],[]⟩],[],[]⟩->But [r] H H'->(∀z∈RAd.fp r a,z=r\/H z=none)->B3 H H'->Q .non H'
def W3(K:Fg)(qA:Addr):TS :=
 (B1 (qi5 K (A0 0) (A0 1) "book")
 (qw2 K qA))
theorem xe5(cz:Cz K qA qC)(h:U2 K vs H Q E):W3 K qA {nx:=λ_ H'=>Q .non H',rt:=Q} (C3 ["self","book"] vs) H:=by
 obtain⟨kR,r,x,bv,rfl,hkR,hr,q⟩:=h;obtain rfl:=E2 cz.ns_Reader hkR;show W3 K _ _ [some (.ref r),some bv] H;unfold W3;have c:=cz.cl_Reader;refine V1 (R7 ?_);lk;refine⟨r,_,x,_,rfl,hr,c,cz.na_Reader_book,by simp,?_⟩;rw[Am2];have bt1:But [r] H (upd H r (.ins qC x [(("book":Str),bv)])):=But.upd1;have g1:B3 H (upd H r (.ins qC x [(("book":Str),bv)])):=B3.upd;have e1:(upd H r (.ins qC x [(("book":Str),bv)])) r=_:=A2;generalize upd H r (.ins qC x [(("book":Str),bv)])=H1 at *
 show qw2 K _ _ _ _;refine V1 (R7 ?_);lk;refine wp0 ?_;walk_at"16";have e2:=D4 (o:=.tup []) e1 (N9 hp e1);have bt2:But [r] H (upd H1 p (.tup [])):=xe4 bt1 (.inr (g1 _ hp));have g2:B3 H (upd H1 p (.tup [])):=B3.tr g1 B3.upd;have ep:SqT K (upd H1 p (.tup [])) p []:=SqT.of A2;generalize upd H1 p (.tup [])=H2 at *
 lk;intro o dx ho hdx ne;have nor:r≠o:=N9 ho e2;have e3:(upd (upd H2 dx (.own o)) o (.ins qA dx [])) r=_:=D4 (D4 e2 (N9 hdx e2)) nor;have bt3:But [r] H (upd (upd H2 dx (.own o)) o (.ins qA dx [])):=xe4 (xe4 bt2 (.inr (g2 _ hdx))) (.inr (g2 _ ho));have g3:B3 H (upd (upd H2 dx (.own o)) o (.ins qA dx [])):=B3.tr g2 (B3.tr B3.upd B3.upd);have s3:A3 H2 (upd (upd H2 dx (.own o)) o (.ins qA dx [])):=λz u e=>D4 (D4 e (N9 hdx e)) (N9 ho e);have eo:(upd (upd H2 dx (.own o)) o (.ins qA dx [])) o=some (.ins qA dx []):=A2;generalize upd (upd H2 dx (.own o)) o (.ins qA dx [])=H3 at *
 refine⟨qA,o,dx,p, "",[],rfl,cz.ns_Branch,eo,s3.sqT ep,λqq ww H4 hq hw hqw bt hB g4=>⟨rfl,?_⟩⟩;have e4:H4 r=_:=bt _ _ e3 (by simp[nor]);have bt4:But [r] H H4:=λz u e n=>bt z u (bt3 z u e n) (by simp;intro y;rw[y] at e;have:=g2 _ ho;rw[e] at this;cases this);have g4':B3 H H4:=B3.tr g3 g4;have nrq:r≠qq:=N9 hq e3;have nrw:r≠ww:=N9 hw e3;have noq:o≠qq:=N9 hq eo;have now:o≠ww:=N9 hw eo;have fp:BA.fp ⟨o,dx,p,qq,ww⟩=[o,qq,ww]:=rfl;lk;refine⟨C7 (by z_go),λL hL=>?_⟩;lk;have nL:L∉BA.fp ⟨o,dx,p,qq,ww⟩:=λhz=>by
  rcases(qk6.cons hB .nil).mut L (by rw[P0];exact mem_append_left _ hz) with⟨xs,e⟩|⟨C,d,fs,e⟩ <;> rw[hL] at e <;> cases e
 have hB5:=hB.upd (o:=.lst [.ref o]) (.inr hL) nL;have e5:=D4 (o:=.lst [.ref o]) e4 (N9 hL e4);have eL5:(upd H4 L (.lst [.ref o])) L=_:=A2;have bt5:But [r] H (upd H4 L (.lst [.ref o])):=xe4 bt4 (.inr (g4' _ hL));have g5:B3 H (upd H4 L (.lst [.ref o])):=B3.tr g4' B3.upd;have hLr:r≠L:=N9 hL e4;have hL0:=g4' _ hL;generalize upd H4 L (.lst [.ref o])=H5 at *
 refine⟨r,_,x,_,rfl,e5,c,cz.na_Reader_branches,by simp,?_⟩;rw[Am3];have nr:r∉BA.fp ⟨o,dx,p,qq,ww⟩:=by rw[fp];simp[nor,nrq,nrw]
 have hB6:=hB5.upd (o:=.ins qC x [(("book":Str),bv),(("branches":Str),.ref L)]) (.inl (.inr ⟨_,_,_,e5⟩)) nr;have e6:(upd H5 r (.ins qC x [(("book":Str),bv),(("branches":Str),.ref L)])) r=_:=A2;have eL6:=D4 (o:=.ins qC x [(("book":Str),bv),(("branches":Str),.ref L)]) eL5 (Ne.symm hLr);have bt6:But [r] H (upd H5 r (.ins qC x [(("book":Str),bv),(("branches":Str),.ref L)])):=xe4 bt5 (.inl (by simp));have g6:B3 H (upd H5 r (.ins qC x [(("book":Str),bv),(("branches":Str),.ref L)])):=B3.tr g5 B3.upd;generalize upd H5 r (.ins qC x [(("book":Str),bv),(("branches":Str),.ref L)])=H6 at *
 show B1 (qi5 K (A0 0) (T2 A5) "mends") _ _ _ _;refine V1 (R7 ?_);lk;refine⟨C7 (by z_go),λM hM=>?_⟩;lk;have nM:M∉BA.fp ⟨o,dx,p,qq,ww⟩:=λhz=>by
  rcases(qk6.cons hB6 .nil).mut M (by rw[P0];exact mem_append_left _ hz) with⟨xs,e⟩|⟨C,d,fs,e⟩ <;> rw[hM] at e <;> cases e
 have hB7:=hB6.upd (o:=.lst []) (.inr hM) nM;have hMr:r≠M:=N9 hM e6;have hML:L≠M:=N9 hM eL6;have hM0:=g6 _ hM;refine⟨r,_,x,_,rfl,D4 e6 hMr,c,cz.na_Reader_mends,by simp,?_⟩;rw[Am4];have e8:(upd (upd H6 M (.lst [])) r (.ins qC x [(("book":Str),bv),(("branches":Str),.ref L),(("mends":Str),.ref M)])) r=_:=A2;have eL8:=D4 (o:=.ins qC x [(("book":Str),bv),(("branches":Str),.ref L),(("mends":Str),.ref M)]) (D4 (o:=.lst []) eL6 hML) (Ne.symm hLr);have eM8:=D4 (o:=.ins qC x [(("book":Str),bv),(("branches":Str),.ref L),(("mends":Str),.ref M)]) (A2 (H:=H6) (a:=M) (o:=.lst [])) (Ne.symm hMr);have hB8:=hB7.upd (o:=.ins qC x [(("book":Str),bv),(("branches":Str),.ref L),(("mends":Str),.ref M)]) (.inl (.inr ⟨_,_,_,D4 e6 hMr⟩)) nr;have bt8:But [r] H (upd (upd H6 M (.lst [])) r (.ins qC x [(("book":Str),bv),(("branches":Str),.ref L),(("mends":Str),.ref M)])):=xe4 (xe4 bt6 (.inr hM0)) (.inl (by simp));have g8:B3 H (upd (upd H6 M (.lst [])) r (.ins qC x [(("book":Str),bv),(("branches":Str),.ref L),(("mends":Str),.ref M)])):=B3.tr g6 (B3.tr B3.upd B3.upd);generalize upd (upd H6 M (.lst [])) r (.ins qC x [(("book":Str),bv),(("branches":Str),.ref L),(("mends":Str),.ref M)])=H8 at *
 show qi5 K (A0 0) (T2 A5) "laid" _ _ _;refine R7 ?_;lk;refine⟨C7 (by z_go),λA hA=>?_⟩;lk;have nA:A∉BA.fp ⟨o,dx,p,qq,ww⟩:=λhz=>by
  rcases(qk6.cons hB8 .nil).mut A (by rw[P0];exact mem_append_left _ hz) with⟨xs,e⟩|⟨C,d,fs,e⟩ <;> rw[hA] at e <;> cases e
 have hB9:=hB8.upd (o:=.lst []) (.inr hA) nA;have hAr:r≠A:=N9 hA e8;have hAL:L≠A:=N9 hA eL8;have hAM:M≠A:=N9 hA eM8;have hA0:=g8 _ hA;refine⟨r,_,x,_,rfl,D4 e8 hAr,c,cz.na_Reader_laid,by simp,?_⟩;rw[Am5];have hB10:=hB9.upd (o:=.ins qC x [(("book":Str),bv),(("branches":Str),.ref L),(("mends":Str),.ref M),(("laid":Str),.ref A)]) (.inl (.inr ⟨_,_,_,D4 e8 hAr⟩)) nr;refine q qA ⟨x,L,M,A,[⟨o,dx,p,qq,ww⟩]⟩ _ ⟨cz.ns_Reader,cz.ns_Branch,A2,D4 (D4 eL8 hAL) (Ne.symm hLr),.cons hB10 .nil,⟨[],D4 (D4 eM8 hAM) (Ne.symm hMr),E4⟩,⟨[],D4 A2 (Ne.symm hAr),E4⟩,?_⟩ (xe4 (xe4 bt8 (.inr hA0)) (.inl (by simp))) ?_ (B3.tr g8 (B3.tr B3.upd B3.upd))
 ·show(r::L::M::A::fpA [⟨o,dx,p,qq,ww⟩]).Nodup;have ef:fpA [⟨o,dx,p,qq,ww⟩]=[o,qq,ww]:=rfl;rw[fp] at nL nM nA;simp only[mem_cons,not_mem_nil,or_false,not_or] at nL nM nA;rw[ef];simp[hLr,hMr,hAr,nor,nrq,nrw,hML,hAL,hAM,nL.1,nL.2.1,nL.2.2,nM.1,nM.2.1,nM.2.2,nA.1,nA.2.1,nA.2.2,noq,now,hqw]
 ·intro z hz;have hz':z∈r::L::M::A::[o,qq,ww]:=hz;simp only[mem_cons,not_mem_nil,or_false] at hz';rcases hz' with h1|h1|h1|h1|h1|h1|h1
  ·exact .inl h1
  ·exact .inr (h1▸hL0)
  ·exact .inr (h1▸hM0)
  ·exact .inr (h1▸hA0)
  ·exact .inr (h1▸g2 _ ho)
  ·exact .inr (h1▸g3 _ hq)
  ·exact .inr (h1▸g3 _ hw)
theorem xe6{m:Int}(h:0<=m):qe8 xs (some m) none=xs.drop m.toNat:=by
 unfold qe8;have e:HT.sIx xs.length 0 (some m)=min m.toNat xs.length:=by
  show(if m<0 then _ else min m.toNat xs.length)=_;rw[if_neg #[0]]
 show(xs.drop (HT.sIx xs.length 0 (some m))).take (xs.length-HT.sIx xs.length 0 (some m))=_;rw[e];by_cases hl:m.toNat<=xs.length
 ·rw[Nat.min_eq_left hl,take_of_length_le (by rw[length_drop];exact Nat.le_refl _)]
 ·rw[Nat.min_eq_right #[0],drop_length,drop_eq_nil_of_le #[0],take_nil]
theorem qd3{l:List α}{i:Nat}{x:α}(h:l[i]?=some x):l.take (i+1)=l.take i++[x]:=by rw[take_succ,h];rfl
theorem Ag1{x:α}{xs:List α}:atI (x::xs) 0=some x:=by
 have:atI (x::xs) ((0:Nat):Int)=some x:=M8 rfl;exact this
variable{as:List BA}
theorem qk6.get{bs:List Brn}{i:Nat}{x:BA}(h:qk6 K H kB as bs)(e:as[i]?=some x):∃b,bs[i]?=some b/\BrO K H kB x b:=by
 induction h generalizing i with
 | nil=>simp at e
 | cons h1 _ ih =>
   cases i with
   | zero=>simp at e;subst e;exact⟨_,rfl,h1⟩
   | succ i=>exact ih (by simpa using e)
def qa0(K:Fg):Sp:=λvs H Q _=>∃(kR kB r:Addr) (bv:V) (a:RAd) (st:Rst) (b0:Brn) (bs:List Brn),vs=[.ref r]/\RdO K H kR kB r bv a st/\st.bs=b0::bs/\∀(v:V) (H':Hp),A3 H H'->Dv K H' (Tr.nd "" b0.ps).da v->Q v H'
def W4(K:Fg):TS :=
 (E1 (Y1 (A1 (tC (.str "")) (A1 (tCB (ql3 K) (A1 (I0 K (tOp (D7 K) (I0 K (A0 0) "branches") #[1,0]) "parts") A5)) A5))))
theorem xe7(cz:Cz K qA qC)(h:qa0 K vs H Q E):W4 K {nx:=λ_ H'=>Q .non H',rt:=Q} (C3 ["self"] vs) H:=by
 obtain⟨kR,kB,r,bv,a,st,b0,bs,rfl,h,eb,q⟩:=h;walk_at"4";show W4 K _ [some (.ref r)] H;unfold W4;obtain⟨m1,x,m2,ea,hm,hx⟩:=h.as_split (l1:=[]) eb;obtain rfl:=eq_nil_of_length_eq_zero hm;obtain⟨us,q1,q2⟩:=hx.q;walk_at"2";refine C2 ?_;lk;walk_at"14";lk;refine L8 (SqL.of h.l) (v:=.ref x.o) (by rw[ea];exact Ag1) ?_;walk_at"11";refine⟨_,_,rfl,.inl ⟨SqL.of q1,λl hl=>?_⟩⟩;walk_at"16";have s1:=A3.new hl (.tup us);have s2:=A3.new hp (.tup [.str "",.ref l]);refine q _ _ (A3.tr s1 s2) (Ag0 (SqT.of A2) (s2.sqT (SqT.of A2)) (Dvs.same (A3.tr s1 s2) _ _ q2))
def D1(K:Fg):Sp:=λvs H Q _=>∃(kR kB r:Addr) (bv:V) (a:RAd) (st:Rst) (b0:Brn) (bs:List Brn),vs=[.ref r]/\RdO K H kR kB r bv a st/\st.bs=b0::bs/\bs.length<=1000/\∀(p:Addr) (H':Hp),A3 H H'->SqT K H' p (B0 (bs.map Brn.n))->Q (.ref p) H'
def Q5(K:Fg):TS :=
 (E1 (tCB (ql3 K) (A1 (qr9 [none] (qy3 K (tSl (qu8 K) (I0 K (A0 0) "branches") (O9 #[1,1]) U9)) (A6 0) tTT (I0 K (A0 0) "name")) A5)))
theorem wf6(cz:Cz K qA qC)(h:D1 K vs H Q E):Q5 K {nx:=λ_ H'=>Q .non H',rt:=Q} (C3 ["self"] vs) H:=by
 obtain⟨kR,kB,r,bv,a,st,b0,bs,rfl,h,eb,hl,q⟩:=h;walk_at"4";show Q5 K _ [some (.ref r)] H;unfold Q5;obtain⟨m1,x,m2,ea,hm,hx⟩:=h.as_split (l1:=[]) eb;obtain rfl:=eq_nil_of_length_eq_zero hm;have hb:=h.b;rw[ea,eb] at hb;obtain⟨_,_,hb2⟩:=hb.split (m1:=[]) (l1:=[]) rfl;have hbl:=hb2.len;walk_at"2";walk_at"14";lk;refine wx1 (SqL.of h.l) λp hp=>?_;have ecut:qe8 (a.as.map λz=>V.ref z.o) (some 1) none=m2.map λz=>V.ref z.o:=by
  rw[xe6 #[7],ea];rfl
 rw[ecut];have s1:=A3.new hp (.lst (m2.map λz=>V.ref z.o));have e1:(upd H p (.lst (m2.map λz=>V.ref z.o))) p=_:=A2;generalize upd H p (.lst (m2.map λz=>V.ref z.o))=H1 at *
 refine xr3 (.inl (SqL.of e1)) (λi ys H'=>H'=H1/\ys=B0 ((bs.take i).map Brn.n)) ⟨rfl,rfl⟩ ?_ ?_ ?_ ?_ ?_
 ·rintro i ys H' hi ⟨_,rfl⟩;rw[B2,length_map,length_take];exact C7 #[0]
 ·rintro _ i ys H' _ ⟨rfl,_⟩;exact SqL.of e1
 ·rintro hq i ys H' _ ⟨rfl,_⟩;exact hq
 ·rintro i v ys H' hi ⟨rfl,rfl⟩;rw[List.getElem?_map] at hi;obtain⟨z,hz,rfl⟩:=Option.map_eq_some_iff.mp hi;obtain⟨c,hc,hB⟩:=hb2.get hz;refine D0 ?_;walk_at"2";refine⟨z.o,_,z.x,_,_,rfl,s1 _ _ hB.o,cz.cl_Branch,cz.na_Branch_name,rfl,?_⟩;refine⟨rfl,?_⟩;rw[wl2,qd3 hc,map_append];rfl
 ·rintro ys H' ⟨rfl,rfl⟩ l hl2;have en:bs.take (m2.map λz=>V.ref z.o).length=bs:=by rw[length_map,hbl];exact take_length
  rw[en];have s2:=A3.new hl2 #[23,bs.map Brn.n];lk;refine⟨_,_,rfl,.inl ⟨SqL.of A2,λw hw=>?_⟩⟩;lk;exact q _ _ (A3.tr (A3.tr s1 s2) (A3.new hw _)) (SqT.of A2)
abbrev qs9(K:Fg):TS :=
 (D2 (tBM K "list" D9 (I0 K (tOp (D7 K) (I0 K (A0 0) "branches") #[12]) "parts") (A1 (Y1 (A1 (I0 K (A0 1) "name") (A1 (tCB (ql3 K) (A1 (I0 K (A0 1) "parts") A5)) A5))) A5)))
def O3(K:Fg):Sp:=λvs H Q _=>∃(kR kB r:Addr) (bv:V) (a:RAd) (st:Rst) (bs:List Brn) (b1 b2:Brn),vs=[.ref r]/\RdO K H kR kB r bv a st/\st.bs=bs++[b1,b2]/\b1.ps.length<=9000000/\∀a' H',Rup K kR kB r bv H a H' a' {st with bs:=bs++[{b1 with ps:=b1.ps++[Tr.nd b2.n b2.ps]}]}->B3 H H'->Q .non H'
def U3(K:Fg):TS :=
 (B1 (B8 (xq4 K "list" xj5 (I0 K (A0 0) "branches")) (A6 1))
 (qs9 K))
theorem wz2(cz:Cz K qA qC)(h:O3 K vs H Q E):U3 K {nx:=λ_ H'=>Q .non H',rt:=Q} (C3 ["self","branch"] vs) H:=by
 obtain⟨kR,kB,r,bv,a,st,bs,b1,b2,rfl,h,eb,hl,q⟩:=h;walk_at"4";show U3 K _ [some (.ref r),none] H;unfold U3;have eb2:st.bs=(bs++[b1])++b2::[]:=by rw[eb];simp
 obtain⟨m,y,m3,ea,hm,hy⟩:=h.as_split eb2;have hn:=h.b.len;rw[ea,eb2] at hn;simp only[length_append,length_cons,length_nil] at hn hm;obtain rfl:m3=[]:=eq_nil_of_length_eq_zero #[0];have hm':m.length=(bs++[b1]).length:=by simp[hm]
 obtain⟨h1,hy1⟩:=h.pop ea eb2 hm';have bt1:But (RAd.fp r a) H (upd H a.L (.lst (m.map λz=>V.ref z.o))):=λz u e n=>D4 e λy=>n (by rw[y];simp[RAd.fp]);have hL:=h.l;rw[ea,map_append] at hL;have g1:B3 H (upd H a.L (.lst (m.map λz=>V.ref z.o))):=B3.upd;have fy:∀z∈y.fp,z∉fpA m:=λz hz hx=>by
  have:=h.apart.2.2.2.2.2.2.2.2.2.2;rw[ea,Q3,nodup_append] at this;exact this.2.2 z hx z (by rw[P0];exact mem_append_left _ hz) rfl
 have fr1:∀z∈RAd.fp r {a with as:=m},z∈RAd.fp r a:=λz hz=>by
  simp only[RAd.fp,mem_cons,ea,Q3,mem_append] at hz ⊢;rcases hz with h|h|h|h|h
  ·exact .inl h
  ·exact .inr (.inl h)
  ·exact .inr (.inr (.inl h))
  ·exact .inr (.inr (.inr (.inl h)))
  ·exact .inr (.inr (.inr (.inr (.inl h))))
 walk_at"2";walk_at"14";lk;refine⟨.inl ⟨rfl,_,SqL.of hL⟩,?_⟩;refine ye7 hL ?_;generalize upd H a.L (.lst (m.map λz=>V.ref z.o))=H1 at *
 lk;show qs9 K _ _ _;have e1:({st with bs:=bs++[b1]}:Rst).bs=bs++b1::[]:=rfl;obtain⟨m1,x,m2,ea2,hm2,hx⟩:=h1.as_split e1;have ea2':m=m1++x::m2:=ea2;obtain rfl:m2=[]:=eq_nil_of_length_eq_zero (by have:=congrArg List.length ea2';simp at this;omega);obtain⟨us,q1,q2⟩:=hx.q;obtain⟨ws,p1,p2⟩:=hy1.q;have hul:=wy0 q2;have h1l:H1 a.L=_:=h1.l;have h1o:H1 r=_:=h1.o;walk_at"2";refine C2 ?_;lk;refine⟨r,_,a.x,_,_,rfl,h1o,cz.cl_Reader,cz.na_Reader_branches,rfl,?_⟩;lk;refine⟨1,rfl,?_⟩;refine L8 (SqL.of h1l) (v:=.ref x.o) (qv9 (n:=m1.length) (by show(m.map _).length=_;rw[ea2'];simp) (by show(m.map _)[_]?=_;rw[ea2'];simp)) ?_;walk_at"11";refine⟨.inl ⟨rfl,_,SqL.of q1⟩,?_⟩;walk_at"2";refine⟨y.o,_,y.x,_,_,rfl,hy1.o,cz.cl_Branch,cz.na_Branch_name,rfl,?_⟩;walk_at"2";refine⟨y.o,_,y.x,_,_,rfl,hy1.o,cz.cl_Branch,cz.na_Branch_parts,rfl,?_⟩;lk;refine⟨_,_,rfl,.inl ⟨SqL.of p1,λl hl=>?_⟩⟩;walk_at"16";have s2:=A3.new hl (.tup ws);have s3:=A3.new hp (.tup [.str b2.n,.ref l]);have s23:=A3.tr s2 s3;have dt:Dv K _ (Tr.nd b2.n b2.ps).da (.ref p):=Ag0 (SqT.of (A2 (H:=upd H1 l (.tup ws)) (a:=p) (o:=.tup [.str b2.n,.ref l]))) (s3.sqT (SqT.of A2)) (Dvs.same s23 _ _ p2);generalize upd (upd H1 l (.tup ws)) p (.tup [.str b2.n,.ref l])=H2 at *
 lk;refine E7 (s23 _ _ q1) (by rw[hul,sizeLine_eq];omega) ?_;have h2:=h1.same s23;have xq:x.q∈x.fp:=by simp[BA.fp]
 have bt3:But x.fp H2 (upd H2 x.q (.lst (us++[.ref p]))):=λz u e n=>D4 e λy=>n (by rw[y];exact xq);have xnd:x.fp.Nodup:=by
  have:=h1.apart.2.2.2.2.2.2.2.2.2.2;rw[show({a with as:=m}:RAd).as=m from rfl,ea2',Q3,P0,nodup_append,nodup_append] at this;exact this.2.1.1
 have hx2:=(hx.but (ps:=[]) (λz u e _=>s23 z u e) s23.tupK λ_ _ z=>by cases z);have tk3:R6 H2 (upd H2 x.q (.lst (us++[.ref p]))):=V8 (.inl ⟨_,s23 _ _ q1⟩);have no:x.o≠x.q:=by simp[BA.fp] at xnd;exact xnd.1.1
 have nw:x.w≠x.q:=by simp[BA.fp] at xnd;exact Ne.symm xnd.2
 have hB:BrO K (upd H2 x.q (.lst (us++[.ref p]))) qA x {b1 with ps:=b1.ps++[Tr.nd b2.n b2.ps]} :=
  ⟨D4 hx2.o no,tk3.sqT hx2.p,⟨_,A2,by
   show Dvs K _ (Tr.das (b1.ps++[Tr.nd b2.n b2.ps])) _;rw[qp8,map_append,<-qp8];exact Dvs.append (Dvs.tupK tk3 _ _ (qv8 _) (Dvs.same s23 _ _ q2)) (Dvs.one (Dv.tupK tk3 _ _ (zs0 _) dt))⟩,D4 hx2.w nw⟩
 have u:=Rup.swap h2 ea2 e1 hm2 bt3 hB (λz hz=>.inl hz) xnd rfl;refine q _ _ ⟨u.ok,λc o e n=>?_,λz hz=>?_⟩ (B3.tr (B3.tr g1 (A3.grow s23)) B3.upd)
 ·exact bt3 c o (s23 _ _ (bt1 c o e n)) λhc=>n (fr1 c (zt4 ea2 hc))
 ·exact(u.fr z hz).imp (fr1 z) λh=>g1 z (A3.grow s23 z h)
theorem za1 {n:Option Str} (h:Q (.bl (decide (n=some x))) H):P7 K (oV n) (.str x) H Q:=by
 cases n with
 | none => refine yp0 rfl ?_;have e:(decide (oV none=V.str x))=decide (none=some x):=by simp[oV]
           rw[e];exact h
 | some y => refine yp0 rfl ?_;have e:(decide (oV (some y)=V.str x))=decide (some y=some x):=by simp[oV]
             rw[e];exact h
variable{rule t:Str}
theorem Rup.mend{e:Int}(h:RdO K H kR kB r bv a st)(s1:A3 H H1)(e1:SqT K H1 p [.int i,.int e,.str t,.str rule])(m2:Dvs K H (st.ms.map Mnd.da) us) :
 Rup K kR kB r bv H a (upd H1 a.M (.lst (us++[.ref p]))) a {st with ms:=st.ms++[⟨i,e,t,rule⟩]}:=by
 refine .keep ((h.same s1).setM ?_) λc o e n=>?_
 ·rw[map_append]
  exact Dvs.append (Dvs.same s1 _ _ m2) (Dvs.one (C6.mpr ⟨p,_,rfl,e1,C0 (J7.mpr rfl) (C0 (J7.mpr rfl) (C0 (D6.mpr rfl) (C0 (D6.mpr rfl) E4)))⟩))
 ·rw[A8 (λz=>n (by rw[z];simp[RAd.fp]))];exact s1 c o e
theorem RdO.ms_len(m2:Dvs K H (st.ms.map Mnd.da) us):us.length=st.ms.length:=by have:=m2.length;rw[length_map] at this;exact this
def N3(K:Fg):Sp:=λvs H Q _=>∃(kR kB r:Addr) (bv:V) (a:RAd) (st:Rst) (n:Str) (i:Int) (rule:Str) (bs:List Brn) (b0:Brn),vs=[.ref r,.str n,.int i,.str rule]/\RdO K H kR kB r bv a st/\st.bs=bs++[b0]/\bs.length<=1000/\b0.pl.length<=1000/\b0.ps.length<=9000000/\st.ms.length<=9000000/\n.length<=4000/\∀a' H',Rup K kR kB r bv H a H' a' {st with bs:=st.bs++[⟨n,b0.pl++[(b0.ps.length:Int)],[],[]⟩],ms:=st.ms++[⟨i,i,opn n,rule⟩]}->B3 H H'->Q .non H'
def S1(K:Fg)(qC:Addr):TS :=
 (B1 (D2 (tBM K "list" D9 (I0 K (A0 0) "mends") (A1 (Y1 (A1 (A0 2) (A1 (A0 2) (A1 (B9 (ql4 K) [] E0 #[4,1]) #[4,3])))) A5)))
 (D2 (E9 qC "enter" (R8 K) [] E0 (A0 0) #[4,1])))
theorem wu3(cz:Cz K qA qC)(h:N3 K vs H Q E):S1 K qC {nx:=λ_ H'=>Q .non H',rt:=Q} (C3 ["self","name","start","rule"] vs) H:=by
 obtain⟨kR,kB,r,bv,a,st,n,i,rule,bs,b0,rfl,h,eb,h1,h2,h3,h4,h5,q⟩:=h;obtain rfl:=E2 cz.ns_Reader h.kr;show S1 K _ _ [some (.ref r),some (.str n),some (.int i),some (.str rule)] H;unfold S1;obtain⟨us,m1,m2⟩:=h.m;have hul:=RdO.ms_len m2;walk_at"2";refine⟨r,_,a.x,_,_,rfl,h.o,cz.cl_Reader,cz.na_Reader_mends,rfl,?_⟩;lk;refine⟨.inl ⟨rfl,_,SqL.of m1⟩,?_⟩;lk;refine⟨n,rfl,h5,?_⟩;walk_at"16";lk;have s1:=A3.new hp (.tup [.int i,.int i,.str (opn n),.str rule]);refine E7 (s1 _ _ m1) (by rw[hul,sizeLine_eq];omega) ?_;have u1:=Rup.mend h s1 (SqT.of A2) m2;have g1:B3 H (upd (upd H p (.tup [.int i,.int i,.str (opn n),.str rule])) a.M (.lst (us++[.ref p]))):=B3.tr B3.upd B3.upd;generalize upd (upd H p (.tup [.int i,.int i,.str (opn n),.str rule])) a.M (.lst (us++[.ref p]))=H1 at *
 walk_at"18";refine⟨r,_,_,rfl,u1.ok.o,rfl,?_⟩;lk;refine⟨qC,kB,r,bv,a,_,n,bs,b0,rfl,u1.ok,eb,h1,h2,h3,λa' H' u2 g2=>?_⟩;exact q a' H' (u1.tr u2 g1) (B3.tr g1 g2)
def O4(K:Fg):Sp:=λvs H Q _=>∃(kR kB r:Addr) (bv:V) (a:RAd) (st:Rst) (b0:Brn) (bs:List Brn) (rs:List Row),vs=[.ref r]/\RdO K H kR kB r bv a st/\BkO K H bv rs/\st.bs=b0::bs/\bs.length<=1000/\∀H':Hp,A3 H H'->Q (.bl (decide (P3 rs (some (T9 (bs.map Brn.n)))=some ("frame":Str)))) H'
def M0(K:Fg)(qC:Addr):TS :=
 (E1 (tOp (P7 K) (B9 (Y2 K) [] E0 (A1 (I0 K (A0 0) "book") (A1 (B9 (O2 K) [] E0 (A1 (E9 qC "open_names" (D1 K) [] E0 (A0 0) A5) A5)) A5))) (tC (.str "frame"))))
theorem wb6(cz:Cz K qA qC)(h:O4 K vs H Q E):M0 K qC {nx:=λ_ H'=>Q .non H',rt:=Q} (C3 ["self"] vs) H:=by
 obtain⟨kR,kB,r,bv,a,st,b0,bs,rs,rfl,h,hk,eb,hl,q⟩:=h;obtain rfl:=E2 cz.ns_Reader h.kr;show M0 K _ _ [some (.ref r)] H;unfold M0;walk_at"2";walk_at"23";walk_at"3";refine⟨qC,kB,r,bv,a,st,b0,bs,rfl,h,eb,hl,λp H1 s1 hp=>?_⟩;lk;refine⟨p,_,rfl,.inr hp,?_⟩;lk;refine⟨bv,some (T9 (bs.map Brn.n)),rs,rfl,(hk.same s1).rws,?_⟩;lk;refine za1 ?_;exact q _ s1
theorem xi9{f:α->Bool}:∀{l zs:List α} {z:α},l.filter f=zs++[z]->∃A B,l=A++z::B/\f z=true/\∀c∈B,f c=false:=by
 intro l
 induction l with
 | nil=>intro zs z h;simp at h
 | cons x l ih =>
   intro zs z h
   by_cases hx:f x=true
   ·rw[filter_cons_of_pos hx] at h
    cases zs with
    | nil =>
      simp only[nil_append,List.cons.injEq] at h
      obtain⟨rfl,h⟩:=h
      exact⟨[],l,rfl,hx,λc hc=>Bool.eq_false_iff.mpr (filter_eq_nil_iff.mp h c hc)⟩
    | cons y zs =>
      simp only[cons_append,List.cons.injEq] at h
      obtain⟨A,B,e,h1,h2⟩:=ih h.2
      exact⟨x::A,B,by rw[e];rfl,h1,h2⟩
   ·rw[filter_cons_of_neg hx] at h
    obtain⟨A,B,e,h1,h2⟩:=ih h
    exact⟨x::A,B,by rw[e];rfl,h1,h2⟩
theorem Ag2{c:Bool}{p q:Prop}(hc:c=true)(h:p):if c=true then p else q:=by rw[if_pos hc];exact h
def LwP(rs:List Row)(l1:List Brn)(b:Brn)(l2:List Brn):Prop:=(X0 rs b.n=true/\∀c∈l2,X0 rs c.n=false)\/(l1=[]/\∀c∈b::l2,X0 rs c.n=false)
abbrev qg5(K:Fg):TS :=
 (E1 (tIf (C1 (tOp xj8 (tCB (J6 K) #[4,1]) #[1,0])) (tOp (D7 K) (A0 1) #[12]) (tOp (D7 K) (I0 K (A0 0) "branches") #[1,0])))
def I9(K:Fg):Sp:=λvs H Q _=>∃(kR kB r:Addr) (bv:V) (a:RAd) (st:Rst) (rs:List Row),vs=[.ref r]/\RdO K H kR kB r bv a st/\BkO K H bv rs/\st.bs≠[]/\st.bs.length<=1000/\∀(m1 m2:List BA) (x:BA) (l1 l2:List Brn) (b:Brn) (H':Hp),A3 H H'->a.as=m1++x::m2->st.bs=l1++b::l2->m1.length=l1.length->LwP rs l1 b l2->Q (.ref x.o) H'
def S2(K:Fg):TS :=
 (B1 (B8 (qr9 [some 0,none] (qy3 K (I0 K (A0 0) "branches")) (A6 1) (tB (B9 (qf0 K) [] E0 (A1 (I0 K (A0 0) "book") (A1 (I0 K (A0 1) "name") A5)))) (A0 1)) (A6 1))
 (qg5 K))
theorem wi8(cz:Cz K qA qC)(h:I9 K vs H Q E):S2 K {nx:=λ_ H'=>Q .non H',rt:=Q} (C3 ["self","walls"] vs) H:=by
 obtain⟨kR,kB,r,bv,a,st,rs,rfl,h,hk,hne,hl,q⟩:=h;walk_at"4";show S2 K _ [some (.ref r),none] H;unfold S2;have hb:=h.b;have hbl:=hb.len;let f:BA×Brn->Bool:=λz=>X0 rs z.2.n;have zl:(a.as.zip st.bs).length=st.bs.length:=by rw[length_zip,hbl,Nat.min_self]
 have zg:∀i x,a.as[i]?=some x->∃c,st.bs[i]?=some c/\BrO K H qA x c/\(a.as.zip st.bs)[i]?=some (x,c):=λi x e=>by
  obtain⟨c,h1,h2⟩:=hb.get e;exact⟨c,h1,h2,List.getElem?_zip_eq_some.mpr ⟨e,h1⟩⟩
 walk_at"2";walk_at"14";refine xr3 (.inl (SqL.of h.l)) (λi ys H'=>H'=H/\ys=((((a.as.zip st.bs).take i).filter f).map λz=>V.ref z.1.o)) ⟨rfl,rfl⟩ ?_ ?_ ?_ ?_ ?_
 ·rintro i ys H' hi ⟨_,rfl⟩;rw[length_map];have:=length_filter_le f ((a.as.zip st.bs).take i);rw[length_take] at this;exact C7 #[0]
 ·rintro _ i ys H' _ ⟨rfl,_⟩;exact SqL.of h.l
 ·rintro hq i ys H' _ ⟨rfl,_⟩;exact hq
 ·rintro i v ys H' hi ⟨rfl,rfl⟩;rw[List.getElem?_map] at hi;obtain⟨z,hz,rfl⟩:=Option.map_eq_some_iff.mp hi;obtain⟨c,hc,hB,hzz⟩:=zg i z hz;refine D0 ?_;walk_at"2";walk_at"23";walk_at"2";refine⟨z.o,_,z.x,_,_,rfl,hB.o,cz.cl_Branch,cz.na_Branch_name,rfl,?_⟩;lk;refine⟨bv,c.n,rs,rfl,hk.rws,?_⟩;lk;have et:((a.as.zip st.bs).take (i+1)).filter f=((a.as.zip st.bs).take i).filter f++(if X0 rs c.n=true then[(z,c)] else[]):=by
   rw[qd3 hzz,filter_append];congr 1;by_cases hw:X0 rs c.n=true
   ·rw[if_pos hw,filter_cons_of_pos (by exact hw)];rfl
   ·rw[if_neg hw,filter_cons_of_neg (by exact hw)];rfl
  by_cases hw:X0 rs c.n=true
  ·rw[hw];x_go;lk;refine⟨rfl,?_⟩;rw[et,if_pos hw,map_append];rfl
  ·rw[Bool.eq_false_iff.mpr hw];refine qi6 ⟨rfl,?_⟩;rw[et,if_neg hw,append_nil]
 ·rintro ys H' ⟨rfl,rfl⟩ l hl2;have en:(a.as.zip st.bs).take (a.as.map λz=>V.ref z.o).length=a.as.zip st.bs:=by rw[length_map,hbl,<-zl];exact take_length
  rw[en];have s1:=A3.new hl2 (.lst (((a.as.zip st.bs).filter f).map λz=>V.ref z.1.o));have e1:(upd H' l (.lst (((a.as.zip st.bs).filter f).map λz=>V.ref z.1.o))) l=_:=A2;generalize upd H' l (.lst (((a.as.zip st.bs).filter f).map λz=>V.ref z.1.o))=H1 at *
  have am:(a.as.zip st.bs).map Prod.fst=a.as:=map_fst_zip #[0];have bm:(a.as.zip st.bs).map Prod.snd=st.bs:=map_snd_zip #[0];show qg5 K _ _ _;lk;refine M6 (.inl (SqL.of e1)) ?_;lk;rcases eq_nil_or_concat ((a.as.zip st.bs).filter f) with hz|⟨zs,z,hz⟩
  ·rw[hz];k_go;walk_at"2";refine⟨r,_,a.x,_,_,rfl,s1 _ _ h.o,cz.cl_Reader,cz.na_Reader_branches,rfl,?_⟩;lk;obtain⟨b0,bs,eb⟩:=exists_cons_of_ne_nil hne;obtain⟨m1,x,m2,ea,hm,hx⟩:=h.as_split (l1:=[]) eb;obtain rfl:=eq_nil_of_length_eq_zero hm;refine L8 (SqL.of (s1 _ _ h.l)) (v:=.ref x.o) (by rw[ea];exact Ag1) ?_;refine q [] m2 x [] bs b0 _ s1 ea eb rfl (.inr ⟨rfl,λc hc=>?_⟩);rw[<-eb,<-bm] at hc;obtain⟨w,hw,rfl⟩:=mem_map.mp hc;have:=filter_eq_nil_iff.mp hz w hw;exact Bool.eq_false_iff.mpr this
  ·rw[concat_eq_append] at hz;rw[hz] at e1 ⊢;refine Ag2 (by simp) ?_;lk;refine⟨1,rfl,?_⟩;refine L8 (SqL.of e1) (v:=.ref z.1.o) (qv9 (n:=zs.length) (by simp) (by simp)) ?_;obtain⟨A,B,e2,e3,e4⟩:=xi9 hz;refine q (A.map Prod.fst) (B.map Prod.fst) z.1 (A.map Prod.snd) (B.map Prod.snd) z.2 _ s1 (by rw[<-am,e2];simp) (by rw[<-bm,e2];simp) (by simp) (.inl ⟨e3,λc hc=>?_⟩);obtain⟨w,hw,rfl⟩:=mem_map.mp hc;exact e4 w hw
abbrev wq8(K:Fg):TS :=
 (M4 (C1 (tOp (P7 K) (B9 (Y2 K) [] E0 (A1 (A0 0) #[4,3])) (tC (.str "anew"))))
 (D2 (tBM K "list" D9 (A0 2) #[4,3])) J8)
abbrev qp2(K:Fg):TS :=
 (B1 (M4 (tB (B9 (qf0 K) [] E0 (A1 (A0 0) #[4,3])))
 yu0 J8)
 (wq8 K))
noncomputable def yk4(rs:List Row)(ns:List Str):List Str:=ns.filter λn=>decide (P3 rs (some n)=some ("anew":Str))
noncomputable def qa6(rs:List Row)(ns:List Str):List Str:=yk4 rs (ns.takeWhile λn=>!(X0 rs n))
theorem xt9(rs:List Row)(ns:List Str):(yk4 rs ns).length<=ns.length:=length_filter_le _ _
theorem yf5(rs:List Row)(ns:List Str)(n:Str):yk4 rs (ns++[n])=yk4 rs ns++(if P3 rs (some n)=some ("anew":Str) then[n] else[]):=by
 unfold yk4;rw[filter_append];congr 1;by_cases h:P3 rs (some n)=some ("anew":Str)
 ·rw[if_pos h,filter_cons_of_pos (by exact decide_eq_true h)];rfl
 ·rw[if_neg h,filter_cons_of_neg (by simpa using h)];rfl
theorem zd8{f:Str->Bool}:∀{ns:List Str} {i:Nat} {y:Str},ns[i]?=some y->(∀z∈ns.take i,f z=true)->f y=false->ns.takeWhile f=ns.take i
 | [],_,_,h,_,_=>by simp at h
 | x::ns,0,y,h,_,hy=>by simp at h;subst h;rw[takeWhile_cons,hy];rfl
 | x::ns,i+1,y,h,hz,hy=>by
   rw[takeWhile_cons,hz x (by simp),take_succ_cons];show x::ns.takeWhile f=_;rw[zd8 (by simpa using h) (λz hzz=>hz z (by simp[hzz])) hy]
variable{ns:List Str}
theorem zk6{i:Nat}(hy:ns[i]?=some y)(hw:∀z∈ns.take i,X0 rs z=false)(hwy:X0 rs y=true):qa6 rs ns=yk4 rs (ns.take i):=by
 unfold qa6;rw[zd8 hy (λz hz=>by rw[hw z hz];rfl) (by rw[hwy];rfl)]
theorem zt5(hw:∀z∈ns,X0 rs z=false):qa6 rs ns=yk4 rs ns:=by
 unfold qa6;congr 1
 induction ns with
 | nil=>rfl
 | cons x ns ih=>rw[takeWhile_cons,hw x (by simp)];show x::_=_;rw[ih λz hz=>hw z (by simp[hz])]
def V3(K:Fg):Sp:=λvs H Q _=>∃(v:V) (c:Addr) (ns:List Str) (rs:List Row),vs=[v,.ref c]/\BkO K H v rs/\SqT K H c (B0 ns)/\ns.length<=1000/\∀(p:Addr) (H':Hp),A3 H H'->H p=none->H' p=some #[23,qa6 rs ns]->Q (.ref p) H'
def S3(K:Fg):TS :=
 (B1 (B8 (T2 A5) (A6 2))
 (B1 (qc8 (qy3 K (A0 1)) (A6 3)
 (qp2 K))
 (E1 (A0 2))))
theorem wu4(h:V3 K vs H Q E):S3 K {nx:=λ_ H'=>Q .non H',rt:=Q} (C3 ["book","closed","waiting","name"] vs) H:=by
 obtain⟨v,c,ns,rs,rfl,hk,hc,hl,q⟩:=h;show S3 K _ [some v,some (.ref c),none,none] H;unfold S3;walk_at"16";have s1:=A3.new hp (.lst []);lk;refine wx8 (.inr hc) s1 (λi σ H'=>∃x,σ=[some v,some (.ref c),some (.ref p),x]/\A3 H H'/\H' p=some #[23,yk4 rs (ns.take i)]/\∀y∈ns.take i,X0 rs y=false) ⟨none,rfl,s1,A2,λy hy=>by cases hy⟩ ?_ ?_ ?_
 ·rintro i σ H' ⟨x,rfl,s,_⟩;exact s
 ·rintro i x σ H' hi ⟨x0,rfl,s,hpp,hw⟩;obtain⟨y,hy,rfl⟩:=qm4 hi;refine D0 ?_;show qp2 K _ _ _;lk;refine⟨v,y,rs,rfl,(hk.same s).rws,?_⟩;lk;by_cases hwy:X0 rs y=true
  ·rw[hwy];x_go;lk;have ew:qa6 rs ns=yk4 rs (ns.take i):=zk6 hy hw hwy;rw[<-ew] at hpp;exact q p H' s hp hpp
  ·have hwf:=Bool.eq_false_iff.mpr hwy;rw[hwf];k_go;lk;refine⟨v,some y,rs,rfl,(hk.same s).rws,?_⟩;lk;refine za1 ?_;lk;have hw2:∀z∈ns.take (i+1),X0 rs z=false:=λz hz=>by
    rw[qd3 hy] at hz;rcases mem_append.mp hz with hz|hz
    ·exact hw z hz
    ·rw[mem_singleton.mp hz];exact hwf
   have hwl:=xt9 rs (ns.take i);have:(ns.take i).length<=ns.length:=by rw[length_take];omega
   by_cases ha:P3 rs (some y)=some ("anew":Str)
   ·rw[decide_eq_true ha];x_go;lk;refine⟨.inl ⟨rfl,_,SqL.of hpp⟩,?_⟩;lk;refine E7 hpp (by rw[B2,sizeLine_eq];omega) ?_;rw[wl2];refine⟨_,rfl,A3.put s hp _,?_,hw2⟩;rw[A2,qd3 hy,yf5,if_pos ha]
   ·rw[decide_eq_false ha];k_go;lk;exact⟨_,rfl,s,by rw[qd3 hy,yf5,if_neg ha,append_nil];exact hpp,hw2⟩
 ·rintro σ H' ⟨x,rfl,s,hpp,hw⟩;rw[B2,take_length] at *
  lk;refine q p H' s hp ?_;rw[zt5 hw];exact hpp
noncomputable def X4:List Brn->List Tr
 | []=>[]
 | c::cs=>[Tr.nd c.n (c.ps++X4 cs)]
noncomputable def clM(i:Int)(rule:Str)(c:Brn):Mnd:=⟨i,i,cls c.n,rule⟩
noncomputable def ys4(rs:List Row)(bs:List Brn):Bool:=bs.any λc=>X0 rs c.n
noncomputable def zd9(rs:List Row)(f:List Str->List Str):List Brn->List Brn
 | []=>[]
 | c::t=>if ys4 rs t=true then c::zd9 rs f t else if X0 rs c.n=true then{c with ws:=f c.ws}::t else c::t
noncomputable def As8(f:List Str->List Str):List Brn->List Brn
 | []=>[]
 | c::t=>{c with ws:=f c.ws}::t
noncomputable def wUp(rs:List Row)(f:List Str->List Str)(bs:List Brn):List Brn:=if ys4 rs bs=true then zd9 rs f bs else As8 f bs
theorem ze0{bs:List Brn}(h:∀c∈bs,X0 rs c.n=false):ys4 rs bs=false:=by
 unfold ys4;rw[any_eq_false];intro c hc;rw[h c hc];decide
theorem ys5(h:X0 rs b.n=true):ys4 rs (l1++b::l2)=true:=by
 unfold ys4;rw[any_eq_true];exact⟨b,by simp,h⟩
theorem ys6{rs:List Row}{f:List Str->List Str}{b:Brn}{l2:List Brn}(h1:X0 rs b.n=true)(h2:∀c∈l2,X0 rs c.n=false):∀l1:List Brn,zd9 rs f (l1++b::l2)=l1++{b with ws:=f b.ws}::l2
 | []=>by
   show(if ys4 rs l2=true then _ else if X0 rs b.n=true then _ else _)=_;rw[ze0 h2,if_neg #[7],if_pos h1];rfl
 | c::l1=>by
   show(if ys4 rs (l1++b::l2)=true then c::zd9 rs f (l1++b::l2) else _)=_;rw[ys5 h1,if_pos rfl,ys6 h1 h2 l1];rfl
variable{f:List Str->List Str}
theorem xu0(h:LwP rs l1 b l2):wUp rs f (l1++b::l2)=l1++{b with ws:=f b.ws}::l2:=by
 unfold wUp;rcases h with⟨h1,h2⟩|⟨rfl,h2⟩
 ·rw[ys5 h1,if_pos rfl,ys6 h1 h2]
 ·rw[nil_append,ze0 h2,if_neg #[7]];rfl
theorem RdO.xnd{x:BA}(h:RdO K H kR kB r bv a st)(ea:a.as=m1++x::m2):x.fp.Nodup:=by
 have:=h.apart.2.2.2.2.2.2.2.2.2.2;rw[ea,Q3,P0,nodup_append,nodup_append] at this;exact this.2.1.1
theorem RdO.up(h:RdO K H kR kB r bv a st)(s:A3 H H'):Rup K kR kB r bv H a H' a st:=.keep (h.same s) λc o e _=>s c o e
variable{ws:List Str}
theorem Rup.wait{x:BA}(h:RdO K H kR kB r bv a st)(ea:a.as=m1++x::m2)(eb:st.bs=l1++b::l2)(hl:m1.length=l1.length) :
 Rup K kR kB r bv H a (upd H x.w #[23,ws]) {a with as:=m1++x::m2} {st with bs:=l1++{b with ws:=ws}::l2}:=by
 have hb:=h.b
 rw[ea,eb] at hb
 have hx:=(hb.split hl).2.1
 have xnd:=h.xnd ea
 have no:x.o≠x.w:=by simp[BA.fp] at xnd;exact xnd.1.2
 have nq:x.q≠x.w:=by simp[BA.fp] at xnd;exact xnd.2
 have tk:R6 H (upd H x.w #[23,ws]):=V8 (.inl ⟨_,hx.w⟩)
 obtain⟨us,q1,q2⟩:=hx.q
 refine Rup.swap h ea eb hl (λz u e n=>D4 e λy=>n (by rw[y];simp[BA.fp])) ⟨D4 hx.o no,tk.sqT hx.p,⟨us,D4 q1 nq,Dvs.tupK tk _ _ (qv8 _) q2⟩,A2⟩ (λz hz=>.inl hz) xnd rfl
abbrev qa7(K:Fg)(qC:Addr):TS :=
 (B1 (D2 (tBM K "list" D9 (I0 K (A0 0) "mends") (A1 (Y1 (A1 (A0 2) (A1 (A0 2) (A1 (B9 (ql5 K) [] E0 #[4,5]) #[4,3])))) A5)))
 (D2 (E9 qC "leave" (O3 K) [] E0 (A0 0) A5)))
abbrev qa8(K:Fg)(qC:Addr):TS :=
 (D2 (tBM K "list" we4 (I0 K (E9 qC "last_wall" (I9 K) [] E0 (A0 0) A5) "waiting") (A1 (B9 (V3 K) [] E0 (A1 (I0 K (A0 0) "book") #[4,4])) A5)))
abbrev qa9(K:Fg)(qC:Addr):TS :=
 (B1 (qc8 (zr0 K #[4,4]) (A6 5)
 (qa7 K qC))
 (qa8 K qC))
def E6(K:Fg):Sp:=λvs H Q _=>∃(kR kB r:Addr) (bv:V) (a:RAd) (st:Rst) (rs:List Row) (pre cl:List Brn) (b:Brn) (i:Int) (rule:Str),vs=[.ref r,.int pre.length,.int i,.str rule]/\RdO K H kR kB r bv a st/\BkO K H bv rs/\st.bs=pre++b::cl/\st.bs.length<=900/\(∀c∈st.bs,c.n.length<=4000/\c.ps.length<=9000000/\c.ws.length<=9000000)/\st.ms.length+cl.length<=9000000/\∀a' H',Rup K kR kB r bv H a H' a' {st with bs:=wUp rs (·++qa6 rs (cl.map Brn.n)) (pre++[{b with ps:=b.ps++X4 cl}]),ms:=st.ms++cl.reverse.map (clM i rule)}->B3 H H'->Q .non H'
def J9(K:Fg)(qC:Addr):TS :=
 (B1 (B8 (tSl (yp7 K) (E9 qC "open_names" (D1 K) [] E0 (A0 0) A5) (O9 (A0 1)) U9) (A6 4))
 (qa9 K qC))
theorem qy7(cz:Cz K qA qC)(h:E6 K vs H Q E):J9 K qC {nx:=λ_ H'=>Q .non H',rt:=Q} (C3 ["self","kept","start","rule","closed","name"] vs) H:=by
 obtain⟨kR,kB,r,bv,a,st,rs,pre,cl,b,i,rule,rfl,h,hk,eb,hl,hall,hms,q⟩:=h;walk_at"4";show J9 K _ _ [some (.ref r),some (.int pre.length),some (.int i),some (.str rule),none,none] H;unfold J9;obtain⟨b0,bs0,eb0⟩:∃b0 bs0,st.bs=b0::bs0:=by rw[eb];cases pre <;> exact⟨_,_,rfl⟩
 have hl0:bs0.length<=1000:=by rw[eb0] at hl;simp at hl;omega
 have hdrop:bs0.drop pre.length=cl:=by
  have e:(b0::bs0).drop (pre.length+1)=cl:=by
   rw[<-eb0,eb,show pre++b::cl=(pre++[b])++cl by simp];rw[drop_left' (by simp)]
  simpa using e
 walk_at"3";refine⟨qC,qA,r,bv,a,st,b0,bs0,rfl,h,eb0,hl0,λp H1 s1 hp=>?_⟩;lk;refine yp8 hp λc H2 s2 hc=>?_;have ecut:qe8 (B0 (bs0.map Brn.n)) (some (pre.length:Int)) none=B0 (cl.map Brn.n):=by
  rw[xe6 #[0],Int.toNat_natCast,<-hdrop];simp[B0,map_drop]
 rw[ecut] at hc;have s12:=A3.tr s1 s2;have h2:=h.same s12;have hk2:=hk.same s12;show qa9 K _ _ _ _;lk;refine Ab0 ?_;lk;have hcll:cl.length<=900:=by rw[eb] at hl;simp at hl;omega
 refine zr6 hc (λj σ H'=>∃x a' A y C,σ=[some (.ref r),some (.int pre.length),some (.int i),some (.str rule),some (.ref c),x]/\pre++b::cl=A++y::C/\C.length=j/\j<=cl.length/\Rup K qC qA r bv H2 a H' a' {st with bs:=A++[{y with ps:=y.ps++X4 C}],ms:=st.ms++C.reverse.map (clM i rule)}/\B3 H2 H') ?_ ?_ ?_ ?_
 ·obtain⟨A,y,e⟩:∃A y,pre++b::cl=A++[y]:=by
   rcases eq_nil_or_concat (pre++b::cl) with e|⟨A,y,e⟩
   ·simp at e
   ·exact⟨A,y,by rw[e,concat_eq_append]⟩
  refine⟨none,a,A,y,[],rfl,e,rfl,Nat.zero_le _,?_,λz hz=>hz⟩;have:({st with bs:=A++[{y with ps:=y.ps++X4 []}],ms:=st.ms++[].reverse.map (clM i rule)}:Rst)=st:=by
   cases st;simp only[X4,append_nil,reverse_nil,map_nil] at *
   rw[eb,e]
  rw[this];exact .keep h2 λc o e _=>e
 ·rintro j σ H' ⟨x,a',A,y,C,rfl,_,_,_,u,_⟩;exact(u.tupK h2).sqT hc
 ·rintro j v σ H' hv hj ⟨x0,a',A,y,C,rfl,e,eC,hjc,u,g⟩;obtain⟨nm,hnm,rfl⟩:=qm4 hv;rw[B2,length_map] at hj;rw[B2,length_map,List.getElem?_map] at hnm;obtain⟨y2,hy2,rfl⟩:=Option.map_eq_some_iff.mp hnm;have hlen:A.length=(pre++[b]).length+(cl.length-1-j):=by
   have:=congrArg List.length e;simp only[length_append,length_cons,length_nil] at this ⊢;omega
  have hyy:y2=y:=by
   have e1:(A++y::C)[A.length]?=some y:=by simp
   rw[<-e,show pre++b::cl=(pre++[b])++cl by simp,hlen,List.getElem?_append_right #[0],Nat.add_sub_cancel_left,hy2] at e1;exact Option.some.inj e1
  subst hyy;obtain⟨A',x,rfl⟩:∃A' x,A=A'++[x]:=by
   rcases eq_nil_or_concat A with e1|⟨A',x,e1⟩
   ·subst e1;simp at hlen;omega
   ·exact⟨A',x,by rw[e1,concat_eq_append]⟩
  have inst:∀z,z∈A'++x::y2::C->z∈st.bs:=λz hz=>by rw[eb,e];simpa using hz
  have hx:=hall x (inst x (by simp));have hy:=hall y2 (inst y2 (by simp));obtain⟨us,m1,m2⟩:=u.ok.m;have hul:=RdO.ms_len m2;refine D0 ?_;show qa7 K _ _ _ _;walk_at"2";refine⟨r,_,a'.x,_,_,rfl,u.ok.o,cz.cl_Reader,cz.na_Reader_mends,rfl,?_⟩;lk;refine⟨.inl ⟨rfl,_,SqL.of m1⟩,?_⟩;lk;refine⟨y2.n,rfl,hy.1,?_⟩;lk;refine⟨C7 (by z_go),λw hw=>?_⟩;lk;have s3:=A3.new hw (.tup [.int i,.int i,.str (cls y2.n),.str rule]);refine E7 (s3 _ _ m1) (by rw[hul,sizeLine_eq];simp;omega) ?_;have u1:=Rup.mend u.ok s3 (SqT.of A2) m2;have g1:B3 H' (upd (upd H' w (.tup [.int i,.int i,.str (cls y2.n),.str rule])) a'.M (.lst (us++[.ref w]))):=B3.tr B3.upd B3.upd;generalize upd (upd H' w (.tup [.int i,.int i,.str (cls y2.n),.str rule])) a'.M (.lst (us++[.ref w]))=H3 at *
  walk_at"18";refine⟨r,_,_,rfl,u1.ok.o,rfl,?_⟩;lk;refine⟨qC,qA,r,bv,a',_,A',x,{y2 with ps:=y2.ps++X4 C},rfl,u1.ok,by simp,hx.2.1,λa2 H4 u2 g2=>?_⟩;refine⟨_,a2,A',x,y2::C,rfl,by rw[e];simp,by simp[eC],by omega,?_,B3.tr (B3.tr g g1) g2⟩;have:=(u.tr u1 g).tr u2 (B3.tr g g1);rw[reverse_cons,map_append,<-append_assoc];exact this
 ·rintro σ H' ⟨x,a',A,y,C,rfl,e,eC,_,u,g⟩;rw[B2,length_map] at eC;obtain⟨e1,e2⟩:=append_inj e (by have:=congrArg List.length e;simp at this;omega);obtain⟨rfl,rfl⟩:=List.cons.inj e2;subst e1;have tk:=u.tupK h2;have hk3:=hk2.tupK tk;have hc3:=tk.sqT hc;have hlen3:(pre++[{b with ps:=b.ps++X4 cl}]:List Brn).length<=900:=by rw[eb] at hl;simp at hl ⊢;omega
  show qa8 K _ _ _ _;lk;refine C2 ?_;refine C5 ?_;lk;refine⟨r,_,_,rfl,u.ok.o,rfl,?_⟩;lk;refine⟨qC,qA,r,bv,a',_,rs,rfl,u.ok,hk3,by simp,by show(pre++[_]).length<=1000;omega,λm1 m2 x2 l1 l2 b2 H4 s4 ea2 eb2 hm2 lw=>?_⟩;have h4:=u.ok.same s4;have hb4:=h4.b;rw[ea2,eb2] at hb4;have hx4:=(hb4.split hm2).2.1;have hws:b2.ws.length<=9000000:=by
   have:b2∈(pre++[{b with ps:=b.ps++X4 cl}]:List Brn):=by
    have e3:(pre++[{b with ps:=b.ps++X4 cl}]:List Brn)=l1++b2::l2:=eb2;rw[e3];simp
   rcases mem_append.mp this with h1|h1
   ·exact(hall b2 (by rw[eb];simp[h1])).2.2
   ·rw[mem_singleton.mp h1];exact(hall b (by rw[eb];simp)).2.2
  refine⟨x2.o,_,x2.x,_,_,rfl,hx4.o,cz.cl_Branch,cz.na_Branch_waiting,rfl,?_⟩;lk;refine⟨.inl ⟨rfl,_,SqL.of hx4.w⟩,?_⟩;walk_at"2";refine⟨r,_,a'.x,_,_,rfl,h4.o,cz.cl_Reader,cz.na_Reader_book,rfl,?_⟩;lk;refine⟨bv,c,cl.map Brn.n,rs,rfl,hk3.same s4,s4.sqT hc3,by rw[length_map];omega,λw H5 s5 hw0 hw=>?_⟩;lk;have hwl:=xt9 rs ((cl.map Brn.n).takeWhile λn=>!(X0 rs n));have hwl2:(qa6 rs (cl.map Brn.n)).length<=900:=by
   have h1:((cl.map Brn.n).takeWhile λn=>!(X0 rs n)).length<=(cl.map Brn.n).length:=(takeWhile_sublist _).length_le;rw[length_map] at h1;unfold qa6;omega
  refine xr7 (s5 _ _ hx4.w) hw (by rw[B2,B2,sizeLine_eq];omega) ?_;have h5:=h4.same s5;have uw:=Rup.wait (ws:=b2.ws++qa6 rs (cl.map Brn.n)) h5 ea2 eb2 hm2;have es:B0 b2.ws++B0 (qa6 rs (cl.map Brn.n))=B0 (b2.ws++qa6 rs (cl.map Brn.n)):=by simp[B0]
  rw[es];have uu:=((((h.up s12).tr u (A3.grow s12)).tr (u.ok.up s4) (B3.tr (A3.grow s12) g)).tr (h4.up s5) (B3.tr (B3.tr (A3.grow s12) g) (A3.grow s4))).tr uw (B3.tr (B3.tr (B3.tr (A3.grow s12) g) (A3.grow s4)) (A3.grow s5));refine q {a' with as:=m1++x2::m2} _ ?_ (B3.tr (B3.tr (B3.tr (B3.tr (A3.grow s12) g) (A3.grow s4)) (A3.grow s5)) B3.upd);have e3:(pre++[{b with ps:=b.ps++X4 cl}]:List Brn)=l1++b2::l2:=eb2;rw[e3,xu0 lw];exact uu
def P8(K:Fg):Sp:=λvs H Q _=>∃(kR kB r:Addr) (bv:V) (a:RAd) (st:Rst) (rs:List Row) (cl:List Brn) (b:Brn) (i:Int),vs=[.ref r,.int i]/\RdO K H kR kB r bv a st/\BkO K H bv rs/\st.bs=b::cl/\st.bs.length<=900/\(∀c∈st.bs,c.n.length<=4000/\c.ps.length<=9000000/\c.ws.length<=9000000)/\st.ms.length+cl.length<=9000000/\∀a' H',Rup K kR kB r bv H a H' a' {st with bs:=wUp rs (·++qa6 rs (cl.map Brn.n)) [{b with ps:=b.ps++X4 cl}],ms:=st.ms++cl.reverse.map (clM i "end")}->B3 H H'->Q .non H'
def S4(K:Fg)(qC:Addr):TS :=
 (D2 (E9 qC "close_behind" (E6 K) [] E0 (A0 0) (A1 #[1,0] (A1 (A0 1) (A1 (tC (.str "end")) A5)))))
theorem wu5(cz:Cz K qA qC)(h:P8 K vs H Q E):S4 K qC {nx:=λ_ H'=>Q .non H',rt:=Q} (C3 ["self","size"] vs) H:=by
 obtain⟨kR,kB,r,bv,a,st,rs,cl,b,i,rfl,h,hk,eb,hl,hall,hms,q⟩:=h;obtain rfl:=E2 cz.ns_Reader h.kr;show S4 K _ _ [some (.ref r),some (.int i)] H;unfold S4;walk_at"3";exact⟨qC,kB,r,bv,a,st,rs,[],cl,b,i, "end",rfl,h,hk,eb,hl,hall,hms,q⟩
noncomputable def adP(ps:List Tr)(t:Str):List Tr:=match ps.getLast? with|some (.tx u)=>ps.dropLast++[.tx (u++t)]|_=>ps++[.tx t]
noncomputable def adN(ps:List Tr):Nat:=match ps.getLast? with|some (.tx _)=>ps.length-1|_=>ps.length
noncomputable def adA(ps:List Tr):Nat:=match ps.getLast? with|some (.tx u)=>u.length|_=>0
noncomputable def L7(st:Rst):List Str:=st.bs.tail.map Brn.n
noncomputable def yk5:Brn:=⟨"",[],[],[]⟩
noncomputable def qg6(bs:List Brn):Brn:=bs.getLastD yk5
noncomputable def ya9(b:Brn)(n:Str):Brn:=⟨n,b.pl++[(b.ps.length:Int)],[],[]⟩
noncomputable def wu6(bs:List Brn)(n:Str):List Brn:=bs++[ya9 (qg6 bs) n]
noncomputable def xu1(st:Rst)(n:Str)(i:Int)(rule:Str):Rst:={st with bs:=wu6 st.bs n,ms:=st.ms++[⟨i,i,opn n,rule⟩]}
noncomputable def O0(st:Rst)(ns:List Str)(i:Int)(rule:Str):Rst:=ns.foldl (λs n=>xu1 s n i rule) st
noncomputable def qp3(st:Rst)(i:Int)(g rule:Str):Rst:={st with ms:=st.ms++[⟨i,i+g.length, "",rule⟩]}
noncomputable def qg7(rs:List Row)(st:Rst)(kept:Nat)(i:Int)(rule:Str):Rst:={st with bs:=wUp rs (·++qa6 rs ((st.bs.drop (kept+1)).map Brn.n)) (st.bs.take kept++[{(st.bs.getD kept yk5) with ps:=(st.bs.getD kept yk5).ps++X4 (st.bs.drop (kept+1))}]),ms:=st.ms++(st.bs.drop (kept+1)).reverse.map (clM i rule)}
noncomputable def lvB(bs:List Brn):List Brn:=bs.dropLast.dropLast++[{(qg6 bs.dropLast) with ps:=(qg6 bs.dropLast).ps++[Tr.nd (qg6 bs).n (qg6 bs).ps]}]
noncomputable def lvS(st:Rst):Rst:={st with bs:=lvB st.bs}
noncomputable def lwS(rs:List Row)(bs:List Brn):List Str:=match bs.reverse.find? λc=>X0 rs c.n with|some b=>b.ws|none=>(bs.headD yk5).ws
noncomputable def xj0(rs:List Row)(ns:List Str)(n:Str):Bool:=decide (ns.length<20) && !((qd0 rs ns).any λy=>decide (y∈n::(wf0 rs n++xd6 rs n)))
noncomputable def qn0(rs:List Row)(i:Int)(st:Rst)(n:Str):Rst:=if xj0 rs (L7 st) n=true then xu1 st n i "anew" else st
noncomputable def qy8(rs:List Row)(i:Int)(st:Rst):Rst:=(lwS rs st.bs).foldl (qn0 rs i) {st with bs:=wUp rs (λ_=>[]) st.bs}
noncomputable def zt6(i:Int)(g:Str)(k:Nat):Mnd:=⟨i+k,i+k+1,if g.cps.toList[k]?=some 60 then "&l;" else "&a;","sign"⟩
noncomputable def txS(st:Rst)(i:Int)(g t:Str):Rst:={st with bs:=st.bs.dropLast++[{(qg6 st.bs) with ps:=adP (qg6 st.bs).ps t}],ls:=st.ls++[⟨i,g,(qg6 st.bs).pl++[(adN (qg6 st.bs).ps:Int)],adA (qg6 st.bs).ps⟩]}
noncomputable def woL(ws:List Str)(n:Str):List Str:=(ws.reverse.erase n).reverse
noncomputable def opS(rs:List Row)(rk:Str->Nat)(st:Rst)(i:Int)(g n:Str):Rst :=
 if P3 rs (some n)=none then qp3 st i g "strange" else
 if bar rs ((L7 st).take #[18,n].1) #[18,n].2=true then qp3 st i g "barred" else
 if 20<#[18,n].1+#[18,n].2.length then qp3 st i g "deep" else
 let s2:=O0 (qg7 rs st #[18,n].1 i "shut") #[18,n].2.dropLast i "frame"
 if P3 rs (some n)=some ("bare":Str) then lvS {s2 with bs:=wu6 s2.bs n} else{s2 with bs:=wu6 s2.bs n}
noncomputable def xe8(rs:List Row)(rk:Str->Nat)(st:Rst)(i:Int)(g n:Str):Rst:=match clo rs rk (L7 st) n (L7 st).length with
 | some k=>lvS (qg7 rs st (k+1) i "left")
 | none=>if n∈lwS rs st.bs then{(qp3 st i g "late") with bs:=wUp rs (λws=>woL ws n) st.bs} else qp3 st i g "stray"
noncomputable def za2(t:Str):Bool:=decide (PySem.Txt.stripChars t (" \n":Str)=("":Str))
noncomputable def O5(rs:List Row)(st:Rst):List Str:=L5 rs (T9 (L7 st))
noncomputable def yf6(st:Rst)(i:Int)(g:Str):Rst:={st with ms:=st.ms++(qg1 g.cps.toList g.cps.toList.length).map (zt6 i g)}
noncomputable def xe9(rs:List Row)(st:Rst)(i:Int)(g t:Str):Rst :=
 if P3 rs (some (T9 (L7 st)))=some ("frame":Str)/\za2 t=true then qp3 st i g "blank" else
 if 20<(L7 st).length+(O5 rs st).length then qp3 st i g "deep" else
 txS (yf6 (qy8 rs i (O0 st (O5 rs st) i "host")) i g) i g t
noncomputable def qt0(rs:List Row)(rk:Str->Nat)(st:Rst)(kind:Str)(i:Int)(g t:Str):Rst :=
 if kind=("open":Str) then opS rs rk st i g t else if kind=("close":Str) then xe8 rs rk st i g t else xe9 rs st i g t
variable{M T W P' T' W':Nat}{g kind:Str}{cl:List Brn}
section
variable{bs:List Brn}
theorem wu7(l:List Brn)(b:Brn):qg6 (l++[b])=b:=by unfold qg6;simp
theorem zt7(rs:List Row)(h:bs≠[]):∃l1 b l2,bs=l1++b::l2/\LwP rs l1 b l2:=by
 rcases eq_nil_or_concat (bs.filter λc=>X0 rs c.n) with e|⟨zs,z,e⟩
 ·obtain⟨b,l2,rfl⟩:=exists_cons_of_ne_nil h;exact⟨[],b,l2,rfl,.inr ⟨rfl,λc hc=>Bool.eq_false_iff.mpr (filter_eq_nil_iff.mp e c hc)⟩⟩
 ·rw[concat_eq_append] at e;obtain⟨A,B,e1,e2,e3⟩:=xi9 e;exact⟨A,z,B,e1,.inl ⟨e2,e3⟩⟩
theorem za3(h:LwP rs l1 b l2):lwS rs (l1++b::l2)=b.ws:=by
 unfold lwS;rcases h with⟨h1,h2⟩|⟨rfl,h2⟩
 ·have:(l1++b::l2).reverse.find? (λc=>X0 rs c.n)=some b:=by
   rw[reverse_append,reverse_cons,append_assoc,find?_append,find?_eq_none.mpr λc hc=>by rw[h2 c (mem_reverse.mp hc)];decide];rw[Option.none_or,singleton_append,find?_cons,h1]
  rw[this]
 ·have:(([]:List Brn)++b::l2).reverse.find? (λc=>X0 rs c.n)=none:=find?_eq_none.mpr λc hc=>by
   rw[h2 c (by simpa [or_comm] using hc)];decide
  rw[this];rfl
theorem yk6{g:Brn->α}(hg:∀b ws,g {b with ws:=ws}=g b)(bs:List Brn):(wUp rs f bs).map g=bs.map g:=by
 cases bs with
 | nil=>unfold wUp;split <;> rfl
 | cons c t =>
   obtain⟨l1,b,l2,e,h⟩:=zt7 rs (bs:=c::t) (by simp)
   rw[e,xu0 h]
   simp[hg]
theorem xp1(bs:List Brn):(wUp rs f bs).length=bs.length:=by
 have:=congrArg List.length (yk6 (rs:=rs) (f:=f) (g:=Brn.n) (λ_ _=>rfl) bs);simpa using this
theorem Ac1(bs:List Brn):(wUp rs f bs).tail.map Brn.n=bs.tail.map Brn.n:=by
 rw[map_tail,map_tail,yk6 λ_ _=>rfl]
theorem Ac2{x:Brn}(h:x∈wUp rs f bs):∃b∈bs,x=b\/x={b with ws:=f b.ws}:=by
 cases bs with
 | nil=>unfold wUp at h;split at h <;> cases h
 | cons c t =>
   obtain⟨l1,b,l2,e,h2⟩:=zt7 rs (bs:=c::t) (by simp)
   rw[e,xu0 h2] at h
   rw[e]
   rcases mem_append.mp h with h|h
   ·exact⟨x,by simp[h],.inl rfl⟩
   ·rcases mem_cons.mp h with h|h
    ·exact⟨b,by simp,.inr h⟩
    ·exact⟨x,by simp[h],.inl rfl⟩
theorem zt8(h:bs≠[]):wUp rs f bs≠[]:=λe=>h (by
 have:=xp1 (rs:=rs) (f:=f) bs
 rw[e] at this
 exact eq_nil_of_length_eq_zero this.symm)
structure BB(rs:List Row)(P W T:Nat)(c:Brn):Prop where
 n:c.n.length<=4000
 ps:c.ps.length<=P
 ws:c.ws.length<=W
 wr:∀n∈c.ws,∃r∈rs,Row.name r=n
 t:adA c.ps<=T
structure Bg(rs:List Row)(P W M D T:Nat)(st:Rst):Prop where
 c:∀c∈st.bs,BB rs P W T c
 pl:st.bs.map (λc=>c.pl.length)=List.range st.bs.length
 nr:∀c∈st.bs.tail,∃r∈rs,Row.name r=c.n
 ne:st.bs≠[]
 l:st.bs.length<=21
 m:st.ms.length<=M
 d:st.ls.length<=D
variable{P D:Nat}
theorem BB.mono{c:Brn}(h:BB rs P W T c)(h1:P<=P')(h2:W<=W')(h3:T<=T'):BB rs P' W' T' c:=⟨h.n,by have:=h.ps;omega,by have:=h.ws;omega,h.wr,by have:=h.t;omega⟩
theorem Bg.mono{M' D':Nat}(h:Bg rs P W M D T st)(h1:P<=P')(h2:W<=W')(h3:M<=M')(h4:D<=D')(h5:T<=T'):Bg rs P' W' M' D' T' st :=
 ⟨λc hc=>(h.c c hc).mono h1 h2 h5,h.pl,h.nr,h.ne,h.l,by have:=h.m;omega,by have:=h.d;omega⟩
theorem Bg.nlen(h:Bg rs P W M D T st):(L7 st).length+1=st.bs.length:=by
 unfold L7;rw[length_map,length_tail];have:0<st.bs.length:=length_pos_iff.mpr h.ne;omega
theorem Bg.snoc(h:Bg rs P W M D T st):∃l b,st.bs=l++[b]/\qg6 st.bs=b/\b.pl.length=l.length/\BB rs P W T b:=by
 rcases eq_nil_or_concat st.bs with e|⟨l,b,e⟩
 ·exact absurd e h.ne
 ·rw[concat_eq_append] at e;have hp:=h.pl;rw[e,map_append,length_append,length_singleton,range_succ] at hp;have:=(append_inj' hp rfl).2;exact⟨l,b,e,by rw[e,wu7],by simpa using this,h.c b (by rw[e];simp)⟩
theorem Bg.drop(h:Bg rs P W M D T st):Bg rs P W (M+1) D T (qp3 st i g rule) :=
 ⟨h.c,h.pl,h.nr,h.ne,h.l,by show(st.ms++[_]).length<=_;have:=h.m;simp;omega,h.d⟩
theorem Bg.ent(h:Bg rs P W M D T st)(hl:st.bs.length<=20)(hn:n.length<=4000)(hr:∃r∈rs,Row.name r=n):Bg rs P W M D T {st with bs:=wu6 st.bs n}:=by
 obtain⟨l,b,e,e2,hp,hb⟩:=h.snoc;refine⟨λc hc=>?_,?_,λc hc=>?_,by show _++[_]≠[];simp,by show(st.bs++[_]).length<=_;rw[length_append,length_singleton];omega,h.m,h.d⟩
 ·rcases mem_append.mp hc with hc|hc
  ·exact h.c c hc
  ·rw[mem_singleton.mp hc];exact⟨hn,Nat.zero_le _,Nat.zero_le _,λn hn=>(by cases hn),Nat.zero_le _⟩
 ·show(st.bs++[ya9 (qg6 st.bs) n]).map _=List.range (st.bs++[_]).length;rw[map_append,h.pl,length_append,length_singleton,range_succ,e2];congr 1;show[(b.pl++[_]).length]=_;rw[length_append,hp,e,length_append];rfl
 ·have ht:(st.bs++[ya9 (qg6 st.bs) n]).tail=st.bs.tail++[ya9 (qg6 st.bs) n]:=tail_append_of_ne_nil h.ne;have hc':c∈(st.bs++[ya9 (qg6 st.bs) n]).tail:=hc;rw[ht] at hc';rcases mem_append.mp hc' with hc|hc
  ·exact h.nr c hc
  ·rw[mem_singleton.mp hc];exact hr
theorem Bg.put(h:Bg rs P W M D T st)(hl:st.bs.length<=20)(hn:n.length<=4000)(hr:∃r∈rs,Row.name r=n):Bg rs P W (M+1) D T (xu1 st n i rule):=by
 have:=h.ent hl hn hr;exact⟨this.c,this.pl,this.nr,this.ne,this.l,by show(st.ms++[_]).length<=_;have:=h.m;simp;omega,h.d⟩
theorem wz3(st:Rst)(n:Str)(i:Int)(rule:Str):(xu1 st n i rule).bs.length=st.bs.length+1:=by show(st.bs++[_]).length=_;simp
theorem xf0:∀(ns:List Str) (st:Rst) (i:Int) (rule:Str),(O0 st ns i rule).bs.length=st.bs.length+ns.length
 | [],st,i,rule=>rfl
 | n::ns,st,i,rule=>by
   show(O0 (xu1 st n i rule) ns i rule).bs.length=_;rw[xf0 ns,wz3,length_cons];omega
theorem Bg.puts:∀{ns:List Str} {M:Nat} {st:Rst} {i:Int} {rule:Str},Bg rs P W M D T st->st.bs.length+ns.length<=21->(∀n∈ns,n.length<=4000/\∃r∈rs,Row.name r=n)->Bg rs P W (M+ns.length) D T (O0 st ns i rule)
 | [],M,st,i,rule,h,_,_=>h
 | n::ns,M,st,i,rule,h,hl,hn=>by
   rw[length_cons] at hl;have:=Bg.puts (ns:=ns) (i:=i) (rule:=rule) (h.put (n:=n) (i:=i) (rule:=rule) #[0] (hn n (by simp)).1 (hn n (by simp)).2) (by rw[wz3];omega) λm hm=>hn m (by simp[hm]);rw[length_cons,show M+(ns.length+1)=M+1+ns.length by omega];exact this
theorem Bg.wup(h:Bg rs P W M D T st)(hW:W<=W')(hf:∀c∈st.bs,(f c.ws).length<=W'/\∀n∈f c.ws,∃r∈rs,Row.name r=n):Bg rs P W' M D T {st with bs:=wUp rs f st.bs}:=by
 refine⟨λc hc=>?_,?_,?_,zt8 h.ne,by show(wUp rs f st.bs).length<=_;rw[xp1];exact h.l,h.m,h.d⟩
 ·obtain⟨b,hb,e⟩:=Ac2 hc;have hB:=h.c b hb;rcases e with rfl|rfl
  ·exact hB.mono #[6] hW #[6]
  ·exact⟨hB.n,hB.ps,(hf b hb).1,(hf b hb).2,hB.t⟩
 ·show(wUp rs f st.bs).map _=List.range (wUp rs f st.bs).length;rw[yk6 λ_ _=>rfl,xp1];exact h.pl
 ·intro c hc;have h1:c.n∈(wUp rs f st.bs).tail.map Brn.n:=mem_map_of_mem hc;rw[Ac1] at h1;obtain⟨b,hb,e⟩:=mem_map.mp h1;rw[<-e];exact h.nr b hb
theorem zt9(h:n∈qa6 rs ns):n∈ns:=(takeWhile_sublist _).mem (mem_filter.mp h).1
theorem zk7(cl:List Brn):(X4 cl).length<=1:=by cases cl <;> simp[X4]
theorem zu0{ps:List Tr}:adA (ps++X4 cl)<=adA ps:=by
 cases cl with
 | nil=>rw[X4,append_nil];exact Nat.le_refl _
 | cons c cl =>
   rw[X4]
   unfold adA
   rw[getLast?_concat]
   exact Nat.zero_le _
theorem Am6{ps:List Tr}{qs:List Tr}:adA (ps++[Tr.nd n qs])=0:=by
 unfold adA;rw[getLast?_concat]
theorem Ac3(ps:List Tr)(t:Str):(adP ps t).length<=ps.length+1:=by
 unfold adP;split
 ·rw[length_append,length_dropLast,length_singleton];omega
 ·rw[length_append,length_singleton];omega
theorem Ac4(ps:List Tr)(t:Str):adA (adP ps t)=adA ps+t.length:=by
 unfold adP;cases h:ps.getLast? with
 | none =>
   have e:adA ps=0:=by unfold adA;rw[h]
   rw[e]
   unfold adA
   rw[getLast?_concat]
   show t.length=_
   omega
 | some x =>
   cases x with
   | tx u =>
     have e:adA ps=u.length:=by unfold adA;rw[h]
     rw[e]
     unfold adA
     rw[getLast?_concat]
     exact G6 u t
   | nd n qs =>
     have e:adA ps=0:=by unfold adA;rw[h]
     rw[e]
     unfold adA
     rw[getLast?_concat]
     show t.length=_
     omega
theorem Ac5{bs:List Brn}{k:Nat}(h:k<bs.length):bs.getD k yk5=bs[k]:=by simp[List.getD,h]
theorem xp2{kept:Nat}:(qg7 rs st kept i rule).bs.length=(st.bs.take kept).length+1:=by
 show(wUp rs _ _).length=_;rw[xp1];simp
theorem Bg.cls{kept:Nat}(h:Bg rs P W M D T st)(hk:kept<st.bs.length):Bg rs (P+1) (W+20) (M+20) D T (qg7 rs st kept i rule):=by
 have hb:=h.c (st.bs[kept]) (List.getElem_mem hk);have hcl:(st.bs.drop (kept+1)).length<=20:=by rw[length_drop];have:=h.l;omega
 have hnl:=zk7 (st.bs.drop (kept+1));have e0:st.bs.getD kept yk5=st.bs[kept]:=Ac5 hk;have b1:Bg rs (P+1) W (M+20) D T {st with bs:=st.bs.take kept++[{(st.bs[kept]) with ps:=(st.bs[kept]).ps++X4 (st.bs.drop (kept+1))}],ms:=st.ms++(st.bs.drop (kept+1)).reverse.map (clM i rule)}:=by
  refine⟨λc hc=>?_,?_,λc hc=>?_,by show _++[_]≠[];simp,?_,?_,h.d⟩
  ·rcases mem_append.mp hc with hc|hc
   ·exact(h.c c (mem_of_mem_take hc)).mono #[0] #[0] #[0]
   ·rw[mem_singleton.mp hc];refine⟨hb.n,?_,hb.ws,hb.wr,Nat.le_trans zu0 hb.t⟩;show(_++_:List Tr).length<=_;rw[length_append];have:=hb.ps;omega
  ·show(st.bs.take kept++[_]).map _=List.range (st.bs.take kept++[_]).length;rw[map_append,map_singleton];show List.map (λc=>c.pl.length) (st.bs.take kept)++[(st.bs[kept]).pl.length]=_;rw[<-map_singleton (f:=λc:Brn=>c.pl.length),<-map_append,<-qd3 (List.getElem?_eq_getElem hk),map_take,h.pl,take_range,length_append,length_take,length_singleton];congr 1;omega
  ·have hc':c∈(st.bs.take kept++[{(st.bs[kept]) with ps:=(st.bs[kept]).ps++X4 (st.bs.drop (kept+1))}]).tail:=hc;have h1:c.n∈((st.bs.take kept++[{(st.bs[kept]) with ps:=(st.bs[kept]).ps++X4 (st.bs.drop (kept+1))}]).tail).map Brn.n:=mem_map_of_mem hc';rw[map_tail,map_append,map_singleton] at h1;have h2:c.n∈(List.map Brn.n (st.bs.take kept)++[(st.bs[kept]).n]).tail:=h1;rw[<-map_singleton (f:=Brn.n),<-map_append,<-qd3 (List.getElem?_eq_getElem hk),<-map_tail] at h2;obtain⟨b,hb,e⟩:=mem_map.mp h2;rw[<-e];refine h.nr b ?_;have h3:b∈(st.bs.tail).take kept:=by
    have:(st.bs.take (kept+1)).tail=st.bs.tail.take kept:=by cases st.bs <;> simp
    rw[<-this];exact hb
   exact mem_of_mem_take h3
  ·show(st.bs.take kept++[_]).length<=21;rw[length_append,length_take,length_singleton];have:=h.l;omega
  ·show(st.ms++_).length<=_;rw[length_append,length_map,length_reverse];have:=h.m;omega
 have:=b1.wup (f:=(·++qa6 rs ((st.bs.drop (kept+1)).map Brn.n))) (W':=W+20) #[0] (λc hc=>?_)
 ·show Bg _ _ _ _ _ _ {st with bs:=_,ms:=_};rw[e0];exact this
 ·have hB:=b1.c c hc;have hw1:(qa6 rs ((st.bs.drop (kept+1)).map Brn.n)).length<=20:=by
   have h1:=xt9 rs (((st.bs.drop (kept+1)).map Brn.n).takeWhile λn=>!(X0 rs n));have h2:(((st.bs.drop (kept+1)).map Brn.n).takeWhile λn=>!(X0 rs n)).length<=((st.bs.drop (kept+1)).map Brn.n).length:=(takeWhile_sublist _).length_le;rw[length_map] at h2;unfold qa6;omega
  refine⟨by show(c.ws++_).length<=_;rw[length_append];have:=hB.ws;omega,λn hn=>?_⟩;rcases mem_append.mp hn with hn|hn
  ·exact hB.wr n hn
  ·obtain⟨b,hb,e⟩:=mem_map.mp (zt9 hn);rw[<-e];refine h.nr b ?_;have:st.bs.drop (kept+1)=st.bs.tail.drop kept:=by rw[<-drop_one,drop_drop];congr 1;omega
   rw[this] at hb;exact mem_of_mem_drop hb
theorem za4(l:List Brn)(b1 b2:Brn):lvB (l++[b1,b2])=l++[{b1 with ps:=b1.ps++[Tr.nd b2.n b2.ps]}]:=by
 unfold lvB;have e:l++[b1,b2]=(l++[b1])++[b2]:=by simp
 rw[e,dropLast_concat,dropLast_concat,wu7,wu7]
theorem zu1{bs:List Brn}(h:2<=bs.length):∃l b1 b2,bs=l++[b1,b2]:=by
 rcases eq_nil_or_concat bs with e|⟨l,b2,e⟩
 ·rw[e] at h;simp at h
 ·rw[concat_eq_append] at e;rcases eq_nil_or_concat l with e1|⟨l',b1,e1⟩
  ·rw[e,e1] at h;simp at h
  ·rw[concat_eq_append] at e1;exact⟨l',b1,b2,by rw[e,e1];simp⟩
theorem Bg.lv(h:Bg rs P W M D T st)(h2:2<=st.bs.length):Bg rs (P+1) W M D T (lvS st):=by
 obtain⟨l,b1,b2,e⟩:=zu1 h2;have e1:(lvS st).bs=l++[{b1 with ps:=b1.ps++[Tr.nd b2.n b2.ps]}]:=by show lvB st.bs=_;rw[e,za4]
 have hb:=h.c b1 (by rw[e];simp);have hpl:=h.pl;rw[e] at hpl;refine⟨λc hc=>?_,?_,λc hc=>?_,by rw[e1];simp,by rw[e1];have:=h.l;rw[e] at this;simp at this ⊢;omega,h.m,h.d⟩
 ·rw[e1] at hc;rcases mem_append.mp hc with hc|hc
  ·exact(h.c c (by rw[e];simp[hc])).mono #[0] #[0] #[0]
  ·rw[mem_singleton.mp hc];refine⟨hb.n,?_,hb.ws,hb.wr,?_⟩
   ·show(b1.ps++[_]).length<=_;rw[length_append,length_singleton];have:=hb.ps;omega
   ·show adA (b1.ps++[_])<=_;rw[Am6];exact Nat.zero_le _
 ·rw[e1,map_append];have e2:l++[b1,b2]=(l++[b1])++[b2]:=by simp
  rw[e2,map_append,length_append,length_singleton,range_succ] at hpl;have:=(append_inj' hpl rfl).1;rw[map_append] at this;rw[show(l++[({b1 with ps:=b1.ps++[Tr.nd b2.n b2.ps]}:Brn)]).length=(l++[b1]).length by simp];exact this
 ·rw [e1] at hc;have h1:c.n∈(l++[({b1 with ps:=b1.ps++[Tr.nd b2.n b2.ps]}:Brn)]).tail.map Brn.n:=mem_map_of_mem hc;rw[map_tail,map_append] at h1;have h2:c.n∈(l.map Brn.n++[b1.n]).tail:=h1;have h3:c.n∈(st.bs.map Brn.n).tail:=by
   rw[e];cases l with
   | nil=>cases h2
   | cons x l =>
     have h4:c.n∈l.map Brn.n++[b1.n]:=h2
     show c.n∈(l++[b1,b2]).map Brn.n
     rw[map_append]
     rcases mem_append.mp h4 with h|h
     ·exact mem_append_left _ h
     ·exact mem_append_right _ (by rw[mem_singleton.mp h];simp)
  rw[<-map_tail] at h3;obtain⟨b,hb,e4⟩:=mem_map.mp h3;rw[<-e4];exact h.nr b hb
theorem Bg.tx(h:Bg rs P W M D T st):Bg rs (P+1) W M (D+1) (T+t.length) (txS st i g t):=by
 obtain⟨l,b,e,e2,hp,hb⟩:=h.snoc;have e1:(txS st i g t).bs=l++[{b with ps:=adP b.ps t}]:=by show st.bs.dropLast++[_]=_;rw[e2,e,dropLast_concat]
 have hpl:=h.pl;rw[e] at hpl;refine⟨λc hc=>?_,?_,λc hc=>?_,by rw[e1];simp,by rw[e1];have:=h.l;rw[e] at this;simp at this ⊢;omega,h.m,by show(st.ls++[_]).length<=_;have:=h.d;simp;omega⟩
 ·rw[e1] at hc;rcases mem_append.mp hc with hc|hc
  ·exact(h.c c (by rw[e];simp[hc])).mono #[0] #[0] #[0]
  ·rw[mem_singleton.mp hc];refine⟨hb.n,?_,hb.ws,hb.wr,?_⟩
   ·show(adP b.ps t).length<=_;have:=hb.ps;have:=Ac3 b.ps t;omega
   ·show adA (adP b.ps t)<=_;rw[Ac4];have:=hb.t;omega
 ·rw[e1,map_append];rw[map_append] at hpl;rw[show(l++[({b with ps:=adP b.ps t}:Brn)]).length=(l++[b]).length by simp];exact hpl
 ·rw[e1] at hc;have h1:c.n∈(l++[({b with ps:=adP b.ps t}:Brn)]).tail.map Brn.n:=mem_map_of_mem hc;rw[map_tail,map_append] at h1;have h2:c.n∈(st.bs.map Brn.n).tail:=by rw[e,map_append];exact h1
  rw[<-map_tail] at h2;obtain⟨b,hb,e4⟩:=mem_map.mp h2;rw[<-e4];exact h.nr b hb
theorem Bg.sign(h:Bg rs P W M D T st):Bg rs P W (M+g.length) D T (yf6 st i g) :=
 ⟨h.c,h.pl,h.nr,h.ne,h.l,by
  show(st.ms++_).length<=_;rw[length_append,length_map];have h1:=xe0 g.cps.toList g.cps.toList.length;have h2:g.cps.toList.length=g.length:=Array.length_toList;have:=h.m;omega,h.d⟩
theorem yk7{rs:List Row}{P W M D T:Nat}{i:Int}(hN:∀r∈rs,(Row.name r).length<=4000):∀(ws:List Str) (s:Rst),Bg rs P W (M+21) D T s->s.ms.length<=M+s.bs.length->(∀n∈ws,∃r∈rs,Row.name r=n)->Bg rs P W (M+21) D T (ws.foldl (qn0 rs i) s)/\(ws.foldl (qn0 rs i) s).ms.length<=M+(ws.foldl (qn0 rs i) s).bs.length
 | [],s,h,hm,_=>⟨h,hm⟩
 | n :: ws,s,h,hm,hw=>by
   rw[foldl_cons];have hr:=hw n (by simp);refine yk7 hN ws _ ?_ ?_ λm hm=>hw m (by simp[hm])
   ·unfold qn0;split
    ·rename_i ha;unfold xj0 at ha;rw[Bool.and_eq_true,decide_eq_true_eq] at ha;have hl:=h.nlen;have hp:=h.put (n:=n) (i:=i) (rule := "anew") #[0] (by obtain⟨r,h1,h2⟩:=hr;rw[<-h2];exact hN r h1) hr;refine⟨hp.c,hp.pl,hp.nr,hp.ne,hp.l,?_,hp.d⟩;have h2:=wz3 s n i "anew";have h3:=hp.l;show(s.ms++[_]).length<=_;rw[length_append,length_singleton];omega
    ·exact h
   ·unfold qn0;split
    ·rw[wz3];show(s.ms++[_]).length<=_;rw[length_append,length_singleton];omega
    ·exact hm
theorem za5(h:Bg rs P W M D T st):(lwS rs st.bs).length<=W/\∀n∈lwS rs st.bs,∃r∈rs,Row.name r=n:=by
 obtain⟨l1,b,l2,e,lw⟩:=zt7 rs h.ne;have hb:=h.c b (by rw[e];simp);rw[e,za3 lw];exact⟨hb.ws,hb.wr⟩
theorem Bg.anews(h:Bg rs P W M D T st)(hN:∀r∈rs,(Row.name r).length<=4000):Bg rs P W (M+21) D T (qy8 rs i st):=by
 have h1:=h.wup (f:=λ_=>[]) (W':=W) #[6] λc _=>⟨Nat.zero_le _,λn hn=>by cases hn⟩;refine(yk7 hN _ _ (h1.mono #[6] #[6] #[0] #[6] #[6]) ?_ (za5 h).2).1;show st.ms.length<=_;have:=h.m;omega
theorem za6{rec:Str->Nat×List Str}:∃ps,(xi8 rs rk ys rec x).2=ps++[x]:=by
 unfold xi8;split
 ·unfold qy5;split
  ·exact⟨[],rfl⟩
  ·exact⟨_,rfl⟩
 ·split
  ·exact⟨[],rfl⟩
  ·exact⟨_,rfl⟩
theorem yf7(n:Nat)(x:Str):∃ps,(J4 rs rk ys n x).2=ps++[x]:=by
 cases n <;> (rw[J4];exact za6)
theorem yf8(h:P3 rs (some n)≠none):∃r∈rs,Row.name r=n:=by
 unfold P3 at h;cases e:qs2 rs (some n) with
 | none=>rw[e] at h;exact absurd rfl h
 | some r=>exact⟨r,(wy5 e).1,(wy5 e).2⟩
structure Bok(rs:List Row)(rk:Str->Nat):Prop where
 B:Boo rs
 f:wx5 rs rk
 k:∀x,rk x<=13
 n:∀r∈rs,(Row.name r).length<=4000
 sb:∀r∈rs,r.shuts.length<=1000/\r.bars.length<=1000
theorem Bok.row(b:Bok rs rk){n:Str}(h:∃r∈rs,Row.name r=n):n.length<=4000:=by obtain⟨r,h1,h2⟩:=h;rw[<-h2];exact b.n r h1
theorem Bg.op(b:Bok rs rk)(h:Bg rs P W M D T st):Bg rs (P+2) (W+20) (M+60) D T (opS rs rk st i g n):=by
 have hd:∀rule,Bg rs (P+2) (W+20) (M+60) D T (qp3 st i g rule):=λrule=>h.drop.mono #[0] #[0] #[0] #[0] #[0];unfold opS;split
 ·exact hd _
 rename_i hs;split
 ·exact hd _
 split
 ·exact hd _
 rename_i hlen;have hrow:=yf8 hs;have w:=wy7 b.B b.f (ys:=L7 st) 13 n hrow (b.k n);have hnl:=h.nlen;obtain⟨ps,hps⟩:=yf7 (rs:=rs) (rk:=rk) (ys:=L7 st) 13 n;have hw1:=w.k;have hm:=w.m;generalize J4 rs rk (L7 st) 13 n=wt at *
 have hk:wt.1<st.bs.length:=by omega
 have e1:wt.2.dropLast=ps:=by rw[hps,dropLast_concat]
 have e2:wt.2.length=ps.length+1:=by rw[hps];simp
 have hc:=h.cls (i:=i) (rule := "shut") hk;have hcl:(qg7 rs st wt.1 i "shut").bs.length=wt.1+1:=by rw[xp2,length_take];omega
 have hp:=hc.puts (ns:=ps) (i:=i) (rule := "frame") (by rw[hcl];omega) λm hmm=>by
  have:=hm m (by rw[hps];simp[hmm]);exact⟨b.row this,this⟩
 have hpl:=xf0 ps (qg7 rs st wt.1 i "shut") i "frame";have hpb:ps.length<=20:=by omega
 have he:=hp.ent (n:=n) (by rw[hpl,hcl];omega) (b.row hrow) hrow;rw[e1];dsimp only;split
 ·refine(he.lv ?_).mono #[0] #[0] #[0] #[0] #[0];show 2<=(wu6 _ n).length;unfold wu6;rw[length_append,hpl,hcl,length_singleton];omega
 ·exact he.mono #[0] #[0] #[0] #[0] #[0]
theorem Ac6(ws:List Str)(n:Str):(woL ws n).length<=ws.length:=by
 unfold woL;rw[length_reverse,<-length_reverse (as:=ws)];exact length_erase_le
theorem Ac7{m:Str}(h:m∈woL ws n):m∈ws:=by
 unfold woL at h;exact mem_reverse.mp (mem_of_mem_erase (mem_reverse.mp h))
theorem Bg.clo(h:Bg rs P W M D T st):Bg rs (P+2) (W+20) (M+60) D T (xe8 rs rk st i g n):=by
 have hnl:=h.nlen;unfold xe8;split
 ·rename_i k hk;have:=yj6 hk;refine((h.cls #[0]).lv ?_).mono #[0] #[0] #[0] #[0] #[0];rw[xp2,length_take];omega
 ·split
  ·refine((h.drop (i:=i) (g:=g) (rule := "late")).wup (f:=λws=>woL ws n) (W':=W) #[6] λc hc=>⟨?_,λm hm=>?_⟩).mono #[0] #[0] #[0] #[0] #[0]
   ·have h1:=(h.c c hc).ws;have h2:=Ac6 c.ws n;exact Nat.le_trans h2 h1
   ·exact(h.c c hc).wr m (Ac7 hm)
  ·exact h.drop.mono #[0] #[0] #[0] #[0] #[0]
theorem Bg.run(b:Bok rs rk)(h:Bg rs P W M D T st):Bg rs (P+2) (W+20) (M+60+g.length) (D+1) (T+t.length) (xe9 rs st i g t):=by
 have hnl:=h.nlen;unfold xe9;split
 ·exact h.drop.mono #[0] #[0] #[0] #[0] #[0]
 split
 ·exact h.drop.mono #[0] #[0] #[0] #[0] #[0]
 rename_i hlen;have hh:(O5 rs st).length<=12:=qr5 rs 12 _;have hp:=h.puts (ns:=O5 rs st) (i:=i) (rule := "host") #[0] λm hm=>by
  have:=wp4 b.B 12 _ m hm;exact⟨b.row this,this⟩
 exact((hp.anews (i:=i) b.n).sign.tx).mono #[0] #[0] #[0] #[0] #[0]
theorem Bg.step(b:Bok rs rk)(h:Bg rs P W M D T st):Bg rs (P+2) (W+20) (M+60+g.length) (D+1) (T+t.length) (qt0 rs rk st kind i g t):=by
 unfold qt0;split
 ·exact(h.op b).mono #[0] #[0] #[0] #[0] #[0]
 split
 ·exact h.clo.mono #[0] #[0] #[0] #[0] #[0]
 ·exact h.run b
end
theorem Ag3(n p q w v:V):qf6 ("waiting":Str) v [(("name":Str),n),(("place":Str),p),(("parts":Str),q),(("waiting":Str),w)]=[(("name":Str),n),(("place":Str),p),(("parts":Str),q),(("waiting":Str),v)]:=by
 show(if(("name":Str)) = "waiting" then _ else _::(if(("place":Str)) = "waiting" then _ else _::(if(("parts":Str)) = "waiting" then _ else _::(if(("waiting":Str)) = "waiting" then _ else _))))=_;rw[if_neg #[7],if_neg #[7],if_neg #[7],if_pos rfl]
theorem zu2{H3:Hp}(h1:R6 H1 H2)(h2:R6 H2 H3):R6 H1 H3:=⟨λc xs e=>h2.1 c xs (h1.1 c xs e),λc o xs e=>h2.2 c o xs (h1.2 c o xs e)⟩
variable{w:Addr}
theorem Rup.waitN{x:BA}(h:RdO K H kR kB r bv a st)(ea:a.as=m1++x::m2)(eb:st.bs=l1++b::l2)(hl:m1.length=l1.length)(hw:H w=none) :
 Rup K kR kB r bv H a (upd (upd H w #[23,ws]) x.o (.ins kB x.x (bF {x with w:=w} b))) {a with as:=m1++{x with w:=w}::m2} {st with bs:=l1++{b with ws:=ws}::l2}:=by
 walk_at"29"
 have nwo:x.o≠w:=N9 hw hx.o
 obtain⟨us,q1,q2⟩:=hx.q
 have nwq:x.q≠w:=N9 hw q1
 have s1:=A3.new hw #[23,ws]
 have tk:R6 H (upd (upd H w #[23,ws]) x.o (.ins kB x.x (bF {x with w:=w} b))):=zu2 s1.tupK (V8 (.inr ⟨_,_,_,s1 _ _ hx.o⟩))
 refine Rup.swap h ea eb hl (λz u e n=>D4 (s1 _ _ e) λy=>n (by rw[y];simp[BA.fp])) ⟨A2,tk.sqT hx.p,⟨us,D4 (s1 _ _ q1) (Ne.symm no),Dvs.tupK tk _ _ (qv8 _) q2⟩,D4 A2 (Ne.symm nwo)⟩ (λz hz=>?_) ?_ rfl
 ·simp only[BA.fp,mem_cons,not_mem_nil,or_false] at hz ⊢
  rcases hz with rfl|rfl|rfl
  ·exact .inl (.inl rfl)
  ·exact .inl (.inr (.inl rfl))
  ·exact .inr hw
 ·simp[BA.fp,no,nwo,nwq]
theorem zu3{a c:List Str}:(ys.any λy=>decide (y∈[n]++a++c))=ys.any λy=>decide (y∈n::(a++c)):=rfl
abbrev qw3(K:Fg):TS :=
 (E1 (yn5 (tOp xr1 (tCB (J6 K) #[4,1]) #[1,20]) (zb9 (B9 (W1 K) [] E0 (A1 (B9 (qk7 K) [] E0 (A1 (A0 0) #[4,1])) #[4,4])))))
abbrev qw4(K:Fg):TS :=
 (B1 (B8 (tOp (qv7 K) (tOp (qv7 K) (Y1 #[4,2]) (tOp (D7 K) (A0 3) #[1,3])) (tOp (D7 K) (A0 3) #[1,4])) (A6 4))
 (qw3 K))
def qa1(K:Fg):Sp:=λvs H Q _=>∃(v:V) (a:Addr) (ns:List Str) (n:Str) (rs:List Row),vs=[v,.ref a,.str n]/\BkO K H v rs/\SqT K H a (B0 ns)/\ns.length<=1000/\(∃r∈rs,Row.name r=n)/\(∀r∈rs,r.shuts.length<=1000/\r.bars.length<=1000)/\∀H',A3 H H'->Q (.bl (xj0 rs ns n)) H'
def W5(K:Fg):TS :=
 (B1 (B8 (B9 (qf3 K) [] E0 (A1 (A0 0) #[4,2])) (A6 3))
 (qw4 K))
theorem xf1(h:qa1 K vs H Q E):W5 K {nx:=λ_ H'=>Q .non H',rt:=Q} (C3 ["book","names","name","row","unfit"] vs) H:=by
 obtain⟨v,a,ns,n,rs,rfl,hk,ha,hl,hrow,hsb,q⟩:=h;show W5 K _ [some v,some (.ref a),some (.str n),none,none] H;unfold W5;obtain⟨r0,er,hr0,hrn⟩:=yy8 hrow;lk;refine⟨v,some n,rs,rfl,hk.rws,λe=>(by rw[er] at e;cases e),λr u e hu=>?_⟩;rw[er] at e;obtain rfl:=Option.some.inj e;obtain⟨b,ps,pb,rfl,hb,hps,hpb⟩:=yj4 hu;obtain⟨l1,l2⟩:=hsb r0 hr0;show qw4 K _ _ _;walk_at"16";have s1:=A3.new hp (.tup [.str n]);lk;refine P6 (s1.sqT hb) (v:=.ref ps) rfl ?_;refine wt5 (SqT.of A2) (s1.sqT hps) (by rw[B2];exact C7 (by simp;omega)) λp2 H2 s2 hp2=>?_;have s12:=A3.tr s1 s2;lk;refine P6 (s12.sqT hb) (v:=.ref pb) rfl ?_;refine wt5 hp2 (s12.sqT hpb) (by rw[B2,length_append,B2];exact C7 (by simp;omega)) λp3 H3 s3 hp3=>?_;have s13:=A3.tr s12 s3;have hp3':SqT K H3 p3 (B0 ([n]++r0.shuts++r0.bars)):=by simpa [B0] using hp3
 show qw3 K _ _ _;lk;refine M6 (.inr (s13.sqT ha)) ?_;rw[B2];lk;have esh:wf0 rs n=r0.shuts:=by unfold wf0;rw[er]
 have ebr:xd6 rs n=r0.bars:=by unfold xd6;rw[er]
 by_cases hlt:ns.length<20
 ·rw[decide_eq_true (show(ns.length:Int)<20 by omega)];x_go;lk;refine⟨v,a,ns,rs,rfl,(hk.same s13).rws,s13.sqT ha,hl,λp4 H4 s4 hp4=>?_⟩;lk;refine⟨p4,p3,qd0 rs ns,_,rfl,hp4,s4.sqT hp3',by have:=wl5 rs ns.length ns rfl;omega,λH5 s5=>?_⟩;lk;have ea:xj0 rs ns n=!((qd0 rs ns).any λy=>decide (y∈[n]++r0.shuts++r0.bars)):=by
   unfold xj0;rw[decide_eq_true hlt,esh,ebr,zu3];rfl
  have:=q H5 (A3.tr (A3.tr s13 s4) s5);rw[ea] at this;exact this
 ·rw[decide_eq_false (show ¬(ns.length:Int)<20 by omega)];k_go;have ea:xj0 rs ns n=false:=by unfold xj0;rw[decide_eq_false hlt];rfl
  have:=q H3 s13;rw[ea] at this;exact this
theorem xu2{n:Str}:∀{ws:List Str},n∈ws->∃A B,ws=A++n::B/\n∉B
 | [],h=>by cases h
 | x::ws,h=>by
   by_cases hn:n∈ws
   ·obtain⟨A,B,e,hB⟩:=xu2 hn;exact⟨x::A,B,by rw[e];rfl,hB⟩
   ·rcases mem_cons.mp h with h|h
    ·exact⟨[],ws,by rw[h];rfl,hn⟩
    ·exact absurd h hn
variable{A B:List Str}
theorem zk8(h:n∉B):woL (A++n::B) n=A++B:=by
 unfold woL;rw[reverse_append,reverse_cons,append_assoc,erase_append_right _ (by simpa using h)];simp
abbrev wb7(K:Fg):TS :=
 (E1 (tOp (C8 K) (tSl (qu8 K) (A0 0) U9 (O9 (A0 2))) (tSl (qu8 K) (A0 0) (O9 (tOp (C8 K) (A0 2) #[1,1])) U9)))
abbrev wb8(K:Fg):TS :=
 (B1 (wd9 (C1 (tOp (wq1 K) (tOp (D7 K) (A0 0) (A0 2)) (A0 1)))
 (B8 (tOp (rI0 λi j=>.int (i-j)) (A0 2) #[1,1]) (A6 2)))
 (wb7 K))
def qe2(K:Fg):Sp:=λvs H Q _=>∃(p:Addr) (ws:List Str) (n:Str),vs=[.ref p,.str n]/\H p=some #[23,ws]/\n∈ws/\ws.length<=9000000/\∀(q:Addr) (H':Hp),A3 H H'->H q=none->H' q=some #[23,woL ws n]->Q (.ref q) H'
def Y6(K:Fg):TS :=
 (B1 (B8 (tOp (rI0 λi j=>.int (i-j)) (tCB (J6 K) #[4,0]) #[1,1]) (A6 2))
 (wb8 K))
theorem xl1(h:qe2 K vs H Q E):Y6 K {nx:=λ_ H'=>Q .non H',rt:=Q} (C3 ["names","name","number"] vs) H:=by
 obtain⟨p,ws,n,rfl,hp,hn,hl,q⟩:=h;show Y6 K _ [some (.ref p),some (.str n),none] H;unfold Y6;obtain⟨A,B,rfl,hB⟩:=xu2 hn;have hlen:(A++n::B).length=A.length+B.length+1:=by simp;omega
 lk;refine M6 (.inl (SqL.of hp)) ?_;rw[B2,hlen];lk;have e0:((A.length+B.length+1:Nat):Int)-1=((A.length+B.length:Nat):Int):=by omega
 rw[e0];show wb8 K _ _ _;refine V1 ?_;refine zj8 (λσ H'=>H'=H/\∃m:Nat,m<=B.length/\σ=[some (.ref p),some (.str n),some (.int ((A.length+m:Nat):Int))]) (λσ _=>match σ with | [_,_,some (.int k)]=>k.toNat-A.length|_=>0) ⟨rfl,B.length,Nat.le_refl _,rfl⟩ ?_;rintro σ H' ⟨rfl,m,hm,rfl⟩;lk;cases m with
 | zero =>
   refine L8 (SqL.of hp) (v:=.str n) (M8 (by simp[B0])) ?_
   lk
   rw[decide_eq_true rfl]
   k_go
   show wb7 K _ _ _
   lk
   refine wx1 (SqL.of hp) λp1 hp1=>?_
   have e1:qe8 (B0 (A++n::B)) none (some ((A.length+0:Nat):Int))=B0 A:=by rw[xt0];simp
   rw[e1]
   have s1:=A3.new hp1 #[23,A]
   lk
   refine wx1 (SqL.of (s1 _ _ hp)) λp2 hp2=>?_
   have e2:qe8 (B0 (A++n::B)) (some (((A.length+0:Nat):Int)+1)) none=B0 B:=by
    rw[xe6 #[0],show(((A.length+0:Nat):Int)+1).toNat=A.length+1 by omega];show((A++n::B).map V.str).drop _=B.map V.str;rw[<-map_drop];congr 1;rw[drop_append,drop_eq_nil_of_le #[0],show A.length+1-A.length=1 by omega];rfl
   rw[e2]
   have s2:=A3.new hp2 #[23,B]
   lk
   refine yo9 (s2 _ _ A2) A2 (by rw[B2,B2,sizeLine_eq];omega) λp3 hp3=>?_
   have s3:=A3.new hp3 (.lst (B0 A++B0 B))
   lk
   refine q _ _ (A3.tr (A3.tr s1 s2) s3) (A3.grow (A3.tr s1 s2) _ hp3) ?_
   rw[A2,zk8 hB]
   simp[B0]
 | succ m =>
   have hg:(A++n::B)[A.length+(m+1)]?=some B[m]:=by
    rw[List.getElem?_append_right #[0],show A.length+(m+1)-A.length=m+1 by omega,List.getElem?_cons_succ,List.getElem?_eq_getElem #[0]]
   refine L8 (SqL.of hp) (v:=.str B[m]) (M8 (by unfold B0;rw[List.getElem?_map,hg];rfl)) ?_
   lk
   rw[decide_eq_false λe=>hB (by rw[<-e];exact List.getElem_mem _)]
   x_go
   refine⟨λσ' H''=>H''=H'/\σ'=[some (.ref p),some (.str n),some (.int ((A.length+m:Nat):Int))],?_,?_⟩
   ·rintro σ' H'' ⟨rfl,rfl⟩
    refine⟨m,?_,?_,rfl,m,by omega,rfl⟩
    ·show m<(((A.length+(m+1):Nat):Int)).toNat-A.length;omega
    ·show m=(((A.length+m:Nat):Int)).toNat-A.length;omega
   ·lk
    refine⟨rfl,?_⟩
    show[some (V.ref p),some (V.str n),some (V.int (((A.length+(m+1):Nat):Int)-1))]=_
    rw[show((A.length+(m+1):Nat):Int)-1=((A.length+m:Nat):Int) by omega]
theorem RdO.old_w{x:BA}(h:RdO K H kR kB r bv a st)(ea:a.as=m1++x::m2)(hw:H w=none)(hx:H x.w≠none):x.w∉RAd.fp r {a with as:=m1++{x with w:=w}::m2}:=by
 have nd:=h.nd;have e1:RAd.fp r a=(r::a.L::a.M::a.A::(fpA m1++[x.o,x.q]))++x.w::fpA m2:=by
  unfold RAd.fp;rw[ea,Q3,P0];simp[BA.fp]
 have e2:RAd.fp r {a with as:=m1++{x with w:=w}::m2}=(r::a.L::a.M::a.A::(fpA m1++[x.o,x.q]))++w::fpA m2:=by
  unfold RAd.fp;show r::a.L::a.M::a.A::fpA (m1++{x with w:=w}::m2)=_;rw[Q3,P0];simp[BA.fp]
 rw[e1,nodup_append] at nd;rw[e2];intro hm;rcases mem_append.mp hm with hm|hm
 ·exact nd.2.2 _ hm _ (by simp) rfl
 ·rcases mem_cons.mp hm with hm|hm
  ·exact hx (hm▸hw)
  ·exact(nodup_cons.mp nd.2.1).1 hm
abbrev X5(K:Fg)(qC:Addr):TS :=
 (D2 (E9 qC "put_in" (N3 K) [] E0 (A0 0) (A1 (A0 4) (A1 (A0 1) (A1 (tC (.str "anew")) A5)))))
abbrev X6(K:Fg)(qC:Addr):TS :=
 (M4 (tB (B9 (qa1 K) [] E0 (A1 (I0 K (A0 0) "book") (A1 (E9 qC "open_names" (D1 K) [] E0 (A0 0) A5) #[4,4]))))
 (X5 K qC) J8)
abbrev X7(K:Fg)(qC:Addr):TS :=
 (B1 (qi5 K (A0 2) (T2 A5) "waiting")
 (qc8 (qy3 K (A0 3)) (A6 4)
 (X6 K qC)))
def M1(K:Fg):Sp:=λvs H Q _=>∃(kR kB r:Addr) (bv:V) (a:RAd) (st:Rst) (rs:List Row) (rk:Str->Nat) (i:Int) (P W M D T:Nat),vs=[.ref r,.int i]/\RdO K H kR kB r bv a st/\BkO K H bv rs/\Bok rs rk/\Bg rs P W M D T st/\P<=8500000/\W<=8500000/\M<=8500000/\∀a' H',Rup K kR kB r bv H a H' a' (qy8 rs i st)->B3 H H'->Q .non H'
def G9(K:Fg)(qC:Addr):TS :=
 (B1 (B8 (E9 qC "last_wall" (I9 K) [] E0 (A0 0) A5) (A6 2))
 (B1 (B8 (I0 K (A0 2) "waiting") (A6 3))
 (X7 K qC)))
theorem qt1(cz:Cz K qA qC)(h:M1 K vs H Q E):G9 K qC {nx:=λ_ H'=>Q .non H',rt:=Q} (C3 ["self","start","wall","names","name"] vs) H:=by
 obtain⟨kR,kB,r,bv,a,st,rs,rk,i,P,W,M,D,T,rfl,h,hk,bk,bg,hP,hWb,hM,q⟩:=h;walk_at"4";show G9 K _ _ [some (.ref r),some (.int i),none,none,none] H;unfold G9;walk_at"3";refine⟨qC,qA,r,bv,a,st,rs,rfl,h,hk,bg.ne,by have:=bg.l;omega,λm1 m2 x l1 l2 b H1 s1 ea eb hm lw=>?_⟩;have h1:=h.same s1;have hb1:=h1.b;rw[ea,eb] at hb1;have hx:=(hb1.split hm).2.1;have elw:lwS rs st.bs=b.ws:=by rw[eb];exact za3 lw
 have ewu:wUp rs (λ_=>[]) st.bs=l1++{b with ws:=[]}::l2:=by rw[eb];exact xu0 lw
 walk_at"2";refine⟨x.o,_,x.x,_,_,rfl,hx.o,cz.cl_Branch,cz.na_Branch_waiting,rfl,?_⟩;show X7 K _ _ _ _;refine V1 (R7 ?_);lk;refine⟨C7 (by z_go),λw hw=>?_⟩;lk;have s2:=A3.new hw (.lst []);refine⟨x.o,_,x.x,_,rfl,s2 _ _ hx.o,cz.cl_Branch,cz.na_Branch_waiting,by unfold bF;simp,?_⟩;unfold bF;rw[Ag3];have u:=Rup.waitN (ws:=[]) h1 ea eb hm hw;have xnd:=h1.xnd ea;have no:x.w≠x.o:=by simp[BA.fp] at xnd;exact Ne.symm xnd.1.2
 have nxw:x.w∉RAd.fp r {a with as:=m1++{x with w:=w}::m2}:=h1.old_w ea hw (by rw[hx.w];exact λz=>by cases z);have hw3:(upd (upd H1 w (.lst [])) x.o #[21]) x.w=some #[23,b.ws]:=D4 (s2 _ _ hx.w) no;have g:B3 H1 (upd (upd H1 w (.lst [])) x.o #[21]):=B3.tr B3.upd B3.upd;have u':Rup K qC qA r bv H1 a (upd (upd H1 w (.lst [])) x.o #[21]) {a with as:=m1++{x with w:=w}::m2} {st with bs:=wUp rs (λ_=>[]) st.bs}:=by rw[ewu];exact u
 generalize upd (upd H1 w (.lst [])) x.o #[21]=H2 at *
 rw[<-elw] at hw3;obtain⟨a2,ea2⟩:∃a2,a2=({a with as:=m1++{x with w:=w}::m2}:RAd):=⟨_,rfl⟩;rw[<-ea2] at u' nxw;have hk2:=(hk.same s1).tupK (u'.tupK h1);have bg1:=bg.wup (f:=λ_=>[]) (W':=W) #[6] λc _=>⟨Nat.zero_le _,λn hn=>by cases hn⟩;have bgj:∀j,Bg rs P W (M+21) D T (((lwS rs st.bs).take j).foldl (qn0 rs i) {st with bs:=wUp rs (λ_=>[]) st.bs}):=λj =>
  (yk7 bk.n _ _ (bg1.mono #[6] #[6] #[0] #[6] #[6]) (by show st.ms.length<=_;have:=bg.m;omega) λn hn=>(za5 bg).2 n (mem_of_mem_take hn)).1;lk;refine wa4 (SqL.of hw3) (λj σ H'=>∃a' x4,σ=[some (.ref r),some (.int i),some (.ref x.o),some (.ref x.w),x4]/\Rup K qC qA r bv H2 a2 H' a' (((lwS rs st.bs).take j).foldl (qn0 rs i) {st with bs:=wUp rs (λ_=>[]) st.bs})/\B3 H2 H') ?_ ?_ ?_ ?_
 ·exact⟨a2,none,rfl,.keep u'.ok λc o e _=>e,λz hz=>hz⟩
 ·rintro j σ H' _ ⟨a',x4,rfl,uj,gj⟩;exact SqL.of (uj.bt _ _ hw3 nxw)
 ·rintro j v σ H' hv ⟨a',x4,rfl,uj,gj⟩;obtain⟨n,hn,rfl⟩:=qm4 hv;have hr:=(za5 bg).2 n (mem_of_getElem? hn);have bj:=bgj j;have efold:((lwS rs st.bs).take (j+1)).foldl (qn0 rs i) {st with bs:=wUp rs (λ_=>[]) st.bs}=qn0 rs i (((lwS rs st.bs).take j).foldl (qn0 rs i) {st with bs:=wUp rs (λ_=>[]) st.bs}) n:=by
   rw[qd3 hn,foldl_append];rfl
  generalize ((lwS rs st.bs).take j).foldl (qn0 rs i) {st with bs:=wUp rs (λ_=>[]) st.bs}=sj at *
  obtain⟨b0,bs0,eb0⟩:=exists_cons_of_ne_nil bj.ne;have hl0:bs0.length<=20:=by have:=bj.l;rw[eb0] at this;simp at this;omega
  have hnm:L7 sj=bs0.map Brn.n:=by unfold L7;rw[eb0];rfl
  have hkj:=hk2.tupK (uj.tupK u'.ok);refine D0 ?_;show X6 K _ _ _ _;walk_at"2";refine⟨r,_,a'.x,_,_,rfl,uj.ok.o,cz.cl_Reader,cz.na_Reader_book,rfl,?_⟩;walk_at"18";refine⟨r,_,_,rfl,uj.ok.o,rfl,?_⟩;lk;refine⟨qC,qA,r,bv,a',sj,b0,bs0,rfl,uj.ok,eb0,by omega,λp H4 s4 hp=>?_⟩;lk;refine⟨bv,p,bs0.map Brn.n,n,rs,rfl,hkj.same s4,hp,by rw[length_map];omega,hr,bk.sb,λH5 s5=>?_⟩;have s45:=A3.tr s4 s5;have h5:=uj.ok.same s45;have u5:=uj.tr (uj.ok.up s45) gj;have g5:=B3.tr gj (A3.grow s45);rw[<-hnm];lk;by_cases ha:xj0 rs (L7 sj) n=true
  ·rw[ha];x_go;show X5 K _ _ _ _;walk_at"18";refine⟨r,_,_,rfl,h5.o,rfl,?_⟩;lk;obtain⟨lb,bb,e1,e2,e3,e4⟩:=bj.snoc;have h3:=e4.ps;have h4:=bj.m;have h6:=bj.l;rw[e1,length_append,length_singleton] at h6;refine⟨qC,qA,r,bv,a',sj,n,i, "anew",lb,bb,rfl,h5,e1,by omega,by omega,by omega,by omega,bk.row hr,λa6 H6 u6 g6=>?_⟩;refine⟨a6,_,rfl,?_,B3.tr g5 g6⟩;rw[efold];have ep:qn0 rs i sj n={sj with bs:=sj.bs++[⟨n,bb.pl++[(bb.ps.length:Int)],[],[]⟩],ms:=sj.ms++[⟨i,i,opn n, "anew"⟩]}:=by
    unfold qn0;rw[if_pos ha];unfold xu1 wu6 ya9;rw[e2]
   rw[ep];exact u5.tr u6 g5
  ·rw[Bool.eq_false_iff.mpr ha];k_go;lk;refine⟨a',_,rfl,?_,g5⟩;rw[efold];unfold qn0;rw[if_neg ha];exact u5
 ·rintro σ H' ⟨a',x4,rfl,uj,gj⟩;rw[B2,take_length] at uj;exact q _ _ (((h.up s1).tr u' (A3.grow s1)).tr uj (B3.tr (A3.grow s1) g)) (B3.tr (B3.tr (A3.grow s1) g) gj)
abbrev wi9(K:Fg):TS :=
 (D2 (tBM K "list" D9 (I0 K (A0 4) "parts") (A1 (tOp (qv7 K) (A0 5) (A0 3)) A5)))
def adT(K:Fg):TS :=
 (B1 (D2 (tBM K "list" D9 (I0 K (A0 0) "laid") (A1 (Y1 (A1 (A0 1) (A1 (A0 2) (A1 (tOp (qv7 K) (I0 K (A0 4) "place") (Y1 (A1 (tCB (J6 K) (A1 (I0 K (A0 4) "parts") A5)) A5))) (A1 (tCB (J6 K) #[4,5]) A5))))) A5)))
 (wi9 K))
theorem Rup.parts{x:BA}{ps:List Tr}(h:RdO K H kR kB r bv a st)(ea:a.as=m1++x::m2)(eb:st.bs=l1++b::l2)(hl:m1.length=l1.length)(hd:Dvs K H (Tr.das ps) us) :
 Rup K kR kB r bv H a (upd H x.q (.lst us)) {a with as:=m1++x::m2} {st with bs:=l1++{b with ps:=ps}::l2}:=by
 walk_at"29"
 have nq:x.w≠x.q:=by simp[BA.fp] at xnd;exact Ne.symm xnd.2
 obtain⟨us0,q1,q2⟩:=hx.q
 have tk:R6 H (upd H x.q (.lst us)):=V8 (.inl ⟨_,q1⟩)
 refine Rup.swap h ea eb hl (λz u e n=>D4 e λy=>n (by rw[y];simp[BA.fp])) ⟨D4 hx.o no,tk.sqT hx.p,⟨us,A2,Dvs.tupK tk _ _ (qv8 _) hd⟩,D4 hx.w nq⟩ (λz hz=>.inl hz) xnd rfl
theorem Rup.laid{p2:Addr}{m:Int}{pl:List Int}(h:RdO K H kR kB r bv a st)(s1:A3 H H1)(e1:SqT K H1 p [.int i,.str g,.ref p2,.int m])(e2:SqT K H1 p2 (M7 pl))(m2:Dvs K H (st.ls.map Lad.da) us) :
 Rup K kR kB r bv H a (upd H1 a.A (.lst (us++[.ref p]))) a {st with ls:=st.ls++[⟨i,g,pl,m⟩]}:=by
 refine .keep ((h.same s1).setA ?_) λc o e n=>?_
 ·rw[map_append]
  exact Dvs.append (Dvs.same s1 _ _ m2) (Dvs.one (C6.mpr ⟨p,_,rfl,e1,C0 (J7.mpr rfl) (C0 (D6.mpr rfl) (C0 (C6.mpr ⟨p2,_,rfl,e2,wx9.mpr rfl⟩) (C0 (J7.mpr rfl) E4)))⟩))
 ·rw[A8 (λz=>n (by rw[z];simp[RAd.fp]))];exact s1 c o e
theorem Am7(cz:Cz K qA qC){x:BA}{told u:Str}(h:RdO K H qC qA r bv a st)(ea:a.as=m1++x::[])(eb:st.bs=l1++b::[])(hl:m1.length=l1.length)(h1:b.ps.length<=9000000)(h2:b.pl.length<=1000)(h3:st.ls.length<=9000000)(h4:u.length+told.length<=1000000)(q:∀a' H',Rup K qC qA r bv H a H' a' {st with bs:=l1++[{b with ps:=b.ps++[Tr.tx (u++told)]}],ls:=st.ls++[⟨i,g,b.pl++[(b.ps.length:Int)],u.length⟩]}->B3 H H'->D.nx [some (.ref r),some (.int i),some (.str g),some (.str told),some (.ref x.o),some (.str u)] H') :
 adT K D [some (.ref r),some (.int i),some (.str g),some (.str told),some (.ref x.o),some (.str u)] H:=by
 unfold adT
 have hb:=h.b
 rw[ea,eb] at hb
 have hx:=(hb.split hl).2.1
 obtain⟨us,q1,q2⟩:=hx.q
 obtain⟨ls,l1',l2'⟩:=h.d
 have hul:=wy0 q2
 have hll:ls.length=st.ls.length:=by have:=l2'.length;rw[length_map] at this;exact this
 walk_at"2"
 refine⟨r,_,a.x,_,_,rfl,h.o,cz.cl_Reader,cz.na_Reader_laid,rfl,?_⟩
 lk
 refine⟨.inl ⟨rfl,_,SqL.of l1'⟩,?_⟩
 walk_at"2"
 refine⟨x.o,_,x.x,_,_,rfl,hx.o,cz.cl_Branch,cz.na_Branch_place,rfl,?_⟩
 walk_at"2"
 walk_at"11"
 refine M6 (.inl (SqL.of q1)) ?_
 rw[hul]
 lk
 refine⟨C7 (by z_go),λp1 hp1=>?_⟩
 have s1:=A3.new hp1 (.tup [.int b.ps.length])
 refine wt5 (s1.sqT hx.p) (SqT.of A2) (by rw[wx7];exact C7 (by show _+1<=_;omega)) λp2 H2 s2 hp2=>?_
 rw[show M7 b.pl++[V.int b.ps.length]=M7 (b.pl++[(b.ps.length:Int)]) by simp[M7]] at hp2
 have s12:=A3.tr s1 s2
 lk
 refine .inr (.inl ⟨u,rfl,by rw[sizeLine_eq];omega,?_⟩)
 lk
 refine⟨C7 (by z_go),λp3 hp3=>?_⟩
 have s3:=A3.new hp3 (.tup [.int i,.str g,.ref p2,.int u.length])
 have s13:=A3.tr s12 s3
 lk
 refine E7 (s13 _ _ l1') (by rw[hll,sizeLine_eq];omega) ?_
 have u1:=Rup.laid h s13 (SqT.of A2) (s3.sqT hp2) l2'
 have g1:B3 H (upd (upd H2 p3 (.tup [.int i,.str g,.ref p2,.int u.length])) a.A (.lst (ls++[.ref p3]))):=B3.tr (A3.grow s13) B3.upd
 generalize upd (upd H2 p3 (.tup [.int i,.str g,.ref p2,.int u.length])) a.A (.lst (ls++[.ref p3]))=H3 at *
 have hb3:=u1.ok.b
 rw[show({st with ls:=st.ls++[⟨i,g,b.pl++[(b.ps.length:Int)],u.length⟩]}:Rst).bs=st.bs from rfl,ea,eb] at hb3
 have hx3:=(hb3.split hl).2.1
 obtain⟨us3,q3,q4⟩:=hx3.q
 have hul3:=wy0 q4
 walk_at"2"
 refine⟨x.o,_,x.x,_,_,rfl,hx3.o,cz.cl_Branch,cz.na_Branch_parts,rfl,?_⟩
 lk
 refine⟨.inl ⟨rfl,_,SqL.of q3⟩,?_⟩
 lk
 refine .inl (T4 #[16] ?_)
 lk
 refine E7 q3 (by rw[hul3,sizeLine_eq];omega) ?_
 have u2:=Rup.parts (ps:=b.ps++[Tr.tx (u++told)]) (us:=us3++[.str (u++told)]) u1.ok ea eb hl (by
  rw[qp8,map_append,<-qp8];exact Dvs.append q4 (Dvs.one (D6.mpr rfl)))
 exact q _ _ (u1.tr u2 g1) (B3.tr g1 B3.upd)
theorem yf9(t:Str):("":Str)++t=t:=(X3 _ _).mpr (by rw[PySem.Str.cps_append,Array.toList_append];rfl)
theorem ys7:∀{ds:List PyData} {d:PyData} {vs:List V} {v:V},Dvs K H (ds++[d]) (vs++[v])->Dvs K H ds vs
 | [],d,[],v,_=>E4
 | [],d,w::vs,v,h=>by have:=h.length;simp at this
 | e::ds,d,[],v,h=>by have:=h.length;simp at this
 | e::ds,d,w::vs,v,h=>by
   rw[cons_append,cons_append,Dvs] at h;obtain⟨w',r,e1,h1,h2⟩:=h;obtain⟨rfl,rfl⟩:=List.cons.inj e1;exact C0 h1 (ys7 h2)
abbrev wj0(K:Fg):TS :=
 (B1 (M4 (xc1 (C1 (tOp xj8 (tCB (J6 K) (A1 (I0 K (A0 4) "parts") A5)) #[1,0])) (tB (B9 (we9 K) [] E0 (A1 (tOp (D7 K) (I0 K (A0 4) "parts") #[12]) A5))))
 (B8 (xq4 K "list" xj5 (I0 K (A0 4) "parts")) (A6 5)) J8)
 (adT K))
def S5(K:Fg):Sp:=λvs H Q _=>∃(kR kB r:Addr) (bv:V) (a:RAd) (st:Rst) (l1:List Brn) (b:Brn) (i:Int) (g told:Str),vs=[.ref r,.int i,.str g,.str told]/\RdO K H kR kB r bv a st/\st.bs=l1++[b]/\b.ps.length<=9000000/\b.pl.length<=1000/\st.ls.length<=9000000/\adA b.ps+told.length<=1000000/\∀a' H',Rup K kR kB r bv H a H' a' {st with bs:=l1++[{b with ps:=adP b.ps told}],ls:=st.ls++[⟨i,g,b.pl++[(adN b.ps:Int)],adA b.ps⟩]}->B3 H H'->Q .non H'
def P1(K:Fg):TS :=
 (B1 (B8 (tOp (D7 K) (I0 K (A0 0) "branches") #[12]) (A6 4))
 (B1 (B8 (tC (.str "")) (A6 5))
 (wj0 K)))
theorem wl8(cz:Cz K qA qC)(h:S5 K vs H Q E):P1 K {nx:=λ_ H'=>Q .non H',rt:=Q} (C3 ["self","start","signs","told","branch","ahead"] vs) H:=by
 obtain⟨kR,kB,r,bv,a,st,l1,b,i,g,told,rfl,h,eb,h1,h2,h3,h4,q⟩:=h;walk_at"4";show P1 K _ [some (.ref r),some (.int i),some (.str g),some (.str told),none,none] H;unfold P1;obtain⟨m1,x,m2,ea,hm,hx⟩:=h.as_split eb;have hn:=h.b.len;rw[ea,eb] at hn;simp only[length_append,length_cons,length_nil] at hn;obtain rfl:m2=[]:=eq_nil_of_length_eq_zero #[0];obtain⟨us,q1,q2⟩:=hx.q;have hul:=wy0 q2;walk_at"2";walk_at"14";lk;refine⟨1,rfl,?_⟩;refine L8 (SqL.of h.l) (v:=.ref x.o) (qv9 (n:=m1.length) (by rw[ea];simp) (by rw[ea];simp)) ?_;walk_at"2";walk_at"11";refine M6 (.inl (SqL.of q1)) ?_;rw[hul];lk;rcases eq_nil_or_concat b.ps with hps|⟨P,t,hps⟩
 ·rw[hps];k_go;lk;refine Am7 cz h ea eb hm h1 h2 h3 (by show 0+_<=_;omega) λa' H' u g'=>q a' H' ?_ g';rw[yf9] at u;have e1:adP b.ps told=b.ps++[.tx told]:=by rw[hps];rfl
  have e2:adN b.ps=b.ps.length:=by rw[hps];rfl
  have e3:adA b.ps=0:=by rw[hps];rfl
  rw[e1,e2,e3];exact u
 ·rw [concat_eq_append] at hps;have hgl:b.ps.getLast?=some t:=by rw[hps,getLast?_concat]
  rw[hps] at hul;refine Ag2 (by rw[hps];simp) ?_;walk_at"2";walk_at"11";refine⟨1,rfl,?_⟩;obtain⟨ut,eu,du⟩:=Ab3 q2 (i:=P.length) (t:=t) (by rw[hps];simp);refine L8 (SqL.of q1) (v:=ut) (qv9 (n:=P.length) (by rw[hul];simp) eu) ?_;lk;refine⟨t,ut,rfl,du,?_⟩;lk;cases t with
  | tx u0 =>
    x_go
    walk_at"2"
    walk_at"11"
    refine⟨.inl ⟨rfl,_,SqL.of q1⟩,?_⟩
    obtain⟨us1,eus⟩:∃us1,us=us1++[.str u0]:=by
     have hut:ut=.str u0:=D6.mp du;refine⟨us.take P.length,?_⟩;rw[<-hut];have:=qd3 eu;rw[<-this,take_of_length_le (by rw[hul];simp)]
    rw[eus] at q1
    refine ye7 q1 ?_
    have dP:Dvs K H (Tr.das P) us1:=by
     rw[eus,hps,qp8,map_append,<-qp8] at q2;exact ys7 q2
    have u1:=Rup.parts (ps:=P) h ea eb hm dP
    have g1:B3 H (upd H x.q (.lst us1)):=B3.upd
    generalize upd H x.q (.lst us1)=H1 at *
    lk
    have e3:adA b.ps=u0.length:=by unfold adA;rw[hgl]
    refine Am7 cz u1.ok rfl rfl hm (by show P.length<=_;rw[hps] at h1;simp at h1;omega) h2 h3 (by rw[e3] at h4;exact h4) λa' H' u g'=>q a' H' ?_ (B3.tr g1 g')
    have e1:adP b.ps told=P++[.tx (u0++told)]:=by unfold adP;rw[hgl];rw[hps];simp
    have e2:adN b.ps=P.length:=by unfold adN;rw[hgl,hps];simp
    rw[e1,e2,e3]
    exact u1.tr u g1
  | nd nn pp =>
    k_go
    lk
    refine Am7 cz h ea eb hm h1 h2 h3 (by show 0+_<=_;omega) λa' H' u g'=>q a' H' ?_ g'
    rw[yf9] at u
    have e1:adP b.ps told=b.ps++[.tx told]:=by unfold adP;rw[hgl]
    have e2:adN b.ps=b.ps.length:=by unfold adN;rw[hgl]
    have e3:adA b.ps=0:=by unfold adA;rw[hgl]
    rw[e1,e2,e3]
    exact u
structure Lim(P W M D T:Nat):Prop where
 P:P<=8000000
 W:W<=8000000
 M:M<=8000000
 D:D<=8000000
 T:T<=500000
theorem ys8{g:TG}{a:Addr}(hq:SqT K H a xs)(Pv:Nat->St->Hp->Prop)(h0:Pv 0 σ H)(hk:∀i σ H',i<=xs.length->Pv i σ H'->SqT K H' a xs)(hs:∀i x σ H,xs[i]?=some x->Pv i σ H->g x σ H λσ2 H2=>tb {D with nx:=PAt Pv (i+1),ct:=PAt Pv (i+1),bk:=D.nx} σ2 H2)(hd:∀σ H,Pv xs.length σ H->D.nx σ H) :
 ∃b,V.ref a=.ref b/\(((∃xs,SqL K H b xs)/\wq2 g tb D σ (Itl K b) H)\/((∃xs,SqT K H b xs)/\wq2 g tb D σ (Itt K b) H)):=⟨a,rfl,.inr ⟨⟨xs,hq⟩,yh0 Pv h0 hk hs hd⟩⟩
variable{bb:Brn}
theorem ze1{sj:Rst}(e2:qg6 sj.bs=bb):xu1 sj n i rule={sj with bs:=sj.bs++[⟨n,bb.pl++[(bb.ps.length:Int)],[],[]⟩],ms:=sj.ms++[⟨i,i,opn n,rule⟩]}:=by
 unfold xu1 wu6 ya9;rw[e2]
theorem Ac8{bs:List Brn}(e2:qg6 bs=bb):wu6 bs n=bs++[⟨n,bb.pl++[(bb.ps.length:Int)],[],[]⟩]:=by
 unfold wu6 ya9;rw[e2]
theorem xu3(st:Rst)(ns:List Str)(n:Str)(i:Int)(rule:Str):O0 st (ns++[n]) i rule=xu1 (O0 st ns i rule) n i rule:=by
 unfold O0;rw[foldl_append];rfl
theorem yk8{pre:List Brn}(e:st.bs=pre++b::cl):qg7 rs st pre.length i rule={st with bs:=wUp rs (·++qa6 rs (cl.map Brn.n)) (pre++[{b with ps:=b.ps++X4 cl}]),ms:=st.ms++cl.reverse.map (clM i rule)}:=by
 have e1:st.bs.take pre.length=pre:=by rw[e,take_left' rfl]
 have e2:st.bs.drop (pre.length+1)=cl:=by
  rw[e,show pre++b::cl=(pre++[b])++cl by simp,drop_left' (by simp)]
 have e3:st.bs.getD pre.length yk5=b:=by rw[e];simp[List.getD]
 unfold qg7;rw[e1,e2,e3]
theorem Bg.split{P D k:Nat}(h:Bg rs P W M D T st)(hk:k<st.bs.length):∃pre b cl,st.bs=pre++b::cl/\pre.length=k/\cl.length<=20/\∀(i:Int) (rule:Str),qg7 rs st k i rule={st with bs:=wUp rs (·++qa6 rs (cl.map Brn.n)) (pre++[{b with ps:=b.ps++X4 cl}]),ms:=st.ms++cl.reverse.map (clM i rule)}:=by
 have e:st.bs=st.bs.take k++st.bs[k]::st.bs.drop (k+1):=by rw[List.getElem_cons_drop,take_append_drop]
 have hl:(st.bs.take k).length=k:=by rw[length_take];omega
 refine⟨_,_,_,e,hl,by rw[length_drop];have:=h.l;omega,λi rule=>?_⟩;have:=yk8 (rs:=rs) (i:=i) (rule:=rule) e;rw[hl] at this;exact this
theorem Bg.cond{P D:Nat}(h:Bg rs P W M D T st)(hP:P<=9000000)(hW:W<=9000000):∀c∈st.bs,c.n.length<=4000/\c.ps.length<=9000000/\c.ws.length<=9000000:=λc hc=>by
 have:=h.c c hc
 exact⟨this.n,by have:=this.ps;omega,by have:=this.ws;omega⟩
theorem zu4{ps:List Str}:qe8 (B0 (ps++[n])) none (some (-1))=B0 ps:=by
 unfold qe8;have e1:(B0 (ps++[n])).length=ps.length+1:=by rw[B2];simp
 have e2:HT.sIx (B0 (ps++[n])).length (B0 (ps++[n])).length (some (-1))=ps.length:=by
  rw[e1];show(if(-1:Int)<0 then((-1:Int)+((ps.length+1:Nat):Int)).toNat else min (-1:Int).toNat (ps.length+1))=_;rw[if_pos #[7]];omega
 rw[e2];show((B0 (ps++[n])).drop 0).take (ps.length-0)=_;rw[drop_zero,Nat.sub_zero];unfold B0;rw[map_append,take_left' (by simp)]
theorem Am8{o:Option Str}(h:o≠none):decide (oV o=V.non)=false:=by
 cases o with
 | none=>exact absurd rfl h
 | some x=>exact decide_eq_false λz=>by cases z
abbrev qb0(K:Fg)(qC:Addr):TS :=
 (B1 (D2 (E9 qC "drop" (G7 K) [] E0 (A0 0) (A1 (A0 1) (A1 (A0 2) (A1 (tC (.str "strange")) A5)))))
 yn7)
abbrev qb1(K:Fg)(qC:Addr):TS :=
 (B1 (D2 (E9 qC "drop" (G7 K) [] E0 (A0 0) (A1 (A0 1) (A1 (A0 2) (A1 (tOp (D7 K) (A0 4) #[1,1]) A5)))))
 yn7)
abbrev qb2(K:Fg)(qC:Addr):TS :=
 (D2 (E9 qC "put_in" (N3 K) [] E0 (A0 0) (A1 (A0 5) (A1 (A0 1) (A1 (tC (.str "frame")) A5)))))
abbrev qb3(K:Fg)(qC:Addr):TS :=
 (M4 (C1 (tOp (P7 K) (B9 (Y2 K) [] E0 (A1 (I0 K (A0 0) "book") #[4,3])) (tC (.str "bare"))))
 (D2 (E9 qC "leave" (O3 K) [] E0 (A0 0) A5)) J8)
abbrev qb4(K:Fg)(qC:Addr):TS :=
 (B1 (D2 (E9 qC "enter" (R8 K) [] E0 (A0 0) #[4,3]))
 (qb3 K qC))
abbrev qb5(K:Fg)(qC:Addr):TS :=
 (B1 (qc8 (qy3 K (tSl (yp7 K) (tOp (D7 K) (A0 4) #[1,2]) U9 (O9 #[12]))) (A6 5)
 (qb2 K qC))
 (qb4 K qC))
abbrev qb6(K:Fg)(qC:Addr):TS :=
 (B1 (D2 (E9 qC "close_behind" (E6 K) [] E0 (A0 0) (A1 (tOp (D7 K) (A0 4) #[1,1]) (A1 (A0 1) (A1 (tC (.str "shut")) A5)))))
 (qb5 K qC))
abbrev Q9(K:Fg)(qC:Addr):TS :=
 (B1 (M4 (C1 (tOp (P7 K) (tOp (D7 K) (A0 4) #[1,0]) (tC (.str "drop"))))
 (qb1 K qC) J8)
 (qb6 K qC))
abbrev qb7(K:Fg)(qC:Addr):TS :=
 (B1 (B8 (B9 (wf1 K) [] E0 (A1 (I0 K (A0 0) "book") (A1 (E9 qC "open_names" (D1 K) [] E0 (A0 0) A5) #[4,3]))) (A6 4))
 (Q9 K qC))
def N5(K:Fg):Sp:=λvs H Q _=>∃(kR kB r:Addr) (bv:V) (a:RAd) (st:Rst) (rs:List Row) (rk:Str->Nat) (P W M D T:Nat) (i:Int) (g n:Str),vs=[.ref r,.int i,.str g,.str n]/\RdO K H kR kB r bv a st/\BkO K H bv rs/\Bok rs rk/\Bg rs P W M D T st/\Lim P W M D T/\g.length<=100000/\∀a' H',Rup K kR kB r bv H a H' a' (opS rs rk st i g n)->B3 H H'->Q .non H'
def L0(K:Fg)(qC:Addr):TS :=
 (B1 (M4 (C1 (tOp xz8 (B9 (Y2 K) [] E0 (A1 (I0 K (A0 0) "book") #[4,3])) (tC .non)))
 (qb0 K qC) J8)
 (qb7 K qC))
theorem qy9(cz:Cz K qA qC)(h:N5 K vs H Q E):L0 K qC {nx:=λ_ H'=>Q .non H',rt:=Q} (C3 ["self","start","signs","name","plan","put"] vs) H:=by
 obtain⟨kR,kB,r,bv,a,st,rs,rk,P,W,M,D,T,i,g,n,rfl,h,hk,bk,bg,lim,hg,q⟩:=h;obtain rfl:=E2 cz.ns_Reader h.kr;show L0 K _ _ [some (.ref r),some (.int i),some (.str g),some (.str n),none,none] H;unfold L0;walk_at"13";have l1:=lim.P;have l2:=lim.W;have l3:=lim.M;walk_at"2";walk_at"23";lk;refine⟨bv,some n,rs,rfl,hk.rws,?_⟩;lk;by_cases hs:P3 rs (some n)=none
 ·have ed:decide (oV (P3 rs (some n))=V.non)=true:=by rw[hs];rfl
  rw[ed];x_go;show qb0 K _ _ _ _;walk_at"3";refine⟨qC,kB,r,bv,a,st,i,g, "strange",rfl,h,by omega,by omega,λH1 u1 g1=>?_⟩;lk;have eo:opS rs rk st i g n=qp3 st i g "strange":=by unfold opS;rw[if_pos hs]
  exact q a H1 (by rw[eo];exact u1) g1
 rw[Am8 hs];k_go;show qb7 K _ _ _ _;have hrow:=yf8 hs;walk_at"2";walk_at"23";walk_at"3";refine⟨qC,kB,r,bv,a,st,b0,bs0,rfl,h,eb0,by omega,λp H1 s1 hp=>?_⟩;lk;rw[<-hnm] at hp;have hnl:=bg.nlen;refine⟨bv,p,L7 st,n,rs,rk,rfl,(hk.same s1).rws,bk.B,bk.f,hp,by omega,hrow,bk.k n,λw H2 s2 hw=>?_⟩;have s12:=A3.tr s1 s2;have h2:=h.same s12;have hk2:=hk.same s12;have drop:∀rule:Str,xt2 rs rk (L7 st) n=.tuple [.str "drop",.str rule]->opS rs rk st i g n=qp3 st i g rule->Q9 K qC {nx:=λ_ H'=>Q .non H',rt:=Q} [some (.ref r),some (.int i),some (.str g),some (.str n),some (.ref w),none] H2:=λrule ep eo=>by
  rw[ep] at hw;obtain⟨w',ws,e1,hwq,hwd⟩:=C6.mp hw;cases e1;rw[Dvs] at hwd;obtain⟨v0,r0,rfl,d0,hwd⟩:=hwd;rw[Dvs] at hwd;obtain⟨v1,r1,rfl,d1,hwd⟩:=hwd;rw[Dvs] at hwd;subst hwd;obtain rfl:=D6.mp d0;obtain rfl:=D6.mp d1;lk;refine P6 hwq (v:=.str "drop") rfl ?_;lk;x_go;show qb1 K _ _ _ _;walk_at"18";refine⟨r,_,_,rfl,h2.o,rfl,?_⟩;lk;refine P6 hwq (v:=.str rule) rfl ?_;lk;refine⟨qC,kB,r,bv,a,st,i,g,rule,rfl,h2,by omega,by omega,λH3 u3 g3=>?_⟩;lk;exact q a H3 (by rw[eo];exact(h.up s12).tr u3 (A3.grow s12)) (B3.tr (A3.grow s12) g3)
 by_cases hbar:bar rs ((L7 st).take #[18,n].1) #[18,n].2=true
 ·exact drop "barred" (by unfold xt2;rw[if_pos hbar]) (by unfold opS;rw[if_neg hs,if_pos hbar])
 by_cases hdeep:20<#[18,n].1+#[18,n].2.length
 ·exact drop "deep" (by unfold xt2;rw[if_neg hbar,if_pos hdeep]) (by unfold opS;rw[if_neg hs,if_neg hbar,if_pos hdeep])
 have ep:xt2 rs rk (L7 st) n=.tuple [.str "open",.int #[18,n].1,.tuple (sDa #[18,n].2)]:=by unfold xt2;rw[if_neg hbar,if_neg hdeep]
 have eo:opS rs rk st i g n=(if P3 rs (some n)=some ("bare":Str) then lvS {(O0 (qg7 rs st #[18,n].1 i "shut") #[18,n].2.dropLast i "frame") with bs:=wu6 (O0 (qg7 rs st #[18,n].1 i "shut") #[18,n].2.dropLast i "frame").bs n} else{(O0 (qg7 rs st #[18,n].1 i "shut") #[18,n].2.dropLast i "frame") with bs:=wu6 (O0 (qg7 rs st #[18,n].1 i "shut") #[18,n].2.dropLast i "frame").bs n}):=by
  unfold opS;rw[if_neg hs,if_neg hbar,if_neg hdeep]
 have wok:=wy7 bk.B bk.f (ys:=L7 st) 13 n hrow (bk.k n);obtain⟨ps,hps⟩:=yf7 (rs:=rs) (rk:=rk) (ys:=L7 st) 13 n;have hw1:=wok.k;have hwm:=wok.m;rw[ep] at hw;clear drop hbar;generalize J4 rs rk (L7 st) 13 n=wt at *
 obtain⟨w',ws,e1,hwq,hwd⟩:=C6.mp hw;cases e1;walk_at"10";rw[Dvs] at hwd;subst hwd;obtain rfl:=D6.mp d0;obtain rfl:=J7.mp d1;obtain⟨pz,zs,rfl,hz,dz⟩:=C6.mp d2;rw[qp7] at dz;subst dz;have hkl:wt.1<st.bs.length:=by omega
 obtain⟨pre,bb,cl,eb,hpre,hcl,ecl⟩:=bg.split hkl;have edl:wt.2.dropLast=ps:=by rw[hps,dropLast_concat]
 have ell:wt.2.length=ps.length+1:=by rw[hps];simp
 rw[edl] at eo;have bc:=bg.cls (i:=i) (rule := "shut") hkl;have bcl:(qg7 rs st wt.1 i "shut").bs.length=wt.1+1:=by rw[xp2,length_take];omega
 have hpm:∀m∈ps,m.length<=4000/\∃r∈rs,Row.name r=m:=λm hm=>by
  have:=hwm m (by rw[hps];simp[hm]);exact⟨bk.row this,this⟩
 have bp:∀j,Bg rs (P+1) (W+20) (M+20+(ps.take j).length) D T (O0 (qg7 rs st wt.1 i "shut") (ps.take j) i "frame"):=λj=>by
  have:(ps.take j).length<=ps.length:=by rw[length_take];omega
  exact bc.puts (by rw[bcl];omega) λm hm=>hpm m (mem_of_mem_take hm)
 have bpl:∀j,(O0 (qg7 rs st wt.1 i "shut") (ps.take j) i "frame").bs.length=wt.1+1+(ps.take j).length:=λj=>by rw[xf0,bcl]
 show Q9 K _ _ _ _;lk;refine P6 hwq (v:=.str "open") rfl ?_;lk;k_go;show qb6 K _ _ _ _;walk_at"18";refine⟨r,_,_,rfl,h2.o,rfl,?_⟩;lk;refine P6 hwq (v:=.int wt.1) rfl ?_;lk;refine⟨qC,kB,r,bv,a,st,rs,pre,cl,bb,i, "shut",by rw[hpre];rfl,h2,hk2,eb,by omega,bg.cond #[0] #[0],by omega,λa3 H3 u3 g3=>?_⟩;rw[<-ecl i "shut"] at u3;have tk3:=u3.tupK h2;have hwq3:=tk3.sqT hwq;have hz3:=tk3.sqT hz;show qb5 K _ _ _ _;lk;refine P6 hwq3 (v:=.ref pz) rfl ?_;lk;refine⟨1,rfl,?_⟩;refine⟨-1,rfl,?_⟩;refine yp8 hz3 λc H4 s4 hc=>?_;rw[hps,zu4] at hc;have h4:=u3.ok.same s4;have hk4:=(hk2.tupK tk3).same s4;refine ys8 hc (λj σ H'=>∃a' x5,σ=[some (.ref r),some (.int i),some (.str g),some (.str n),some (.ref w),x5]/\Rup K qC kB r bv H4 a3 H' a' (O0 (qg7 rs st wt.1 i "shut") (ps.take j) i "frame")/\B3 H4 H') ?_ ?_ ?_ ?_
 ·exact⟨a3,none,rfl,.keep h4 λc o e _=>e,λz hz=>hz⟩
 ·rintro j σ H' _ ⟨a',x5,rfl,uj,gj⟩;exact(uj.tupK h4).sqT hc
 ·rintro j v σ H' hv ⟨a',x5,rfl,uj,gj⟩;obtain⟨m,hm,rfl⟩:=qm4 hv;refine D0 ?_;show qb2 K _ _ _ _;walk_at"18";refine⟨r,_,_,rfl,uj.ok.o,rfl,?_⟩;lk;have bj:=bp j;have bjl:=bpl j;have hjl:(ps.take j).length<=ps.length:=by rw[length_take];omega
  have em:O0 (qg7 rs st wt.1 i "shut") (ps.take (j+1)) i "frame"=xu1 (O0 (qg7 rs st wt.1 i "shut") (ps.take j) i "frame") m i "frame":=by rw[qd3 hm,xu3]
  rw[PAt,em];generalize O0 (qg7 rs st wt.1 i "shut") (ps.take j) i "frame"=sj at *
  obtain⟨lb,b9,e1,e2,e3,e4⟩:=bj.snoc;have h3:=e4.ps;have h5:=bj.m;have h6:=bj.l;rw[e1,length_append,length_singleton] at h6;refine⟨qC,kB,r,bv,a',sj,m,i, "frame",lb,b9,rfl,uj.ok,e1,by omega,by omega,by omega,by omega,(hpm m (mem_of_getElem? hm)).1,λa6 H6 u6 g6=>?_⟩;refine⟨a6,_,rfl,?_,B3.tr gj g6⟩;rw[ze1 e2];exact uj.tr u6 gj
 rintro σ H5 ⟨a5,x5,rfl,u5,g5⟩;have bj:=bp ps.length;have bjl:=bpl ps.length;rw[B2] at u5;rw[take_length] at u5 bj bjl;show qb4 K _ _ _ _;walk_at"18";refine⟨r,_,_,rfl,u5.ok.o,rfl,?_⟩;lk;generalize O0 (qg7 rs st wt.1 i "shut") ps i "frame"=sj at *
 obtain⟨lb,b9,e1,e2,e3,e4⟩:=bj.snoc;have h3:=e4.ps;have h6:=bj.l;rw[e1,length_append,length_singleton] at h6;refine⟨qC,kB,r,bv,a5,sj,n,lb,b9,rfl,u5.ok,e1,by omega,by omega,by omega,λa6 H6 u6 g6=>?_⟩;have g12:=A3.grow s12;have uu:=((((h.up s12).tr u3 g12).tr (u3.ok.up s4) (B3.tr g12 g3)).tr u5 (B3.tr (B3.tr g12 g3) (A3.grow s4))).tr u6 (B3.tr (B3.tr (B3.tr g12 g3) (A3.grow s4)) g5);have gg:=B3.tr (B3.tr (B3.tr (B3.tr g12 g3) (A3.grow s4)) g5) g6;have hk6:=hk.tupK (uu.tupK h);rw[<-Ac8 e2] at u6 uu;show qb3 K _ _ _ _;walk_at"2";refine⟨r,_,a6.x,_,_,rfl,u6.ok.o,cz.cl_Reader,cz.na_Reader_book,rfl,?_⟩;lk;refine⟨bv,some n,rs,rfl,hk6.rws,?_⟩;lk;refine za1 ?_;lk;by_cases hbare:P3 rs (some n)=some ("bare":Str)
 ·rw[decide_eq_true hbare];x_go;walk_at"18";refine⟨r,_,_,rfl,u6.ok.o,rfl,?_⟩;lk;have e7:wu6 sj.bs n=lb++[b9,ya9 b9 n]:=by unfold wu6;rw[e2,e1];simp
  refine⟨qC,kB,r,bv,a6,_,lb,b9,ya9 b9 n,rfl,u6.ok,e7,by omega,λa7 H7 u7 g7=>?_⟩;refine q a7 H7 ?_ (B3.tr gg g7);rw[eo,if_pos hbare];unfold lvS;show Rup _ _ _ _ _ _ _ _ _ {sj with bs:=lvB (wu6 sj.bs n)};rw[e7,za4];exact uu.tr u7 gg
 ·rw[decide_eq_false hbare];k_go;refine q a6 H6 ?_ gg;rw[eo,if_neg hbare];exact uu
theorem Rup.waitO{x:BA}(h:RdO K H kR kB r bv a st)(ea:a.as=m1++x::m2)(eb:st.bs=l1++b::l2)(hl:m1.length=l1.length)(s1:A3 H H1)(hw0:H w=none)(hw:H1 w=some #[23,ws]) :
 Rup K kR kB r bv H a (upd H1 x.o (.ins kB x.x (bF {x with w:=w} b))) {a with as:=m1++{x with w:=w}::m2} {st with bs:=l1++{b with ws:=ws}::l2}:=by
 walk_at"29"
 have nwo:x.o≠w:=N9 hw0 hx.o
 obtain⟨us,q1,q2⟩:=hx.q
 have nwq:x.q≠w:=N9 hw0 q1
 have tk:R6 H (upd H1 x.o (.ins kB x.x (bF {x with w:=w} b))):=zu2 s1.tupK (V8 (.inr ⟨_,_,_,s1 _ _ hx.o⟩))
 refine Rup.swap h ea eb hl (λz u e n=>D4 (s1 _ _ e) λy=>n (by rw[y];simp[BA.fp])) ⟨A2,tk.sqT hx.p,⟨us,D4 (s1 _ _ q1) (Ne.symm no),Dvs.tupK tk _ _ (qv8 _) q2⟩,D4 hw (Ne.symm nwo)⟩ (λz hz=>?_) ?_ rfl
 ·simp only[BA.fp,mem_cons,not_mem_nil,or_false] at hz ⊢
  rcases hz with rfl|rfl|rfl
  ·exact .inl (.inl rfl)
  ·exact .inl (.inr (.inl rfl))
  ·exact .inr hw0
 ·simp[BA.fp,no,nwo,nwq]
abbrev qb8(K:Fg)(qC:Addr):TS :=
 (D2 (E9 qC "drop" (G7 K) [] E0 (A0 0) (A1 (A0 1) (A1 (A0 2) (A1 (tC (.str "late")) A5)))))
abbrev qb9(K:Fg)(qC:Addr):TS :=
 (B1 (qi5 K (A0 5) (B9 (qe2 K) [] E0 (A1 (I0 K (A0 5) "waiting") #[4,3])) "waiting")
 (qb8 K qC))
abbrev qc0(K:Fg)(qC:Addr):TS :=
 (D2 (E9 qC "drop" (G7 K) [] E0 (A0 0) (A1 (A0 1) (A1 (A0 2) (A1 (tC (.str "stray")) A5)))))
abbrev qc1(K:Fg)(qC:Addr):TS :=
 (B1 (D2 (E9 qC "close_behind" (E6 K) [] E0 (A0 0) (A1 (tOp (C8 K) (A0 4) #[1,1]) (A1 (A0 1) (A1 (tC (.str "left")) A5)))))
 (D2 (E9 qC "leave" (O3 K) [] E0 (A0 0) A5)))
abbrev qc2(K:Fg)(qC:Addr):TS :=
 (M4 (C1 (tOp (wa5 K false) (A0 3) (I0 K (A0 5) "waiting")))
 (qb9 K qC) (qc0 K qC))
abbrev M9(K:Fg)(qC:Addr):TS :=
 (M4 (C1 (tOp qv6 (A0 4) (tC .non)))
 (qc1 K qC) (qc2 K qC))
abbrev qc3(K:Fg)(qC:Addr):TS :=
 (B1 (B8 (E9 qC "last_wall" (I9 K) [] E0 (A0 0) A5) (A6 5))
 (M9 K qC))
def N6(K:Fg):Sp:=λvs H Q _=>∃(kR kB r:Addr) (bv:V) (a:RAd) (st:Rst) (rs:List Row) (rk:Str->Nat) (P W M D T:Nat) (i:Int) (g n:Str),vs=[.ref r,.int i,.str g,.str n]/\RdO K H kR kB r bv a st/\BkO K H bv rs/\Bok rs rk/\Bg rs P W M D T st/\Lim P W M D T/\g.length<=100000/\∀a' H',Rup K kR kB r bv H a H' a' (xe8 rs rk st i g n)->B3 H H'->Q .non H'
def L1(K:Fg)(qC:Addr):TS :=
 (B1 (B8 (B9 (qs6 K) [] E0 (A1 (I0 K (A0 0) "book") (A1 (E9 qC "open_names" (D1 K) [] E0 (A0 0) A5) #[4,3]))) (A6 4))
 (qc3 K qC))
theorem qz0(cz:Cz K qA qC)(h:N6 K vs H Q E):L1 K qC {nx:=λ_ H'=>Q .non H',rt:=Q} (C3 ["self","start","signs","name","number","wall"] vs) H:=by
 obtain⟨kR,kB,r,bv,a,st,rs,rk,P,W,M,D,T,i,g,n,rfl,h,hk,bk,bg,lim,hg,q⟩:=h;walk_at"4";show L1 K _ _ [some (.ref r),some (.int i),some (.str g),some (.str n),none,none] H;unfold L1;walk_at"13";have hnl:=bg.nlen;have l1:=lim.P;have l2:=lim.W;have l3:=lim.M;walk_at"2";walk_at"23";walk_at"3";refine⟨qC,qA,r,bv,a,st,b0,bs0,rfl,h,eb0,by omega,λp H1 s1 hp=>?_⟩;lk;rw[<-hnm] at hp;have h1:=h.same s1;have hk1:=hk.same s1;refine⟨bv,p,L7 st,n,rs,rk,rfl,hk1.rws,bk.f,.inr hp,by omega,?_⟩;show qc3 K _ _ _ _;walk_at"18";refine⟨r,_,_,rfl,h1.o,rfl,?_⟩;lk;refine⟨qC,qA,r,bv,a,st,rs,rfl,h1,hk1,bg.ne,by omega,λm1 m2 x k1 k2 bb H2 s2 ea eb hm lw=>?_⟩;have s12:=A3.tr s1 s2;have h2:=h.same s12;have hk2:=hk.same s12;have g12:=A3.grow s12;have hb2:=h2.b;rw[ea,eb] at hb2;have hx:=(hb2.split hm).2.1;show M9 K _ _ _ _;cases hc:clo rs rk (L7 st) n (L7 st).length with
 | some k =>
   have hkl:=yj6 hc
   have eo:xe8 rs rk st i g n=lvS (qg7 rs st (k+1) i "left"):=by unfold xe8;rw[hc]
   show M9 K _ _ [some (.ref r),some (.int i),some (.str g),some (.str n),some (.int (k:Int)),some (.ref x.o)] _
   lk
   x_go
   show qc1 K _ _ _ _
   walk_at"18"
   refine⟨r,_,_,rfl,h2.o,rfl,?_⟩
   lk
   have hkl2:k+1<st.bs.length:=by omega
   obtain⟨pre,b3,cl,e3,hpre,hcl,ecl⟩:=bg.split hkl2
   have bc:=bg.cls (i:=i) (rule := "left") hkl2
   have bcl:(qg7 rs st (k+1) i "left").bs.length=k+2:=by rw[xp2,length_take];omega
   refine⟨qC,qA,r,bv,a,st,rs,pre,cl,b3,i, "left",by rw[hpre];rfl,h2,hk2,e3,by omega,bg.cond #[0] #[0],by omega,λa3 H3 u3 g3=>?_⟩
   rw[<-ecl i "left"] at u3
   walk_at"18"
   refine⟨r,_,_,rfl,u3.ok.o,rfl,?_⟩
   lk
   generalize qg7 rs st (k+1) i "left"=sj at *
   obtain⟨lb,b5,b6,e5⟩:=zu1 (bs:=sj.bs) #[0]
   have hb5:=(bc.c b5 (by rw[e5];simp)).ps
   refine⟨qC,qA,r,bv,a3,sj,lb,b5,b6,rfl,u3.ok,e5,by omega,λa4 H4 u4 g4=>?_⟩
   refine q a4 H4 ?_ (B3.tr (B3.tr g12 g3) g4)
   rw[eo]
   unfold lvS
   rw[e5,za4]
   exact((h.up s12).tr u3 g12).tr u4 (B3.tr g12 g3)
 | none =>
   show M9 K _ _ [some (.ref r),some (.int i),some (.str g),some (.str n),some .non,some (.ref x.o)] _
   lk
   k_go
   show qc2 K _ _ _ _
   have elw:lwS rs st.bs=bb.ws:=by rw[eb];exact za3 lw
   have hbb:=bg.c bb (by rw[eb];simp)
   have hbw:=hbb.ws
   walk_at"2"
   refine⟨x.o,_,x.x,_,_,rfl,hx.o,cz.cl_Branch,cz.na_Branch_waiting,rfl,?_⟩
   refine .inl (yi6 (.inl (SqL.of hx.w)) rfl (W7 _) ?_)
   rw[qm3]
   lk
   by_cases hin:n∈bb.ws
   ·rw[decide_eq_true hin]
    x_go
    have eo:xe8 rs rk st i g n={(qp3 st i g "late") with bs:=wUp rs (λws=>woL ws n) st.bs}:=by unfold xe8;rw[hc,elw];exact if_pos hin
    have ewu:wUp rs (λws=>woL ws n) st.bs=k1++{bb with ws:=woL bb.ws n}::k2:=by rw[eb];exact xu0 lw
    show qb9 K _ _ _ _
    refine V1 (R7 ?_)
    walk_at"2"
    refine⟨x.o,_,x.x,_,_,rfl,hx.o,cz.cl_Branch,cz.na_Branch_waiting,rfl,?_⟩
    lk
    refine⟨x.w,bb.ws,n,rfl,hx.w,hin,by omega,λw H3 s3 hw0 hw=>?_⟩
    lk
    refine⟨x.o,_,x.x,_,rfl,s3 _ _ hx.o,cz.cl_Branch,cz.na_Branch_waiting,by unfold bF;simp,?_⟩
    unfold bF
    rw[Ag3]
    have u3:=Rup.waitO (ws:=woL bb.ws n) h2 ea eb hm s3 hw0 hw
    rw[<-ewu] at u3
    have g3:B3 H2 (upd H3 x.o (.ins qA x.x [(("name":Str),.str bb.n),(("place":Str),.ref x.p),(("parts":Str),.ref x.q),(("waiting":Str),.ref w)])):=B3.tr (A3.grow s3) B3.upd
    have u3':Rup K qC qA r bv H2 a (upd H3 x.o (.ins qA x.x [(("name":Str),.str bb.n),(("place":Str),.ref x.p),(("parts":Str),.ref x.q),(("waiting":Str),.ref w)])) {a with as:=m1++{x with w:=w}::m2} {st with bs:=wUp rs (λws=>woL ws n) st.bs}:=u3
    generalize upd H3 x.o (.ins qA x.x [(("name":Str),.str bb.n),(("place":Str),.ref x.p),(("parts":Str),.ref x.q),(("waiting":Str),.ref w)])=H4 at *
    show qb8 K _ _ _ _
    walk_at"18"
    refine⟨r,_,_,rfl,u3'.ok.o,rfl,?_⟩
    lk
    refine⟨qC,qA,r,bv,_,_,i,g, "late",rfl,u3'.ok,by show st.ms.length<=_;omega,by omega,λH5 u5 g5=>?_⟩
    refine q {a with as:=m1++{x with w:=w}::m2} H5 ?_ (B3.tr (B3.tr g12 g3) g5)
    rw[eo]
    exact((h.up s12).tr u3' g12).tr u5 (B3.tr g12 g3)
   ·rw[decide_eq_false hin]
    k_go
    have eo:xe8 rs rk st i g n=qp3 st i g "stray":=by unfold xe8;rw[hc,elw];exact if_neg hin
    show qc0 K _ _ _ _
    walk_at"18"
    refine⟨r,_,_,rfl,h2.o,rfl,?_⟩
    lk
    refine⟨qC,qA,r,bv,a,st,i,g, "stray",rfl,h2,by omega,by omega,λH5 u5 g5=>?_⟩
    refine q a H5 ?_ (B3.tr g12 g5)
    rw[eo]
    exact(h.up s12).tr u5 g12
theorem zu5{k n:Nat}(h:k∈qg1 l n):l[k]?=some 60\/l[k]?=some 38:=by
 unfold qg1 at h;have:=(mem_filter.mp h).2;unfold yz6 at this;rw[Bool.or_eq_true,Bool.and_eq_true,decide_eq_true_eq,decide_eq_true_eq] at this;exact this.imp id λh=>h.1
theorem Am9:zk5 ⟨#[60]⟩ = "&l;":=by rw[X3];rfl
theorem An0:zk5 ⟨#[38]⟩ = "&a;":=by rw[X3];rfl
theorem zu6{ns:List Nat}(h:(yq9 ns)[j]?=some v):∃k,ns[j]?=some k/\v=.int (k:Int):=by
 unfold yq9 at h;rw[List.getElem?_map] at h;obtain⟨k,hk,e⟩:=Option.map_eq_some_iff.mp h;exact⟨k,hk,e.symm⟩
abbrev qj0(K:Fg)(qC:Addr):TS :=
 (D2 (E9 qC "put_in" (N3 K) [] E0 (A0 0) (A1 (A0 5) (A1 (A0 1) (A1 (tC (.str "host")) A5)))))
abbrev qj1(K:Fg):TS :=
 (D2 (tBM K "list" D9 (I0 K (A0 0) "mends") (A1 (Y1 (A1 (A0 7) (A1 (tOp (C8 K) (A0 7) #[1,1]) (A1 (B9 (wf5 K) [] E0 (A1 (tOp (D7 K) (A0 2) (A0 6)) A5)) (A1 (tC (.str "sign")) A5))))) A5)))
abbrev qj2(K:Fg)(qC:Addr):TS :=
 (D2 (E9 qC "add_text" (S5 K) [] E0 (A0 0) (A1 (A0 1) (A1 (A0 2) #[4,3]))))
abbrev qj3(K:Fg)(qC:Addr):TS :=
 (B1 (qc8 (qy3 K (B9 (qq1 K) [] E0 #[4,2])) (A6 6)
 (B1 (B8 (tOp (C8 K) (A0 1) (A0 6)) (A6 7))
 (qj1 K)))
 (qj2 K qC))
abbrev qj4(K:Fg)(qC:Addr):TS :=
 (B1 (D2 (E9 qC "put_in_waiting" (M1 K) [] E0 (A0 0) #[4,1]))
 (qj3 K qC))
abbrev qj5(K:Fg)(qC:Addr):TS :=
 (D2 (E9 qC "drop" (G7 K) [] E0 (A0 0) (A1 (A0 1) (A1 (A0 2) (A1 (tC (.str "deep")) A5)))))
abbrev qj6(K:Fg)(qC:Addr):TS :=
 (B1 (qc8 (qy3 K (A0 4)) (A6 5)
 (qj0 K qC))
 (qj4 K qC))
abbrev qj7(K:Fg)(qC:Addr):TS :=
 (D2 (E9 qC "drop" (G7 K) [] E0 (A0 0) (A1 (A0 1) (A1 (A0 2) (A1 (tC (.str "blank")) A5)))))
abbrev qj8(K:Fg)(qC:Addr):TS :=
 (M4 (C1 (tOp xz8 (A0 4) (tC .non)))
 (qj5 K qC) (qj6 K qC))
abbrev qj9(K:Fg)(qC:Addr):TS :=
 (M4 (xc1 (tB (E9 qC "is_in_frame" (O4 K) [] E0 (A0 0) A5)) (C1 (tOp (P7 K) (tBM K "str" yj2 (A0 3) (A1 (tC (.str " \n")) A5)) (tC (.str "")))))
 (qj7 K qC) (qj8 K qC))
theorem RdO.nop(h:RdO K H kR kB r bv a st)(hp:H p=none):p∉RAd.fp r a:=λhz=>h.dom p hz hp
theorem zu7(cz:Cz K qA qC){P D:Nat}{c:Addr}(h:RdO K H qC qA r bv a st)(hk:BkO K H bv rs)(bk:Bok rs rk)(bg:Bg rs P W M D T st)(lim:Lim P W M D T)(hg:g.length<=10000)(ht:t.length<=10000)(hc:SqT K H c (B0 (O5 rs st)))(hlen:¬20<(L7 st).length+(O5 rs st).length)(q:∀a' H',Rup K qC qA r bv H a H' a' (txS (yf6 (qy8 rs i (O0 st (O5 rs st) i "host")) i g) i g t)->B3 H H'->Q .non H') :
 qj6 K qC {nx:=λ_ H'=>Q .non H',rt:=Q} [some (.ref r),some (.int i),some (.str g),some (.str t),some (.ref c),none,none,none] H:=by
 have hnl:=bg.nlen
 have l1:=lim.P
 have l2:=lim.W
 have l3:=lim.M
 have l4:=lim.D
 have l5:=lim.T
 have hhl:(O5 rs st).length<=12:=qr5 rs 12 _
 have hpm:∀m∈O5 rs st,m.length<=4000/\∃r∈rs,Row.name r=m:=λm hm=>by
  have:=wp4 bk.B 12 _ m hm;exact⟨bk.row this,this⟩
 have bp:∀j,Bg rs P W (M+((O5 rs st).take j).length) D T (O0 st ((O5 rs st).take j) i "host"):=λj=>by
  have:((O5 rs st).take j).length<=(O5 rs st).length:=by rw[length_take];omega
  exact bg.puts #[0] λm hm=>hpm m (mem_of_mem_take hm)
 lk
 refine ys8 hc (λj σ H'=>∃a' x5,σ=[some (.ref r),some (.int i),some (.str g),some (.str t),some (.ref c),x5,none,none]/\Rup K qC qA r bv H a H' a' (O0 st ((O5 rs st).take j) i "host")/\B3 H H') ?_ ?_ ?_ ?_
 ·exact⟨a,none,rfl,.keep h λc o e _=>e,λz hz=>hz⟩
 ·rintro j σ H' _ ⟨a',x5,rfl,uj,gj⟩
  exact(uj.tupK h).sqT hc
 ·rintro j v σ H' hv ⟨a',x5,rfl,uj,gj⟩
  obtain⟨m,hm,rfl⟩:=qm4 hv
  refine D0 ?_
  show qj0 K _ _ _ _
  walk_at"18"
  refine⟨r,_,_,rfl,uj.ok.o,rfl,?_⟩
  lk
  have bj:=bp j
  have hjl:((O5 rs st).take j).length<=(O5 rs st).length:=by rw[length_take];omega
  have em:O0 st ((O5 rs st).take (j+1)) i "host"=xu1 (O0 st ((O5 rs st).take j) i "host") m i "host":=by rw[qd3 hm,xu3]
  rw[PAt,em]
  generalize O0 st ((O5 rs st).take j) i "host"=sj at *
  obtain⟨lb,b9,e1,e2,e3,e4⟩:=bj.snoc
  have h3:=e4.ps
  have h5:=bj.m
  have h6:=bj.l
  rw[e1,length_append,length_singleton] at h6
  refine⟨qC,qA,r,bv,a',sj,m,i, "host",lb,b9,rfl,uj.ok,e1,by omega,by omega,by omega,by omega,(hpm m (mem_of_getElem? hm)).1,λa6 H6 u6 g6=>?_⟩
  refine⟨a6,_,rfl,?_,B3.tr gj g6⟩
  rw[ze1 e2]
  exact uj.tr u6 gj
 rintro σ H5 ⟨a5,x5,rfl,u5,g5⟩
 have bj:=bp (O5 rs st).length
 rw[B2] at u5
 rw[take_length] at u5 bj
 have hk5:=hk.tupK (u5.tupK h)
 show qj4 K _ _ _ _
 walk_at"18"
 refine⟨r,_,_,rfl,u5.ok.o,rfl,?_⟩
 lk
 generalize O0 st (O5 rs st) i "host"=sj at *
 refine⟨qC,qA,r,bv,a5,sj,rs,rk,i,P,W,M+(O5 rs st).length,D,T,rfl,u5.ok,hk5,bk,bj,by omega,by omega,by omega,λa6 H6 u6 g6=>?_⟩
 have b6:=bj.anews (i:=i) bk.n
 have u56:=u5.tr u6 g5
 have g56:=B3.tr g5 g6
 generalize qy8 rs i sj=s6 at *
 show qj3 K _ _ _ _
 lk
 refine⟨g,rfl,by omega,λp7 H7 s7 hp70 hp7=>?_⟩
 have h7:=u6.ok.same s7
 have np:p7∉RAd.fp r a6:=u6.ok.nop hp70
 have gl:g.cps.toList.length=g.length:=Array.length_toList
 have lol:=xe0 g.cps.toList g.cps.toList.length
 have h6m:=b6.m
 refine wa4 (SqL.of hp7) (λj σ H'=>∃x6 x7,σ=[some (.ref r),some (.int i),some (.str g),some (.str t),some (.ref c),x5,x6,x7]/\Rup K qC qA r bv H7 a6 H' a6 {s6 with ms:=s6.ms++((qg1 g.cps.toList g.cps.toList.length).take j).map (zt6 i g)}/\B3 H7 H') ?_ ?_ ?_ ?_
 ·refine⟨none,none,rfl,?_,λz hz=>hz⟩
  rw[take_zero,map_nil,append_nil]
  exact .keep h7 λc o e _=>e
 ·rintro j σ H' _ ⟨x6,x7,rfl,uj,gj⟩
  exact SqL.of (uj.bt _ _ hp7 np)
 ·rintro j v σ H' hv ⟨x6,x7,rfl,uj,gj⟩
  obtain⟨k,hkk,rfl⟩:=zu6 hv
  have hlo:=zu5 (mem_of_getElem? hkk)
  obtain⟨cc,hcc⟩:∃cc,g.cps.toList[k]?=some cc:=by rcases hlo with e|e <;> exact⟨_,e⟩
  refine D0 ?_
  lk
  show qj1 K _ _ _
  obtain⟨us,m1,m2⟩:=uj.ok.m
  have hul:=RdO.ms_len m2
  have hul2:us.length=s6.ms.length+((qg1 g.cps.toList g.cps.toList.length).take j).length:=by rw[hul];show(s6.ms++_).length=_;rw[length_append,length_map]
  have htl:((qg1 g.cps.toList g.cps.toList.length).take j).length<=(qg1 g.cps.toList g.cps.toList.length).length:=by rw[length_take];omega
  walk_at"2"
  refine⟨r,_,a6.x,_,_,rfl,uj.ok.o,cz.cl_Reader,cz.na_Reader_mends,rfl,?_⟩
  lk
  refine⟨.inl ⟨rfl,_,SqL.of m1⟩,?_⟩
  lk
  refine yp1 #[16] (M8 hcc) ?_
  lk
  refine⟨⟨#[cc]⟩,rfl,by show 1<=30000;decide,?_⟩
  have ee:zk5 ⟨#[cc]⟩=(zt6 i g k).t:=by
   show _=if g.cps.toList[k]?=some 60 then _ else _
   rcases hlo with e|e
   ·rw[if_pos e];rw[e] at hcc;obtain rfl:=Option.some.inj hcc;exact Am9
   ·rw[if_neg (by rw[e];decide)];rw[e] at hcc;obtain rfl:=Option.some.inj hcc;exact An0
  rw[ee]
  walk_at"16"
  lk
  have s8:=A3.new hp (.tup [.int (i+k),.int (i+k+1),.str (zt6 i g k).t,.str "sign"])
  refine E7 (s8 _ _ m1) (by rw[hul2,sizeLine_eq];omega) ?_
  have u8:=Rup.mend uj.ok s8 (SqT.of A2) m2
  refine⟨_,_,rfl,?_,B3.tr gj (B3.tr B3.upd B3.upd)⟩
  rw[qd3 hkk,map_append,<-append_assoc]
  exact uj.tr u8 gj
 rintro σ H8 ⟨x6,x7,rfl,u8,g8⟩
 have el:(qg1 g.cps.toList g.cps.toList.length).take (yq9 (qg1 g.cps.toList g.cps.toList.length)).length=qg1 g.cps.toList g.cps.toList.length:=by
  unfold yq9;rw[length_map];exact take_length
 rw[el] at u8
 have u8':Rup K qC qA r bv H7 a6 H8 a6 (yf6 s6 i g):=u8
 have b8:=b6.sign (i:=i) (g:=g)
 generalize yf6 s6 i g=s8 at *
 show qj2 K _ _ _ _
 walk_at"18"
 refine⟨r,_,_,rfl,u8'.ok.o,rfl,?_⟩
 lk
 obtain⟨lb,b9,e1,e2,e3,e4⟩:=b8.snoc
 have h3:=e4.ps
 have h4:=e4.t
 have h5:=b8.d
 have h6:=b8.l
 rw[e1,length_append,length_singleton] at h6
 refine⟨qC,qA,r,bv,a6,s8,lb,b9,i,g,t,rfl,u8'.ok,e1,by omega,by omega,by omega,by omega,λa9 H9 u9 g9=>?_⟩
 refine q a9 H9 ?_ (B3.tr (B3.tr (B3.tr g56 (A3.grow s7)) g8) g9)
 have et:txS s8 i g t={s8 with bs:=lb++[{b9 with ps:=adP b9.ps t}],ls:=s8.ls++[⟨i,g,b9.pl++[(adN b9.ps:Int)],adA b9.ps⟩]}:=by
  unfold txS;rw[e2,e1,dropLast_concat]
 rw[et]
 exact(((u56.tr (u6.ok.up s7) g56).tr u8' (B3.tr g56 (A3.grow s7)))).tr u9 (B3.tr (B3.tr g56 (A3.grow s7)) g8)
def S6(K:Fg):Sp:=λvs H Q _=>∃(kR kB r:Addr) (bv:V) (a:RAd) (st:Rst) (rs:List Row) (rk:Str->Nat) (P W M D T:Nat) (i:Int) (g t:Str),vs=[.ref r,.int i,.str g,.str t]/\RdO K H kR kB r bv a st/\BkO K H bv rs/\Bok rs rk/\Bg rs P W M D T st/\Lim P W M D T/\g.length<=10000/\t.length<=10000/\∀a' H',Rup K kR kB r bv H a H' a' (xe9 rs st i g t)->B3 H H'->Q .non H'
def P2(K:Fg)(qC:Addr):TS :=
 (B1 (B8 (B9 (qp9 K) [] E0 (A1 (I0 K (A0 0) "book") (A1 (E9 qC "open_names" (D1 K) [] E0 (A0 0) A5) A5))) (A6 4))
 (qj9 K qC))
theorem wl9(cz:Cz K qA qC)(h:S6 K vs H Q E):P2 K qC {nx:=λ_ H'=>Q .non H',rt:=Q} (C3 ["self","start","signs","told","hosts","host","number","place"] vs) H:=by
 obtain⟨kR,kB,r,bv,a,st,rs,rk,P,W,M,D,T,i,g,t,rfl,h,hk,bk,bg,lim,hg,ht,q⟩:=h;walk_at"4";show P2 K _ _ [some (.ref r),some (.int i),some (.str g),some (.str t),none,none,none,none] H;unfold P2;walk_at"13";have l3:=lim.M;walk_at"2";walk_at"23";walk_at"3";refine⟨qC,qA,r,bv,a,st,b0,bs0,rfl,h,eb0,by omega,λp H1 s1 hp=>?_⟩;lk;rw[<-hnm] at hp;have rest:∀(v:V) (H2:Hp),A3 H H2->((20<(L7 st).length+(O5 rs st).length/\v=.non)\/(¬20<(L7 st).length+(O5 rs st).length/\∃c,v=.ref c/\SqT K H2 c (B0 (O5 rs st))))->qj9 K qC {nx:=λ_ H'=>Q .non H',rt:=Q} [some (.ref r),some (.int i),some (.str g),some (.str t),some v,none,none,none] H2:=λv H2 s2 hv=>by
  have h2:=h.same s2;have hk2:=hk.same s2;walk_at"18";refine⟨r,_,_,rfl,h2.o,rfl,?_⟩;lk;refine⟨qC,qA,r,bv,a,st,b0,bs0,rs,rfl,h2,hk2,eb0,by omega,λH3 s3=>?_⟩;rw[<-hnm];have s23:=A3.tr s2 s3;have h3:=h.same s23;have hk3:=hk.same s23;have g3:=A3.grow s23;have stay:¬(P3 rs (some (T9 (L7 st)))=some ("frame":Str)/\za2 t=true)->qj8 K qC {nx:=λ_ H'=>Q .non H',rt:=Q} [some (.ref r),some (.int i),some (.str g),some (.str t),some v,none,none,none] H3:=λhn=>by
   rcases hv with⟨hd,rfl⟩|⟨hd,c,rfl,hc⟩
   ·have eo:xe9 rs st i g t=qp3 st i g "deep":=by unfold xe9;rw[if_neg hn,if_pos hd]
    lk;x_go;show qj5 K _ _ _ _;walk_at"18";refine⟨r,_,_,rfl,h3.o,rfl,?_⟩;lk;refine⟨qC,qA,r,bv,a,st,i,g, "deep",rfl,h3,by omega,by omega,λH5 u5 g5=>?_⟩;refine q a H5 ?_ (B3.tr g3 g5);rw[eo];exact(h.up s23).tr u5 g3
   ·have eo:xe9 rs st i g t=txS (yf6 (qy8 rs i (O0 st (O5 rs st) i "host")) i g) i g t:=by unfold xe9;rw[if_neg hn,if_neg hd]
    lk;k_go;refine zu7 cz h3 hk3 bk bg lim hg ht (s3.sqT hc) hd λa' H' u' g'=>q a' H' ?_ (B3.tr g3 g');rw[eo];exact(h.up s23).tr u' g3
  lk;by_cases hf:P3 rs (some (T9 (L7 st)))=some ("frame":Str)
  ·rw[decide_eq_true hf];x_go;lk;refine⟨rfl,?_⟩;lk;refine⟨t, " \n",rfl,rfl,by omega,?_⟩;lk;by_cases hb:za2 t=true
   ·have e1:=of_decide_eq_true hb;rw[decide_eq_true e1];x_go;have eo:xe9 rs st i g t=qp3 st i g "blank":=by unfold xe9;rw[if_pos ⟨hf,hb⟩]
    show qj7 K _ _ _ _;walk_at"18";refine⟨r,_,_,rfl,h3.o,rfl,?_⟩;lk;refine⟨qC,qA,r,bv,a,st,i,g, "blank",rfl,h3,by omega,by omega,λH5 u5 g5=>?_⟩;refine q a H5 ?_ (B3.tr g3 g5);rw[eo];exact(h.up s23).tr u5 g3
   ·have e1:=of_decide_eq_false (Bool.eq_false_iff.mpr hb);rw[decide_eq_false e1];k_go;exact stay λz=>hb z.2
  ·rw[decide_eq_false hf];k_go
   first|exact stay λz=>hf z.1|(refine qi6 ?_;exact stay λz=>hf z.1)
 refine⟨bv,p,L7 st,rs,rfl,(hk.same s1).rws,bk.B,.inr hp,λhd H2 s2=>?_,λhd c H2 s2 hc=>?_⟩
 ·exact rest _ _ (A3.tr s1 s2) (.inl ⟨hd,rfl⟩)
 ·exact rest _ _ (A3.tr s1 s2) (.inr ⟨hd,c,rfl,hc⟩)
abbrev qw5(K:Fg)(qC:Addr):TS :=
 (D2 (E9 qC "read_closing" (N6 K) [] E0 (A0 0) (A1 (A0 2) (A1 (A0 3) #[4,4]))))
abbrev qw6(K:Fg)(qC:Addr):TS :=
 (D2 (E9 qC "read_run" (S6 K) [] E0 (A0 0) (A1 (A0 2) (A1 (A0 3) #[4,4]))))
abbrev qw7(K:Fg)(qC:Addr):TS :=
 (D2 (E9 qC "read_opening" (N5 K) [] E0 (A0 0) (A1 (A0 2) (A1 (A0 3) #[4,4]))))
abbrev qw8(K:Fg)(qC:Addr):TS :=
 (M4 (C1 (tOp (P7 K) (A0 1) (tC (.str "close"))))
 (qw5 K qC) (qw6 K qC))
def U4(K:Fg):Sp:=λvs H Q _=>∃(kR kB r:Addr) (bv:V) (a:RAd) (st:Rst) (rs:List Row) (rk:Str->Nat) (P W M D T:Nat) (kind:Str) (i:Int) (g t:Str),vs=[.ref r,.str kind,.int i,.str g,.str t]/\RdO K H kR kB r bv a st/\BkO K H bv rs/\Bok rs rk/\Bg rs P W M D T st/\Lim P W M D T/\g.length<=10000/\t.length<=10000/\∀a' H',Rup K kR kB r bv H a H' a' (qt0 rs rk st kind i g t)->B3 H H'->Q .non H'
def W6(K:Fg)(qC:Addr):TS :=
 (M4 (C1 (tOp (P7 K) (A0 1) (tC (.str "open"))))
 (qw7 K qC) (qw8 K qC))
theorem xf3(cz:Cz K qA qC)(h:U4 K vs H Q E):W6 K qC {nx:=λ_ H'=>Q .non H',rt:=Q} (C3 ["self","kind","start","signs","told"] vs) H:=by
 obtain⟨kR,kB,r,bv,a,st,rs,rk,P,W,M,D,T,kind,i,g,t,rfl,h,hk,bk,bg,lim,hg,ht,q⟩:=h;obtain rfl:=E2 cz.ns_Reader h.kr;show W6 K _ _ [some (.ref r),some (.str kind),some (.int i),some (.str g),some (.str t)] H;unfold W6;lk;by_cases ho:kind=("open":Str)
 ·rw[decide_eq_true ho];x_go;show qw7 K _ _ _ _;have eo:qt0 rs rk st kind i g t=opS rs rk st i g t:=by unfold qt0;rw[if_pos ho]
  rw[eo] at q;walk_at"3";exact⟨qC,kB,r,bv,a,st,rs,rk,P,W,M,D,T,i,g,t,rfl,h,hk,bk,bg,lim,by omega,q⟩
 rw[decide_eq_false ho];k_go;show qw8 K _ _ _ _;lk;by_cases hc:kind=("close":Str)
 ·rw[decide_eq_true hc];x_go;show qw5 K _ _ _ _;have eo:qt0 rs rk st kind i g t=xe8 rs rk st i g t:=by unfold qt0;rw[if_neg ho,if_pos hc]
  rw[eo] at q;walk_at"3";exact⟨qC,kB,r,bv,a,st,rs,rk,P,W,M,D,T,i,g,t,rfl,h,hk,bk,bg,lim,by omega,q⟩
 ·rw[decide_eq_false hc];k_go;show qw6 K _ _ _ _;have eo:qt0 rs rk st kind i g t=xe9 rs st i g t:=by unfold qt0;rw[if_neg ho,if_neg hc]
  rw[eo] at q;walk_at"3";exact⟨qC,kB,r,bv,a,st,rs,rk,P,W,M,D,T,i,g,t,rfl,h,hk,bk,bg,lim,hg,ht,q⟩
inductive TkC(l:List Nat):Nat->List PyData->Prop
 | nil {p:Nat}:p=l.length->TkC l p []
 | cons {p e:Nat} {kind t:Str} {ds:List PyData}:p<e->e<=l.length->t.length<=e-p->TkC l e ds->TkC l p (.tuple [.str kind,.int (p:Int),.int (e:Int),.str t]::ds)
theorem wz6:∀(k:Nat) (l:List Nat),(TX.told k l).length<=l.length
 | _,[]=>by simp[TX.told]
 | k+1,c::l=>by rw[TX.told];have:=wz6 k l;simp;omega
 | 0,c::l=>by
   rw[TX.told];have h0:=wz6 0 l;have h2:=wz6 2 l;split
   ·simp;omega
   ·split <;> (simp;omega)
theorem yk9(l:List Nat):(TX.ofL l).length=l.length:=by unfold TX.ofL;simp[PySem.Str.length]
theorem wz7{k:Nat}(h:s<=k)(hk:k<=l.length)(hd:TkC l k ds):TkC l s (TX.runs l s k++ds):=by
 unfold TX.runs;by_cases e:s<k
 ·rw[if_pos e];unfold TX.runD;refine .cons e hk ?_ hd;rw[yk9];have:=wz6 0 ((l.drop s).take (k-s));rw[length_take,length_drop] at this;omega
 ·rw[if_neg e];obtain rfl:s=k:=by omega
  exact hd
theorem wz8(l:List Nat):∀(n k s:Nat),s<=k->k<=l.length->TkC l s (TX.cutAt l n k s)
 | 0,k,s,h,hk=>by
   rw[TX.cutAt];have:=wz7 (l:=l) (s:=s) (k:=l.length) #[0] #[6] (.nil rfl);simpa using this
 | n+1,k,s,h,hk=>by
   rw[TX.cutAt];by_cases e:l.length<=k
   ·rw[if_pos e];have:=wz7 (l:=l) (s:=s) (k:=l.length) #[0] #[6] (.nil rfl);simpa using this
   ·rw[if_neg e];cases ht:TX.tagAt l k with
    | none=>exact wz8 l n (k+1) s #[0] #[0]
    | some fe =>
      obtain⟨f,e2⟩:=fe
      obtain⟨h1,h2,h3,h4,_⟩:=TX.tagAt_gt ht
      refine wz7 h hk ?_
      unfold TX.tagD
      refine .cons h1 h2 ?_ (wz8 l n e2 e2 #[6] h2)
      rw[yk9,length_take,length_drop]
      have:k<f:=by rw[h3];unfold TX.nst;split <;> omega
      omega
theorem wz9(l:List Nat):TkC l 0 (TX.toks l 0 0):=wz8 l _ 0 0 #[6] (Nat.zero_le _)
noncomputable def st0:Rst:=⟨[yk5],[],[]⟩
noncomputable def qf7(rs:List Row)(rk:Str->Nat)(z:Str)(st:Rst):PyData->Rst
 | .tuple [.str kind,.int i,.int e,.str t]=>qt0 rs rk st kind i (Z8 z (some i) (some e)) t
 | _=>st
noncomputable def qp4(rs:List Row)(rk:Str->Nat)(z:Str):Rst:=#[17].foldl (qf7 rs rk z) st0
noncomputable def rdS(rs:List Row)(rk:Str->Nat)(z:Str):Rst:=qg7 rs (qp4 rs rk z) 0 z.length "end"
noncomputable def rtS(st:Rst):List Tr:=(st.bs.headD yk5).ps
theorem ys9(z:Str)(lo hi:Option Int):(Z8 z lo hi).length<=z.length:=by
 unfold Z8;show(List.toArray _).size<=z.cps.size;rw[size_toArray,length_take,length_drop,Array.length_toList];omega
theorem yg0(z:Str){p:Nat}(h1:p<=e)(h2:e<=z.length):(Z8 z (some (p:Int)) (some (e:Int))).length=e-p:=by
 walk_at"9";unfold Z8;show(List.toArray _).size=_;rw[size_toArray,length_take,length_drop,HT.R5,HT.R5];omega
theorem bg0(rs:List Row):Bg rs 0 0 0 0 0 st0:=by
 refine⟨λc hc=>?_,rfl,λc hc=>(by cases hc),by unfold st0;simp,by unfold st0;simp,Nat.le_refl _,Nat.le_refl _⟩;rw[mem_singleton.mp hc];exact⟨by show(0:Nat)<=_;omega,Nat.le_refl _,Nat.le_refl _,λn hn=>(by cases hn),Nat.le_refl _⟩
theorem yl0{rs:List Row}{rk:Str->Nat}{z:Str}(b:Bok rs rk):∀(ds:List PyData) (p j:Nat) (st:Rst),TkC z.cps.toList p ds->j<=p->Bg rs (2*j) (20*j) (60*j+p) j p st->∀i,i<=ds.length->∃p',p<=p'/\p'<=z.length/\j+i<=p'/\TkC z.cps.toList p' (ds.drop i)/\Bg rs (2*(j+i)) (20*(j+i)) (60*(j+i)+p') (j+i) p' ((ds.take i).foldl (qf7 rs rk z) st)
 | [],p,j,st,h,hj,hb,i,hi=>by
   obtain rfl:i=0:=by simpa using hi
   cases h with
   | nil e=>exact⟨p,Nat.le_refl _,by rw[e];exact Nat.le_of_eq Array.length_toList,hj,.nil e,hb⟩
 | d :: ds,p,j,st,h,hj,hb,0,_=>by
   refine⟨p,Nat.le_refl _,?_,hj,h,hb⟩;cases h with
   | cons h1 h2 _ _ =>
     have:z.cps.toList.length=z.length:=Array.length_toList
     omega
 | d :: ds,p,j,st,h,hj,hb,i+1,hi=>by
   cases h with
   | cons h1 h2 h3 h4 =>
     rename_i e kind t
     walk_at"9"
     have hs:=hb.step (rk:=rk) (kind:=kind) (i:=(p:Int)) (g:=Z8 z (some (p:Int)) (some (e:Int))) (t:=t) b
     rw[yg0 z #[0] #[0]] at hs
     have hs2:=hs.mono (P':=2*(j+1)) (W':=20*(j+1)) (M':=60*(j+1)+e) (D':=j+1) (T':=e) #[0] #[0] #[0] #[0] #[0]
     obtain⟨p',q1,q2,q3,q4,q5⟩:=yl0 b ds e (j+1) _ h4 #[0] hs2 i (by simpa using hi)
     refine⟨p',by omega,q2,by omega,q4,?_⟩
     rw[show j+(i+1)=j+1+i by omega]
     exact q5
theorem xa0(b:Bok rs rk)(i:Nat)(hi:i<=#[17].length):∃p,p<=z.length/\i<=p/\TkC z.cps.toList p (#[17].drop i)/\Bg rs (2*i) (20*i) (60*i+p) i p ((#[17].take i).foldl (qf7 rs rk z) st0):=by
 obtain⟨p,_,h1,h2,h3,h4⟩:=yl0 (z:=z) b #[17] 0 0 st0 (wz9 _) #[6] (bg0 rs) i hi;rw[Nat.zero_add] at h2 h4;exact⟨p,h1,h2,h3,h4⟩
abbrev ws0(K:Fg)(qC:Addr):TS :=
 (D2 (E9 qC "read" (U4 K) [] E0 (A0 2) (A1 (A0 3) (A1 (A0 4) (A1 (tSl (qu8 K) (A0 1) (O9 (A0 4)) (O9 (A0 5))) #[4,6])))))
abbrev ws1(K:Fg)(qC:Addr):TS :=
 (B1 (D2 (E9 qC "finish" (P8 K) [] E0 (A0 2) (A1 (tCB (J6 K) #[4,1]) A5)))
 (E1 (A0 2)))
abbrev ws2(K:Fg)(qC:Addr):TS :=
 (B1 (qc8 (qy3 K (B9 (qg4 K) [] E0 #[4,1])) (xz4 K 4 (qf2 (A6 3) (qf2 (A6 4) (qf2 (A6 5) (qf2 (A6 6) yg7)))))
 (ws0 K qC))
 (ws1 K qC))
def qq6(K:Fg):Sp:=λvs H Q _=>∃(bv:V) (z:Str) (rs:List Row) (rk:Str->Nat),vs=[bv,.str z]/\BkO K H bv rs/\Bok rs rk/\z.length<=10000/\∀(kR kB r:Addr) (a:RAd) (H':Hp),RdO K H' kR kB r bv a (rdS rs rk z)->A3 H H'->(∀x∈RAd.fp r a,H x=none)->Q (.ref r) H'
def qn1(K:Fg)(qC:Addr):TS :=
 (B1 (B8 (xi3 qC (U2 K) [] E0 #[4,0]) (A6 2))
 (ws2 K qC))
theorem yl1(cz:Cz K qA qC)(h:qq6 K vs H Q E):qn1 K qC {nx:=λ_ H'=>Q .non H',rt:=Q} (C3 ["book","text","reader","kind","start","stop","told"] vs) H:=by
 obtain⟨bv,z,rs,rk,rfl,hk,bk,hz,q⟩:=h;show qn1 K _ _ [some bv,some (.str z),none,none,none,none,none] H;unfold qn1;lk;refine wp0 ?_;lk;intro r dx hr hdx ne;have s0:A3 H (upd (upd H dx (.own r)) r (.ins qC dx [])):=λc u e=>D4 (D4 e (N9 hdx e)) (N9 hr e);have e0:(upd (upd H dx (.own r)) r (.ins qC dx [])) r=some (.ins qC dx []):=A2;have g0:B3 H (upd (upd H dx (.own r)) r (.ins qC dx [])):=B3.tr B3.upd B3.upd;generalize upd (upd H dx (.own r)) r (.ins qC dx [])=H0 at *
 refine⟨qC,r,dx,bv,rfl,cz.ns_Reader,e0,λkB a H1 h1 bt1 fr1 g1=>⟨rfl,?_⟩⟩;have s1:A3 H H1:=λc u e=>bt1 c u (s0 c u e) (by simp;exact N9 hr e);have hk1:=hk.same s1;have fr2:∀x∈RAd.fp r a,H x=none:=λx hx=>by
  rcases fr1 x hx with h|h
  ·rw[h];exact hr
  ·exact g0 _ h
 show ws2 K _ _ _ _;lk;refine⟨z,rfl,by omega,λp us H2 s2 hp0 hp hd=>?_⟩;have h2:=h1.same s2;have hk2:=hk1.same s2;have np:p∉RAd.fp r a:=h1.nop hp0;have hul:=hd.length;refine wa4 (SqL.of hp) (λj σ H'=>∃a' x3 x4 x5 x6,σ=[some bv,some (.str z),some (.ref r),x3,x4,x5,x6]/\Rup K qC kB r bv H2 a H' a' ((#[17].take j).foldl (qf7 rs rk z) st0)/\B3 H2 H') ?_ ?_ ?_ ?_
 ·exact⟨a,none,none,none,none,rfl,.keep h2 λc o e _=>e,λz hz=>hz⟩
 ·rintro j σ H' _ ⟨a',x3,x4,x5,x6,rfl,u,g⟩;exact SqL.of (u.bt _ _ hp np)
 ·rintro j v σ H' hv ⟨a',x3,x4,x5,x6,rfl,u,g⟩;have hj:j<us.length:=by rcases Nat.lt_or_ge j us.length with h|h;exact h;rw[List.getElem?_eq_none_iff.mpr h] at hv;cases hv
  have hj2:j<#[17].length:=by omega
  obtain⟨pp,hp1,hp2,hp3,bj⟩:=xa0 (z:=z) bk j #[0];have hjd:#[17][j]?=some (#[17][j]'hj2):=List.getElem?_eq_getElem _;obtain⟨w,hw,dw⟩:=hd.get hjd;rw[hv] at hw;obtain rfl:=Option.some.inj hw;have ef:(#[17].take (j+1)).foldl (qf7 rs rk z) st0=qf7 rs rk z ((#[17].take j).foldl (qf7 rs rk z) st0) (#[17][j]'hj2):=by
   rw[qd3 hjd,foldl_append];rfl
  rw[PAt,ef];generalize (#[17].take j).foldl (qf7 rs rk z) st0=sj at *
  rw[<-List.getElem_cons_drop (h:=hj2)] at hp3;generalize #[17][j]'hj2=d at *
  cases hp3 with
  | cons c1 c2 c3 c4 =>
  rename_i e kind t;walk_at"9";have tk:=u.tupK h2;obtain⟨q1,ws,rfl,hq,hwd⟩:=C6.mp dw;walk_at"10";rw[Dvs] at hwd;obtain⟨v3,r3,rfl,d3,hwd⟩:=hwd;rw[Dvs] at hwd;subst hwd;obtain rfl:=D6.mp d0;obtain rfl:=J7.mp d1;obtain rfl:=J7.mp d2;obtain rfl:=D6.mp d3;refine⟨q1,_,rfl,tk.sqT hq,rfl,_,_,rfl,D0 ⟨_,_,rfl,D0 ⟨_,_,rfl,D0 ⟨_,_,rfl,D0 ⟨rfl,?_⟩⟩⟩⟩⟩;show ws0 K _ _ _ _;walk_at"18";refine⟨r,_,_,rfl,u.ok.o,rfl,?_⟩;lk;refine wx0 (C7 #[0]) ?_;lk;have hcl:=ys9 z (some (pp:Int)) (some (e:Int));refine⟨qC,kB,r,bv,a',sj,rs,rk,_,_,_,_,_,kind,pp,_,t,rfl,u.ok,hk2.tupK tk,bk,bj,⟨by omega,by omega,by omega,by omega,by omega⟩,by omega,by omega,λa2 H3 u2 g2=>?_⟩;exact⟨a2,_,_,_,_,rfl,u.tr u2 g,B3.tr g g2⟩
 ·rintro σ H' ⟨a',x3,x4,x5,x6,rfl,u,g⟩;obtain⟨pp,hp1,hp2,hp3,bj⟩:=xa0 (z:=z) bk #[17].length #[6];rw[hul,take_length] at u;rw[take_length] at bj;have u':Rup K qC kB r bv H2 a H' a' (qp4 rs rk z):=u;have bj':Bg rs _ _ _ _ _ (qp4 rs rk z):=bj;have tk:=u'.tupK h2;show ws1 K _ _ _ _;walk_at"18";refine⟨r,_,_,rfl,u'.ok.o,rfl,?_⟩;lk;refine .inr (.inl ⟨z,rfl,C7 #[0],?_⟩);lk;walk_at"34";refine⟨qC,kB,r,bv,a',sj,rs,cl,b0,z.length,rfl,u'.ok,hk2.tupK tk,eb,by omega,bj'.cond #[0] #[0],by omega,λa3 H3 u3 g3=>?_⟩;lk;have uu:=u'.tr u3 g;walk_at"30";have u4:Rup K qC kB r bv H2 a H3 a3 (rdS rs rk z):=by rw[e6];exact uu
  refine q _ kB r a3 H3 u4.ok (λc o e=>u4.bt c o (s2 c o (s1 c o e)) λhc=>?_) λx hx=>?_
  ·have:=fr2 c hc;rw[e] at this;cases this
  ·rcases u4.fr x hx with h|h
   ·exact fr2 x h
   ·exact(A3.grow s1) _ (A3.grow s2 _ h)
abbrev ws3(K:Fg)(qC:Addr):TS :=
 (E1 (Y1 (A1 (E9 qC "root" (qa0 K) [] E0 (A0 2) A5) (A1 (I0 K (A0 2) "mends") A5))))
def qq7(K:Fg):Sp:=λvs H Q _=>∃(bv:V) (z:Str) (rs:List Row) (rk:Str->Nat),vs=[bv,.str z]/\BkO K H bv rs/\Bok rs rk/\z.length<=10000/\∀(v1:V) (p q:Addr) (us:List V) (H':Hp),SqT K H' p [v1,.ref q]->Dv K H' (Tr.nd "" (rtS (rdS rs rk z))).da v1->H' q=some (.lst us)->Dvs K H' ((rdS rs rk z).ms.map Mnd.da) us->A3 H H'->H q=none->Q (.ref p) H'
def qn2(K:Fg)(qC:Addr):TS :=
 (B1 (B8 (B9 (qq6 K) [] E0 (A1 (A0 0) #[4,1])) (A6 2))
 (ws3 K qC))
theorem yl2(cz:Cz K qA qC)(h:qq7 K vs H Q E):qn2 K qC {nx:=λ_ H'=>Q .non H',rt:=Q} (C3 ["book","text","reader"] vs) H:=by
 obtain⟨bv,z,rs,rk,rfl,hk,bk,hz,q⟩:=h;show qn2 K _ _ [some bv,some (.str z),none] H;unfold qn2;lk;refine⟨bv,z,rs,rk,rfl,hk,bk,hz,λkR kB r a H1 h1 s1 hn=>?_⟩;obtain rfl:=E2 cz.ns_Reader h1.kr;show ws3 K _ _ _ _;walk_at"18";refine⟨r,_,_,rfl,h1.o,rfl,?_⟩;lk;have hne:(rdS rs rk z).bs≠[]:=zt8 (by simp);obtain⟨b',t',ebf⟩:=exists_cons_of_ne_nil hne;have ert:rtS (rdS rs rk z)=b'.ps:=by unfold rtS;rw[ebf];rfl
 refine⟨qC,kB,r,bv,a,_,b',t',rfl,h1,ebf,λv H2 s2 hv=>?_⟩;rw[<-ert] at hv;have h2:=h1.same s2;obtain⟨us,m1,m2⟩:=h2.m;walk_at"2";refine⟨r,_,a.x,_,_,rfl,h2.o,cz.cl_Reader,cz.na_Reader_mends,rfl,?_⟩;walk_at"16";have s3:=A3.new hp (.tup [v,.ref a.M]);exact q v p a.M us _ (SqT.of A2) (Dv.same s3 _ _ hv) (s3 _ _ m1) (Dvs.same s3 _ _ m2) (A3.tr (A3.tr s1 s2) s3) (hn _ (by simp[RAd.fp]))
theorem za7:∀ms:List Mnd,nds (ms.map Mnd.da)=true
 | []=>rfl
 | m::ms=>by rw[map_cons,nds,za7 ms];rfl
theorem xu4:∀ms:List Mnd,PyData.depthAll (ms.map Mnd.da)<=4
 | []=>by simp[PyData.depthAll]
 | m::ms=>by
   have:=xu4 ms;rw[map_cons,PyData.depthAll];have h2:m.da.depth<=4:=by unfold Mnd.da;simp[PyData.depth,PyData.depthAll]
   omega
theorem yl3(n:Str):(cls n).length=n.length+3:=by unfold cls;rw[G6,G6];show 2+_+1=_;omega
noncomputable def cat:List Str->Str
 | []=>Str.empty
 | x::xs=>x++cat xs
theorem xu5(xs:List Str):PySem.Txt.join ("":Str) xs=cat xs:=by
 have e:PySem.Txt.join ("":Str) xs=Str.join ("":Str) xs:=PySem.StrLaws.glued_eq_join _ _;rw[e];clear e
 induction xs with
 | nil=>rfl
 | cons b r ih =>
   cases r with
   | nil=>show b=b++Str.empty;rw[PySem.Str.append_empty]
   | cons c r =>
     show b++("":Str)++Str.join ("":Str) (c::r)=b++cat (c::r)
     rw[ih,show("":Str)=Str.empty from rfl,PySem.Str.append_empty]
theorem xa1:∀xs:List Str,(xs.map (·.length)).sum=(cat xs).length
 | []=>rfl
 | x::xs=>by rw[map_cons,sum_cons,xa1 xs];show _=(x++cat xs).length;rw[strLen_append]
theorem ze2(c:Nat):(⟨#[c]⟩:Str).length=1:=rfl
def P9(x:Str):Prop:=1<=x.length/\x.length<=9
theorem Ac9(ns:List Int):(M7 ns).reverse=M7 ns.reverse:=by unfold M7;rw[map_reverse]
theorem Ag4{j:Int}(c:zm3 i j)(h:Q (.int (i ^ j.toNat)) H):rI zm3 (λi j=>.int (i ^ j.toNat)) (.int i) (.int j) H Q:=⟨i,j,rfl,rfl,c,h⟩
abbrev xl2(K:Fg):TS :=
 (B8 (tOp (C8 K) (tOp #[2] (A0 3) #[1,2147483629]) #[1,7]) (A6 3))
abbrev xl3(K:Fg):TS :=
 (B8 (tOp #[13] (A0 3) (tOp (rI zm3 λi j=>.int (i ^ j.toNat)) #[1,10] #[1,6])) (A6 3))
abbrev xl4(K:Fg):TS :=
 (D2 (tBM K "list" D9 (A0 2) (A1 (tOp #[13] (tOp #[2] (tOp (C8 K) (tOp (C8 K) (tOp qv4 (A0 3) (A0 3)) (tOp qv4 #[1,16807] (A0 3))) (A0 4)) #[1,2147483587]) #[1,16]) A5)))
abbrev xl5(K:Fg):TS :=
 (B1 (D2 (tBM K "list" D9 (A0 2) (A1 (tOp #[2] (A0 3) (tOp (rI zm3 λi j=>.int (i ^ j.toNat)) #[1,10] #[1,6])) A5)))
 (xl3 K))
abbrev xl6(K:Fg):TS :=
 (B1 (B8 (tOp #[2] (tOp (C8 K) (tOp (C8 K) (tOp (C8 K) (tOp qv4 (A0 3) (A0 3)) (tOp qv4 #[1,69069] (A0 3))) (tOp qv4 #[1,5] (A0 4))) #[1,1]) #[1,2147483629]) (A6 3))
 (xl4 K))
abbrev xl7(K:Fg):TS :=
 (M4 (C1 (tOp (P7 K) (tOp #[2] (A0 0) #[1,2]) #[1,1]))
 (xl5 K) (xl6 K))
abbrev xl8(K:Fg):TS :=
 (B1 (qc8 (wa1 #[4,1]) (A6 4)
 (xl7 K))
 (E1 (zq3 K (A0 2))))
abbrev xl9(K:Fg):TS :=
 (B1 (M4 (C1 (tOp (P7 K) (tOp #[2] (A0 0) #[1,2]) #[1,0]))
 (xl2 K) J8)
 (xl8 K))
abbrev xm0(K:Fg):TS :=
 (B1 (B8 (tOp #[13] (A0 0) #[1,2]) (A6 3))
 (xl9 K))
def qg8(K:Fg):Sp:=λvs H Q _=>∃(c:Int) (n:Nat),vs=[.int c,.int n]/\n<=1000/\∀(p:Addr) (ns:List Int) (H':Hp),A3 H H'->H p=none->H' p=some (.lst (M7 ns))->ns.length=n->(∀x∈ns,0<=x)->Q (.ref p) H'
def ql6(K:Fg):TS :=
 (B1 (B8 (T2 A5) (A6 2))
 (xm0 K))
theorem xu6(h:qg8 K vs H Q E):ql6 K {nx:=λ_ H'=>Q .non H',rt:=Q} (C3 ["_law_cell","_law_count","_law_found","_law_x","_law_k"] vs) H:=by
 obtain⟨c,n,rfl,hn,q⟩:=h;show ql6 K _ [some (.int c),some (.int n),none,none,none] H;unfold ql6;lk;refine⟨C7 (by z_go),λd hd=>?_⟩;lk;have hx00:(c % 2=0->0<=c / 2 % 2147483629+7/\c / 2 % 2147483629+7<2147483648):=λ_=>by
  have h0:=Int.emod_nonneg (c / 2) (show(2147483629:Int)≠0 by decide);have h1:=Int.emod_lt_of_pos (c / 2) (show(0:Int)<2147483629 by decide);exact⟨by omega,by omega⟩
 by_cases hc0:c % 2=0
 case' pos =>
  rw[decide_eq_true hc0];refine qy2 ?_
  lk
  generalize hx:c / 2 % 2147483629+7=x0 at *
  have hx0:(c % 2=0->0<=x0/\x0<2147483648):=hx00
 case' neg =>
  rw[decide_eq_false hc0];refine qi6 ?_
  lk
  clear hx00
  generalize hx:c / 2=x0 at *
  have hx0:(c % 2=0->0<=x0/\x0<2147483648):=λh=>absurd h hc0
 all_goals
  refine qs0 #[0] #[0] (λi σ H'=>∃(x:Int) (a:Option V) (ns:List Int),σ=[some (.int c),some (.int n),some (.ref d),some (.int x),a]/\A3 H H'/\H' d=some (.lst (M7 ns))/\ns.length=i/\(∀y∈ns,0<=y)/\(c % 2=0->0<=x/\x<2147483648)) ⟨x0,none,[],rfl,A3.new hd _,A2,rfl,by simp,hx0⟩ ?_ ?_
  ·rintro i σ H' hi ⟨x,a,ns,rfl,s1,h1,hl,hns,hx⟩
   have hil:(M7 ns).length<sizeLine:=by rw[M7,length_map,sizeLine_eq];omega
   lk
   have sN:∀y:Int,A3 H (upd H' d (.lst (M7 ns++[.int y]))):=λy b u e=>by
    have nb:b≠d:=λz=>by rw[z,hd] at e;cases e
    rw[A8 nb];exact s1 b u e
   have eN:∀y:Int,M7 ns++[.int y]=M7 (ns++[y]):=λy=>by simp[M7]
   have pN:∀y:Int,0<=y->∀z∈ns++[y],0<=z:=λy hy z hz=>by
    rcases mem_append.mp hz with h|h
    ·exact hns z h
    ·rw[mem_singleton.mp h];exact hy
   by_cases hc:c % 2=1
   ·rw[decide_eq_true hc];refine qy2 ?_
    lk
    refine⟨.inl ⟨rfl,_,SqL.of h1⟩,?_⟩
    lk
    refine Ag4 ⟨by decide,by decide,by decide⟩ ?_
    lk
    refine E7 h1 hil ?_
    lk
    refine Ag4 ⟨by decide,by decide,by decide⟩ ?_
    lk
    exact⟨_,_,ns++[_],rfl,sN _,by rw[<-eN];exact A2,by simp[hl],pN _ (Int.emod_nonneg _ #[7]),λh=>by omega⟩
   ·rw[decide_eq_false hc];refine qi6 ?_
    obtain⟨x1,x2⟩:=hx #[0]
    lk
    refine qs1 (.inl ⟨by omega,by omega⟩) ?_
    lk
    refine qs1 (.inl ⟨by decide,by decide⟩) ?_
    lk
    refine qs1 (.inl ⟨by decide,by decide⟩) ?_
    lk
    generalize hm:(x*x+69069*x+5*(i:Int)+1) % 2147483629=m
    have m0:0<=m:=by rw[<-hm];exact Int.emod_nonneg _ #[7]
    have m1:m<2147483629:=by rw[<-hm];exact Int.emod_lt_of_pos _ #[7]
    refine⟨.inl ⟨rfl,_,SqL.of h1⟩,?_⟩
    lk
    refine qs1 (.inl ⟨by omega,by omega⟩) ?_
    lk
    refine qs1 (.inl ⟨by decide,by decide⟩) ?_
    lk
    refine E7 h1 hil ?_
    lk
    have:=Int.emod_nonneg (m*m+16807*m+(i:Int)) (show(2147483587:Int)≠0 by decide)
    exact⟨_,_,ns++[_],rfl,sN _,by rw[<-eN];exact A2,by simp[hl],pN _ (Int.ediv_nonneg this #[7]),λh=>⟨by omega,by omega⟩⟩
  ·rintro σ H' ⟨x,a,ns,rfl,s1,h1,hl,hns,_⟩
   lk
   refine⟨d,_,rfl,SqL.of h1,λp hp=>?_⟩
   refine q p ns.reverse _ (A3.tr s1 (A3.new hp _)) (A3.free s1 hp) (Ac9 ns▸A2) (by rw[length_reverse,hl];omega) λx hx=>hns x (mem_reverse.mp hx)
abbrev xu7(K:Fg):TS :=
 (E1 (tOp #[2] (tOp (C8 K) (tOp qv4 (A0 1) (A0 1)) (tOp qv4 #[1,69621] (A0 1))) #[1,2147483587]))
def qg9(K:Fg):Sp:=λvs H Q _=>∃c:Int,vs=[.int c]/\∀n:Int,0<=n->Q (.int n) H
def qd4(K:Fg):TS :=
 (B1 (B8 (tOp #[2] (tOp qv4 (tOp (C8 K) (tOp #[2] (tOp #[13] (A0 0) #[1,2]) #[1,2147483629]) #[1,7]) #[1,48271]) #[1,2147483647]) (A6 1))
 (xu7 K))
theorem xu8(h:qg9 K vs H Q E):qd4 K {nx:=λ_ H'=>Q .non H',rt:=Q} (C3 ["_law_cell","_law_number"] vs) H:=by
 obtain⟨c,rfl,q⟩:=h;show qd4 K _ [some (.int c),none] H;unfold qd4;lk;have a0:=Int.emod_nonneg (c / 2) (show(2147483629:Int)≠0 by decide);have a1:=Int.emod_lt_of_pos (c / 2) (show(0:Int)<2147483629 by decide);generalize c / 2 % 2147483629=X at *
 refine qs1 (.inl ⟨by omega,by omega⟩) ?_;lk;have b0:=Int.emod_nonneg ((X+7)*48271) (show(2147483647:Int)≠0 by decide);have b1:=Int.emod_lt_of_pos ((X+7)*48271) (show(0:Int)<2147483647 by decide);generalize (X+7)*48271 % 2147483647=Y at *
 refine qs1 (.inl ⟨by omega,by omega⟩) ?_;lk;refine qs1 (.inl ⟨by decide,by decide⟩) ?_;lk;exact q _ (Int.emod_nonneg _ #[7])
abbrev yb2(K:Fg):TS :=
 (B1 (B8 (tOp #[13] (tOp (D7 K) (A0 0) #[1,0]) (A0 1)) (yg9 (A0 0) #[1,0] xr5))
 (E1 (A0 2)))
def M2(K:Fg):Sp:=λvs H Q _=>∃(p:Addr) (x m:Int),vs=[.ref p,.int m]/\H p=some (.lst [.int x])/\0<m/\m<1000000/\∀n y:Int,0<=n->n<m->Q (.int n) (upd H p (.lst [.int y]))
def qn3(K:Fg):TS :=
 (B1 (B8 (tOp #[2] (tOp (D7 K) (A0 0) #[1,0]) (A0 1)) (A6 2))
 (yb2 K))
theorem yl4(h:M2 K vs H Q E):qn3 K {nx:=λ_ H'=>Q .non H',rt:=Q} (C3 ["_law_pot","_law_most","_law_number"] vs) H:=by
 obtain⟨p,x,m,rfl,hp,hm,hm2,q⟩:=h;show qn3 K _ [some (.ref p),some (.int m),none] H;unfold qn3;lk;refine L8 (SqL.of hp) (v:=.int x) rfl ?_;lk;refine L8 (SqL.of hp) (v:=.int x) rfl ?_;lk;refine .inl (yw7 hp (j:=0) rfl ?_);lk;exact q _ _ (Int.emod_nonneg _ #[0]) (Int.emod_lt_of_pos _ hm)
structure Po(p:Addr)(H H':Hp):Prop where
 keep:∀b o,b≠p->H b=some o->H' b=some o
 at_:∃y:Int,H' p=some (.lst [.int y])
theorem Po.tr(a:Po p H H1)(b:Po p H1 H2):Po p H H2:=⟨λc o n e=>b.keep c o n (a.keep c o n e),b.at_⟩
theorem Po.put{y:Int}:Po p H (upd H p (.lst [.int y])):=⟨λc o n e=>by rw[A8 n];exact e,y,A2⟩
theorem Po.new{x:Int}(h:H p=some (.lst [.int x]))(hq:H q=none):Po p H (upd H q o) :=
 ⟨λc u n e=>by rw[A8 (N4 e hq)];exact e,x,by rw[A8 (N4 h hq)];exact h⟩
variable{Q':VK}
theorem wf8{m:Int}{E':XK}(o:∃x:Int,H' p=some (.lst [.int x]))(hm:0<m)(hm2:m<1000000)(q:∀(n:Int) (H2:Hp),0<=n->n<m->Po p H' H2->Q' (.int n) H2):M2 K [.ref p,.int m] H' Q' E':=by
 obtain⟨x,hx⟩:=o;exact⟨p,x,m,rfl,hx,hm,hm2,λn y h0 h1=>q n _ h0 h1 Po.put⟩
abbrev xa2(K:Fg):TS :=
 (E1 (tBM K "str" (yo8 K) (tC (.str "")) (A1 (qr9 [some 2,some 0,none] (wa1 (A1 (B9 (M2 K) [] E0 (A1 (A0 0) (A1 (tOp (C8 K) (A0 1) #[1,1]) A5))) A5)) (A6 2) tTT (tOp (D7 K) (A0 0) (B9 (M2 K) [] E0 (A1 (A0 1) (A1 (tCB (J6 K) #[4,0]) A5))))) A5)))
abbrev xa3(K:Fg):TS :=
 (B1 (B8 (tOp (C8 K) (A0 2) (tC (.str "abcdefghijklmnopqrstuvwxyz{|}~\n"))) (A6 2))
 (xa2 K))
def qa2(K:Fg):Sp:=λvs H Q _=>∃(p:Addr) (m:Int),vs=[.ref p,.int m]/\(∃x:Int,H p=some (.lst [.int x]))/\0<=m/\m<=50/\∀(z:Str) (H':Hp),Po p H H'->z.length<=50->Q (.str z) H'
def qe3(K:Fg):TS :=
 (B1 (B8 (tC (.str (" !\"#$&'()*+,-./0123456789:;<=>?@ABCDEFGHIJKLMNOPQRSTUVWXYZ[\\]^_`":Str))) (A6 2))
 (xa3 K))
theorem xf4(h:qa2 K vs H Q E):qe3 K {nx:=λ_ H'=>Q .non H',rt:=Q} (C3 ["_law_pot","_law_most","_law_some"] vs) H:=by
 obtain⟨p,m,rfl,hp,h0,h1,q⟩:=h;show qe3 K _ [some (.ref p),some (.int m),none] H;unfold qe3;lk;refine T4 (C7 #[7]) ?_;have hA:1<=((Str.ofString " !\"#$&'()*+,-./0123456789:;<=>?@ABCDEFGHIJKLMNOPQRSTUVWXYZ[\\]^_`")++(Str.ofString "abcdefghijklmnopqrstuvwxyz{|}~\n")).length/\((Str.ofString " !\"#$&'()*+,-./0123456789:;<=>?@ABCDEFGHIJKLMNOPQRSTUVWXYZ[\\]^_`")++(Str.ofString "abcdefghijklmnopqrstuvwxyz{|}~\n")).length<=1000:=by decide +kernel
 generalize (Str.ofString " !\"#$&'()*+,-./0123456789:;<=>?@ABCDEFGHIJKLMNOPQRSTUVWXYZ[\\]^_`")++(Str.ofString "abcdefghijklmnopqrstuvwxyz{|}~\n")=Z at *
 lk;refine⟨rfl,?_⟩;lk;refine wf8 hp #[0] #[0] λn H1 hn0 hn1 o1=>?_;lk;refine wo9 hn0 #[0] (λi ys H'=>Po p H H'/\∃zs:List Str,ys=B0 zs/\zs.length=i/\∀z∈zs,z.length=1) ⟨o1,[],rfl,rfl,by simp⟩ ?_ ?_ ?_
 ·rintro i ys H' hi ⟨_,zs,rfl,hl,_⟩;rw[B2];exact C7 #[0]
 ·rintro i ys H' hi ⟨o2,zs,rfl,hl,hz⟩;lk;refine wt4 (C7 #[0]) ?_;lk;refine wf8 o2.at_ #[0] #[0] λk H2 hk0 hk1 o3=>?_;have hzl:Z.cps.toList.length=Z.length:=Array.length_toList;have hk:k.toNat<Z.cps.toList.length:=by omega
  have ek:((k.toNat:Nat):Int)=k:=by omega
  have e:atI Z.cps.toList ((k.toNat:Nat):Int)=some Z.cps.toList[k.toNat]:=M8 (List.getElem?_eq_getElem hk);rw[ek] at e;refine yp1 (C7 #[0]) e ?_;refine⟨o2.tr o3,zs++[⟨#[Z.cps.toList[k.toNat]]⟩],by unfold B0;rw[map_append];rfl,by rw[length_append,hl];rfl,λz hz'=>?_⟩;rcases mem_append.mp hz' with h|h
  ·exact hz z h
  ·rw[mem_singleton.mp h];rfl
 ·rintro ys H' ⟨o2,zs,rfl,hl,hz⟩ c hc;have hsum:(zs.map (·.length)).sum=zs.length:=by
   clear hl
   induction zs with
   | nil=>rfl
   | cons z zs ih=>rw[map_cons,sum_cons,ih (λy hy=>hz y (mem_cons_of_mem _ hy)),hz z mem_cons_self,length_cons];omega
  lk;refine⟨"",c,zs,rfl,rfl,.inl (SqL.of A2),by rw[hsum];show _+_*0<=_;omega,?_⟩;rw[xu5];obtain⟨y,hy⟩:=o2.at_;refine q _ _ (o2.tr (Po.new hy hc)) ?_;rw[<-xa1,hsum];omega
theorem zk9(kvs:List (Key×V))(k:Key)(v:V):(k∈kvs.map (·.1)/\(we5 kvs k v).map (·.1)=kvs.map (·.1))\/(k∉kvs.map (·.1)/\(we5 kvs k v).map (·.1)=kvs.map (·.1)++[k]):=by
 unfold we5;by_cases h:k∈kvs.map (·.1)
 ·refine .inl ⟨h,?_⟩;obtain⟨x,hx,e⟩:=mem_map.mp h;rw[if_pos (any_eq_true.mpr ⟨x,hx,decide_eq_true e⟩),map_map];refine map_congr_left λx _=>?_;show(if x.1=k then(x.1,v) else x).1=x.1;split <;> rfl
 ·refine .inr ⟨h,?_⟩;rw[if_neg (λz=>by obtain⟨x,hx,e⟩:=any_eq_true.mp z;exact h (mem_map.mpr ⟨x,hx,of_decide_eq_true e⟩)),map_append];rfl
variable{ks:List Str}
theorem zu8{kvs:List (Key×V)}{k:Str}(e:kvs.map (·.1)=ks.map (Sum.inr:Str->Key))(nd:ks.Nodup)(hl:∀x∈ks,P9 x)(hk:P9 k) :
 ∃ks':List Str,(we5 kvs (.inr k) v).map (·.1)=ks'.map (Sum.inr:Str->Key)/\ks'.Nodup/\(∀x∈ks',P9 x)/\ks'.length<=ks.length+1/\0<ks'.length:=by
 have em:(Sum.inr k:Key)∈kvs.map (·.1)↔k∈ks:=by
  rw[e,mem_map];exact⟨λ⟨x,hx,e⟩=>by cases e;exact hx,λhx=>⟨k,hx,rfl⟩⟩
 rcases zk9 kvs (.inr k) v with⟨h,g⟩|⟨h,g⟩
 ·exact⟨ks,by rw[g,e],nd,hl,Nat.le_succ _,length_pos_of_mem (em.mp h)⟩
 ·refine⟨ks++[k],by rw[g,e,map_append];rfl,nodup_append.mpr ⟨nd,by simp,λa ha b hb=>by rw[mem_singleton.mp hb];exact λz=>h (em.mpr (z▸ha))⟩,λx hx=>?_,by simp,by simp⟩
  rcases mem_append.mp hx with hx|hx
  ·exact hl x hx
  ·rw[mem_singleton.mp hx];exact hk
inductive Nmg(K:Fg)(H:Hp)(p dc:Addr)(n:Int)(i:Nat):St->Hp->Prop
 | mk {H':Hp} {a4 a5:Option V} {kvs:List (Key×V)} {ks:List Str} (o:Po p H H') (hd:H' dc=some (.dK kvs)) (e:kvs.map (·.1)=ks.map (Sum.inr:Str->Key)) (nd:ks.Nodup) (hl:∀x∈ks,P9 x) (h1:ks.length<=i) (h2:0<i->0<ks.length) :
  Nmg K H p dc n i [some (.ref p),some (.int n),some (.str Lt),some (.ref dc),a4,a5] H'
abbrev wu8(K:Fg):TS :=
 (B8 (tC (.bl true)) (yg9 (A0 3) (tOp (D7 K) (T2 (A1 (A0 5) (A1 (tOp (C8 K) (A0 5) (tC (.str "s"))) A5))) (tCB zo5 (A1 (tOp (wa5 K false) (A0 5) (Y1 (A1 (tC (.str "shuts")) (A1 (tC (.str "bars")) A5)))) A5))) xr5))
abbrev wu9(K:Fg):TS :=
 (B1 (B8 (tBM K "str" (yo8 K) (tC (.str "")) (A1 (qr9 [some 2,some 0,none] (wa1 (A1 (tOp (C8 K) #[1,1] (B9 (M2 K) [] E0 (A1 (A0 0) (A1 #[1,8] A5)))) A5)) (A6 2) tTT (tOp (D7 K) (A0 0) (B9 (M2 K) [] E0 (A1 (A0 1) (A1 #[1,26] A5))))) A5)) (A6 5))
 (wu8 K))
abbrev wv0(K:Fg):TS :=
 (B1 (qc8 (wa1 #[4,1]) (A6 4)
 (wu9 K))
 (E1 (tCB zr2 #[4,3])))
def S7(K:Fg):Sp:=λvs H Q _=>∃(p:Addr) (n:Int),vs=[.ref p,.int n]/\(∃x:Int,H p=some (.lst [.int x]))/\1<=n/\n<=12/\∀(l:Addr) (ks:List Str) (H':Hp),Po p H H'->H' l=some #[23,ks]->ks.Nodup->(∀x∈ks,P9 x)->ks.length<=12->1<=ks.length->Q (.ref l) H'
def qa3(K:Fg):TS :=
 (B1 (B8 (tC (.str "abcdefghijklmnopqrstuvwxyz")) (A6 2))
 (B1 (B8 yh8 (A6 3))
 (wv0 K)))
theorem xa5(h:S7 K vs H Q E):qa3 K {nx:=λ_ H'=>Q .non H',rt:=Q} (C3 ["_law_pot","_law_count","_law_letters","_law_listed","_law_k","_law_name"] vs) H:=by
 obtain⟨p,n,rfl,hp,h0,h1,q⟩:=h;show qa3 K _ [some (.ref p),some (.int n),none,none,none,none] H;unfold qa3;lk;intro dc hdc;obtain⟨x0,hx0⟩:=hp;have o1:Po p H (upd H dc (.dK [])):=Po.new hx0 hdc;have e1:(upd H dc (.dK [])) dc=some (.dK []):=A2;have nep:dc≠p:=(N4 hx0 hdc).symm;generalize upd H dc (.dK [])=H1 at *
 lk;refine qs0 #[0] #[0] (Nmg K H p dc n) (.mk o1 e1 rfl nodup_nil (by simp) (Nat.zero_le _) (by simp)) ?_ ?_
 ·rintro i σ H' hi ⟨o,hd,e,nd,hl,h1',h2'⟩;rename_i a4 a5 kvs ks;lk;refine⟨rfl,?_⟩;lk;refine wf8 o.at_ #[0] #[0] λt H2 ht0 ht1 o2=>?_;lk;have hd2:=o2.keep _ _ nep hd;refine wo9 #[0] #[0] (λj ys H3=>Po p H2 H3/\∃zs:List Str,ys=B0 zs/\zs.length=j/\∀z∈zs,z.length=1) ⟨⟨λ_ _ _ e=>e,o2.at_⟩,[],rfl,rfl,by simp⟩ ?_ ?_ ?_
  ·rintro j ys H3 hj ⟨_,zs,rfl,hzl,_⟩;rw[B2];exact C7 #[0]
  ·rintro j ys H3 hj ⟨o3,zs,rfl,hzl,hz⟩;lk;refine wf8 o3.at_ #[0] #[0] λk H4 hk0 hk1 o4=>?_;refine yp1 (C7 (by rw[yy3];decide)) (zr8 hk0 hk1) ?_;refine⟨o3.tr o4,zs++[⟨#[97+k.toNat]⟩],by unfold B0;rw[map_append];rfl,by rw[length_append,hzl];rfl,λz hz'=>?_⟩;rcases mem_append.mp hz' with h|h
   ·exact hz z h
   ·rw[mem_singleton.mp h];rfl
  ·rintro ys H3 ⟨o3,zs,rfl,hzl,hz⟩ c hc;have hsum:(zs.map (·.length)).sum=zs.length:=by
    clear hzl
    induction zs with
    | nil=>rfl
    | cons z zs ih=>rw[map_cons,sum_cons,ih (λy hy=>hz y (mem_cons_of_mem _ hy)),hz z mem_cons_self,length_cons];omega
   lk;refine⟨"",c,zs,rfl,rfl,.inl (SqL.of A2),by rw[hsum];show _+_*0<=_;omega,?_⟩;rw[xu5];have hcl:(cat zs).length<=8:=by rw[<-xa1,hsum];omega
   have hc1:1<=(cat zs).length:=by rw[<-xa1,hsum];omega
   generalize cat zs=nm at *
   obtain⟨y3,hy3⟩:=o3.at_;have o4:=o3.tr (Po.new (o:=.lst (B0 zs)) hy3 hc);have hd4:=o4.keep _ _ nep hd2;generalize upd H3 c #[23,zs]=H4 at *
   have o5:=o.tr (o2.tr o4);clear o3 o4 hy3 hc;lk;have l1:(Str.ofString "s").length=1:=rfl;refine T4 (C7 #[0]) ?_;refine⟨C7 (by z_go),λl hll=>?_⟩;obtain⟨y5,hy5⟩:=o5.at_;have o6:=o5.tr (Po.new (o:=.lst [.str nm,.str (nm++Str.ofString "s")]) hy5 hll);have hd6:(upd H4 l (.lst [.str nm,.str (nm++Str.ofString "s")])) dc=some (.dK kvs):=by rw[A8 (N4 hd4 hll)];exact hd4
   have hl6:(upd H4 l (.lst [.str nm,.str (nm++Str.ofString "s")])) l=some (.lst [.str nm,.str (nm++Str.ofString "s")]):=A2;generalize upd H4 l (.lst [.str nm,.str (nm++Str.ofString "s")])=H6 at *
   lk;refine⟨C7 (by z_go),λtt htt=>?_⟩;obtain⟨y6,hy6⟩:=o6.at_;have o7:=o6.tr (Po.new (o:=.tup [.str "shuts",.str "bars"]) hy6 htt);have hd7:(upd H6 tt (.tup [.str "shuts",.str "bars"])) dc=some (.dK kvs):=by rw[A8 (N4 hd6 htt)];exact hd6
   have hl7:(upd H6 tt (.tup [.str "shuts",.str "bars"])) l=some (.lst [.str nm,.str (nm++Str.ofString "s")]):=by rw[A8 (N4 hl6 htt)];exact hl6
   have ht7:(upd H6 tt (.tup [.str "shuts",.str "bars"])) tt=some (.tup [.str "shuts",.str "bars"]):=A2;refine .inl (yi6 (xs:=B0 [("shuts":Str), "bars"]) (.inr (SqT.of ht7)) rfl (W7 _) ?_);generalize upd H6 tt (.tup [.str "shuts",.str "bars"])=H7 at *
   generalize inV (V.str nm) (B0 [("shuts":Str), "bars"])=bb;lk;refine .inr ⟨bb,rfl,?_⟩;have key:∃k:Str,atI [V.str nm,V.str (nm++Str.ofString "s")] (if bb then 1 else 0)=some (.str k)/\P9 k:=by
    cases bb with
    | true=>exact⟨_,rfl,by show 1<=Str.length _/\Str.length _<=9;rw[strLen_append];omega⟩
    | false=>exact⟨_,rfl,hc1,by omega⟩
   obtain⟨k,hk,hkl⟩:=key;refine L8 (SqL.of hl7) hk ?_;obtain⟨ks',g1,g2,g3,g4,g5⟩:=zu8 (v:=V.bl true) e nd hl hkl;have hkl2:kvs.length=ks.length:=by have:=congrArg List.length e;simpa using this
   refine .inr ⟨dc,_,rfl,yw1.k (k:=.inr k) hd7 (by rw[hkl2,sizeLine_eq];omega),?_⟩;obtain⟨y7,hy7⟩:=o7.at_;exact .mk ⟨λc u n e=>by rw[A8 (N4 e hdc)];exact o7.keep c u n e,y7,by rw[A8 (Ne.symm nep)];exact hy7⟩ A2 g1 g2 g3 #[0] (λ_=>g5)
 ·rintro σ H' ⟨o,hd,e,nd,hl,h1',h2'⟩;rename_i a4 a5 kvs ks;lk;refine⟨dc,kvs,rfl,.inl hd,λl hl'=>?_⟩;have e2:(kvs.map λy=>kV y.1)=B0 ks:=by
   have:(kvs.map λy=>kV y.1)=(kvs.map (·.1)).map kV:=by rw[map_map];rfl
   rw[this,e,map_map];rfl
  rw[e2];obtain⟨y,hy⟩:=o.at_;exact q l ks _ (o.tr (Po.new hy hl')) A2 nd hl #[0] #[0]
noncomputable def bas(c:Int)(j:Nat):Int:=c / ((j:Int)+64)+(j:Int)*j
noncomputable def sgn(c:Int)(spot k j:Nat):Nat:=97+((bas c j+if j=spot then(k:Int) else 0) % 26).toNat
noncomputable def nk(c:Int)(spot k n:Nat):List Nat:=(List.range n).map (sgn c spot k)
noncomputable def stS(l:List Nat):Str:=⟨l.toArray⟩
theorem Ad0{a b:List Nat}(h:stS a=stS b):a=b:=by have:=congrArg (λs:Str=>s.cps.toList) h;simpa [stS] using this
theorem wp7(l:List Nat):(stS l).length=l.length:=by show l.toArray.size=_;simp
theorem xf5(c:Int)(spot k n:Nat):(nk c spot k n).length=n:=by unfold nk;simp
theorem Ad1(c:Int)(spot k n:Nat):nk c spot k (n+1)=nk c spot k n++[sgn c spot k n]:=by unfold nk;rw[range_succ,map_append];rfl
variable{spot:Nat}
theorem An1{c:Int}{k k' n:Nat}(hs:spot<n)(hk:k<26)(hk':k'<26)(h:nk c spot k n=nk c spot k' n):k=k':=by
 have e:=congrArg (λl:List Nat=>l[spot]?) h;have f:∀k,(nk c spot k n)[spot]?=some (sgn c spot k spot):=λk=>by unfold nk;rw[List.getElem?_map,List.getElem?_range hs];rfl
 simp only[f,Option.some.injEq] at e;unfold sgn at e;rw[if_pos rfl,if_pos rfl] at e;omega
noncomputable def fx(s:Str):Str:=if s=("shuts":Str)\/s=("bars":Str) then s++("s":Str) else s
theorem xu9{a b:Str}(h:a++x=b++y)(hl:x.length=y.length):a=b/\x=y:=by
 rw[X3,PySem.Str.cps_append,PySem.Str.cps_append,Array.toList_append,Array.toList_append] at h;have hl:x.cps.toList.length=y.cps.toList.length:=by rw[Array.length_toList,Array.length_toList];exact hl
 obtain⟨h1,h2⟩:=append_inj' h hl;exact⟨(X3 _ _).mpr h1,(X3 _ _).mpr h2⟩
theorem yl5(s:Str):(fx s).length=s.length\/(∃t,fx s=t++("s":Str))/\(fx s).length=s.length+1:=by
 unfold fx;split
 ·exact .inr ⟨⟨s,rfl⟩,by rw[strLen_append];rfl⟩
 ·exact .inl rfl
theorem An2{a b:Str}(hl:a.length=b.length)(h:fx a=fx b):a=b:=by
 have h0:=congrArg Str.length h;unfold fx at h h0;split at h <;> split at h
 ·exact(xu9 h rfl).1
 ·rename_i h1 h2;rw[if_pos h1,if_neg h2,strLen_append] at h0;have:("s":Str).length=1:=rfl;omega
 ·rename_i h1 h2;rw[if_neg h1,if_pos h2,strLen_append] at h0;have:("s":Str).length=1:=rfl;omega
 ·exact h
theorem Au6{a b:Str}(hl:a.length=b.length):fx a++("z":Str)≠fx b:=by
 intro h;have h0:=congrArg Str.length h;rw[strLen_append] at h0;have hz:("z":Str).length=1:=rfl;rcases yl5 b with hb|⟨⟨t,hb⟩,_⟩
 ·rcases yl5 a with ha|⟨_,ha⟩ <;> omega
 ·rw[hb] at h;have:=(xu9 h rfl).2;exact absurd this #[7]
noncomputable def nms(c:Int)(spot long m:Nat):List Str:=(List.range m).map λk=>fx (stS (nk c spot k long))
theorem yt0(c:Int)(spot long m:Nat):nms c spot long (m+1)=nms c spot long m++[fx (stS (nk c spot m long))]:=by unfold nms;rw[range_succ,map_append];rfl
theorem ze3(c:Int)(spot long m:Nat):(nms c spot long m).length=m:=by unfold nms;simp
variable{long m:Nat}
theorem zl0{c:Int}(hs:spot<long)(hm:m<=26):(nms c spot long m).Nodup:=by
 unfold nms;rw[nodup_iff_pairwise_ne,pairwise_map];refine List.Pairwise.imp_of_mem ?_ (nodup_iff_pairwise_ne.mp nodup_range);intro a b ha hb hne e;rw[mem_range] at ha hb;exact hne (An1 hs #[0] #[0] (Ad0 (An2 (by rw[wp7,wp7,xf5,xf5]) e)))
theorem yl6{c:Int}(h:x∈nms c spot long m):∃s:Str,x=fx s/\s.length=long:=by
 unfold nms at h;obtain⟨k,_,rfl⟩:=mem_map.mp h;exact⟨_,rfl,by rw[wp7,xf5]⟩
theorem As9(s:Str):(fx s).length<=s.length+1:=by rcases yl5 s with h|⟨_,h⟩ <;> omega
inductive Nmk(K:Fg)(H:Hp)(d n:Int)(lg sp:Nat)(l:Addr)(i:Nat):St->Hp->Prop
 | mk {H':Hp} {a6 a7 a8 a9:Option V} (s:A3 H H') (e:H' l=some #[23,nms d sp lg i]):Nmk K H d n lg sp l i [some (.int d),some (.int n),some (.str Lt),some (.int lg),some (.int sp),some (.ref l),a6,a7,a8,a9] H'
theorem zu9(c:Int)(spot k j:Nat):stS (nk c spot k j)++(⟨#[sgn c spot k j]⟩:Str)=stS (nk c spot k (j+1)):=by
 rw[X3,PySem.Str.cps_append,Array.toList_append,Ad1];simp[stS]
theorem zl1(h:ks.Nodup)(hz:z∉ks):(ks.set 0 z).Nodup:=by
 cases ks with
 | nil=>exact h
 | cons k ks =>
   show(z::ks).Nodup
   rw[nodup_cons] at h ⊢
   exact⟨λhm=>hz (mem_cons_of_mem _ hm),h.2⟩
abbrev xv0(K:Fg):TS :=
 (E1 (B9 (S7 K) [] E0 (A1 (T2 (A1 (tOp #[13] (A0 0) #[1,2]) A5)) #[4,1])))
abbrev xv1(K:Fg):TS :=
 (B8 (tOp (C8 K) (A0 7) (tOp (D7 K) (A0 2) (tOp #[2] (A0 9) #[1,26]))) (A6 7))
abbrev xv2(K:Fg):TS :=
 (B1 (M4 (C1 (tOp (P7 K) (A0 8) (A0 4)))
 (B8 (tOp (C8 K) (A0 9) (A0 6)) (A6 9)) J8)
 (xv1 K))
abbrev xv3(K:Fg):TS :=
 (B1 (B8 (tOp (C8 K) (tOp #[13] (A0 0) (tOp (C8 K) (A0 8) #[1,64])) (tOp qv4 (A0 8) (A0 8))) (A6 9))
 (xv2 K))
abbrev xv4(K:Fg):TS :=
 (B1 (M4 (tOr (C1 (tOp (P7 K) (A0 7) (tC (.str "shuts")))) (C1 (tOp (P7 K) (A0 7) (tC (.str "bars")))))
 (B8 (tOp (C8 K) (A0 7) (tC (.str "s"))) (A6 7)) J8)
 (D2 (tBM K "list" D9 (A0 5) #[4,7])))
abbrev xv5(K:Fg):TS :=
 (B1 (B8 (tC (.str "")) (A6 7))
 (B1 (qc8 (wa1 #[4,3]) (A6 8)
 (xv3 K))
 (xv4 K)))
abbrev xv6(K:Fg):TS :=
 (B8 (tOp (C8 K) (tOp (D7 K) (A0 5) #[12]) (tC (.str "z"))) (yg9 (A0 5) #[1,0] xr5))
abbrev xv7(K:Fg):TS :=
 (B1 (M4 (C1 (tOp (P7 K) (tOp #[2] (tOp #[13] (A0 0) #[1,49]) #[1,4]) #[1,1]))
 (xv6 K) J8)
 (E1 (A0 5)))
abbrev xv8(K:Fg):TS :=
 (B1 (B8 (T2 A5) (A6 5))
 (B1 (qc8 (wa1 #[4,1]) (A6 6)
 (xv5 K))
 (xv7 K)))
abbrev xv9(K:Fg):TS :=
 (B1 (B8 (tOp #[2] (tOp #[13] (A0 0) #[1,7]) (A0 3)) (A6 4))
 (xv8 K))
abbrev xm3(K:Fg):TS :=
 (B1 (B8 (tOp (C8 K) #[1,1] (tOp #[2] (A0 0) #[1,7])) (A6 3))
 (xv9 K))
abbrev xm4(K:Fg):TS :=
 (B1 (B8 (tOp #[13] (A0 0) #[1,2]) (A6 0))
 (B1 (B8 (tC (.str "abcdefghijklmnopqrstuvwxyz")) (A6 2))
 (xm3 K)))
def qh0(K:Fg):Sp:=λvs H Q _=>∃(c n:Int),vs=[.int c,.int n]/\1<=n/\n<=12/\∀(l:Addr) (ks:List Str) (H':Hp),A3 H H'->H' l=some #[23,ks]->ks.Nodup->(∀x∈ks,P9 x)->ks.length<=12->1<=ks.length->Q (.ref l) H'
def qd5(K:Fg):TS :=
 (B1 (M4 (C1 (tOp (P7 K) (tOp #[2] (A0 0) #[1,2]) #[1,1]))
 (xv0 K) J8)
 (xm4 K))
theorem xw0(h:qh0 K vs H Q E):qd5 K {nx:=λ_ H'=>Q .non H',rt:=Q} (C3 ["_law_cell","_law_count","_law_letters","_law_long","_law_spot","_law_listed","_law_k","_law_name","_law_j","_law_step"] vs) H:=by
 obtain⟨c,n,rfl,h0,h1,q⟩:=h;show qd5 K _ [some (.int c),some (.int n),none,none,none,none,none,none,none,none] H;unfold qd5;lk;by_cases hc:c % 2=1
 ·rw[decide_eq_true hc];x_go;walk_at"16";lk;exact⟨p,n,rfl,⟨_,A2⟩,h0,h1,λl ks H' o hl nd h9 hl1 hl2=>q l ks H' (λb u e=>o.keep b u (N4 e hp) (by rw[A8 (N4 e hp)];exact e)) hl nd h9 hl1 hl2⟩
 rw[decide_eq_false hc];k_go;lk;generalize c / 2=d;have hd0:=Int.emod_nonneg d (show(7:Int)≠0 by decide);have hd1:=Int.emod_lt_of_pos d (show(0:Int)<7 by decide);obtain⟨lg,hlg⟩:∃lg:Nat,1+d % 7=(lg:Int):=⟨(1+d % 7).toNat,by omega⟩;rw[hlg];have hs0:=Int.emod_nonneg (d / 7) (show(lg:Int)≠0 by omega);have hs1:=Int.emod_lt_of_pos (d / 7) (show(0:Int)<lg by omega);obtain⟨sp,hsp⟩:∃sp:Nat,d / 7 % (lg:Int)=(sp:Int):=⟨(d / 7 % (lg:Int)).toNat,by omega⟩;rw[hsp];refine⟨C7 (by z_go),λl hl=>?_⟩;have s1:=A3.new hl (.lst []);have e1:(upd H l (.lst [])) l=some (.lst []):=A2;generalize upd H l (.lst [])=H1 at *
 lk;refine qs0 #[0] #[0] (Nmk K H d n lg sp l) (.mk s1 (by rw[e1];rfl)) ?_ ?_
 ·rintro i σ H' hi ⟨s2,e2⟩;rename_i a6 a7 a8 a9;lk;refine qs0 #[0] #[0] (λj σ H''=>H''=H'/\∃a8 a9:Option V,σ=[some (.int d),some (.int n),some (.str Lt),some (.int lg),some (.int sp),some (.ref l),some (.int i),some (.str (stS (nk d sp i j))),a8,a9]) ⟨rfl,_,_,rfl⟩ ?_ ?_
  ·rintro j σ H'' hj ⟨rfl,a8,a9,rfl⟩;lk;refine qs1 (.inl ⟨by omega,by omega⟩) ?_;lk;have hnl:(stS (nk d sp i j)).length=j:=by rw[wp7,xf5]
   by_cases hjs:(j:Int)=(sp:Int)
   ·rw[decide_eq_true hjs];x_go;lk;refine yp1 (C7 (by rw[yy3];decide)) (zr8 (Int.emod_nonneg _ #[7]) (Int.emod_lt_of_pos _ #[7])) ?_;refine T4 (C7 (by rw[hnl,ze2];omega)) ?_;lk;have hg:sgn d sp i j=97+((d / ((j:Int)+64)+(j:Int)*j+i) % 26).toNat:=by unfold sgn bas;rw[if_pos #[0]]
    rw[<-hg,zu9];exact⟨rfl,_,_,rfl⟩
   ·rw[decide_eq_false hjs];k_go;lk;refine yp1 (C7 (by rw[yy3];decide)) (zr8 (Int.emod_nonneg _ #[7]) (Int.emod_lt_of_pos _ #[7])) ?_;refine T4 (C7 (by rw[hnl,ze2];omega)) ?_;lk;have hg:sgn d sp i j=97+((d / ((j:Int)+64)+(j:Int)*j) % 26).toNat:=by unfold sgn bas;rw[if_neg #[0],Int.add_zero]
    rw[<-hg,zu9];exact⟨rfl,_,_,rfl⟩
  ·rintro σ H'' ⟨rfl,a8,a9,rfl⟩;rw[Int.toNat_natCast];have hnl:(stS (nk d sp i lg)).length=lg:=by rw[wp7,xf5]
   have hks:=yt0 d sp lg i;have hkl:=ze3 d sp lg i;generalize stS (nk d sp i lg)=z at *
   have l1:("s":Str).length=1:=rfl;lk;by_cases z1:z=("shuts":Str)
   ·have ez:fx z=z++("s":Str):=if_pos (.inl z1);rw[decide_eq_true z1];x_go;x_go;lk;refine T4 (C7 #[0]) ?_;walk_at"17"
   rw[decide_eq_false z1];k_go;lk;by_cases z2:z=("bars":Str)
   ·have ez:fx z=z++("s":Str):=if_pos (.inr z2);rw[decide_eq_true z2];x_go;lk;refine T4 (C7 #[0]) ?_;walk_at"17"
   have ez:fx z=z:=if_neg (λh=>h.elim z1 z2);rw[decide_eq_false z2];k_go;walk_at"17"
 ·rintro σ H' ⟨s2,e2⟩;rename_i a6 a7 a8 a9;obtain⟨m,hm⟩:∃m,n.toNat=m+1:=⟨n.toNat-1,by omega⟩;have hnd:(nms d sp lg n.toNat).Nodup:=zl0 #[0] #[0];have hnl:=ze3 d sp lg n.toNat;have hn9:∀x∈nms d sp lg n.toNat,x.length<=8:=λx hx=>by
   obtain⟨t,rfl,ht⟩:=yl6 hx;have:=As9 t;omega
  have hn1:∀x∈nms d sp lg n.toNat,1<=x.length:=λx hx=>by
   obtain⟨s,e,hs⟩:=yl6 hx;rw[e];rcases yl5 s with h|⟨_,h⟩ <;> omega
  lk;by_cases hz:d / 49 % 4=1
  ·rw[decide_eq_true hz];x_go;have hlast:nms d sp lg n.toNat=nms d sp lg m++[fx (stS (nk d sp m lg))]:=by rw[hm,yt0]
   have hll:(stS (nk d sp m lg)).length=lg:=by rw[wp7,xf5]
   have hx9:(fx (stS (nk d sp m lg))).length<=8:=hn9 _ (by rw[hlast];simp);have hzm:fx (stS (nk d sp m lg))++("z":Str)∉nms d sp lg n.toNat:=λh=>by
    obtain⟨t,ht,htl⟩:=yl6 h;exact Au6 (by rw[hll,htl]) ht
   have hat:atI (B0 (nms d sp lg n.toNat)) (-1)=some (.str (fx (stS (nk d sp m lg)))):=by
    rw[hlast];unfold B0;rw[map_append];exact zd5 (by simp) (by simp)
   have l1:("z":Str).length=1:=rfl;lk;refine⟨1,rfl,?_⟩;refine L8 (SqL.of e2) hat ?_;lk;refine T4 (C7 #[0]) ?_;lk;refine .inl (yw7 e2 (j:=0) (by rw[B2,hnl,hm];exact As3 #[0]) ?_);lk;refine q l ((nms d sp lg n.toNat).set 0 (fx (stS (nk d sp m lg))++("z":Str))) _ (A3.put s2 hl _) (by rw[A2];unfold B0;rw[map_set]) (zl1 hnd hzm) (λx hx=>?_) (by rw[length_set];omega) (by rw[length_set];omega);rcases mem_or_eq_of_mem_set hx with h|h
   ·exact⟨hn1 x h,by have:=hn9 x h;omega⟩
   ·rw[h];show 1<=Str.length _/\Str.length _<=9;rw[strLen_append];omega
  ·rw[decide_eq_false hz];k_go;lk;exact q l _ _ s2 e2 hnd (λx hx=>⟨hn1 x hx,by have:=hn9 x hx;omega⟩) #[0] #[0]
structure FS(m k:Nat)(ss:List Str)(fs:List (Nat×Nat)):Prop where
 l:ss.length=m
 srt:∀x∈ss,wl3 x
 ok:∀p∈fs,p.2<p.1/\p.1<m/\k<=p.2/\gd ss p.2=("frame":Str)/\yy6 (gd ss p.1)
 al:∀i,k<=i->i<m->gd ss i=("frame":Str)->∃j,(j,i)∈fs
 nk:(fs.map Prod.fst).Nodup
 nf:(fs.map Prod.snd).Nodup
noncomputable def frK(fs:List (Nat×Nat)):List (Key×V):=fs.map λp=>(Sum.inl (p.1:Int),V.int p.2)
noncomputable def hoK(fs:List (Nat×Nat)):List (Key×V):=fs.map λp=>(Sum.inl (p.2:Int),V.int p.1)
variable{ss:List Str}
section
variable{k:Nat}{fs:List (Nat×Nat)}
theorem FS.nil(hl:ss.length=m)(hs:∀x∈ss,wl3 x):FS m m ss []:=⟨hl,hs,λp hp=>(by cases hp),λi h1 h2=>#[0],nodup_nil,nodup_nil⟩
theorem FS.skip(f:FS m (k+1) ss fs)(h:gd ss k≠("frame":Str)):FS m k ss fs :=
 ⟨f.l,f.srt,λp hp=>by have:=f.ok p hp;exact⟨this.1,this.2.1,by omega,this.2.2.2⟩,λi h1 h2 h3=>f.al i (by
  rcases Nat.lt_or_eq_of_le h1 with e|e
  ·exact e
  ·exact absurd (e▸h3) h) h2 h3,f.nk,f.nf⟩
theorem FS.room(f:FS m (k+1) ss fs)(hk:k<m):FS m k (ss.set k ("room":Str)) fs:=by
 have hkl:k<ss.length:=by rw[f.l];exact hk
 have g:∀i,i≠k->gd (ss.set k ("room":Str)) i=gd ss i:=λi h=>zk1 (Ne.symm h);refine⟨by rw[length_set];exact f.l,λx hx=>?_,λp hp=>?_,λi h1 h2 h3=>?_,f.nk,f.nf⟩
 ·rcases mem_or_eq_of_mem_set hx with h|h
  ·exact f.srt x h
  ·rw[h];exact .inr (.inr (.inr (.inl rfl)))
 ·obtain⟨a,b,c,d,e⟩:=f.ok p hp;rw[g p.2 #[0],g p.1 #[0]];exact⟨a,b,by omega,d,e⟩
 ·by_cases e:i=k
  ·subst e;rw[yq8 hkl] at h3;exact absurd h3 #[7]
  ·rw[g i e] at h3;exact f.al i #[0] h2 h3
theorem FS.host(f:FS m (k+1) ss fs)(hk:gd ss k=("frame":Str))(h1:k<j)(h2:j<m)(h3:yy6 (gd ss j))(h4:j∉fs.map Prod.fst):FS m k ss (fs++[(j,k)]):=by
 refine⟨f.l,f.srt,λp hp=>?_,λi a b c=>?_,?_,?_⟩
 ·rcases mem_append.mp hp with hp|hp
  ·have:=f.ok p hp;exact⟨this.1,this.2.1,by omega,this.2.2.2⟩
  ·rw[mem_singleton.mp hp];exact⟨h1,h2,Nat.le_refl _,hk,h3⟩
 ·by_cases e:i=k
  ·exact⟨j,by rw[e];simp⟩
  ·obtain⟨j',h⟩:=f.al i #[0] b c;exact⟨j',by simp[h]⟩
 ·rw[map_append];refine nodup_append.mpr ⟨f.nk,by simp,λx hx y hy e=>?_⟩;simp at hy;rw[e,hy] at hx;exact h4 hx
 ·rw[map_append];refine nodup_append.mpr ⟨f.nf,by simp,λx hx y hy e=>?_⟩;simp at hy;rw[e,hy] at hx;obtain⟨p,hp,e2⟩:=mem_map.mp hx;have:=(f.ok p hp).2.2.1;omega
theorem xp3(k:Nat):∀fs:List (Nat×Nat),(wi7 (frK fs) (Sum.inl (k:Int):Key)).isSome=decide (k∈fs.map Prod.fst)
 | []=>rfl
 | p::fs=>by
   show(wi7 ((Sum.inl (p.1:Int),V.int p.2)::frK fs) _).isSome=_;by_cases e:p.1=k
   ·rw[wj7 (by rw[e])];simp[e]
   ·rw[wj8 (λh=>e (by have:=Sum.inl.inj h;omega)),xp3 k fs];simp only[map_cons,mem_cons];congr 1;exact propext ⟨λh=>.inr h,λh=>h.resolve_left λz=>e z.symm⟩
theorem Ad2(h:j∉fs.map Prod.fst)(i:Nat):we5 (frK fs) (.inl (j:Int)) (.int (i:Int))=frK (fs++[(j,i)]):=by
 unfold we5;rw[ww2,xp3,decide_eq_false h,if_neg #[7]];unfold frK;rw[map_append];rfl
theorem yl7(k:Nat):∀fs:List (Nat×Nat),wi7 (hoK fs) (Sum.inl (k:Int):Key)=(fs.find? λp=>decide (p.2=k)).map λp=>V.int p.1
 | []=>rfl
 | p::fs=>by
   show wi7 ((Sum.inl (p.2:Int),V.int p.1)::hoK fs) _=_;by_cases e:p.2=k
   ·rw[wj7 (by rw[e]),find?_cons,decide_eq_true e];rfl
   ·rw[wj8 (λh=>e (by have:=Sum.inl.inj h;omega)),yl7 k fs,find?_cons,decide_eq_false e]
theorem Ad3{i:Nat}(h:i∉fs.map Prod.snd)(j:Nat):we5 (hoK fs) (.inl (i:Int)) (.int (j:Int))=hoK (fs++[(j,i)]):=by
 unfold we5;have:wi7 (hoK fs) (Sum.inl (i:Int):Key)=none:=by
  rw[yl7,Option.map_eq_none_iff,find?_eq_none];intro p hp e;exact h (mem_map.mpr ⟨p,hp,of_decide_eq_true e⟩)
 rw[ww2,this,if_neg #[7]];unfold hoK;rw[map_append];rfl
noncomputable def hsF(ks:List Str)(fs:List (Nat×Nat))(i:Nat):Str:=match fs.find? λp=>decide (p.2=i) with|some p=>gd ks p.1|none => ""
theorem Ad4{i:Nat}(nf:(fs.map Prod.snd).Nodup)(h:(j,i)∈fs):fs.find? (λp=>decide (p.2=i))=some (j,i):=by
 induction fs with
 | nil=>cases h
 | cons p fs ih =>
   rw[map_cons,nodup_cons] at nf
   rw[find?_cons]
   rcases mem_cons.mp h with rfl|h
   ·rw[decide_eq_true rfl]
   ·rw[decide_eq_false λe=>nf.1 (by rw[e];exact mem_map.mpr ⟨_,h,rfl⟩)]
    exact ih nf.2 h
theorem Ad5{p q:Nat×Nat}(nk:(fs.map Prod.fst).Nodup)(hp:p∈fs)(hq:q∈fs)(e:p.1=q.1):p=q:=by
 induction fs with
 | nil=>cases hp
 | cons x fs ih =>
   rw[map_cons,nodup_cons] at nk
   rcases mem_cons.mp hp with e1|h1
   ·rcases mem_cons.mp hq with e2|h2
    ·rw[e1,e2]
    ·exact absurd (by rw[<-e1,e];exact mem_map.mpr ⟨q,h2,rfl⟩) nk.1
   ·rcases mem_cons.mp hq with e2|h2
    ·exact absurd (by rw[<-e2,<-e];exact mem_map.mpr ⟨p,h1,rfl⟩) nk.1
    ·exact ih nk.2 h1 h2
theorem xf6{f:Nat->Str}{i:Nat}(h:i<m):gd ((List.range m).map f) i=f i:=by
 unfold gd;rw[getD_eq_getElem?_getD,List.getElem?_map,List.getElem?_range h];rfl
theorem FS.srtS(f:FS m 0 ss fs)(hk:ks.Nodup)(hl:ks.length=m):Srt ks m ss ((List.range m).map (hsF ks fs)) (fs.map Prod.fst) m:=by
 have hs:∀i j,(j,i)∈fs->hsF ks fs i=gd ks j:=λi j h=>by unfold hsF;rw[Ad4 f.nf h]
 refine⟨f.l,by simp,f.srt,λi _ hi hf=>?_,λi hi h=>?_,λj hj=>?_,λi i' _ _ hi hi' hf hf' e=>?_,?_⟩
 ·obtain⟨j,h⟩:=f.al i (Nat.zero_le _) hi hf;obtain⟨a,b,c,d,e⟩:=f.ok _ h;exact⟨j,a,b,by rw[xf6 hi];exact hs i j h,e,mem_map.mpr ⟨_,h,rfl⟩⟩
 ·rw[xf6 hi];unfold hsF;cases e:fs.find? λp=>decide (p.2=i) with
  | none=>rfl
  | some p =>
    have hp:=mem_of_find?_eq_some e
    have e2:=find?_some e
    have e3:p.2=i:=of_decide_eq_true e2
    rcases h with h|h
    ·omega
    ·exact absurd (by rw[<-e3];exact(f.ok p hp).2.2.2.1) h
 ·obtain⟨p,hp,rfl⟩:=mem_map.mp hj;obtain⟨a,b,c,d,e⟩:=f.ok p hp;refine⟨b,e,p.2,a,by omega,d,?_⟩;rw[xf6 #[0]];exact hs _ _ hp
 ·rw[xf6 hi,xf6 hi'] at e;obtain⟨j,h⟩:=f.al i (Nat.zero_le _) hi hf;obtain⟨j',h'⟩:=f.al i' (Nat.zero_le _) hi' hf';rw[hs i j h,hs i' j' h'] at e;have o1:=(f.ok _ h).2.1;have o2:=(f.ok _ h').2.1;have ej:=zs2 hk (by rw[hl];exact o1) (by rw[hl];exact o2) e;have:=Ad5 f.nk h h' ej;exact congrArg Prod.snd this
 ·rw[length_map];have:=f.nf.length_le_of_subset (l₂:=List.range m) (l₁:=fs.map Prod.snd) λx hx=>by
   obtain⟨p,hp,rfl⟩:=mem_map.mp hx;have:=f.ok p hp;exact mem_range.mpr #[0]
  rw[length_map,length_range] at this;exact this
end
theorem But.put(b:But ps H H')(h:H p=none)(o:HO):But ps H (upd H' p o):=λc u e n=>by rw[A8 (N4 e h)];exact b c u e n
theorem But.own(b:But [p] H H')(o:HO):But [p] H (upd H' p o):=λc u e n=>by rw[A8 (λz=>n (by simp[z]))];exact b c u e n
theorem But.sameW(b:But ps H H')(s:A3 H' H2):But ps H H2:=λc u e n=>s c u (b c u e n)
inductive So(K:Fg)(H:Hp)(xa sa fr:Addr)(m L:Nat)(i:Nat):St->Hp->Prop
 | mk {H':Hp} {a4 a5:Option V} {ns:List Int} {ss:List Str} (b:But [xa] H H') (hx:H' xa=some (.lst (M7 ns))) (hl:ns.length+i=L) (hs:H' sa=some #[23,ss]) (hsl:ss.length=i) (h9:∀x∈ss,wl3 x) (hf:H' fr=some (.dK [])) :
  So K H xa sa fr m L i [some (.ref xa),some (.int m),some (.ref sa),some (.ref fr),a4,a5] H'
inductive Sf(K:Fg)(H:Hp)(xa sa fr:Addr)(m L:Nat)(i:Nat):St->Hp->Prop
 | mk {H':Hp} {a4 a5:Option V} {ns:List Int} {ss:List Str} {fs:List (Nat×Nat)} (b:But [xa] H H') (hx:H' xa=some (.lst (M7 ns))) (hl:L<=ns.length+m+i) (hu:ns.length<=1000) (hs:H' sa=some #[23,ss]) (hf:H' fr=some (.dK (frK fs))) (F:FS m (m-i) ss fs) (hkl:fs.length<=i) :
  Sf K H xa sa fr m L i [some (.ref xa),some (.int m),some (.ref sa),some (.ref fr),a4,a5] H'
abbrev xw1(K:Fg):TS :=
 (B8 (A0 4) (yg9 (A0 3) (tOp (D7 K) (A0 5) (tOp #[2] (xq4 K "list" xj5 (A0 0)) (tCB (J6 K) #[4,5]))) xr5))
abbrev xw2(K:Fg):TS :=
 (M4 (C1 (tOp (P7 K) (A0 5) (T2 A5)))
 (B8 (tC (.str "room")) (yg9 (A0 2) (A0 4) xr5)) (xw1 K))
abbrev xw3(K:Fg):TS :=
 (B1 (B8 (qr9 [some 3,some 2,none] (zc0 (A1 (tOp (C8 K) (A0 4) #[1,1]) #[4,1])) (A6 2) (xc1 (C1 (tOp (wa5 K false) (tOp (D7 K) (A0 1) (A0 2)) (Y1 (A1 (tC (.str "plain")) (A1 (tC (.str "frame")) A5))))) (C1 (tOp (wa5 K true) (A0 2) (A0 0)))) (A0 2)) (A6 5))
 (xw2 K))
def Ad6(K:Fg):TS :=
 (M4 (C1 (tOp (P7 K) (tOp (D7 K) (A0 2) (A0 4)) (tC (.str "frame"))))
 (xw3 K) J8)
variable{L:Nat}{fr sa xa:Addr}
theorem At0{i:Nat}(hm:m<=12)(hi:i<m)(hL:2*m<=L)(n0:H0 sa=none)(n1:H0 fr=none)(x1:∃ns,H0 xa=some (.lst (M7 ns)))(nsf:sa≠fr)(p:Sf K H0 xa sa fr m L i σ H)(q:∀σ' H',Sf K H0 xa sa fr m L (i+1) σ' H'->D.nx σ' H'):Ad6 K D (σ.set 4 (some (.int ((m:Int)-1-i)))) H:=by
 obtain⟨b,hx,hl,hu,hs,hf,F,hkl⟩:=p;rename_i a4 a5 ns ss fs;have hsl:=F.l;obtain⟨x1,hx1⟩:=x1;have nxs:xa≠sa:=λz=>by rw[z,n0] at hx1;cases hx1
 have nxf:xa≠fr:=λz=>by rw[z,n1] at hx1;cases hx1
 obtain⟨k,hk0⟩:∃k:Nat,(m:Int)-1-i=(k:Int):=⟨m-1-i,by omega⟩;rw[hk0];have hkm:k<m:=by omega
 have F:FS m (k+1) ss fs:=by rw[show k+1=m-i by omega];exact F
 show Ad6 K D [some (.ref xa),some (.int m),some (.ref sa),some (.ref fr),some (.int k),a5] H;unfold Ad6;lk;refine L8 (SqL.of hs) (qn8 (i:=k) #[0]) ?_;lk;by_cases e:gd ss k=("frame":Str)
 ·rw [decide_eq_true e];x_go;lk;refine zh8 #[0] #[0] #[0] (λj ys H'=>A3 H H'/\∃js:List Nat,ys=M7 (js.map λj:Nat=>(j:Int))/\js.length<=j/\∀x∈js,k<x/\x<m/\yy6 (gd ss x)/\x∉fs.map Prod.fst) ⟨λ_ _ e=>e,[],rfl,Nat.le_refl _,by simp⟩ ?_ ?_ ?_
  ·rintro j ys H' hj ⟨_,js,rfl,hjl,_⟩;rw[wx7,length_map];exact C7 #[0]
  ·rintro j ys H' hj ⟨s1,js,rfl,hjl,hjm⟩;obtain⟨j',hj'⟩:∃j':Nat,(k:Int)+1+(j:Int)=(j':Int):=⟨k+1+j,by omega⟩;rw[hj'];have hjm':j'<m:=by omega
   lk;refine L8 (SqL.of (s1 _ _ hs)) (qn8 (i:=j') #[0]) ?_;lk;refine⟨C7 (by z_go),λt ht=>?_⟩;have s2:=A3.tr s1 (A3.new ht (.tup [.str "plain",.str "frame"]));have e2:(upd H' t (.tup [.str "plain",.str "frame"])) t=some (.tup [.str "plain",.str "frame"]):=A2;refine .inl (yi6 (xs:=B0 [("plain":Str), "frame"]) (.inr (SqT.of e2)) rfl (W7 _) ?_);generalize upd H' t (.tup [.str "plain",.str "frame"])=H2 at *
   rw[qm3];lk;by_cases hpf:gd ss j'∈[("plain":Str), "frame"]
   rotate_left
   ·rw[decide_eq_false hpf];k_go;lk;exact⟨s2,js,rfl,by omega,hjm⟩
   ·rw[decide_eq_true hpf];x_go;lk;refine .inr ⟨fr,_,rfl,.inl ⟨frK fs,.inl (j':Int),.inl (s2 _ _ hf),rfl,rfl⟩,?_⟩;lk;rw[xp3];by_cases hjf:j'∈fs.map Prod.fst
    ·rw[decide_eq_true hjf];k_go;exact⟨s2,js,rfl,by omega,hjm⟩
    ·rw[decide_eq_false hjf];x_go;lk;refine⟨s2,js++[j'],by unfold M7;rw[map_append,map_append];rfl,by rw[length_append,length_singleton];omega,λx hx=>?_⟩;rcases mem_append.mp hx with h|h
     ·exact hjm x h
     ·rw[mem_singleton.mp h];refine⟨by omega,hjm',?_,hjf⟩;simp only[mem_cons,not_mem_nil,or_false] at hpf;exact hpf
  ·rintro ys H' ⟨s1,js,rfl,hjl,hjm⟩ p hp;have s2:=A3.tr s1 (A3.new hp (.lst (M7 (js.map λj:Nat=>(j:Int)))));have e2:(upd H' p (.lst (M7 (js.map λj:Nat=>(j:Int))))) p=some (.lst (M7 (js.map λj:Nat=>(j:Int)))):=A2;have hp0:H p=none:=none_of s1 hp;generalize upd H' p (.lst (M7 (js.map λj:Nat=>(j:Int))))=H2 at *
   lk;refine⟨C7 (by z_go),λe0 he0=>?_⟩;have s3:=A3.tr s2 (A3.new he0 (.lst []));have e3:(upd H2 e0 (.lst [])) e0=some (.lst []):=A2;have e2:(upd H2 e0 (.lst [])) p=some (.lst (M7 (js.map λj:Nat=>(j:Int)))):=by rw[A8 (N4 e2 he0)];exact e2
   generalize upd H2 e0 (.lst [])=H3 at *
   refine Af9 (ds:=zk0 (js.map λj:Nat=>(j:Int))) (Z7.mpr ⟨p,_,rfl,SqL.of e2,wx9.mpr rfl⟩) e3 ?_;have nxp:p≠xa:=λz=>by rw[z,hx] at hp0;cases hp0
   have nsp:p≠sa:=λz=>by rw[z,hs] at hp0;cases hp0
   lk;cases js with
   | nil =>
     x_go
     lk
     refine .inl (yw7 (s3 _ _ hs) (j:=k) (by unfold ixN;rw[if_pos #[0],if_pos (by rw[B2];omega)];simp) ?_)
     have es:(B0 ss).set k (.str "room")=B0 (ss.set k ("room":Str)):=by unfold B0;rw[map_set]
     refine q _ _ (.mk (ss:=ss.set k ("room":Str)) (But.put (But.sameW b s3) n0 _) (by rw[A8 nxs];exact s3 _ _ hx) #[0] hu (by rw[A2,<-es]) (by rw[A8 (Ne.symm nsf)];exact s3 _ _ hf) (by rw[show m-(i+1)=k by omega];exact F.room hkm) #[0])
   | cons j0 js =>
     k_go
     obtain⟨ms,y,rfl⟩:∃ms y,ns=ms++[y]:=by
      rcases eq_nil_or_concat ns with h|⟨a,c,h⟩
      ·rw[h] at hl;simp at hl;omega
      ·exact⟨a,c,by rw[h,concat_eq_append]⟩
     rw[length_append,length_singleton] at hl hu
     have ei:M7 (ms++[y])=M7 ms++[.int y]:=by unfold M7;rw[map_append];rfl
     lk
     refine⟨.inl ⟨rfl,_,SqL.of (s3 _ _ hx)⟩,?_⟩
     lk
     refine ye7 (xs:=M7 ms) (y:=.int y) (by rw[s3 _ _ hx,ei]) ?_
     have b4:But [xa] H0 (upd H3 xa (.lst (M7 ms))):=But.own (But.sameW b s3) _
     have g1:(upd H3 xa (.lst (M7 ms))) xa=some (.lst (M7 ms)):=A2
     have g2:(upd H3 xa (.lst (M7 ms))) p=some (.lst (M7 ((j0::js).map λj:Nat=>(j:Int)))):=by rw[A8 nxp];exact e2
     have g3:(upd H3 xa (.lst (M7 ms))) sa=some #[23,ss]:=by rw[A8 (Ne.symm nxs)];exact s3 _ _ hs
     have g4:(upd H3 xa (.lst (M7 ms))) fr=some (.dK (frK fs)):=by rw[A8 (Ne.symm nxf)];exact s3 _ _ hf
     generalize upd H3 xa (.lst (M7 ms))=H4 at *
     lk
     refine M6 (.inl (SqL.of g2)) ?_
     rw[wx7,length_map]
     have hlp:(0:Int)<((j0::js).length:Nat):=by rw[length_cons];omega
     refine zd2 hlp ?_
     have y0:=Int.emod_nonneg y (show(((j0::js).length:Nat):Int)≠0 by omega)
     have y1:=Int.emod_lt_of_pos y hlp
     generalize y % (((j0::js).length:Nat):Int)=r at *
     have hr:r.toNat<(j0::js).length:=by omega
     refine L8 (SqL.of g2) (v:=.int (((j0::js)[r.toNat]'hr:Nat):Int)) (ixI y0 (by unfold M7;rw[map_map,List.getElem?_map,List.getElem?_eq_getElem hr];rfl)) ?_
     have hjl:=hjm _ (List.getElem_mem hr)
     generalize (j0::js)[r.toNat]'hr=jj at *
     obtain⟨j1,j2,j3,j4⟩:=hjl
     refine .inr ⟨fr,_,rfl,yw1.k (k:=.inl (jj:Int)) g4 (by unfold frK;rw[length_map,sizeLine_eq];omega),?_⟩
     rw[Ad2 j4]
     exact q _ _ (.mk (fs:=fs++[(jj,k)]) (But.put b4 n1 _) (by rw[A8 nxf];exact g1) #[0] #[0] (by rw[A8 nsf];exact g3) A2 (by rw[show m-(i+1)=k by omega];exact F.host e j1 j2 j3 j4) (by rw[length_append,length_singleton];omega))
 ·rw[decide_eq_false e];k_go;lk;exact q _ _ (.mk b hx #[0] hu hs hf (by rw[show m-(i+1)=k by omega];exact F.skip e) #[0])
abbrev xw4(K:Fg):TS :=
 (D2 (tBM K "list" D9 (A0 2) (A1 (tOp (D7 K) (T2 (ye5 [("plain":Str),("anew":Str),("bare":Str),("room":Str),("frame":Str),("plain":Str),("anew":Str),("plain":Str)])) (tOp #[2] (xq4 K "list" xj5 (A0 0)) #[1,8])) A5)))
abbrev xw5(K:Fg):TS :=
 (B1 (qc8 (yi8 #[4,1]) (A6 4)
 (Ad6 K))
 (E1 (Y1 (A1 (A0 2) #[4,3]))))
abbrev xw6(K:Fg):TS :=
 (B1 (B8 yh8 (A6 3))
 (B1 (qc8 (wa1 #[4,1]) (A6 4)
 (xw4 K))
 (xw5 K)))
def ql7(K:Fg):Sp:=λvs H Q _=>∃(xa:Addr) (m:Nat) (ns:List Int),vs=[.ref xa,.int m]/\m<=12/\H xa=some (.lst (M7 ns))/\2*m<=ns.length/\ns.length<=1000/\∀(t sa fr:Addr) (ss:List Str) (fs:List (Nat×Nat)) (ns':List Int) (H':Hp),But [xa] H H'->H' xa=some (.lst (M7 ns'))->ns.length<=ns'.length+2*m->ns'.length<=1000->H' t=some (.tup [.ref sa,.ref fr])->H sa=none->H fr=none->sa≠fr->H' sa=some #[23,ss]->H' fr=some (.dK (frK fs))->FS m 0 ss fs->fs.length<=m->Q (.ref t) H'
def qq8(K:Fg):TS :=
 (B1 (B8 (T2 A5) (A6 2))
 (xw6 K))
theorem yb4(h:ql7 K vs H Q E):qq8 K {nx:=λ_ H'=>Q .non H',rt:=Q} (C3 ["_law_xs","_law_count","_law_sorts_here","_law_frames","_law_k","_law_able"] vs) H:=by
 obtain⟨xa,m,ns,rfl,hm,hx,hL,hu,q⟩:=h;show qq8 K _ [some (.ref xa),some (.int m),none,none,none,none] H;unfold qq8;lk;refine⟨C7 (by z_go),λsa hsa=>?_⟩;have s1:=A3.new hsa (.lst []);have e1:(upd H sa (.lst [])) sa=some (.lst []):=A2;generalize upd H sa (.lst [])=H1 at *
 lk;intro fr hfr;have s2:=A3.new hfr (.dK []);have e2:(upd H1 fr (.dK [])) fr=some (.dK []):=A2;have nsf:sa≠fr:=N4 e1 hfr;have hfr0:H fr=none:=none_of s1 hfr;have e1:=s2 _ _ e1;generalize upd H1 fr (.dK [])=H2 at *
 have s12:=A3.tr s1 s2;have nxs:xa≠sa:=λz=>by rw[z,hsa] at hx;cases hx
 have nxf:xa≠fr:=λz=>by rw[z,hfr0] at hx;cases hx
 lk;refine qs0 #[0] #[0] (So K H xa sa fr m ns.length) (.mk (λc u e _=>s12 c u e) (s12 _ _ hx) #[0] (ss:=[]) e1 rfl (λx hx=>by cases hx) e2) ?_ ?_
 ·rintro i σ H' hi ⟨b,hx',hl,hs,hsl,h9,hf⟩;rename_i a4 a5 ns' ss;obtain⟨ms,y,rfl⟩:∃ms y,ns'=ms++[y]:=by
   rcases eq_nil_or_concat ns' with h|⟨a,c,h⟩
   ·rw[h] at hl;simp at hl;omega
   ·exact⟨a,c,by rw[h,concat_eq_append]⟩
  rw[length_append,length_singleton] at hl;lk;refine⟨.inl ⟨rfl,_,SqL.of hs⟩,?_⟩;lk;refine⟨C7 (by rw[B2];decide),λc hc=>?_⟩;have s3:=A3.new hc (.lst (B0 [("plain":Str), "anew","bare","room","frame","plain","anew","plain"]));have e3:(upd H' c (.lst (B0 [("plain":Str), "anew","bare","room","frame","plain","anew","plain"]))) c=some (.lst (B0 [("plain":Str), "anew","bare","room","frame","plain","anew","plain"])):=A2;have nxc:c≠xa:=λz=>by rw[z,hx'] at hc;cases hc
  have nsc:c≠sa:=λz=>by rw[z,hs] at hc;cases hc
  generalize upd H' c (.lst (B0 [("plain":Str), "anew","bare","room","frame","plain","anew","plain"]))=H3 at *
  lk;refine⟨.inl ⟨rfl,_,SqL.of (s3 _ _ hx')⟩,?_⟩;lk;have ei:M7 (ms++[y])=M7 ms++[.int y]:=by unfold M7;rw[map_append];rfl
  refine ye7 (xs:=M7 ms) (y:=.int y) (by rw[s3 _ _ hx',ei]) ?_;lk;have hy0:=Int.emod_nonneg y (show(8:Int)≠0 by decide);have hy1:=Int.emod_lt_of_pos y (show(0:Int)<8 by decide);have hj:(y % 8).toNat < [("plain":Str), "anew","bare","room","frame","plain","anew","plain"].length:=by show _<8;omega
  refine L8 (SqL.of (by rw[A8 nxc];exact e3)) (v:=.str ([("plain":Str), "anew","bare","room","frame","plain","anew","plain"][(y % 8).toNat])) (ixI hy0 (by unfold B0;rw[List.getElem?_map,List.getElem?_eq_getElem hj];rfl)) ?_;have hw:wl3 [("plain":Str), "anew","bare","room","frame","plain","anew","plain"][(y % 8).toNat]:=by
   have:∀x∈[("plain":Str), "anew","bare","room","frame","plain","anew","plain"],wl3 x:=by unfold wl3;decide
   exact this _ (List.getElem_mem hj)
  generalize [("plain":Str), "anew","bare","room","frame","plain","anew","plain"][(y % 8).toNat]=w at *
  lk;refine E7 (xs:=B0 ss) (by rw[A8 (Ne.symm nxs)];exact s3 _ _ hs) (by rw[B2,sizeLine_eq];omega) ?_;lk;exact .mk (ns:=ms) (ss:=ss++[w]) (But.put (But.own (But.sameW b s3) _) hsa _) (by rw[A8 nxs];exact A2) #[0] (by rw[A2];unfold B0;rw[map_append];rfl) (by rw[length_append,length_singleton];omega) (λx hx=>(mem_append.mp hx).elim (h9 x) λh=>by rw[mem_singleton.mp h];exact hw) (by rw[A8 (Ne.symm nsf),A8 (Ne.symm nxf)];exact s3 _ _ hf)
 ·rintro σ H' ⟨b,hx',hl,hs,hsl,h9,hf⟩;rename_i a4 a5 ns' ss;rw[Int.toNat_natCast] at hl hsl;lk;refine zd3 #[0] (Sf K H xa sa fr m ns.length) (.mk (fs:=[]) b hx' #[0] #[0] hs hf (FS.nil hsl h9) (Nat.zero_le _)) (λi σ H' hi p=>?_) ?_
  ·lk;exact At0 hm hi hL hsa hfr0 ⟨_,hx⟩ nsf p λσ' H' p'=>p'
  ·rintro σ H' ⟨b,hx',hl,hu',hs,hf,F,hkl⟩;rename_i a4 a5 ns' ss fs;rw[Nat.sub_self] at F;lk;refine⟨C7 (by z_go),λt ht=>?_⟩;have s3:=A3.new ht (.tup [.ref sa,.ref fr]);exact q t sa fr ss fs ns' _ (But.sameW b s3) (s3 _ _ hx') #[0] hu' A2 hsa hfr0 nsf (s3 _ _ hs) (s3 _ _ hf) F hkl
inductive Pkd(K:Fg)(H:Hp)(a d:Addr)(ks:List Str)(i:Nat):St->Hp->Prop
 | mk {H':Hp} {x:Int} {a3:Option V} {zs:List Str} (s:A3 H H') (e:H' d=some #[23,zs]) (h:zs.length<=i) (hm:∀z∈zs,z∈ks):Pkd K H a d ks i [some (.ref a),some (.int x),some (.ref d),a3] H'
abbrev xm6(K:Fg):TS :=
 (B1 (M4 (C1 (tOp (P7 K) (tOp #[2] (A0 1) #[1,4]) #[1,0]))
 (D2 (tBM K "list" D9 (A0 2) #[4,3])) J8)
 (B8 (tOp #[13] (A0 1) #[1,4]) (A6 1)))
abbrev xm7(K:Fg):TS :=
 (B1 (qc8 (qy3 K (A0 0)) (A6 3)
 (xm6 K))
 (E1 (tCB (ql3 K) (A1 (tCB (xr2 K) #[4,2]) A5))))
def Y7(K:Fg):Sp:=λvs H Q _=>∃(a:Addr) (ks:List Str) (x:Int),vs=[.ref a,.int x]/\H a=some #[23,ks]/\ks.length<=12/\∀(p:Addr) (zs:List Str) (H':Hp),A3 H H'->H' p=some (.tup (B0 zs))->(∀z∈zs,z∈ks)->zs.length<=12->Q (.ref p) H'
def qd6(K:Fg):TS :=
 (B1 (B8 (T2 A5) (A6 2))
 (xm7 K))
theorem xw8(h:Y7 K vs H Q E):qd6 K {nx:=λ_ H'=>Q .non H',rt:=Q} (C3 ["_law_names_here","_law_x","_law_picked_here","_law_name"] vs) H:=by
 obtain⟨a,ks,x,rfl,ha,hl,q⟩:=h;show qd6 K _ [some (.ref a),some (.int x),none,none] H;unfold qd6;lk;refine⟨C7 (by z_go),λd hd=>?_⟩;have s1:=A3.new hd (.lst []);have e1:(upd H d (.lst [])) d=some (.lst []):=A2;generalize upd H d (.lst [])=H1 at *
 lk;have hkl:=B2 ks;refine wx8 (.inl (SqL.of ha)) s1 (Pkd K H a d ks) (.mk s1 (zs:=[]) e1 #[6] (by simp)) (λi σ H' p=>by cases p with|mk s e h hm=>exact s) ?_ ?_
 ·rintro i y σ H' hy ⟨s,e,h,hm⟩;rename_i x a3 zs;have hil:i<(B0 ks).length:=(List.getElem?_eq_some_iff.mp hy).1;obtain⟨z,hz,rfl⟩:∃z,ks[i]?=some z/\V.str z=y:=by
   unfold B0 at hy;rw[List.getElem?_map] at hy;exact Option.map_eq_some_iff.mp hy
  lk;by_cases hx:x % 4=0
  ·rw[decide_eq_true hx];x_go;lk;refine⟨.inl ⟨rfl,_,SqL.of e⟩,?_⟩;lk;refine E7 e (by rw[B2,sizeLine_eq];omega) ?_;lk;exact .mk (zs:=zs++[z]) (A3.put s hd _) (by rw[A2];unfold B0;rw[map_append];rfl) (by rw[length_append,length_singleton];omega) (λy hy=>(mem_append.mp hy).elim (hm y) λh=>by rw[mem_singleton.mp h];exact mem_of_getElem? hz)
  ·rw[decide_eq_false hx];k_go;lk;exact .mk (zs:=zs) s e #[0] hm
 ·rintro σ H' ⟨s,e,h,hm⟩;rename_i x a3 zs;lk;refine⟨d,zs,rfl,SqL.of e,by omega,λl ys hp _ hl2=>?_⟩;lk;refine⟨l,_,rfl,.inl ⟨SqL.of A2,λp hp2=>?_⟩⟩;exact q p ys _ (A3.tr s (A3.tr (A3.new hl2 _) (A3.new hp2 _))) A2 (λz hz=>hm z (hp.mem_iff.mp hz)) (by rw[hp.length_eq];omega)
variable{S:List Str}
theorem Ad7{Hs:List Str}{T:List Nat}{l:List Row}(hnd:names.Nodup)(hne:∀x∈names,x≠("":Str))(hcn:c<=names.length)(hn12:names.length<=12)(h1:1<=c)(g:Srt names c S Hs T c)(p:rs.Perm l)(hl:l.length=c)(ra:∀j r,l[j]?=some r->RA names S Hs T c j r):Boo rs:=by
 have at_:∀r∈rs,∃j,j<c/\RA names S Hs T c j r/\l[j]?=some r:=λr hr=>by
  obtain⟨j,hj,e⟩:=List.getElem_of_mem (p.mem_iff.mp hr);have e2:l[j]?=some r:=by rw[List.getElem?_eq_getElem hj,e]
  exact⟨j,by omega,ra j r e2,e2⟩
 have lp:=p.length_eq;refine⟨by omega,by omega,?_,λr hr=>?_,⟨names.idxOf,λr hr=>?_,λr hr hf=>?_⟩,λr hr hf=>?_,λr hr r' hr' hf hf' e=>?_,λr hr=>?_,λr hr x hx f hf hs e=>?_⟩
 ·refine(p.map _).nodup_iff.mpr ?_;have e:l.map (·.name)=names.take c:=by
   apply ext_getElem?;intro i;rw[List.getElem?_map,List.getElem?_take];by_cases hi:i<c
   ·have e1:l[i]?=some l[i]:=List.getElem?_eq_getElem #[0];rw[if_pos hi,e1,wl4 #[0]];show some (l[i].name)=_;rw[(ra i _ e1).name]
   ·rw[if_neg hi,List.getElem?_eq_none_iff.mpr #[0]];rfl
  rw[e];exact hnd.sublist (take_sublist _ _)
 ·obtain⟨j,hj,R,_⟩:=at_ r hr;rw[R.name];exact hne _ (wt8 #[0])
 ·obtain⟨j,hj,R,_⟩:=at_ r hr;rw[R.name];show names.idxOf (gd names j)<12;rw[yy7 hnd #[0]];omega
 ·obtain⟨i,hi,R,_⟩:=at_ r hr;obtain⟨j,h1,h2,h3,h4,_⟩:=g.host i hi hi (by rw[<-R.sort];exact hf);have ej:l[j]?=some l[j]:=List.getElem?_eq_getElem #[0];have Rj:=ra j _ ej;refine⟨⟨l[j],p.mem_iff.mpr (mem_of_getElem? ej),?_,by rw[Rj.sort];exact h4⟩,?_⟩
  ·rw[Rj.name,R.host,h3]
  ·rw[R.name,R.host,h3];show names.idxOf (gd names i)<names.idxOf (gd names j);rw[yy7 hnd #[0],yy7 hnd #[0]];exact h1
 ·obtain⟨i,hi,R,_⟩:=at_ r hr;rw[R.host];exact g.no i hi (.inr (by rw[<-R.sort];exact hf))
 ·obtain⟨i,hi,R,_⟩:=at_ r hr;obtain⟨j,hj,R',_⟩:=at_ r' hr';have:=g.uq i j hi hj hi hj (by rw[<-R.sort];exact hf) (by rw[<-R'.sort];exact hf') (by rw[<-R.host,<-R'.host];exact e);rw[R.name,R'.name,this]
 ·obtain⟨i,hi,R,_⟩:=at_ r hr;rw[R.sort];exact g.srt _ (wt8 (by rw[g.ls];exact hi))
 ·obtain⟨i,hi,R,_⟩:=at_ r hr;obtain⟨j,hj,Rf,_⟩:=at_ f hf;obtain⟨m,hm,hmT,rfl⟩:=R.sh x hx;obtain⟨k,_,hk,e2,_,hkT⟩:=g.host j hj hj (by rw[<-Rf.sort];exact hs);rw[Rf.host,e2] at e;have:=zs2 hnd #[0] #[0] e;subst this;exact hmT hkT
structure RW(ks ss:List Str)(fs:List (Nat×Nat))(j:Nat)(r:Row):Prop where
 a:RA ks ss ((List.range ks.length).map (hsF ks fs)) (fs.map Prod.fst) ks.length j r
 s:r.shuts.length<=12
 b:r.bars.length<=12
structure Bst(K:Fg)(H0 H:Hp)(na xa sa fr ho:Addr)(ks ss:List Str)(fs:List (Nat×Nat))(c:Nat):Prop where
 keep:A3 H0 H
 nx:H0 xa=none
 nn:xa≠na
 ns:xa≠sa
 nf:xa≠fr
 nh:xa≠ho
 hn:H na=some #[23,ks]
 hs:H sa=some #[23,ss]
 hf:Rd H fr (.dK (frK fs))
 hh:H ho=some (.dK (hoK fs))
 F:FS ks.length 0 ss fs
 hx:∃ns:List Int,H xa=some (.lst (M7 ns))/\c<=ns.length
 hl:ss.length=ks.length
 nd:ks.Nodup
 h9:∀x∈ks,P9 x
 h12:ks.length<=12
 h1:1<=ks.length
variable{ho na:Addr}
theorem Bst.same{fs:List (Nat×Nat)}(b:Bst K H0 H na xa sa fr ho ks ss fs c)(s:A3 H H'):Bst K H0 H' na xa sa fr ho ks ss fs c :=
 {b with keep:=A3.tr b.keep s,hn:=s _ _ b.hn,hs:=s _ _ b.hs,hf:=b.hf.elim (λh=>.inl (s _ _ h)) (λ⟨o,h⟩=>.inr ⟨o,s _ _ h⟩),hh:=s _ _ b.hh,hx:=(let ⟨ns,h,r⟩:=b.hx;⟨ns,s _ _ h,r⟩)}
theorem Bst.pop{fs:List (Nat×Nat)}(b:Bst K H0 H na xa sa fr ho ks ss fs (c+1))(q:∀(y:Int) (H':Hp),Bst K H0 H' na xa sa fr ho ks ss fs c->But [xa] H H'->Q' (.int y) H'):xj5 (.ref xa) [] H Q':=by
 obtain⟨ns,hx,hc⟩:=b.hx;obtain⟨ms,y,rfl⟩:∃ms y,ns=ms++[y]:=by
  rcases eq_nil_or_concat ns with h|⟨a,d,h⟩
  ·rw[h] at hc;simp at hc
  ·exact⟨a,d,by rw[h,concat_eq_append]⟩
 rw[length_append,length_singleton] at hc;have ei:M7 (ms++[y])=M7 ms++[.int y]:=by unfold M7;rw[map_append];rfl
 refine ye7 (xs:=M7 ms) (y:=.int y) (by rw[hx,ei]) (q y _ ?_ λc u e n=>by rw[A8 (λz=>n (by simp[z]))];exact e);exact{b with keep:=A3.put b.keep b.nx _,hn:=by rw[A8 (Ne.symm b.nn)];exact b.hn,hs:=by rw[A8 (Ne.symm b.ns)];exact b.hs,hf:=(by have h:=b.hf;unfold Rd at h ⊢;rw[A8 (Ne.symm b.nf)];exact h),hh:=(by rw[A8 (Ne.symm b.nh)];exact b.hh),hx:=⟨ms,A2,by omega⟩}
abbrev yb5(K:Fg):TS :=
 (E1 (tCB (ql3 K) (A1 (tOp (C8 K) (tSl (qu8 K) (A0 11) (O9 (A0 14)) U9) (tSl (qu8 K) (A0 11) U9 (O9 (A0 14)))) A5)))
def An3(K:Fg):TS :=
 (B1 (B8 (tOp #[2] (xq4 K "list" xj5 (A0 3)) (A0 2)) (A6 14))
 (yb5 K))
def An4(K:Fg):TS :=
 (D2 (tBM K "list" D9 (A0 11) (A1 (Y1 (A1 (tOp (D7 K) (A0 1) (A0 12)) (A1 (tOp (D7 K) (A0 4) (A0 12)) (A1 (A0 7) (A1 (A0 13) (A1 (B9 (Y7 K) [] E0 (A1 (A0 9) (A1 (tOp (C8 K) (tOp qv4 (xq4 K "list" xj5 (A0 3)) #[1,3]) #[1,1]) A5))) A5)))))) A5)))
abbrev yb6(K:Fg):TS :=
 (B1 (M4 (C1 (tOp (wa5 K false) (A0 12) (A0 5)))
 (B8 (Y1 A5) (A6 13)) J8)
 (An4 K))
def An5(K:Fg):TS :=
 (B1 (B8 (B9 (Y7 K) [] E0 (A1 (A0 10) (A1 (xq4 K "list" xj5 (A0 3)) A5))) (A6 13))
 (yb6 K))
abbrev yb7(K:Fg):TS :=
 (B1 (M4 (C1 (tOp (wa5 K false) (A0 12) (A0 6)))
 (B8 (tOp (D7 K) (A0 1) (zn7 (A0 6) (A0 12))) (A6 7)) J8)
 (An5 K))
def An6(K:Fg):TS :=
 (B1 (B8 (tC (.str "")) (A6 7))
 (yb7 K))
abbrev yb8(K:Fg):TS :=
 (B1 (qc8 (wa1 #[4,2]) (A6 12)
 (An6 K))
 (An3 K))
abbrev yb9(K:Fg):TS :=
 (B1 (B8 (qr9 [some 1,some 5,some 4,none] (wa1 #[4,2]) (A6 3) (xc1 (C1 (tOp (wa5 K false) (tOp (D7 K) (A0 2) (A0 3)) (Y1 (A1 (tC (.str "plain")) (A1 (tC (.str "anew")) A5))))) (C1 (tOp (wa5 K true) (A0 3) (A0 1)))) (tOp (D7 K) (A0 0) (A0 3))) (A6 10))
 (B1 (B8 (T2 A5) (A6 11))
 (yb8 K)))
def An7(K:Fg):TS :=
 (B1 (B8 (qr9 [some 1,some 4,none] (wa1 #[4,2]) (A6 2) (C1 (tOp (wa5 K false) (tOp (D7 K) (A0 1) (A0 2)) (Y1 (A1 (tC (.str "plain")) (A1 (tC (.str "anew")) A5))))) (tOp (D7 K) (A0 0) (A0 2))) (A6 9))
 (yb9 K))
theorem xf7(n:Nat)(h:n<=xs.length):qe8 xs (some (n:Int)) none=xs.drop n:=by
 unfold qe8;rw[HT.R5];show(xs.drop (min n xs.length)).take (xs.length-min n xs.length)=_;rw[Nat.min_eq_left h,take_of_length_le (by rw[length_drop];exact Nat.le_refl _)]
theorem zl2(n:Nat)(h:n<=xs.length):qe8 xs none (some (n:Int))=xs.take n:=by
 unfold qe8;rw[HT.R5];show(xs.drop 0).take (min n xs.length-0)=_;rw[Nat.min_eq_left h,drop_zero,Nat.sub_zero]
theorem Dvs.drop'(h:Dvs K H ds vs)(n:Nat):Dvs K H (ds.drop n) (vs.drop n) :=
 xi7 (by rw[length_drop,length_drop,h.length]) λi d v hd hv=>by
  rw[List.getElem?_drop] at hd hv;obtain⟨w,hw,dw⟩:=h.get hd;rw[hv] at hw;cases hw;exact dw
theorem Dvs.take'(h:Dvs K H ds vs)(n:Nat):Dvs K H (ds.take n) (vs.take n) :=
 xi7 (by rw[length_take,length_take,h.length]) λi d v hd hv=>by
  rw[List.getElem?_take] at hd hv;split at hd
  ·rename_i hi;rw[if_pos hi] at hv;obtain⟨w,hw,dw⟩:=h.get hd;rw[hv] at hw;cases hw;exact dw
  ·cases hd
variable{a13 a14 a7 a8:Option V}{rw_:Addr}
theorem At1{a:Addr}{fs:List (Nat×Nat)}{rvs:List V}{a9 a10 a12:Option V}(b:Bst K H0 H na xa sa fr ho ks ss fs 1)(hr:H rw_=some (.lst rvs))(nr:xa≠rw_)(hd:Dvs K H (rs.map Row.da) rvs)(hk:rs.length=ks.length)(hR:∀j r,rs[j]?=some r->RW ks ss fs j r)(q:∀(bv:V) (rs:List Row) (H':Hp),A3 H0 H'->BkO K H' bv rs->Boo rs->(1<=rs.length/\rs.length<=12)->(∀r∈rs,r.name.length<=9/\r.shuts.length<=12/\r.bars.length<=12)->D.rt bv H') :
 An3 K D [some (.ref a),some (.ref na),some (.int (ks.length:Int)),some (.ref xa),some (.ref sa),some (.ref fr),some (.ref ho),a7,a8,a9,a10,some (.ref rw_),a12,a13,a14] H:=by
 have h1:=b.h1
 have hrl:rvs.length=ks.length:=by rw[hd.length,length_map,hk]
 obtain⟨ns,hx,_⟩:=b.hx
 unfold An3
 lk
 refine⟨.inl ⟨rfl,_,SqL.of hx⟩,?_⟩
 lk
 refine b.pop λy H1 b1 k1=>?_
 have hlp:(0:Int)<(ks.length:Int):=by omega
 lk
 have y0:=Int.emod_nonneg y (show(ks.length:Int)≠0 by omega)
 have y1:=Int.emod_lt_of_pos y hlp
 obtain⟨t,ht⟩:∃t:Nat,y % (ks.length:Int)=(t:Int):=⟨(y % (ks.length:Int)).toNat,by omega⟩
 rw[ht]
 have hr1:H1 rw_=some (.lst rvs):=k1 _ _ hr (by simpa using Ne.symm nr)
 have hd1:Dvs K H1 (rs.map Row.da) rvs:=Dvs.tupK ⟨λc zs e=>k1 _ _ e (λz=>by rw[mem_singleton.mp z,hx] at e;cases e),λc o zs e=>k1 _ _ e (λz=>by rw[mem_singleton.mp z,hx] at e;cases e)⟩ _ _ (E3 Row.fix _) hd
 refine wx1 (SqL.of hr1) λp1 hp1=>?_
 rw[xf7 _ #[0]]
 have s2:=A3.new hp1 (.lst (rvs.drop t))
 have e2:(upd H1 p1 (.lst (rvs.drop t))) p1=some (.lst (rvs.drop t)):=A2
 generalize upd H1 p1 (.lst (rvs.drop t))=H2 at *
 lk
 refine wx1 (SqL.of (s2 _ _ hr1)) λp2 hp2=>?_
 rw[zl2 _ #[0]]
 have s3:=A3.new hp2 (.lst (rvs.take t))
 have e3:(upd H2 p2 (.lst (rvs.take t))) p2=some (.lst (rvs.take t)):=A2
 have e2:=s3 _ _ e2
 generalize upd H2 p2 (.lst (rvs.take t))=H3 at *
 lk
 refine yo9 e2 e3 (by rw[length_drop,length_take,hrl,sizeLine_eq];have:=b.h12;omega) λp3 hp3=>?_
 lk
 refine⟨p3,_,rfl,.inl ⟨SqL.of A2,λp4 hp4=>?_⟩⟩
 have s4:=A3.tr s2 (A3.tr s3 (A3.tr (A3.new hp3 (.lst (rvs.drop t++rvs.take t))) (A3.new hp4 (.tup (rvs.drop t++rvs.take t)))))
 have hperm:(rs.drop t++rs.take t).Perm rs:=by
  have:=perm_append_comm (l₁:=rs.drop t) (l₂:=rs.take t)
  rwa [take_append_drop] at this
 have hat:∀r∈rs.drop t++rs.take t,∃j,RW ks ss fs j r/\j<ks.length:=λr hr=>by
  obtain⟨j,hj⟩:=mem_iff_getElem?.mp (hperm.mem_iff.mp hr);exact⟨j,hR j r hj,by have:=(List.getElem?_eq_some_iff.mp hj).1;omega⟩
 refine q (.ref p4) (rs.drop t++rs.take t) _ (A3.tr b1.keep s4) ⟨p4,_,rfl,SqT.of A2,?_⟩ (Ad7 b.nd (λx hx e=>?_) #[6] b.h12 h1 (b.F.srtS b.nd rfl) hperm hk λj r hj=>(hR j r hj).a) (by have:=b.h12;rw[hperm.length_eq];omega) (λr hr=>?_)
 ·rw[map_append,map_drop,map_take]
  exact Dvs.same s4 _ _ (Dvs.append (Dvs.drop' hd1 t) (Dvs.take' hd1 t))
 ·have h9:1<=x.length:=(b.h9 x hx).1
  rw[e] at h9
  exact absurd h9 #[7]
 ·obtain⟨j,h,hj⟩:=hat r hr
  refine⟨?_,h.s,h.b⟩
  rw[h.a.name]
  exact(b.h9 _ (wt8 hj)).2
structure Rwl(K:Fg)(H0 H:Hp)(xa rw_ ab fe:Addr)(ks ss:List Str)(fs:List (Nat×Nat))(k:Nat):Prop where
 nr:xa≠rw_
 n0:H0 rw_=none
 na:xa≠ab
 nf:xa≠fe
 ra:rw_≠ab
 rf:rw_≠fe
 hr:∃rvs rs,H rw_=some (.lst rvs)/\Dvs K H (List.map Row.da rs) rvs/\rs.length=k/\∀j r,rs[j]?=some r->RW ks ss fs j r
 ha:∃zs:List Str,H ab=some #[23,zs]/\zs.length<=12
 hf:∃zs:List Str,H fe=some #[23,zs]/\zs.length<=12/\∀z∈zs,∃i,i<ks.length/\i∉fs.map Prod.fst/\z=gd ks i
variable{ab fe:Addr}
theorem Rwl.same{fs:List (Nat×Nat)}{k:Nat}(b:Rwl K H0 H xa rw_ ab fe ks ss fs k)(s:A3 H H'):Rwl K H0 H' xa rw_ ab fe ks ss fs k :=
 {b with hr:=(let ⟨rvs,rs,h,d,e⟩:=b.hr;⟨rvs,rs,s _ _ h,Dvs.same s _ _ d,e⟩),ha:=(let ⟨z,h,l⟩:=b.ha;⟨z,s _ _ h,l⟩),hf:=(let ⟨z,h,l⟩:=b.hf;⟨z,s _ _ h,l⟩)}
theorem yg1(b:But [p] H H')(h:H p=some (.lst xs)):R6 H H' :=
 ⟨λc zs e=>b _ _ e (λz=>by rw[mem_singleton.mp z,h] at e;cases e),λc o zs e=>b _ _ e (λz=>by rw[mem_singleton.mp z,h] at e;cases e)⟩
theorem Rwl.but{fs:List (Nat×Nat)}{k:Nat}(b:Rwl K H0 H xa rw_ ab fe ks ss fs k)(s:But [xa] H H')(hx:H xa=some (.lst xs)):Rwl K H0 H' xa rw_ ab fe ks ss fs k :=
 {b with hr:=(let ⟨rvs,rs,h,d,e⟩:=b.hr;⟨rvs,rs,s _ _ h (by simpa using Ne.symm b.nr),Dvs.tupK (yg1 s hx) _ _ (E3 Row.fix _) d,e⟩),ha:=(let ⟨z,h,l⟩:=b.ha;⟨z,s _ _ h (by simpa using Ne.symm b.na),l⟩),hf:=(let ⟨z,h,l⟩:=b.hf;⟨z,s _ _ h (by simpa using Ne.symm b.nf),l⟩)}
variable{h:Str}
theorem Ag5{a sh:Addr}{zs:List Str}{fs:List (Nat×Nat)}{k:Nat}(b:Bst K H0 H na xa sa fr ho ks ss fs (c+1))(r:Rwl K H0 H xa rw_ ab fe ks ss fs k)(hk:k<ks.length)(nsr:sa≠rw_)(nnr:na≠rw_)(nfr:fr≠rw_)(nhr:ho≠rw_)(hsh:SqT K H sh (B0 zs))(hzl:zs.length<=12)(hzs:∀z∈zs,∃i,i<ks.length/\i∉fs.map Prod.fst/\z=gd ks i)(hh9:h=hsF ks fs k)(q:∀(σ':St) (H':Hp),Bst K H0 H' na xa sa fr ho ks ss fs c->Rwl K H0 H' xa rw_ ab fe ks ss fs (k+1)->σ'=[some (.ref a),some (.ref na),some (.int (ks.length:Int)),some (.ref xa),some (.ref sa),some (.ref fr),some (.ref ho),some (.str h),a8,some (.ref ab),some (.ref fe),some (.ref rw_),some (.int k),some (.ref sh),a14]->D.nx σ' H') :
 An4 K D [some (.ref a),some (.ref na),some (.int (ks.length:Int)),some (.ref xa),some (.ref sa),some (.ref fr),some (.ref ho),some (.str h),a8,some (.ref ab),some (.ref fe),some (.ref rw_),some (.int k),some (.ref sh),a14] H:=by
 have hsl:=b.hl
 obtain⟨ns,hx,_⟩:=b.hx
 obtain⟨rvs0,rs0,hr0,_,_⟩:=r.hr
 unfold An4
 lk
 refine⟨.inl ⟨rfl,_,SqL.of hr0⟩,?_⟩
 lk
 refine L8 (SqL.of b.hn) (qn8 (i:=k) hk) ?_
 lk
 refine L8 (SqL.of b.hs) (qn8 (i:=k) #[0]) ?_
 lk
 refine⟨.inl ⟨rfl,_,SqL.of hx⟩,?_⟩
 refine b.pop λy H1 b1 k1=>?_
 have r1:=r.but k1 hx
 have hsh1:SqT K H1 sh (B0 zs):=(yg1 k1 hx).sqT hsh
 lk
 refine qs1 (.inr ⟨by decide,by decide⟩) ?_
 lk
 obtain⟨az,ha,hal⟩:=r1.ha
 refine⟨ab,az,_,rfl,ha,hal,λp pz H2 s2 hp _ hpl=>?_⟩
 have b2:=b1.same s2
 have r2:=r1.same s2
 have hsh2:=s2.sqT hsh1
 lk
 refine⟨C7 (by z_go),λt ht=>?_⟩
 have s3:=A3.new ht (.tup [.str (gd ks k),.str (gd ss k),.str h,.ref sh,.ref p])
 have e3:(upd H2 t (.tup [.str (gd ks k),.str (gd ss k),.str h,.ref sh,.ref p])) t=some (.tup [.str (gd ks k),.str (gd ss k),.str h,.ref sh,.ref p]):=A2
 generalize upd H2 t (.tup [.str (gd ks k),.str (gd ss k),.str h,.ref sh,.ref p])=H3 at *
 have b3:=b2.same s3
 have r3:=r2.same s3
 have hp3:=s3 _ _ hp
 have hsh3:=s3.sqT hsh2
 have hdv:Dv K H3 (Row.da ⟨gd ks k,gd ss k,h,zs,pz⟩) (.ref t):=by
  unfold Row.da;exact C6.mpr ⟨t,_,rfl,SqT.of e3,C0 (D6.mpr rfl) (C0 (D6.mpr rfl) (C0 (D6.mpr rfl) (C0 (C6.mpr ⟨sh,_,rfl,hsh3,qp7.mpr rfl⟩) (C0 (C6.mpr ⟨p,_,rfl,SqT.of hp3,qp7.mpr rfl⟩) E4))))⟩
 lk
 obtain⟨rvs,rs,hr,hd,hn,hR⟩:=r3.hr
 have hrl:rvs.length=k:=by rw[hd.length,length_map,hn]
 refine E7 hr (by rw[hrl,sizeLine_eq];have:=b.h12;omega) ?_
 have tk:=wx6 (ys:=rvs++[.ref t]) hr
 lk
 refine q _ _ ?_ ?_ rfl
 ·exact{b3 with keep:=A3.put b3.keep r.n0 _,hn:=by rw[A8 nnr];exact b3.hn,hs:=by rw[A8 nsr];exact b3.hs,hf:=(by have g:=b3.hf;unfold Rd at g ⊢;rw[A8 nfr];exact g),hh:=(by rw[A8 nhr];exact b3.hh),hx:=(let ⟨ns,g,e⟩:=b3.hx;⟨ns,by rw[A8 r.nr];exact g,e⟩)}
 ·refine{r3 with hr:=⟨_,rs++[⟨gd ks k,gd ss k,h,zs,pz⟩],A2,?_,?_⟩,ha:=(let ⟨z,g,l⟩:=r3.ha;⟨z,by rw[A8 (Ne.symm r.ra)];exact g,l⟩),hf:=(let ⟨z,g,l⟩:=r3.hf;⟨z,by rw[A8 (Ne.symm r.rf)];exact g,l⟩)}
  ·rw[map_append]
   exact Dvs.append (Dvs.tupK tk _ _ (E3 Row.fix _) hd) (Dvs.one (Dv.tupK tk _ _ (Row.fix _) hdv))
  ·refine⟨by rw[length_append,hn];rfl,λj r hj=>?_⟩
   by_cases hj2:j<rs.length
   ·rw[List.getElem?_append_left hj2] at hj;exact hR j r hj
   ·rw[List.getElem?_append_right #[0]] at hj
    have e0:j-rs.length=0:=by
     have:=(List.getElem?_eq_some_iff.mp hj).1;simp at this;omega
    rw[e0] at hj
    have:j=k:=by omega
    subst this
    cases hj
    exact⟨⟨hzs,rfl,rfl,by rw[xf6 hk];exact hh9⟩,hzl,hpl⟩
theorem Ag6{a:Addr}{fs:List (Nat×Nat)}{k:Nat}(b:Bst K H0 H na xa sa fr ho ks ss fs (c+2))(r:Rwl K H0 H xa rw_ ab fe ks ss fs k)(hk:k<ks.length)(nsr:sa≠rw_)(nnr:na≠rw_)(nfr:fr≠rw_)(nhr:ho≠rw_)(hh9:h=hsF ks fs k)(q:∀(σ':St) (H':Hp) (sh:V),Bst K H0 H' na xa sa fr ho ks ss fs c->Rwl K H0 H' xa rw_ ab fe ks ss fs (k+1)->σ'=[some (.ref a),some (.ref na),some (.int (ks.length:Int)),some (.ref xa),some (.ref sa),some (.ref fr),some (.ref ho),some (.str h),a8,some (.ref ab),some (.ref fe),some (.ref rw_),some (.int k),some sh,a14]->D.nx σ' H') :
 An5 K D [some (.ref a),some (.ref na),some (.int (ks.length:Int)),some (.ref xa),some (.ref sa),some (.ref fr),some (.ref ho),some (.str h),a8,some (.ref ab),some (.ref fe),some (.ref rw_),some (.int k),a13,a14] H:=by
 obtain⟨ns,hx,_⟩:=b.hx
 unfold An5
 lk
 refine⟨.inl ⟨rfl,_,SqL.of hx⟩,?_⟩
 refine b.pop λy H1 b1 k1=>?_
 have r1:=r.but k1 hx
 lk
 obtain⟨fz,hf,hfl,hfz⟩:=r1.hf
 refine⟨fe,fz,_,rfl,hf,hfl,λp pz H2 s2 hp hpz hpl=>?_⟩
 have b2:=b1.same s2
 have r2:=r1.same s2
 have hfr:=b2.hf
 lk
 refine .inr ⟨fr,_,rfl,.inl ⟨frK fs,.inl (k:Int),hfr,rfl,rfl⟩,?_⟩
 generalize (wi7 (frK fs) (Sum.inl (k:Int):Key)).isSome=bb
 lk
 cases bb with
 | true =>
   x_go
   lk
   refine⟨C7 (by z_go),λt ht=>?_⟩
   have s3:=A3.new ht (.tup [])
   exact Ag5 (zs:=[]) (b2.same s3) (r2.same s3) hk nsr nnr nfr nhr (SqT.of A2) (Nat.zero_le _) (λz hz=>by cases hz) hh9 λσ' H' b r e=>q σ' H' _ b r e
 | false =>
   k_go
   exact Ag5 (zs:=pz) b2 r2 hk nsr nnr nfr nhr (SqT.of hp) hpl (λz hz=>hfz z (hpz z hz)) hh9 λσ' H' b r e=>q σ' H' _ b r e
theorem At2{a:Addr}{fs:List (Nat×Nat)}{k:Nat}(b:Bst K H0 H na xa sa fr ho ks ss fs (c+2))(r:Rwl K H0 H xa rw_ ab fe ks ss fs k)(hk:k<ks.length)(nsr:sa≠rw_)(nnr:na≠rw_)(nfr:fr≠rw_)(nhr:ho≠rw_)(q:∀(σ':St) (H':Hp) (sh h:V),Bst K H0 H' na xa sa fr ho ks ss fs c->Rwl K H0 H' xa rw_ ab fe ks ss fs (k+1)->σ'=[some (.ref a),some (.ref na),some (.int (ks.length:Int)),some (.ref xa),some (.ref sa),some (.ref fr),some (.ref ho),some h,a8,some (.ref ab),some (.ref fe),some (.ref rw_),some (.int k),some sh,a14]->D.nx σ' H') :
 An6 K D [some (.ref a),some (.ref na),some (.int (ks.length:Int)),some (.ref xa),some (.ref sa),some (.ref fr),some (.ref ho),a7,a8,some (.ref ab),some (.ref fe),some (.ref rw_),some (.int k),a13,a14] H:=by
 have hh:=b.hh
 unfold An6
 lk
 refine .inr ⟨ho,_,rfl,.inl ⟨hoK fs,.inl (k:Int),.inl hh,rfl,rfl⟩,?_⟩
 have hvk:=yl7 k fs
 cases hv:wi7 (hoK fs) (Sum.inl (k:Int):Key) with
 | none =>
   lk
   k_go
   rw[hv] at hvk
   have hnone:=Option.map_eq_none_iff.mp hvk.symm
   exact Ag6 b r hk nsr nnr nfr nhr (by unfold hsF;rw[hnone]) λσ' H' sh b r e=>q σ' H' sh _ b r e
 | some w =>
   rw[hv] at hvk
   obtain⟨pp,hpp,rfl⟩:=Option.map_eq_some_iff.mp hvk.symm
   have hj:=(b.F.ok pp (mem_of_find?_eq_some hpp)).2.1
   lk
   x_go
   lk
   refine⟨ho,.int pp.1,rfl,.inl ⟨hoK fs,.inl (k:Int),.inl hh,rfl,hv.symm⟩,?_⟩
   refine L8 (SqL.of b.hn) (qn8 (i:=pp.1) hj) ?_
   lk
   exact Ag6 b r hk nsr nnr nfr nhr (by unfold hsF;rw[hpp]) λσ' H' sh b r e=>q σ' H' sh _ b r e
inductive Bkl(K:Fg)(H0:Hp)(a na xa sa fr ho rw_ ab fe:Addr)(ks ss:List Str)(fs:List (Nat×Nat))(i:Nat):St->Hp->Prop
 | mk {H':Hp} {a7 a8 a12 a13 a14:Option V} (b:Bst K H0 H' na xa sa fr ho ks ss fs (2*(ks.length-i)+1)) (r:Rwl K H0 H' xa rw_ ab fe ks ss fs i) :
  Bkl K H0 a na xa sa fr ho rw_ ab fe ks ss fs i [some (.ref a),some (.ref na),some (.int (ks.length:Int)),some (.ref xa),some (.ref sa),some (.ref fr),some (.ref ho),a7,a8,some (.ref ab),some (.ref fe),some (.ref rw_),a12,a13,a14] H'
theorem At3{a:Addr}{fs:List (Nat×Nat)}(b:Bst K H0 H na xa sa fr ho ks ss fs (2*ks.length+1))(q:∀(bv:V) (rs:List Row) (H':Hp),A3 H0 H'->BkO K H' bv rs->Boo rs->(1<=rs.length/\rs.length<=12)->(∀r∈rs,r.name.length<=9/\r.shuts.length<=12/\r.bars.length<=12)->D.rt bv H') :
 An7 K D [some (.ref a),some (.ref na),some (.int (ks.length:Int)),some (.ref xa),some (.ref sa),some (.ref fr),some (.ref ho),a7,a8,none,none,none,none,none,none] H:=by
 have h12:=b.h12
 have hsl:=b.hl
 unfold An7
 lk
 refine wo9 #[0] #[0] (λi ys H'=>A3 H H'/\∃zs:List Str,ys=B0 zs/\zs.length<=i) ⟨λ_ _ e=>e,[],rfl,Nat.le_refl _⟩ ?_ ?_ ?_
 ·rintro i ys H' hi ⟨_,zs,rfl,hl⟩
  rw[B2];exact C7 #[0]
 ·rintro i ys H' hi ⟨s1,zs,rfl,hl⟩
  lk
  refine L8 (SqL.of (s1 _ _ b.hs)) (v:=.str (ss[i]'#[0])) (M8 (by unfold B0;rw[List.getElem?_map,List.getElem?_eq_getElem #[0]];rfl)) ?_
  walk_at"24"
  generalize upd H' t (.tup [.str "plain",.str "anew"])=H2 at *
  generalize inV (V.str (ss[i]'#[0])) (B0 [("plain":Str), "anew"])=b1
  lk
  cases b1 with
  | false=>refine qi6 ?_;exact⟨s2,zs,rfl,by omega⟩
  | true =>
    x_go
    lk
    refine L8 (SqL.of (s2 _ _ b.hn)) (v:=.str (ks[i]'#[0])) (M8 (by unfold B0;rw[List.getElem?_map,List.getElem?_eq_getElem #[0]];rfl)) ?_
    exact⟨s2,zs++[ks[i]'#[0]],by unfold B0;rw[map_append];rfl,by rw[length_append,length_singleton];omega⟩
 rintro ys H1 ⟨s1,az,rfl,hal⟩ ab hab
 have b2:=b.same (A3.tr s1 (A3.new hab #[23,az]))
 have ea:(upd H1 ab #[23,az]) ab=some #[23,az]:=A2
 have nxa:xa≠ab:=λz=>by obtain⟨ns,hx,_⟩:=b.hx;rw[<-z,s1 _ _ hx] at hab;cases hab
 generalize upd H1 ab #[23,az]=H2 at *
 have hfr:=b2.hf
 lk
 refine wo9 #[0] #[0] (λi ys H'=>A3 H2 H'/\∃zs:List Str,ys=B0 zs/\zs.length<=i/\∀z∈zs,∃i,i<ks.length/\i∉fs.map Prod.fst/\z=gd ks i) ⟨λ_ _ e=>e,[],rfl,Nat.le_refl _,by simp⟩ ?_ ?_ ?_
 ·rintro i ys H' hi ⟨_,zs,rfl,hl,_⟩
  rw[B2];exact C7 #[0]
 ·rintro i ys H' hi ⟨s1,zs,rfl,hl,hzf⟩
  lk
  refine L8 (SqL.of (s1 _ _ b2.hs)) (v:=.str (ss[i]'#[0])) (M8 (by unfold B0;rw[List.getElem?_map,List.getElem?_eq_getElem #[0]];rfl)) ?_
  walk_at"24"
  generalize upd H' t (.tup [.str "plain",.str "anew"])=H3 at *
  generalize inV (V.str (ss[i]'#[0])) (B0 [("plain":Str), "anew"])=b1
  lk
  cases b1 with
  | false=>refine qi6 ?_;exact⟨s2,zs,rfl,by omega,hzf⟩
  | true =>
    x_go
    lk
    refine .inr ⟨fr,_,rfl,.inl ⟨frK fs,.inl (i:Int),hfr.elim (λh=>.inl (s2 _ _ h)) (λ⟨o,h⟩=>.inr ⟨o,s2 _ _ h⟩),rfl,rfl⟩,?_⟩
    rw[xp3]
    lk
    by_cases hif:i∈fs.map Prod.fst
    ·rw[decide_eq_true hif];refine qi6 ?_;exact⟨s2,zs,rfl,by omega,hzf⟩
    ·rw[decide_eq_false hif]
     x_go
     lk
     refine L8 (SqL.of (s2 _ _ b2.hn)) (qn8 (i:=i) #[0]) ?_
     exact⟨s2,zs++[gd ks i],by unfold B0;rw[map_append];rfl,by rw[length_append,length_singleton];omega,λz hz=>(mem_append.mp hz).elim (hzf z) λh=>⟨i,by omega,hif,mem_singleton.mp h⟩⟩
 rintro ys H3 ⟨s3,fz,rfl,hfl,hfz⟩ fe hfe
 have s4:=A3.tr s3 (A3.new hfe #[23,fz])
 have b4:=b2.same s4
 have ea:=s4 _ _ ea
 have ef:(upd H3 fe #[23,fz]) fe=some #[23,fz]:=A2
 have nxf:xa≠fe:=λz=>by obtain⟨ns,hx,_⟩:=b2.hx;rw[<-z,s3 _ _ hx] at hfe;cases hfe
 generalize upd H3 fe #[23,fz]=H4 at *
 lk
 refine⟨C7 (by z_go),λrw_ hrw=>?_⟩
 have s5:=A3.new hrw (.lst [])
 have b5:=b4.same s5
 have er:(upd H4 rw_ (.lst [])) rw_=some (.lst []):=A2
 have ne:∀{p:Addr} {o:HO},H4 p=some o->p≠rw_:=λh z=>by rw[z,hrw] at h;cases h
 have nxr:xa≠rw_:=by obtain⟨ns,hx,_⟩:=b4.hx;exact ne hx
 have nsr:=ne b4.hs
 have nnr:=ne b4.hn
 have nfr:fr≠rw_:=b4.hf.elim ne λ⟨o,h⟩=>ne h
 have nhr:=ne b4.hh
 have n0:H0 rw_=none:=none_of b4.keep hrw
 have nar:=ne ea
 have nfer:=ne ef
 have ea:=s5 _ _ ea
 have ef:=s5 _ _ ef
 generalize upd H4 rw_ (.lst [])=H5 at *
 lk
 refine qs0 #[0] #[0] (Bkl K H0 a na xa sa fr ho rw_ ab fe ks ss fs) (.mk b5 ⟨nxr,n0,nxa,nxf,Ne.symm nar,Ne.symm nfer,⟨[],[],er,E4,rfl,λj r h=>by simp at h⟩,⟨az,ea,by omega⟩,⟨fz,ef,by omega,hfz⟩⟩) ?_ ?_
 ·rintro i σ H' hi ⟨b,r⟩
  rename_i a7 a8 a12 a13 a14
  lk
  obtain⟨c,hc⟩:∃c,2*(ks.length-i)+1=c+2:=⟨2*(ks.length-i)-1,by omega⟩
  rw[hc] at b
  refine At2 b r #[0] nsr nnr nfr nhr λσ' H' sh h b r e=>?_
  rw[e]
  have hc2:c=2*(ks.length-(i+1))+1:=by omega
  rw[hc2] at b
  exact .mk b r
 ·rintro σ H' ⟨b,r⟩
  rename_i a7 a8 a12 a13 a14
  rw[Int.toNat_natCast] at b r
  obtain⟨rvs,rs,hr,hd,hn,hR⟩:=r.hr
  exact At1 (by simpa using b) hr r.nr hd hn hR q
inductive Hol(K:Fg)(H0:Hp)(a na xa sa fr ho:Addr)(ks:List Str)(fs:List (Nat×Nat))(ob:Obj)(i:Nat):St->Hp->Prop
 | mk {H':Hp} {a7 a8:Option V} (s:∀c u,H0 c=some u->c≠fr->c≠ho->H' c=some u) (hf:H' fr=some (.frz ob (.dK (frK fs)))) (hh:H' ho=some (.dK (hoK (fs.take i)))) :
  Hol K H0 a na xa sa fr ho ks fs ob i [some (.ref a),some (.ref na),some (.int (ks.length:Int)),some (.ref xa),some (.ref sa),some (.ref fr),some (.ref ho),a7,a8,none,none,none,none,none,none] H'
abbrev yc0(K:Fg):TS :=
 (B1 (qc8 (yx8 (A0 5)) (xz4 K 2 (qf2 (A6 7) (qf2 (A6 8) yg7)))
 (B8 (A0 7) (yg9 (A0 6) (A0 8) xr5)))
 (An7 K))
abbrev xw9(K:Fg):TS :=
 (B1 (B8 (B9 (ql7 K) [] E0 (A1 (A0 3) #[4,2])) (xz4 K 2 (qf2 (A6 4) (qf2 (A6 5) yg7))))
 (B1 (B8 yh8 (A6 6))
 (yc0 K)))
abbrev xx0(K:Fg):TS :=
 (B1 (B8 (B9 (qg8 K) [] E0 (A1 (B9 (R3 K) [] E0 (A1 (A0 0) (A1 #[1,2] A5))) (A1 #[1,60] A5))) (A6 3))
 (xw9 K))
def qq9(K:Fg):Sp:=λvs H Q _=>∃(a:Addr) (ns:List Int),vs=[.ref a]/\SqL K H a (ns.map V.int)/\∀(bv:V) (rs:List Row) (H':Hp),A3 H H'->BkO K H' bv rs->Boo rs->(1<=rs.length/\rs.length<=12)->(∀r∈rs,r.name.length<=9/\r.shuts.length<=12/\r.bars.length<=12)->Q bv H'
def qw9(K:Fg):TS :=
 (B1 (B8 (B9 (qh0 K) [] E0 (A1 (B9 (R3 K) [] E0 (A1 (A0 0) (A1 #[1,0] A5))) (A1 (tOp (C8 K) #[1,1] (tOp #[2] (B9 (R3 K) [] E0 (A1 (A0 0) (A1 #[1,1] A5))) #[1,10])) A5))) (A6 1))
 (B1 (B8 (tCB (J6 K) #[4,1]) (A6 2))
 (xx0 K)))
theorem yl8(h:qq9 K vs H Q E):qw9 K {nx:=λ_ H'=>Q .non H',rt:=Q} (C3 ["_law_script","_law_names_here","_law_count","_law_xs","_law_sorts_here","_law_frames","_law_hosts","_law_host","_law_frame","_law_able","_law_free","_law_rows","_law_k","_law_shuts","_law_turn"] vs) H:=by
 obtain⟨a,ns,rfl,hS,q⟩:=h;show qw9 K _ [some (.ref a),none,none,none,none,none,none,none,none,none,none,none,none,none,none] H;unfold qw9;lk;refine⟨a,ns,0,rfl,hS,by decide,λc0=>?_⟩;lk;refine⟨a,ns,1,rfl,hS,by decide,λc1=>?_⟩;lk;have m0:=Int.emod_nonneg c1 (show(10:Int)≠0 by decide);have m1:=Int.emod_lt_of_pos c1 (show(0:Int)<10 by decide);refine⟨c0,_,rfl,by omega,by omega,λna ks H1 s1 hna nd h9 h12 h1=>?_⟩;lk;refine M6 (.inl (SqL.of hna)) ?_;rw[B2];lk;refine⟨a,ns,2,rfl,s1.sqL hS,by decide,λc2=>?_⟩;lk;refine⟨c2,60,rfl,by decide,λxa xs H2 s2 nxa hxa hxl _=>?_⟩;have nn:xa≠na:=λz=>by rw[z,hna] at nxa;cases nxa
 lk;refine⟨xa,ks.length,xs,rfl,h12,hxa,by omega,by omega,λt sa fr ss fs ns' H3 b3 hx3 hl3 hu3 ht nsa nfr nsf hsa hfr F hkl=>?_⟩;have hsl:=F.l;have ho1:∀(c:Addr) (u:HO),H1 c=some u->H3 c=some u:=λc u e=>b3 c u (s2 _ _ e) (by rw[mem_singleton];intro z;rw[z,nxa] at e;cases e);have nxs:xa≠sa:=λz=>by rw[z,nsa] at hxa;cases hxa
 have nxf:xa≠fr:=λz=>by rw[z,nfr] at hxa;cases hxa
 lk;refine⟨t,_,rfl,SqT.of ht,rfl,_,_,rfl,D0 ⟨_,_,rfl,D0 ⟨rfl,?_⟩⟩⟩;lk;intro ho hho;have s4:=A3.new hho (.dK []);have e4:(upd H3 ho (.dK [])) ho=some (.dK []):=A2;have nhx:xa≠ho:=λz=>by rw[<-z,hx3] at hho;cases hho
 have nhs:sa≠ho:=λz=>by rw[<-z,hsa] at hho;cases hho
 have nhf:fr≠ho:=λz=>by rw[<-z,hfr] at hho;cases hho
 have nhn:na≠ho:=λz=>by rw[<-z,ho1 _ _ hna] at hho;cases hho
 have hx4:=s4 _ _ hx3;have hsa4:=s4 _ _ hsa;have hfr4:=s4 _ _ hfr;have hna4:=s4 _ _ (ho1 _ _ hna);have hho0:H ho=none:=by cases e:H ho with|none=>rfl|some u=>rw[ho1 _ _ (s1 _ _ e)] at hho;cases hho
 have nfr0:H fr=none:=none_of (A3.tr s1 s2) nfr;have nxa0:H xa=none:=none_of s1 nxa;have hk4:∀(c:Addr) (u:HO),H c=some u->(upd H3 ho (.dK [])) c=some u:=λc u e=>s4 _ _ (ho1 _ _ (s1 _ _ e));generalize upd H3 ho (.dK [])=H4 at *
 lk;refine zr5 ?_;lk;refine zj5 hfr4 (Hol K H4 a na xa sa fr ho ks fs) (λob=>.mk (λc u e n1 _=>by rw[A8 n1];exact e) A2 (by rw[A8 (Ne.symm nhf)];exact e4)) (λob i σ H' p=>by cases p with|mk s hf hh=>exact hf) ?_ ?_
 ·rintro ob i k v p σ H' hkv hp ⟨s,hf,hh⟩;rename_i a7 a8;obtain⟨⟨j,i'⟩,hji,e⟩:∃q:Nat×Nat,fs[i]?=some q/\(Sum.inl (q.1:Int),V.int q.2)=(k,v):=by
   unfold frK at hkv;rw[List.getElem?_map] at hkv;exact Option.map_eq_some_iff.mp hkv
  cases e;refine⟨p,_,rfl,SqT.of A2,rfl,_,_,rfl,D0 ⟨_,_,rfl,D0 ⟨rfl,?_⟩⟩⟩;lk;have hh2:(upd H' p (.tup [kV (Sum.inl (j:Int)),V.int i'])) ho=some (.dK (hoK (fs.take i))):=by rw[A8 (N4 hh hp)];exact hh
  have hil:i<fs.length:=(List.getElem?_eq_some_iff.mp hji).1;have hni:i'∉(fs.take i).map Prod.snd:=λh=>by
   have hn:=F.nf;have:fs=fs.take i++(j,i')::fs.drop (i+1):=by
    have e:=(take_append_drop i fs).symm;rw[drop_eq_getElem_cons hil,(List.getElem?_eq_some_iff.mp hji).2] at e;exact e
   rw[this,map_append,map_cons] at hn;exact(nodup_append.mp hn).2.2 _ h _ (by simp) rfl
  refine .inr ⟨ho,_,rfl,yw1.k (k:=.inl (i':Int)) hh2 (by unfold hoK;rw[length_map,length_take,sizeLine_eq];omega),?_⟩;refine .mk (λc u e n1 n2=>by rw[A8 n2,A8 (N4 (s c u e n1 n2) hp)];exact s c u e n1 n2) (by rw[A8 nhf,A8 (N4 hf hp)];exact hf) ?_;rw[A2,qd3 hji];exact congrArg (λx=>some (HO.dK x)) (Ad3 hni j)
 ·rintro ob σ H' ⟨s,hf,hh⟩;rename_i a7 a8;have efl:(frK fs).length=fs.length:=by unfold frK;rw[length_map]
  rw[efl,take_length] at hh;lk;refine At3 (H0:=H) ⟨λc u e=>s c u (hk4 c u e) (λz=>by rw[z,nfr0] at e;cases e) (λz=>by rw[z,hho0] at e;cases e),nxa0,nn,nxs,nxf,nhx,s _ _ hna4 ?_ nhn,s _ _ hsa4 nsf nhs,.inr ⟨ob,hf⟩,hh,F,⟨ns',s _ _ hx4 nxf nhx,by omega⟩,hsl,nd,h9,h12,h1⟩ q;exact λz=>by rw[<-z,s2 _ _ hna] at nfr;cases nfr
theorem zv0(B:Boo rs)(h:∀r∈rs,r.name.length<=9/\r.shuts.length<=12/\r.bars.length<=12):∃rk,Bok rs rk:=by
 obtain⟨rk,h1,h2⟩:=B.rk;refine⟨λx=>min (rk x) 13,B,λx y e=>?_,λx=>Nat.min_le_right _ _,λr hr=>by have:=(h r hr).1;omega,λr hr=>⟨by have:=(h r hr).2.1;omega,by have:=(h r hr).2.2;omega⟩⟩;unfold L9 at e;obtain⟨r,hf,rfl⟩:=Option.map_eq_some_iff.mp e;have hr:=mem_of_find?_eq_some hf;have hs:=find?_some hf;simp only[Bool.and_eq_true,decide_eq_true_eq] at hs;have a1:=h1 r hr;have a2:=(h2 r hr hs.1).2;have e3:r.host=x:=Option.some.inj hs.2;rw[e3] at a2;show min (rk r.name) 13<min (rk x) 13;omega
theorem yl9(h:x.length<=9)(q:Q (.str (("</":Str)++x)) H):C8 K (.str "</") (.str x) H Q:=T4 (by rw[sizeLine_eq];show 2+_<=_;omega) q
theorem ym0(h:x.length<=9)(q:Q (.str (cls x)) H):C8 K (.str (("</":Str)++x)) (.str ">") H Q:=T4 (by rw[sizeLine_eq,G6];show 2+_+1<=_;omega) q
variable{N:Addr}
theorem yg2{e0:Addr}(ht:H N=some #[23,ys])(he:H e0=some (.lst []))(q:Q (.bl (!ys.isEmpty)) H):wq1 K (.ref N) (.ref e0) H Q:=by
 refine As4 (ds:=sDa ys) (Z7.mpr ⟨N,_,rfl,SqL.of ht,qp7.mpr rfl⟩) he ?_;have:(sDa ys).isEmpty=ys.isEmpty:=by cases ys <;> rfl
 rw[this];exact q
theorem At4{k n:Nat}(h:k<n):seqIndex? (k:Int) n=some k:=by
 have:=PySem.StrLaws.seqIndex_nonneg (i:=(k:Int)) (n:=n) #[0] #[0];rw[Int.toNat_natCast] at this;exact this
theorem zv1{α β:Type}(f:α->β):∀(l:List α) (k:Nat),(l.map f).eraseIdx k=(l.eraseIdx k).map f
 | [],_=>rfl
 | x::l,0=>rfl
 | x::l,k+1=>by rw[map_cons,eraseIdx_cons_succ,zv1 f l k,eraseIdx_cons_succ,map_cons]
theorem xx1{xs:List Str}{j:Int}(h:xs.length=m)(h0:0<m):∃w∈xs,atI (B0 xs) (j % (m:Int))=some (.str w):=by
 have y0:=Int.emod_nonneg j (show(m:Int)≠0 by omega);have y1:=Int.emod_lt_of_pos j (show(0:Int)<(m:Int) by omega);obtain⟨k,hk⟩:=Int.eq_ofNat_of_zero_le y0;rw[hk] at y1 ⊢;exact⟨gd xs k,wt8 #[0],qn8 #[0]⟩
abbrev xm9(K:Fg):TS :=
 (E1 (tOp (C8 K) (tOp (D7 K) (A0 1) (tOp #[2] (A0 0) #[1,16])) (tOp (D7 K) (T2 (A1 (tC (.str "")) (A1 (tC (.str "")) (A1 (tC (.str "z")) (A1 (tC (.str " ")) A5))))) (tOp #[2] (tOp #[13] (A0 0) #[1,16]) #[1,4]))))
def qh1(K:Fg):Sp:=λvs H Q _=>∃x:Int,vs=[.int x]/\∀(u:Str) (H':Hp),u.length<=20->A3 H H'->Q (.str u) H'
def ql8(K:Fg):TS :=
 (B1 (B8 (T2 (ye5 [("a":Str),("bc":Str),("x y":Str),(" ":Str),("\n":Str),("  \n":Str),("<":Str),("&":Str),("&l;":Str),("&a;":Str),("a<b":Str),("&l;&":Str),("> 1":Str),("&amp;":Str),("<a":Str),("< /":Str)])) (A6 1))
 (xm9 K))
theorem xx2(h:qh1 K vs H Q E):ql8 K {nx:=λ_ H'=>Q .non H',rt:=Q} (C3 ["_law_x","_law_words"] vs) H:=by
 obtain⟨x,rfl,q⟩:=h;show ql8 K _ [some (.int x),none] H;unfold ql8;lk;refine⟨C7 (by rw[B2];decide),λl hl=>?_⟩;have s1:=A3.new hl (.lst (B0 [("a":Str), "bc","x y"," ","\n","  \n","<","&","&l;","&a;","a<b","&l;&","> 1","&amp;","<a","< /"]));have e1:(upd H l (.lst (B0 [("a":Str), "bc","x y"," ","\n","  \n","<","&","&l;","&a;","a<b","&l;&","> 1","&amp;","<a","< /"]))) l=_:=A2;generalize upd H l (.lst (B0 [("a":Str), "bc","x y"," ","\n","  \n","<","&","&l;","&a;","a<b","&l;&","> 1","&amp;","<a","< /"]))=H1 at *
 lk;obtain⟨w1,hw1,a1⟩:=xx1 (xs:=[("a":Str), "bc","x y"," ","\n","  \n","<","&","&l;","&a;","a<b","&l;&","> 1","&amp;","<a","< /"]) (j:=x) (m:=16) rfl #[7];obtain⟨w2,hw2,a2⟩:=xx1 (xs:=[("":Str), "","z"," "]) (j:=x / 16) (m:=4) rfl #[7];have l1:w1.length<=7:=(by decide:∀w∈[("a":Str), "bc","x y"," ","\n","  \n","<","&","&l;","&a;","a<b","&l;&","> 1","&amp;","<a","< /"],w.length<=7) w1 hw1;have l2:w2.length<=7:=(by decide:∀w∈[("":Str), "","z"," "],w.length<=7) w2 hw2;refine L8 (SqL.of e1) a1 ?_;lk;refine⟨C7 (by z_go),λl2 hl2=>?_⟩;have s2:=A3.new hl2 (.lst (B0 [("":Str), "","z"," "]));lk;refine L8 (SqL.of A2) a2 ?_;refine T4 #[16] ?_;exact q _ _ (by rw[G6];omega) (A3.tr s1 s2)
abbrev wr1(K:Fg):TS :=
 (B8 (tOp (D7 K) (B9 (S7 K) [] E0 (A1 (A0 0) (A1 #[1,1] A5))) #[1,0]) (A6 5))
abbrev wr2(K:Fg):TS :=
 (B8 (tOp (C8 K) (A0 2) (B9 (qa2 K) [] E0 (A1 (A0 0) (A1 #[1,12] A5)))) (A6 2))
abbrev wr3(K:Fg):TS :=
 (B8 (tOp (C8 K) (tOp (C8 K) (tOp (C8 K) (tOp (C8 K) (A0 2) (tC (.str "<"))) (tOp (D7 K) (T2 (A1 (tC (.str "")) (A1 (tC (.str "/")) A5))) (tOp #[2] (A0 4) #[1,2]))) (A0 5)) (tC (.str ">"))) (A6 2))
abbrev qp5(K:Fg):TS :=
 (M4 (C1 (tOp (P7 K) (A0 4) #[1,0]))
 (wr2 K) (wr3 K))
abbrev qp6(K:Fg):TS :=
 (B1 (M4 (C1 (tOp xj8 (A0 4) #[1,2]))
 (wr1 K) J8)
 (qp5 K))
abbrev wr4(K:Fg):TS :=
 (B1 (B8 (tOp (D7 K) (A0 1) (B9 (M2 K) [] E0 (A1 (A0 0) (A1 (tCB (J6 K) #[4,1]) A5)))) (A6 5))
 (qp6 K))
abbrev wr5(K:Fg):TS :=
 (B1 (B8 (B9 (M2 K) [] E0 (A1 (A0 0) (A1 #[1,5] A5))) (A6 4))
 (wr4 K))
abbrev wr6(K:Fg):TS :=
 (B1 (qc8 (wa1 (A1 (tOp (C8 K) #[1,1] (B9 (M2 K) [] E0 (A1 (A0 0) (A1 #[1,3] A5)))) A5)) (A6 3)
 (wr5 K))
 (E1 (A0 2)))
variable{way:Int}
theorem At5{u nm:Str}{a3:Option V}(hu:u.length<=1000)(hn:nm.length<=9)(o:Po p H0 H)(q:∀u' H',u'.length<=u.length+50->Po p H0 H'->D.nx [some (.ref p),some (.ref na),some (.str u'),a3,some (.int way),some (.str nm)] H'):qp5 K D [some (.ref p),some (.ref na),some (.str u),a3,some (.int way),some (.str nm)] H:=by
 refine ww7 ?_;lk;by_cases h0:way=0
 ·rw[decide_eq_true h0];x_go;lk;refine⟨p,12,rfl,o.at_,by decide,by decide,λz H2 o2 hz=>?_⟩;refine T4 #[16] ?_;lk;exact q _ _ (by rw[G6];omega) (o.tr o2)
 ·rw[decide_eq_false h0];k_go;lk;refine T4 (by rw[sizeLine_eq];show _+1<=_;omega) ?_;lk;refine⟨C7 (by z_go),λl hl=>?_⟩;obtain⟨y,hy⟩:=o.at_;have o2:=o.tr (Po.new (o:=.lst (B0 [("":Str), "/"])) hy hl);obtain⟨w,hw,a⟩:=xx1 (xs:=[("":Str), "/"]) (j:=way) (m:=2) rfl #[7];have lw:w.length<=1:=(by decide:∀w∈[("":Str), "/"],w.length<=1) w hw;lk;refine L8 (SqL.of A2) a ?_;refine T4 (by rw[sizeLine_eq,G6];show _+1+_<=_;omega) ?_;lk;refine T4 (by rw[sizeLine_eq,G6,G6];show _+1+_+_<=_;omega) ?_;lk;refine T4 (by rw[sizeLine_eq,G6,G6,G6];show _+1+_+_+1<=_;omega) ?_;lk;exact q _ _ (by rw[G6,G6,G6,G6];show _+1+_+_+1<=_;omega) o2
def V4(K:Fg):Sp:=λvs H Q _=>∃(p na:Addr) (ks:List Str),vs=[.ref p,.ref na]/\(∃x:Int,H p=some (.lst [.int x]))/\H na=some #[23,ks]/\1<=ks.length/\ks.length<=1000/\(∀x∈ks,x.length<=9)/\p≠na/\∀(u:Str) (H':Hp),u.length<=150->Po p H H'->Q (.str u) H'
def S8(K:Fg):TS :=
 (B1 (B8 (tC (.str "")) (A6 2))
 (wr6 K))
theorem wv2(h:V4 K vs H Q E):S8 K {nx:=λ_ H'=>Q .non H',rt:=Q} (C3 ["_law_pot","_law_names_here","_law_text","_law_k","_law_way","_law_name"] vs) H:=by
 obtain⟨p,na,ks,rfl,hp,hna,h1,h12,h9,npn,q⟩:=h;show S8 K _ [some (.ref p),some (.ref na),none,none,none,none] H;unfold S8;obtain⟨x0,hx0⟩:=hp;lk;refine wf8 ⟨x0,hx0⟩ #[7] #[7] λn3 H1 h0 h3 o1=>?_;lk;refine qs0 #[0] #[0] (λi σ H'=>∃(u:Str) (a3 a4 a5:Option V),σ=[some (.ref p),some (.ref na),some (.str u),a3,a4,a5]/\u.length<=50*i/\Po p H H') ⟨"",none,none,none,rfl,Nat.le_refl _,o1⟩ ?_ ?_
 ·rintro i σ H' hi ⟨u,a3,a4,a5,rfl,hu,o⟩;have hi3:i<3:=by omega
  refine D0 ?_;lk;refine wf8 o.at_ #[7] #[7] λway H2 hw0 hw5 o2=>?_;have o2:=o.tr o2;lk;have hna2:=o2.keep _ _ (Ne.symm npn) hna;refine M6 (.inl (SqL.of hna2)) ?_;rw[B2];lk;refine wf8 o2.at_ #[0] #[0] λk H3 hk0 hk1 o3=>?_;have o3:=o2.tr o3;have hna3:=o3.keep _ _ (Ne.symm npn) hna;obtain⟨kk,hkk⟩:=Int.eq_ofNat_of_zero_le hk0;rw[hkk] at hk1 ⊢;refine L8 (SqL.of hna3) (qn8 (i:=kk) #[0]) ?_;have hn9:=h9 _ (wt8 (l:=ks) (i:=kk) #[0]);refine D0 ?_;show qp6 K _ _ _;refine V1 ?_;refine ww7 ?_;lk;by_cases h2:2<way
  ·rw[decide_eq_true (by exact h2)];x_go;lk;refine⟨p,1,rfl,o3.at_,by decide,by decide,λl kz H4 o4 hl _ hk9 _ hk1=>?_⟩;lk;refine L8 (SqL.of hl) (qn8 (i:=0) #[0]) ?_;refine D0 ?_;exact At5 #[0] (hk9 _ (wt8 #[0])).2 (o3.tr o4) λu' H' hu' o'=>⟨u',_,_,_,rfl,by omega,o'⟩
  ·rw[decide_eq_false (by exact h2)];k_go;exact At5 #[0] hn9 o3 λu' H' hu' o'=>⟨u',_,_,_,rfl,by omega,o'⟩
 ·rintro σ H' ⟨u,a3,a4,a5,rfl,hu,o⟩;lk;exact q u H' #[0] o
abbrev wb9(K:Fg):TS :=
 (D2 (tBM K "list" D9 (A0 2) (A1 (tOp (D7 K) (T2 (A1 (tOp (C8 K) (tOp (C8 K) (tC (.str "</")) (A0 7)) (tC (.str ">"))) (A1 (tC (.str "<qq>")) (A1 (tC (.str "</qq>")) (A1 (tOp (C8 K) (tOp (C8 K) (tC (.str "</")) (A0 7)) (tC (.str ">"))) A5))))) (tOp #[2] (tOp #[13] (A0 5) #[1,16]) #[1,4])) A5)))
abbrev wc0(K:Fg):TS :=
 (D2 (tBM K "list" D9 (A0 2) (A1 (B9 (qh1 K) [] E0 #[4,5]) A5)))
abbrev wc1(K:Fg):TS :=
 (D2 (tBM K "list" D9 (A0 2) (A1 (tOp (C8 K) (tOp (C8 K) (tC (.str "</")) (tBM K "list" zn4 (A0 3) (A1 (tOp #[2] (A0 5) (tCB (J6 K) #[4,3])) A5))) (tC (.str ">"))) A5)))
abbrev wc2(K:Fg):TS :=
 (D2 (tBM K "list" D9 (A0 2) (A1 (tOp (C8 K) (tOp (C8 K) (tC (.str "</")) (xq4 K "list" xj5 (A0 3))) (tC (.str ">"))) A5)))
abbrev wc3(K:Fg):TS :=
 (M4 (xc1 (C1 (tOp (P7 K) (A0 6) #[1,4])) (C1 (tOp (wq1 K) (A0 3) (T2 A5))))
 (wc1 K) (M4 (C1 (tOp (P7 K) (A0 6) #[1,7]))
 (wb9 K) (wc0 K)))
abbrev xf8(K:Fg):TS :=
 (B1 (D2 (tBM K "list" D9 (A0 2) (A1 (tOp (C8 K) (tOp (C8 K) (tC (.str "<")) (A0 7)) (tC (.str ">"))) A5)))
 (D2 (tBM K "list" D9 (A0 3) #[4,7])))
abbrev wc4(K:Fg):TS :=
 (M4 (xc1 (C1 (tOp (P7 K) (A0 6) #[1,3])) (C1 (tOp (wq1 K) (A0 3) (T2 A5))))
 (wc2 K) (wc3 K))
abbrev xf9(K:Fg):TS :=
 (D2 (tBM K "list" D9 (A0 2) (A1 (B9 (V4 K) [] E0 (A1 (T2 (A1 (tOp #[13] (A0 4) #[1,2]) A5)) #[4,1])) A5)))
abbrev wc5(K:Fg):TS :=
 (M4 (C1 (tOp (P7 K) (tOp #[2] (A0 4) #[1,2]) #[1,1]))
 (xf9 K) (M4 (C1 (tOp xr1 (A0 6) #[1,3]))
 (xf8 K) (wc4 K)))
abbrev xg0(K:Fg):TS :=
 (B1 (B8 (tOp (D7 K) (A0 1) (tOp #[2] (A0 5) (tCB (J6 K) #[4,1]))) (A6 7))
 (wc5 K))
abbrev xa6(K:Fg):TS :=
 (B1 (B8 (tOp #[13] (A0 5) #[1,8]) (A6 5))
 (xg0 K))
abbrev xa7(K:Fg):TS :=
 (B1 (B8 (tOp #[2] (A0 5) #[1,8]) (A6 6))
 (xa6 K))
abbrev xa8(K:Fg):TS :=
 (B1 (B8 (B9 (qg9 K) [] E0 #[4,4]) (A6 5))
 (xa7 K))
abbrev xa9(K:Fg):TS :=
 (B1 (qc8 (qy3 K (A0 0)) (A6 4)
 (xa8 K))
 (E1 (tBM K "str" (yo8 K) (tC (.str "")) #[4,2])))
structure T8(H0 H:Hp)(P G:Addr)(ps gs:List Str)(i:Nat):Prop where
 s:A3 H0 H
 p:H P=some #[23,ps]
 g:H G=some #[23,gs]
 n:P≠G
 p0:H0 P=none
 g0:H0 G=none
 pl:∀x∈ps,x.length<=150
 gl:∀x∈gs,x.length<=9
 li:ps.length<=i
 lg:gs.length<=i
variable{G:Addr}{gs:List Str}
section
variable{P:Addr}{ps gs':List Str}{i:Nat}
theorem T8.same(t:T8 H0 H P G ps gs i)(s:A3 H H'):T8 H0 H' P G ps gs i:={t with s:=A3.tr t.s s,p:=s _ _ t.p,g:=s _ _ t.g}
theorem T8.po(t:T8 H0 H P G ps gs i)(hq:H q=none)(s:Po q (upd H q o) H'):T8 H0 H' P G ps gs i:=by
 have k:∀c u,H c=some u->H' c=some u:=λc u e=>s.keep c u (N4 e hq) (by rw[A8 (N4 e hq)];exact e);exact{t with s:=λc u e=>k c u (t.s c u e),p:=k _ _ t.p,g:=k _ _ t.g}
theorem T8.put(t:T8 H0 H P G ps gs i)(hi:i<=100)(hz:z.length<=150)(q:∀H',T8 H0 H' P G (ps++[z]) gs (i+1)->Q .non H'):D9 (.ref P) [.str z] H Q:=by
 refine E7 t.p (by rw[B2,sizeLine_eq];have:=t.li;omega) (q _ ?_);refine{t with s:=A3.put t.s t.p0 _,p:=by rw[A2];unfold B0;rw[map_append];rfl,g:=by rw[A8 (Ne.symm t.n)];exact t.g,pl:=λx hx=>?_,li:=by rw[length_append,length_singleton];have:=t.li;omega,lg:=by have:=t.lg;omega};rcases mem_append.mp hx with h|h
 ·exact t.pl x h
 ·rw[mem_singleton.mp h];exact hz
theorem T8.gup(t:T8 H0 H P G ps gs i)(hg:∀x∈gs',x.length<=9)(hl:gs'.length<=i):T8 H0 (upd H G #[23,gs']) P G ps gs' i :=
 {t with s:=A3.put t.s t.g0 _,p:=by rw[A8 t.n];exact t.p,g:=A2,gl:=hg,lg:=hl}
end
theorem Au7{ca P:Addr}{ps:List Str}{i:Nat}{cell x:Int}{nm:Str}(t:T8 H0 H P G ps gs i)(hi:i<60)(hn:nm.length<=9)(hna:H0 na=some #[23,ks])(hk1:1<=ks.length)(hk12:ks.length<=1000)(hk9:∀x∈ks,x.length<=9)(hx:0<=x)(q:∀ps' gs' H',T8 H0 H' P G ps' gs' (i+1)->D.nx [some (.ref ca),some (.ref na),some (.ref P),some (.ref G),some (.int cell),some (.int x),some (.int way),some (.str nm)] H'):wc5 K D [some (.ref ca),some (.ref na),some (.ref P),some (.ref G),some (.int cell),some (.int x),some (.int way),some (.str nm)] H:=by
 have fin:∀(z:Str) H1 gs1,T8 H0 H1 P G ps gs1 i->z.length<=150->D9 (.ref P) [.str z] H1 λ_ H'=>D.nx [some (.ref ca),some (.ref na),some (.ref P),some (.ref G),some (.int cell),some (.int x),some (.int way),some (.str nm)] H':=λz H1 gs1 t1 hz=>t1.put #[0] hz λH' t'=>q _ _ _ t';refine ww7 ?_;lk;by_cases h1:cell % 2=1
 ·rw[decide_eq_true h1];x_go;lk;refine⟨.inl ⟨rfl,_,SqL.of t.p⟩,?_⟩;walk_at"16";lk;have hna1:(upd H p (.lst [.int (cell / 2)])) na=some #[23,ks]:=(A3.new hp _) _ _ (t.s _ _ hna);refine⟨p,na,ks,rfl,⟨_,A2⟩,hna1,hk1,hk12,hk9,λe=>(by rw[e,t.s _ _ hna] at hp;cases hp),λu H2 hu o2=>?_⟩;lk;exact fin u H2 gs (t.po hp o2) hu
 rw[decide_eq_false h1];k_go;refine ww7 ?_;lk;by_cases h3:way<3
 ·rw[decide_eq_true (by exact h3)];x_go;lk;refine⟨.inl ⟨rfl,_,SqL.of t.p⟩,?_⟩;lk;refine T4 (by rw[sizeLine_eq];show 1+_<=_;omega) ?_;lk;refine T4 (by rw[sizeLine_eq,G6];show 1+_+1<=_;omega) ?_;lk;refine t.put #[0] (by rw[G6,G6];show 1+_+1<=_;omega) λH2 t2=>?_;lk;refine⟨.inl ⟨rfl,_,SqL.of t2.g⟩,?_⟩;lk;have lg:=t.lg;refine E7 t2.g (by rw[B2,sizeLine_eq];omega) ?_;have es:B0 gs++[V.str nm]=B0 (gs++[nm]):=by simp[B0]
  rw[es];refine q _ _ _ (t2.gup (λx hx=>?_) (by rw[length_append,length_singleton];omega));rcases mem_append.mp hx with h|h
  ·exact t.gl x h
  ·rw[mem_singleton.mp h];exact hn
 rw[decide_eq_false (by exact h3)];k_go;have rest:∀H1,T8 H0 H1 P G ps gs i->(M4 (C1 (tOp (P7 K) (A0 6) #[1,7])) (wb9 K) (wc0 K)) D [some (.ref ca),some (.ref na),some (.ref P),some (.ref G),some (.int cell),some (.int x),some (.int way),some (.str nm)] H1:=λH1 t1=>by
  refine ww7 ?_;lk;by_cases h7:way=7
  ·rw[decide_eq_true h7];x_go;lk;refine⟨.inl ⟨rfl,_,SqL.of t1.p⟩,?_⟩;lk;refine yl9 hn ?_;lk;refine ym0 hn ?_;lk;refine yl9 hn ?_;lk;refine ym0 hn ?_;lk;refine⟨C7 (by z_go),λl hl=>?_⟩;have s2:=A3.new hl (.lst (B0 [cls nm, "<qq>","</qq>",cls nm]));obtain⟨w,hw,a⟩:=xx1 (xs:=[cls nm, "<qq>","</qq>",cls nm]) (j:=x / 16) (m:=4) rfl #[7];lk;refine L8 (SqL.of A2) a ?_;lk;have hcl:=yl3 nm;refine fin w _ gs (t1.same s2) ?_;simp only[mem_cons,not_mem_nil,or_false] at hw;rcases hw with rfl|rfl|rfl|rfl
   ·omega
   ·decide
   ·decide
   ·omega
  ·rw[decide_eq_false h7];k_go;lk;refine⟨.inl ⟨rfl,_,SqL.of t1.p⟩,?_⟩;lk;refine⟨x,rfl,λu H2 hu s2=>?_⟩;lk;exact fin u H2 gs (t1.same s2) #[0]
 have four:∀H1,T8 H0 H1 P G ps gs i->wc3 K D [some (.ref ca),some (.ref na),some (.ref P),some (.ref G),some (.int cell),some (.int x),some (.int way),some (.str nm)] H1:=λH1 t1=>by
  refine ww7 ?_;refine yw6 ?_;lk;by_cases h4:way=4
  ·rw[decide_eq_true h4];x_go;lk;refine⟨C7 (by z_go),λe0 he0=>?_⟩;have t2:=t1.same (A3.new he0 (.lst []));lk;refine yg2 t2.g A2 ?_;generalize upd H1 e0 (.lst [])=H2 at *
   refine⟨_,rfl,?_⟩;by_cases hg:gs=[]
   ·have e1:(!gs.isEmpty)=false:=by rw[hg];rfl
    rw[e1];k_go;exact rest _ t2
   ·have e1:(!gs.isEmpty)=true:=by cases gs with|nil=>exact absurd rfl hg|cons=>rfl
    rw[e1];x_go;show wc1 K _ _ _;lk;refine⟨.inl ⟨rfl,_,SqL.of t2.p⟩,?_⟩;lk;refine⟨.inl ⟨rfl,_,SqL.of t2.g⟩,?_⟩;lk;refine M6 (.inl (SqL.of t2.g)) ?_;rw[B2];have hpos:(0:Int)<(gs.length:Nat):=by have:=length_pos_iff.mpr hg;omega
    refine zd2 hpos ?_;have y0:=Int.emod_nonneg x (show((gs.length:Nat):Int)≠0 by omega);have y1:=Int.emod_lt_of_pos x hpos;obtain⟨k,hk⟩:=Int.eq_ofNat_of_zero_le y0;rw[hk] at y1 ⊢;have hkl:k<gs.length:=by omega
    have lg:=t.lg;lk;refine⟨G,B0 gs,_,k,.str (gd gs k),rfl,rfl,t2.g,by omega,by omega,?_,by unfold B0;rw[List.getElem?_map,wl4 hkl];rfl,?_⟩
    ·rw[B2];exact At4 hkl
    have es:(B0 gs).eraseIdx k=B0 (gs.eraseIdx k):=zv1 V.str gs k;rw[es];have hy:=t.gl _ (wt8 hkl);refine yl9 hy ?_;lk;refine ym0 hy ?_;lk;refine fin _ _ _ (t2.gup (λx hx=>t.gl x (mem_of_mem_eraseIdx hx)) (by rw[length_eraseIdx];split <;> omega)) (by rw[yl3];omega)
  ·rw[decide_eq_false h4];k_go;k_go;exact rest H1 t1
 show wc4 K _ _ _;refine ww7 ?_;refine yw6 ?_;lk;by_cases h33:way=3
 ·rw[decide_eq_true h33];x_go;lk;refine⟨C7 (by z_go),λe0 he0=>?_⟩;have t2:=t.same (A3.new he0 (.lst []));lk;refine yg2 t2.g A2 ?_;generalize upd H e0 (.lst [])=H2 at *
  refine⟨_,rfl,?_⟩;by_cases hg:gs=[]
  ·have e1:(!gs.isEmpty)=false:=by rw[hg];rfl
   rw[e1];k_go;exact four _ t2
  ·have e1:(!gs.isEmpty)=true:=by cases gs with|nil=>exact absurd rfl hg|cons=>rfl
   rw[e1];x_go;show wc2 K _ _ _;obtain⟨gi,y,ey⟩:∃gi y,gs=gi++[y]:=⟨_,_,(dropLast_concat_getLast hg).symm⟩;have t2g:=t2.g;have es:B0 gs=B0 gi++[.str y]:=by rw[ey];simp[B0]
   rw[es] at t2g;lk;refine⟨.inl ⟨rfl,_,SqL.of t2.p⟩,?_⟩;lk;refine⟨.inl ⟨rfl,_,SqL.of t2g⟩,?_⟩;refine ye7 t2g ?_;have hy:=t.gl y (by rw[ey];simp);have lg:=t.lg;refine yl9 hy ?_;lk;refine ym0 hy ?_;lk;refine fin _ _ gi (t2.gup (λx hx=>t.gl x (by rw[ey];simp[hx])) (by rw[ey,length_append] at lg;omega)) (by rw[yl3];omega)
 ·rw[decide_eq_false h33];k_go;k_go;exact four _ t
def qe4(K:Fg):Sp:=λvs H Q _=>∃(ca na:Addr) (cs:List Int) (ks:List Str),vs=[.ref ca,.ref na]/\SqL K H ca (cs.map V.int)/\cs.length<=60/\H na=some #[23,ks]/\1<=ks.length/\ks.length<=1000/\(∀x∈ks,x.length<=9)/\∀(u:Str) (H':Hp),u.length<=9000->A3 H H'->Q (.str u) H'
def Y8(K:Fg):TS :=
 (B1 (B8 (T2 A5) (A6 2))
 (B1 (B8 (T2 A5) (A6 3))
 (xa9 K)))
theorem xn1(h:qe4 K vs H Q E):Y8 K {nx:=λ_ H'=>Q .non H',rt:=Q} (C3 ["_law_cells","_law_names_here","_law_pieces_here","_law_begun","_law_cell","_law_x","_law_way","_law_name"] vs) H:=by
 obtain⟨ca,na,cs,ks,rfl,hca,hcl,hna,hk1,hk12,hk9,q⟩:=h;show Y8 K _ [some (.ref ca),some (.ref na),none,none,none,none,none,none] H;unfold Y8;lk;refine⟨C7 (by z_go),λP hP=>?_⟩;have s1:=A3.new hP (.lst []);have e1:(upd H P (.lst [])) P=_:=A2;generalize upd H P (.lst [])=H1 at *
 lk;refine⟨C7 (by z_go),λG hG=>?_⟩;have s2:=A3.new hG (.lst []);have nPG:P≠G:=N4 e1 hG;have t0:T8 H (upd H1 G (.lst [])) P G [] [] 0:=⟨A3.tr s1 s2,s2 _ _ e1,A2,nPG,hP,none_of s1 hG,by simp,by simp,Nat.le_refl _,Nat.le_refl _⟩;generalize upd H1 G (.lst [])=H2 at *
 lk;refine wx8 (H0:=H) (.inl hca) t0.s (λi σ H'=>∃(ps gs:List Str) (a4 a5 a6 a7:Option V),σ=[some (.ref ca),some (.ref na),some (.ref P),some (.ref G),a4,a5,a6,a7]/\T8 H H' P G ps gs i) ⟨[],[],none,none,none,none,rfl,t0⟩ (λi σ H' ⟨_,_,_,_,_,_,_,t⟩=>t.s) ?_ ?_
 ·rintro i v σ H' hv ⟨ps,gs,a4,a5,a6,a7,rfl,t⟩;have hi:i<60:=by have:=(List.getElem?_eq_some_iff.mp hv).1;rw[length_map] at this;omega
  rw[List.getElem?_map] at hv;obtain⟨cell,_,rfl⟩:=Option.map_eq_some_iff.mp hv;refine D0 ?_;lk;refine⟨cell,rfl,λx hx=>?_⟩;lk;have hna':=t.s _ _ hna;refine M6 (.inl (SqL.of hna')) ?_;rw[B2];refine zd2 #[0] ?_;obtain⟨w,hw,a⟩:=xx1 (xs:=ks) (j:=x / 8) (m:=ks.length) rfl #[0];refine L8 (SqL.of hna') a ?_;refine D0 ?_;exact Au7 t hi (hk9 w hw) hna hk1 hk12 hk9 (Int.ediv_nonneg hx #[7]) λps' gs' H' t'=>⟨ps',gs',_,_,_,_,rfl,t'⟩
 ·rintro σ H' ⟨ps,gs,a4,a5,a6,a7,rfl,t⟩;have hli:=t.li;rw[length_map] at hli;have hsum:∀l:List Str,(∀x∈l,x.length<=150)->(l.map (·.length)).sum<=150*l.length:=λl=>by
   induction l with
   | nil=>intro _;exact Nat.le_refl _
   | cons z l ih=>intro h;rw[map_cons,sum_cons,length_cons];have h1:=ih λy hy=>h y (mem_cons_of_mem _ hy);have h2:=h z mem_cons_self;omega
  have hs:=hsum ps t.pl;lk;refine⟨rfl,?_⟩;lk;refine⟨"",P,ps,rfl,rfl,.inl (SqL.of t.p),by show _+_*0<=_;omega,?_⟩;rw[xu5];exact q _ _ (by rw[<-xa1];omega) t.s
variable{acc:List PyData}{s':Nat}
section
variable{p:List Nat}{k f:Nat}
theorem qx0{i:Nat}(h:i<l.length):(l++p)[i]?=l[i]?:=List.getElem?_append_left h
theorem ze4(h:k+1<l.length):TX.nst (l++p) k=TX.nst l k:=by unfold TX.nst;rw[qx0 h]
theorem za8(l:List Nat)(k:Nat):TX.nst l k<=k+2/\k+1<=TX.nst l k:=by unfold TX.nst;split <;> omega
theorem xp4:TX.tagAt l k=some (f,e)↔l[k]?=some 60/\f=TX.nst l k/\∃n,e=f+n+1/\1<=n/\n<=8/\(∀i,i<n->∃c,l[f+i]?=some c/\TX.letter c=true)/\l[f+n]?=some 62:=by
 unfold TX.tagAt;by_cases h:l[k]?=some 60
 ·rw[if_pos h,Option.map_eq_some_iff];constructor
  ·rintro⟨n,hn,e1⟩;injection e1 with e1 e2;obtain⟨h1,h2,h3,h4⟩:=TX.nm_iff.mp hn;refine⟨h,e1.symm,n,by omega,h1,h2,λi hi=>?_,?_⟩
   ·obtain⟨c,hc,hl⟩:=h3 i hi;rw[List.getElem?_drop] at hc;exact⟨c,by rw[<-e1];exact hc,hl⟩
   ·rw[List.getElem?_drop] at h4;rw[<-e1];exact h4
  ·rintro⟨_,e1,n,e2,h1,h2,h3,h4⟩;refine⟨n,TX.nm_iff.mpr ⟨h1,h2,λi hi=>?_,?_⟩,by rw[<-e1,e2]⟩
   ·obtain⟨c,hc,hl⟩:=h3 i hi;rw[List.getElem?_drop,<-e1];exact⟨c,hc,hl⟩
   ·rw[List.getElem?_drop,<-e1];exact h4
 ·rw[if_neg h];exact⟨λz=>(by cases z),λz=>absurd z.1 h⟩
theorem zv2(he:e<=l.length):TX.tagAt (l++p) k=some (f,e)↔TX.tagAt l k=some (f,e):=by
 rw[xp4,xp4];constructor
 ·rintro⟨h0,e1,n,e2,h1,h2,h3,h4⟩;have:=za8 (l++p) k;have hk:k+1<l.length:=by omega
  rw[qx0 #[0]] at h0;rw[ze4 hk] at e1;refine⟨h0,e1,n,e2,h1,h2,λi hi=>?_,by rw[qx0 #[0]] at h4;exact h4⟩;obtain⟨c,hc,hl⟩:=h3 i hi;rw[qx0 #[0]] at hc;exact⟨c,hc,hl⟩
 ·rintro⟨h0,e1,n,e2,h1,h2,h3,h4⟩;have:=za8 l k;have hk:k+1<l.length:=by omega
  refine⟨by rw[qx0 #[0]];exact h0,by rw[ze4 hk];exact e1,n,e2,h1,h2,λi hi=>?_,by rw[qx0 #[0]];exact h4⟩;obtain⟨c,hc,hl⟩:=h3 i hi;exact⟨c,by rw[qx0 #[0]];exact hc,hl⟩
theorem An8(hn:TX.tagAt l k=none)(h:k+11<=l.length\/∃k',k<k'/\l[k']?=some 60):TX.tagAt (l++p) k=none:=by
 cases ht:TX.tagAt (l++p) k with
 | none=>rfl
 | some fe =>
   obtain⟨f,e⟩:=fe
   exfalso
   have no:¬e<=l.length:=λhe=>by rw[(zv2 he).mp ht] at hn;cases hn
   obtain⟨h0,e1,n,e2,h1,h2,h3,h4⟩:=xp4.mp ht
   have:=za8 (l++p) k
   rcases h with h|⟨k',hk,h60⟩
   ·omega
   ·have hkl:k'<l.length:=(List.getElem?_eq_some_iff.mp h60).1
    have h60':(l++p)[k']?=some 60:=by rw[qx0 hkl];exact h60
    by_cases hf:k'<f
    ·
     have ek:k'=k+1:=by omega
     have ef:f=k+2:=by omega
     unfold TX.nst at e1
     split at e1
     ·rename_i h47
      rw[ek,h47] at h60';cases h60'
     ·omega
    ·obtain⟨c,hc,hl⟩:=h3 (k'-f) #[0]
     rw[show f+(k'-f)=k' by omega,h60'] at hc
     cases hc
     exact absurd hl #[7]
theorem yt1(he:e<=l.length):TX.tagD (l++p) k f e=TX.tagD l k f e:=by
 unfold TX.tagD;have:((l++p).drop f).take (e-1-f)=(l.drop f).take (e-1-f):=by
  by_cases hf:f<=l.length
  ·rw[drop_append_of_le_length hf,take_append_of_le_length (by rw[length_drop];omega)]
  ·rw[show e-1-f=0 by omega];rfl
 rw[this]
theorem zv3(hk:k<=l.length):TX.runs (l++p) s k=TX.runs l s k:=by
 unfold TX.runs;split
 ·rename_i h;unfold TX.runD;have:((l++p).drop s).take (k-s)=(l.drop s).take (k-s):=by rw[drop_append_of_le_length #[0],take_append_of_le_length (by rw[length_drop];omega)]
  rw[this]
 ·rfl
noncomputable def stl(l:List Nat):Nat->Nat->Nat->List PyData×Nat
 | 0,_,s=>([],s)
 | n+1,k,s=>if l.length<=k then([],s) else match TX.tagAt l k with
   | none=>stl l n (k+1) s
   | some (f,e)=>(TX.runs l s k++TX.tagD l k f e::(stl l n e e).1,(stl l n e e).2)
theorem ql9:∀(n k s:Nat),l.length-k<=n->TX.toks l k s=(stl l n k s).1++TX.runs l (stl l n k s).2 l.length
 | 0,k,s,h=>by rw[TX.toks_end #[0]];rfl
 | n+1,k,s,h=>by
   rw[stl];by_cases hk:l.length<=k
   ·rw[if_pos hk,TX.toks_end hk];rfl
   ·rw[if_neg hk];cases ht:TX.tagAt l k with
    | none=>rw[TX.toks_none #[0] ht];exact ql9 n (k+1) s #[0]
    | some fe =>
      obtain⟨f,e⟩:=fe
      have:=TX.tagAt_gt ht
      rw[TX.toks_some ht,ql9 n e e #[0]]
      simp
theorem qm0:∀(n k s:Nat),(stl l n k s).1=[]/\(stl l n k s).2=s\/∃a0 k' f,k<=k'/\(stl l n k s).1=a0++[TX.tagD l k' f (stl l n k s).2]/\TX.tagAt l k'=some (f,(stl l n k s).2)
 | 0,k,s=>.inl ⟨rfl,rfl⟩
 | n + 1,k,s=>by
   rw[stl];by_cases hk:l.length<=k
   ·rw[if_pos hk];exact .inl ⟨rfl,rfl⟩
   ·rw [if_neg hk];cases ht:TX.tagAt l k with
    | none =>
      rcases qm0 n (k+1) s with h|⟨a0,k',f,h1,h2,h3⟩
      ·exact .inl h
      ·exact .inr ⟨a0,k',f,by omega,h2,h3⟩
    | some fe =>
      obtain⟨f,e⟩:=fe
      have hg:=TX.tagAt_gt ht
      refine .inr ?_
      rcases qm0 n e e with⟨h1,h2⟩|⟨a0,k',f',h1,h2,h3⟩
      ·refine⟨TX.runs l s k,k,f,Nat.le_refl _,?_,?_⟩
       ·show TX.runs l s k++TX.tagD l k f e::(stl l n e e).1=_++[TX.tagD l k f (stl l n e e).2]
        rw[h1,h2]
       ·show _=some (f,(stl l n e e).2)
        rw[h2];exact ht
      ·refine⟨TX.runs l s k++TX.tagD l k f e::a0,k',f',by omega,?_,h3⟩
       show TX.runs l s k++TX.tagD l k f e::(stl l n e e).1=_++[TX.tagD l k' f' (stl l n e e).2]
       rw[h2];simp
theorem wp8:∀(n k s0:Nat),k<=l.length->l.length-k<=n->s0<=k->k<=max (stl l n k s0).2 (l.length-10)->TX.toks (l++p) k s0=(stl l n k s0).1++TX.toks (l++p) (max (stl l n k s0).2 (l.length-10)) (stl l n k s0).2
 | 0,k,s0,h1,h2,h3,h4=>by
   have hk:k=l.length:=by omega
   subst hk;have e:max s0 (l.length-10)=l.length\/max s0 (l.length-10)<l.length:=by omega
   show TX.toks (l++p) l.length s0=[]++TX.toks (l++p) (max s0 (l.length-10)) s0;have h4:l.length<=max s0 (l.length-10):=h4;rw[show max s0 (l.length-10)=l.length by omega];rfl
 | n + 1,k,s0,h1,h2,h3,h4=>by
   rw[stl] at h4 ⊢;by_cases hk:l.length<=k
   ·have hk:k=l.length:=by omega
    subst hk;rw[if_pos #[6]] at h4 ⊢;have h4:l.length<=max s0 (l.length-10):=h4;show TX.toks (l++p) l.length s0=[]++TX.toks (l++p) (max s0 (l.length-10)) s0;rw[show max s0 (l.length-10)=l.length by omega];rfl
   ·rw [if_neg hk] at h4 ⊢;cases ht:TX.tagAt l k with
    | none =>
      rw[ht] at h4
      have h4:k<=max (stl l n (k+1) s0).2 (l.length-10):=h4
      show TX.toks (l++p) k s0=(stl l n (k+1) s0).1++TX.toks (l++p) (max (stl l n (k+1) s0).2 (l.length-10)) (stl l n (k+1) s0).2
      rcases Nat.lt_or_eq_of_le h4 with h5|h5
      ·have hno:TX.tagAt (l++p) k=none:=An8 ht (by
        rcases qm0 (l:=l) n (k+1) s0 with⟨_,e2⟩|⟨a0,k',f,g1,g2,g3⟩
        ·left;rw[e2] at h5;omega
        ·right;exact⟨k',by omega,(xp4.mp g3).1⟩)
       rw[TX.toks_none (by rw[length_append];omega) hno]
       exact wp8 n (k+1) s0 #[0] #[0] #[0] #[0]
      ·
       rcases qm0 (l:=l) n (k+1) s0 with⟨e1,e2⟩|⟨a0,k',f,g1,g2,g3⟩
       ·rw[e1,<-h5,e2];rfl
       ·exfalso
        have:=TX.tagAt_gt g3
        omega
    | some fe =>
      obtain⟨f,e⟩:=fe
      have hg:=TX.tagAt_gt ht
      rw[ht] at h4
      have ht':TX.tagAt (l++p) k=some (f,e):=(zv2 hg.2.1).mpr ht
      rw[TX.toks_some ht',yt1 hg.2.1,zv3 #[0]]
      have hle:e<=max (stl l n e e).2 (l.length-10):=by
       rcases qm0 (l:=l) n e e with⟨_,e2⟩|⟨a0,k',f',g1,g2,g3⟩
       ·omega
       ·have:=TX.tagAt_gt g3;omega
      have ih:=wp8 n e e hg.2.1 #[0] #[6] hle
      show _=(TX.runs l s0 k++TX.tagD l k f e::(stl l n e e).1)++TX.toks (l++p) (max (stl l n e e).2 (l.length-10)) (stl l n e e).2
      rw[ih];simp
theorem zv4{k f a b:Nat}:TX.tagD l k f e≠TX.runD l a b:=by
 unfold TX.tagD TX.runD;intro h;injection h with h;injection h with h _;injection h with h;split at h <;> exact absurd h #[7]
theorem yt2{n q:Nat}(hn:l.length-q<=n)(h:acc++TX.runs l s' l.length=TX.toks l q s)(h2:acc=[]/\s'=s\/∃a0 k f,acc=a0++[TX.tagD l k f s']):acc=(stl l n q s).1/\s'=(stl l n q s).2:=by
 rw[ql9 n q s hn] at h;have e2:=qm0 (l:=l) n q s;generalize (stl l n q s).1=A at *
 generalize (stl l n q s).2=S at *
 have last:∀(B C:List PyData) (x y:Nat) (r:PyData),(C=[]\/∃c0 k f e,C=c0++[TX.tagD l k f e])->B++[TX.runD l x y]=C->False:=λB C x y r hC e=>by
  rcases hC with rfl|⟨c0,k,f,ee,rfl⟩
  ·simp at e
  ·have:=(append_inj' e rfl).2;exact zv4 (List.cons.inj this).1.symm
 have hA:A=[]\/∃c0 k f e,A=c0++[TX.tagD l k f e]:=by
  rcases e2 with⟨h1,_⟩|⟨a0,k',f,_,h1,_⟩
  ·exact .inl h1
  ·exact .inr ⟨a0,k',f,_,h1⟩
 have hacc:acc=[]\/∃c0 k f e,acc=c0++[TX.tagD l k f e]:=by
  rcases h2 with⟨h1,_⟩|⟨a0,k,f,h1⟩
  ·exact .inl h1
  ·exact .inr ⟨a0,k,f,_,h1⟩
 have eA:acc=A:=by
  unfold TX.runs at h;split at h
  ·split at h
   ·exact(append_inj' h rfl).1
   ·rw[append_nil] at h;exact(last acc A _ _ (.int 0) hA h).elim
  ·rw[append_nil] at h;split at h
   ·exact(last A acc _ _ (.int 0) hacc h.symm).elim
   ·rw[append_nil] at h;exact h
 refine⟨eA,?_⟩;rcases h2 with⟨h1,h3⟩|⟨a0,k,f,h1⟩
 ·rcases e2 with⟨_,g2⟩|⟨a0,k',f,_,g2,_⟩
  ·rw[h3,g2]
  ·rw[<-eA,h1] at g2;simp at g2
 ·rcases e2 with⟨g1,_⟩|⟨b0,k',f',_,g2,_⟩
  ·rw[<-eA,h1] at g1;simp at g1
  ·rw[<-eA,h1] at g2;have:=(List.cons.inj (append_inj' g2 rfl).2).1;unfold TX.tagD at this;injection this with this;injection this with _ this;injection this with _ this;injection this with this _;injection this with this;omega
end
def Mex(st st':Rst):Prop:=∃d,st'.ms=st.ms++d
theorem Mex.tr{a b c:Rst}:Mex a b->Mex b c->Mex a c:=by
 rintro⟨d,h⟩ ⟨e,g⟩;exact⟨d++e,by rw[g,h,append_assoc]⟩
theorem Mex.rf(a:Rst):Mex a a:=⟨[],by simp⟩
theorem Mex.fold{α:Type}{f:Rst->α->Rst}(h:∀s x,Mex s (f s x)):∀(l:List α) (s:Rst),Mex s (l.foldl f s)
 | [],s=>.rf s
 | x::l,s=>(h s x).tr (Mex.fold h l _)
theorem zv5(rs:List Row)(rk:Str->Nat)(st:Rst)(kind:Str)(i:Int)(g t:Str):Mex st (qt0 rs rk st kind i g t):=by
 have hp:∀(st:Rst) ns rule,Mex st (O0 st ns i rule):=λst ns rule=>Mex.fold (λs n=>⟨_,rfl⟩) ns st;unfold qt0;split
 ·unfold opS;split
  ·exact⟨_,rfl⟩
  split
  ·exact⟨_,rfl⟩
  split
  ·exact⟨_,rfl⟩
  have h:=Mex.tr ⟨_,rfl⟩ (hp (qg7 rs st #[18,t].1 i "shut") #[18,t].2.dropLast "frame");dsimp only;split
  ·exact h
  ·exact h
 split
 ·unfold xe8;split
  ·exact⟨_,rfl⟩
  ·split <;> exact⟨_,rfl⟩
 ·unfold xe9;split
  ·exact⟨_,rfl⟩
  split
  ·exact⟨_,rfl⟩
  refine(hp st (O5 rs st) "host").tr (Mex.tr (b:=qy8 rs i (O0 st (O5 rs st) i "host")) ?_ ⟨_,rfl⟩);unfold qy8;refine Mex.tr (b:={(O0 st (O5 rs st) i "host") with bs:=wUp rs (λ_=>[]) (O0 st (O5 rs st) i "host").bs}) ⟨[],by simp⟩ (Mex.fold (λs n=>?_) _ _);unfold qn0;split
  ·exact⟨_,rfl⟩
  ·exact .rf _
theorem ze5(rs:List Row)(rk:Str->Nat)(z:Str)(st:Rst)(d:PyData):Mex st (qf7 rs rk z st d):=by
 unfold qf7;split
 ·exact zv5 ..
 ·exact .rf _
theorem qt2(z p:Str):(z++p).cps.toList=z.cps.toList++p.cps.toList:=Array.toList_append
def FdS(rs:List Row)(rk:Str->Nat)(z:Str)(s:Nat)(st:Rst):Prop:=∃n T,z.cps.toList.length<=n/\stl z.cps.toList n 0 0=(T,s)/\st=T.foldl (qf7 rs rk z) st0
section
variable{p:Str}
theorem za9{p:Nat}(h:TkC l p (TX.runs l s l.length))(hs:s<=l.length):p=s:=by
 unfold TX.runs at h;split at h
 ·unfold TX.runD at h;cases h;rfl
 ·cases h;omega
theorem FdS.init:FdS rs rk "" 0 st0:=⟨0,[],Nat.le_refl _,rfl,rfl⟩
theorem ym1(n k s:Nat)(h:s<=l.length):(stl l n k s).2<=l.length:=by
 rcases qm0 (l:=l) n k s with⟨_,h2⟩|⟨_,k',f,_,_,h2⟩
 ·omega
 ·exact(TX.tagAt_gt h2).2.1
theorem FdS.bg(b:Bok rs rk)(h:FdS rs rk z s st):∃j,j<=s/\s<=z.length/\Bg rs (2*j) (20*j) (60*j+s) j s st:=by
 obtain⟨n,T,hn,hT,rfl⟩:=h;walk_at"9";walk_at"36";rw[hT] at hc;have hc:TX.toks z.cps.toList 0 0=T++TX.runs z.cps.toList s z.cps.toList.length:=hc;have hs:s<=z.cps.toList.length:=by have:=ym1 (l:=z.cps.toList) n 0 0 (Nat.zero_le _);rw[hT] at this;exact this
 obtain⟨q,h1,h2,h3,h4⟩:=xa0 (z:=z) b T.length (by rw[hc,length_append];omega);rw[hc,drop_left] at h3;rw[hc,take_left] at h4;obtain rfl:=za9 h3 hs;exact⟨T.length,h2,h1,h4⟩
theorem ym2:∀(T R:List PyData) (k:Nat) (st:Rst),TkC z.cps.toList k (T++R)->T.foldl (qf7 rs rk (z++p)) st=T.foldl (qf7 rs rk z) st
 | [],_,_,_,_=>rfl
 | d :: T,R,k,st,h=>by
   cases h with
   | cons h1 h2 h3 h4 =>
     rename_i e kind t
     rw[foldl_cons,foldl_cons]
     have ec:Z8 (z++p) (some (k:Int)) (some (e:Int))=Z8 z (some (k:Int)) (some (e:Int)):=by
      unfold Z8;rw[qt2,HT.R5,HT.R5,HT.R5,HT.R5,length_append,Nat.min_eq_left (show k<=_ by omega),Nat.min_eq_left (show e<=_ by omega),Nat.min_eq_left (show k<=_ by omega),Nat.min_eq_left (show e<=_ by omega),drop_append_of_le_length #[0],take_append_of_le_length (by rw[length_drop];omega)]
     show T.foldl _ (qt0 rs rk st kind k (Z8 (z++p) (some (k:Int)) (some (e:Int))) t)=_
     rw[ec]
     exact ym2 T R e _ h4
theorem FdS.take(h:FdS rs rk z s st)(ha:acc++TX.runs (z++p).cps.toList s' (z++p).cps.toList.length=TX.toks (z++p).cps.toList (max s (z.length-10)) s)(h2:acc=[]/\s'=s\/∃a0 k f,acc=a0++[TX.tagD (z++p).cps.toList k f s']) :
 FdS rs rk (z++p) s' (acc.foldl (qf7 rs rk (z++p)) st)/\TkC (z++p).cps.toList s (acc++TX.runs (z++p).cps.toList s' (z++p).cps.toList.length):=by
 obtain⟨n,T,hn,hT,rfl⟩:=h
 walk_at"9"
 have hs:s<=z.cps.toList.length:=by have:=ym1 (l:=z.cps.toList) n 0 0 (Nat.zero_le _);rw[hT] at this;exact this
 have hg:=wp8 (l:=z.cps.toList) (p:=p.cps.toList) n 0 0 (Nat.zero_le _) #[0] #[6] (Nat.zero_le _)
 have he:=qm0 (l:=z.cps.toList) n 0 0
 rw[hT,<-qt2,gl] at hg
 rw[hT] at he
 have hg:TX.toks (z++p).cps.toList 0 0=T++TX.toks (z++p).cps.toList (max s (z.length-10)) s:=hg
 rw[<-ha,<-append_assoc] at hg
 have hll:z.cps.toList.length<=(z++p).cps.toList.length:=by rw[qt2,length_append];omega
 have e2:=yt2 (l:=(z++p).cps.toList) (n:=(z++p).cps.toList.length) (q:=0) #[0] hg.symm (by
  rcases h2 with⟨rfl,rfl⟩|⟨a0,k,f,rfl⟩
  ·rw[append_nil];rcases he with⟨h1,h3⟩|⟨a0,k',f,_,h1,h3⟩
   ·exact .inl ⟨h1,h3⟩
   ·refine .inr ⟨a0,k',f,?_⟩;rw[qt2,yt1 (TX.tagAt_gt h3).2.1];exact h1
  ·exact .inr ⟨T++a0,k,f,by rw[append_assoc]⟩)
 walk_at"36"
 rw[hT] at hc
 have tk:=wz9 z.cps.toList
 rw[hc] at tk
 refine⟨⟨_,T++acc,Nat.le_refl _,Prod.ext e2.1.symm e2.2.symm,?_⟩,?_⟩
 ·rw[foldl_append,ym2 T _ 0 _ tk]
 ·rw[ha]
  exact wz8 _ _ _ _ (Nat.le_max_left ..) #[0]
theorem FdS.done(h:FdS rs rk z s st):qp4 rs rk z=(TX.runs z.cps.toList s z.cps.toList.length).foldl (qf7 rs rk z) st:=by
 obtain⟨n,T,hn,hT,rfl⟩:=h;walk_at"36";rw[hT] at hc;unfold qp4;rw[hc,foldl_append]
end
structure Cf(K:Fg)(qB:Addr):Prop where
 pg_Feed:PySem.W.plainGet K qB Str.empty=true
 hd_Feed:PySem.W.hasDictIn K qB=true
 po_Feed:PySem.W.plainOver K qB=true
 sa_Feed:PySem.W.findIn K (.ref qB) "__setattr__"=some (some (.builtin "object.__setattr__"))
 ns_Feed:PySem.W.nsIn K mainGlobals "Feed"=some (some (.ref qB))
 na_Feed_reader:PySem.W.findIn K (.ref qB) "reader"=some none
 na_Feed_text:PySem.W.findIn K (.ref qB) "text"=some none
 na_Feed_settled:PySem.W.findIn K (.ref qB) "settled"=some none
 na_Feed_ended:PySem.W.findIn K (.ref qB) "ended"=some none
variable{qB:Addr}
theorem Cf.cl_Feed(z:Cf K qB):Cls K qB:=⟨z.pg_Feed,z.hd_Feed,z.po_Feed,z.sa_Feed⟩
structure FdO(K:Fg)(H:Hp)(kF kR kB o x r:Addr)(bv:V)(a:RAd)(z:Str)(s:Nat)(en:Bool)(st:Rst):Prop where
 kf:PySem.W.nsIn K mainGlobals "Feed"=some (some (.ref kF))
 ob:H o=some (.ins kF x [("reader",.ref r),("text",.str z),("settled",.int s),("ended",.bl en)])
 rd:RdO K H kR kB r bv a st
 nn:o∉RAd.fp r a
structure Fup(K:Fg)(kF kR kB o x r:Addr)(bv:V)(H:Hp)(a:RAd)(H':Hp)(a':RAd)(z:Str)(s:Nat)(en:Bool)(st:Rst):Prop where
 ok:FdO K H' kF kR kB o x r bv a' z s en st
 bt:But (o::RAd.fp r a) H H'
 fr:∀y∈RAd.fp r a',y∈RAd.fp r a\/H y=none
variable{a' a2:RAd}{en en':Bool}{kF:Addr}{st':Rst}{z':Str}
section
variable{o x:Addr}
theorem RdO.but(h:RdO K H kR kB r bv a st)(bt:But ps H H')(tk:R6 H H')(hd:∀y∈RAd.fp r a,y∉ps):RdO K H' kR kB r bv a st:=by
 obtain⟨us,m1,m2⟩:=h.m;obtain⟨vs,d1,d2⟩:=h.d;exact⟨h.kr,h.kb,bt _ _ h.o (hd _ (by simp[RAd.fp])),bt _ _ h.l (hd _ (by simp[RAd.fp])),h.b.but bt tk λy hy=>hd y (by simp[RAd.fp,hy]),⟨us,bt _ _ m1 (hd _ (by simp[RAd.fp])),Dvs.tupK tk _ _ (E3 Mnd.fix _) m2⟩,⟨vs,bt _ _ d1 (hd _ (by simp[RAd.fp])),Dvs.tupK tk _ _ (E3 Lad.fix _) d2⟩,h.nd⟩
theorem FdO.mut(h:FdO K H kF kR kB o x r bv a z s en st):∀p∈o::RAd.fp r a,yy5 H p:=λp hp=>by
 rcases mem_cons.mp hp with rfl|hp
 ·exact .inr ⟨_,_,_,h.ob⟩
 ·exact h.rd.mut p hp
theorem FdO.but(h:FdO K H kF kR kB o x r bv a z s en st)(bt:But ps H H')(tk:R6 H H')(hd:∀y∈o::RAd.fp r a,y∉ps):FdO K H' kF kR kB o x r bv a z s en st :=
 ⟨h.kf,bt _ _ h.ob (hd _ (by simp)),h.rd.but bt tk λy hy=>hd y (mem_cons_of_mem _ hy),h.nn⟩
theorem FdO.same(h:FdO K H kF kR kB o x r bv a z s en st)(sm:A3 H H'):FdO K H' kF kR kB o x r bv a z s en st:=h.but (ps:=[]) (λc u e _=>sm c u e) sm.tupK (λ_ _ y=>by cases y)
theorem FdO.fresh(h:FdO K H kF kR kB o x r bv a z s en st)(hp:H p=none):p∉o::RAd.fp r a:=λhm=>by
 rcases h.mut p hm with⟨xs,e⟩|⟨C,dx,fs,e⟩ <;> rw[hp] at e <;> cases e
theorem FdO.set(h:FdO K H kF kR kB o x r bv a z s en st)(z':Str)(s':Nat)(en':Bool):Fup K kF kR kB o x r bv H a (upd H o (.ins kF x [("reader",.ref r),("text",.str z'),("settled",.int s'),("ended",.bl en')])) a z' s' en' st :=
 ⟨⟨h.kf,A2,h.rd.but But.upd1 (V8 (.inr ⟨_,_,_,h.ob⟩)) (λy hy e=>h.nn (by rw[mem_singleton.mp e] at hy;exact hy)),h.nn⟩,λc u e n=>by rw[A8 (λy=>n (by rw[y];simp))];exact e,λy hy=>.inl hy⟩
theorem FdO.rup(h:FdO K H kF kR kB o x r bv a z s en st)(u:Rup K kR kB r bv H a H' a' st'):Fup K kF kR kB o x r bv H a H' a' z s en st' :=
 ⟨⟨h.kf,u.bt _ _ h.ob h.nn,u.ok,λhc=>(u.fr _ hc).elim h.nn λe=>by rw[h.ob] at e;cases e⟩,λc v e n=>u.bt c v e λhc=>n (mem_cons_of_mem _ hc),u.fr⟩
theorem Fup.tr(h1:Fup K kF kR kB o x r bv H a H' a' z s en st)(h2:Fup K kF kR kB o x r bv H' a' H2 a2 z' s' en' st')(g:B3 H H'):Fup K kF kR kB o x r bv H a H2 a2 z' s' en' st' :=
 ⟨h2.ok,λc u e n=>h2.bt c u (h1.bt c u e n) λhc=>(mem_cons.mp hc).elim (λy=>n (by rw[y];simp)) λhc=>(h1.fr c hc).elim (λy=>n (mem_cons_of_mem _ y)) λy=>(by rw[y] at e;cases e),
  λy hy=>(h2.fr y hy).elim (h1.fr y) λe=>.inr (g y e)⟩
theorem Fup.rf(h:FdO K H kF kR kB o x r bv a z s en st)(sm:A3 H H'):Fup K kF kR kB o x r bv H a H' a z s en st:=⟨h.same sm,λc u e _=>sm c u e,λy hy=>.inl hy⟩
theorem Fup.tupK(u:Fup K kF kR kB o x r bv H a H' a' z' s' en' st')(h:FdO K H kF kR kB o x r bv a z s en st):R6 H H':=qs5 u.bt h.mut
theorem Fup.nin(u:Fup K kF kR kB o x r bv H a H' a' z' s' en' st')(h:p∉o::RAd.fp r a){w:HO}(hp:H p=some w):p∉o::RAd.fp r a':=λhm=>by
 rcases mem_cons.mp hm with rfl|hm
 ·exact h (by simp)
 ·rcases u.fr p hm with y|y
  ·exact h (mem_cons_of_mem _ y)
  ·rw[hp] at y;cases y
end
theorem yt3:∀{ds:List PyData} {i:Nat} {d:PyData},L6 ds=true->ds[i]?=some d->fix d=true
 | _::_,0,_,h,e=>by rw[L6,Bool.and_eq_true] at h;rw[<-Option.some.inj e];exact h.1
 | _::ds,i+1,_,h,e=>by rw[L6,Bool.and_eq_true] at h;exact yt3 (ds:=ds) (i:=i) h.2 (by simpa using e)
theorem ym3(f:Str)(v:V):qf6 f v []=[(f,v)]:=rfl
theorem qn9(f g:Str)(u v:V)(t:List (Str×V))(h:autoParam (g≠f) zAd):qf6 f v ((g,u)::t)=(g,u)::qf6 f v t:=by
 show(if g=f then _ else _)=_;rw[if_neg h]
theorem zb0(f:Str)(u v:V)(t:List (Str×V)):qf6 f v ((f,u)::t)=(f,v)::t:=by
 show(if f=f then _ else _)=_;rw[if_pos rfl]
abbrev wh0(K:Fg):TS :=
 (B1 (qi5 K (A0 0) (tC (.str "")) "text")
 (B1 (qi5 K (A0 0) #[1,0] "settled")
 (qi5 K (A0 0) (tC (.bl false)) "ended")))
def Y9(K:Fg):Sp:=λvs H Q _=>∃(kF o x:Addr) (bv:V),vs=[.ref o,bv]/\PySem.W.nsIn K mainGlobals "Feed"=some (some (.ref kF))/\H o=some (.ins kF x [])/\∀(kR kB r:Addr) (a:RAd) (H':Hp),FdO K H' kF kR kB o x r bv a "" 0 false st0->But [o] H H'->(∀z∈RAd.fp r a,H z=none)->B3 H H'->Q .non H'
def qd7(K:Fg)(qC:Addr):TS :=
 (B1 (qi5 K (A0 0) (xi3 qC (U2 K) [] E0 #[4,1]) "reader")
 (wh0 K))
theorem xx3(cz:Cz K qA qC)(cf:Cf K qB)(h:Y9 K vs H Q E):qd7 K qC {nx:=λ_ H'=>Q .non H',rt:=Q} (C3 ["self","book"] vs) H:=by
 obtain⟨kF,o,x,bv,rfl,hkF,ho,q⟩:=h;obtain rfl:=E2 cf.ns_Feed hkF;show qd7 K _ _ [some (.ref o),some bv] H;unfold qd7;have c:=cf.cl_Feed;refine V1 (R7 ?_);refine wp0 ?_;lk;intro r dx hr hdx ne;have nro:o≠r:=N9 hr ho;have e0:(upd (upd H dx (.own r)) r (.ins qC dx [])) o=_:=D4 (D4 ho (N9 hdx ho)) nro;have s0:A3 H (upd (upd H dx (.own r)) r (.ins qC dx [])):=λc u e=>D4 (D4 e (N9 hdx e)) (N9 hr e);have er:(upd (upd H dx (.own r)) r (.ins qC dx [])) r=some (.ins qC dx []):=A2;have g0:B3 H (upd (upd H dx (.own r)) r (.ins qC dx [])):=B3.tr B3.upd B3.upd;generalize upd (upd H dx (.own r)) r (.ins qC dx [])=H0 at *
 refine⟨qC,r,dx,bv,rfl,cz.ns_Reader,er,λkB a H1 h1 bt1 fr1 g1=>⟨rfl,?_⟩⟩;have e1:H1 o=_:=bt1 _ _ e0 (by simp[nro]);have fr2:∀y∈RAd.fp r a,H y=none:=λy hy=>(fr1 y hy).elim (λe=>by rw[e];exact hr) λe=>g0 _ e;have hno:o∉RAd.fp r a:=λhm=>by have:=fr2 _ hm;rw[ho] at this;cases this
 have bt2:But [o] H H1:=λc u e _=>bt1 c u (s0 c u e) (by simp;exact N9 hr e);have g2:B3 H H1:=B3.tr g0 g1;lk;refine⟨o,_,x,_,rfl,e1,c,cf.na_Feed_reader,by simp,?_⟩;rw[ym3];show wh0 K _ _ _;refine V1 (R7 ?_);lk;refine⟨o,_,x,_,rfl,A2,c,cf.na_Feed_text,by simp,?_⟩;rw[qn9 _ _ _ _ _,ym3];show B1 (qi5 K (A0 0) #[1,0] "settled") _ _ _ _;refine V1 (R7 ?_);lk;refine⟨o,_,x,_,rfl,A2,c,cf.na_Feed_settled,by simp,?_⟩;rw[qn9 _ _ _ _ _,qn9 _ _ _ _ _,ym3];show qi5 K (A0 0) (tC (.bl false)) "ended" _ _ _;refine R7 ?_;lk;refine⟨o,_,x,_,rfl,A2,c,cf.na_Feed_ended,by simp,?_⟩;rw[qn9 _ _ _ _ _,qn9 _ _ _ _ _,qn9 _ _ _ _ _,ym3];have bt3:=xe4 (p:=o) (o:=HO.ins qB x [(("reader":Str),V.ref r)]) bt2 (.inl (by simp));have bt4:=xe4 (p:=o) (o:=HO.ins qB x [(("reader":Str),V.ref r),(("text":Str),.str "")]) bt3 (.inl (by simp));have bt5:=xe4 (p:=o) (o:=HO.ins qB x [(("reader":Str),V.ref r),(("text":Str),.str ""),(("settled":Str),.int 0)]) bt4 (.inl (by simp));have bt6:=xe4 (p:=o) (o:=HO.ins qB x [(("reader":Str),V.ref r),(("text":Str),.str ""),(("settled":Str),.int 0),(("ended":Str),.bl false)]) bt5 (.inl (by simp));refine q qC kB r a _ ⟨cf.ns_Feed,A2,h1.but (ps:=[o]) (λc u e n=>?_) (qs5 (ps:=[o]) (λc u e n=>?_) λp hp=>?_) (λy hy e=>hno (by rw[mem_singleton.mp e] at hy;exact hy)),hno⟩ bt6 fr2 (B3.tr g2 (B3.tr B3.upd (B3.tr B3.upd (B3.tr B3.upd B3.upd))))
 ·have n:c≠o:=by simpa using n
  rw[A8 n,A8 n,A8 n,A8 n];exact e
 ·have n:c≠o:=by simpa using n
  rw[A8 n,A8 n,A8 n,A8 n];exact e
 ·rw[mem_singleton.mp hp];exact .inr ⟨_,_,_,e1⟩
def E8(K:Fg):Sp:=λvs H Q _=>∃(kF kR kB o x r:Addr) (bv:V) (a:RAd) (z:Str) (s:Nat) (st:Rst),vs=[.ref o]/\FdO K H kF kR kB o x r bv a z s false st/\Q .non H
def M3(K:Fg):TS :=
 (M4 (tB (I0 K (A0 0) "ended"))
 zl8 J8)
theorem qr0(cz:Cz K qA qC)(cf:Cf K qB)(h:E8 K vs H Q E):M3 K {nx:=λ_ H'=>Q .non H',rt:=Q} (C3 ["self"] vs) H:=by
 obtain⟨kF,kR,kB,o,x,r,bv,a,z,s,st,rfl,h,q⟩:=h;obtain rfl:=E2 cf.ns_Feed h.kf;show M3 K _ [some (.ref o)] H;unfold M3;walk_at"2";refine⟨o,_,x,_,_,rfl,h.ob,cf.cl_Feed,cf.na_Feed_ended,rfl,?_⟩;lk;exact q
abbrev qh2(K:Fg)(qC:Addr):TS :=
 (B1 (D2 (E9 qC "read" (U4 K) [] E0 (I0 K (A0 0) "reader") (A1 (A0 2) (A1 (A0 3) (A1 (tSl (qu8 K) (I0 K (A0 0) "text") (O9 (A0 3)) (O9 (A0 4))) #[4,5])))))
 (qi5 K (A0 0) (A0 4) "settled"))
def J0(K:Fg):Sp:=λvs H Q _=>∃(kF kR kB o x r:Addr) (bv:V) (a:RAd) (z:Str) (s:Nat) (en:Bool) (st:Rst) (rs:List Row) (rk:Str->Nat) (p:Addr) (us:List V) (ds R:List PyData) (j:Nat),vs=[.ref o,.ref p]/\FdO K H kF kR kB o x r bv a z s en st/\BkO K H bv rs/\Bok rs rk/\z.length<=10000/\H p=some (.lst us)/\p∉o::RAd.fp r a/\Dvs K H ds us/\L6 ds=true/\TkC z.cps.toList s (ds++R)/\j<=s/\Bg rs (2*j) (20*j) (60*j+s) j s st/\∀(a':RAd) (s':Nat) (H':Hp),Fup K kF kR kB o x r bv H a H' a' z s' en (ds.foldl (qf7 rs rk z) st)->TkC z.cps.toList s' R->B3 H H'->Q .non H'
def O1(K:Fg)(qC:Addr):TS :=
 (qc8 (qy3 K (A0 1)) (xz4 K 4 (qf2 (A6 2) (qf2 (A6 3) (qf2 (A6 4) (qf2 (A6 5) yg7)))))
 (qh2 K qC))
theorem wj3(cz:Cz K qA qC)(cf:Cf K qB)(h:J0 K vs H Q E):O1 K qC {nx:=λ_ H'=>Q .non H',rt:=Q} (C3 ["self","tokens","kind","start","stop","told"] vs) H:=by
 obtain⟨kF,kR,kB,o,x,r,bv,a,z,s,en,st,rs,rk,p,us,ds,R,j,rfl,h,hk,bk,hz,hp,np,hd,hf,ht,hj,hb,q⟩:=h;obtain rfl:=E2 cf.ns_Feed h.kf;obtain rfl:=E2 cz.ns_Reader h.rd.kr;show O1 K _ _ [some (.ref o),some (.ref p),none,none,none,none] H;unfold O1;have hul:=hd.length;walk_at"9";have tka:∀i,i<=ds.length->(ds++R).take i=ds.take i:=λi hi=>take_append_of_le_length hi;have dra:∀i,i<=ds.length->(ds++R).drop i=ds.drop i++R:=λi hi=>drop_append_of_le_length hi;lk;refine wa4 (SqL.of hp) (λi σ H'=>∃a' s' x3 x4 x5 x6,σ=[some (.ref o),some (.ref p),x3,x4,x5,x6]/\Fup K qB qC kB o x r bv H a H' a' z s' en ((ds.take i).foldl (qf7 rs rk z) st)/\TkC z.cps.toList s' ((ds++R).drop i)/\B3 H H') ?_ ?_ ?_ ?_
 ·exact⟨a,s,none,none,none,none,rfl,.rf h (λ_ _ e=>e),ht,λ_ e=>e⟩
 ·rintro i σ H' _ ⟨a',s',x3,x4,x5,x6,rfl,u,t,g⟩;exact SqL.of (u.bt _ _ hp np)
 ·rintro i v σ H' hv ⟨a',s',x3,x4,x5,x6,rfl,u,t,g⟩;have hi:i<us.length:=by rcases Nat.lt_or_ge i us.length with h|h;exact h;rw[List.getElem?_eq_none_iff.mpr h] at hv;cases hv
  have hi2:i<ds.length:=by omega
  obtain⟨pp,_,hp1,hp2,hp3,bj⟩:=yl0 (z:=z) bk (ds++R) s j st ht hj hb i (by rw[length_append];omega);rw[tka _ #[0]] at bj;have hid:ds[i]?=some (ds[i]'hi2):=List.getElem?_eq_getElem _;obtain⟨w,hw,dw⟩:=hd.get hid;rw[hv] at hw;obtain rfl:=Option.some.inj hw;have ef:(ds.take (i+1)).foldl (qf7 rs rk z) st=qf7 rs rk z ((ds.take i).foldl (qf7 rs rk z) st) (ds[i]'hi2):=by
   rw[qd3 hid,foldl_append];rfl
  have tk:=u.tupK h;rw[PAt,ef];have fd:=yt3 hf hid
  replace dw:=Dv.tupK tk _ _ fd dw
  have ed:(ds++R).drop i=ds[i]'hi2::(ds++R).drop (i+1):=by
   rw[dra _ #[0],dra _ #[0],<-List.getElem_cons_drop (h:=hi2)];rfl
  rw[ed] at t hp3;generalize (ds.take i).foldl (qf7 rs rk z) st=sj at *
  generalize ds[i]'hi2=d at *
  have epp:s'=pp:=by cases t;cases hp3;rfl
  subst epp;cases t with
  | cons c1 c2 c3 c4 =>
  rename_i e kind t;obtain⟨q1,ws,rfl,hq,hwd⟩:=C6.mp dw;walk_at"10";rw[Dvs] at hwd;obtain⟨v3,r3,rfl,d3,hwd⟩:=hwd;rw[Dvs] at hwd;subst hwd;obtain rfl:=D6.mp d0;obtain rfl:=J7.mp d1;obtain rfl:=J7.mp d2;obtain rfl:=D6.mp d3;refine⟨q1,_,rfl,hq,rfl,_,_,rfl,D0 ⟨_,_,rfl,D0 ⟨_,_,rfl,D0 ⟨_,_,rfl,D0 ⟨rfl,?_⟩⟩⟩⟩⟩;show qh2 K _ _ _ _;lk;refine C5 ?_;refine C2 ?_;lk;refine⟨o,_,x,_,_,rfl,u.ok.ob,cf.cl_Feed,cf.na_Feed_reader,rfl,?_⟩;lk;refine⟨r,_,_,rfl,u.ok.rd.o,rfl,?_⟩;walk_at"2";refine⟨o,_,x,_,_,rfl,u.ok.ob,cf.cl_Feed,cf.na_Feed_text,rfl,?_⟩;lk;refine wx0 (C7 #[0]) ?_;lk;have hcl:=ys9 z (some (s':Int)) (some (e:Int));refine⟨qC,kB,r,bv,a',sj,rs,rk,_,_,_,_,_,kind,s',_,t,rfl,u.ok.rd,hk.tupK tk,bk,bj,⟨by omega,by omega,by omega,by omega,by omega⟩,by omega,by omega,λa2 H3 u2 g2=>?_⟩;show qi5 K (A0 0) (A0 4) "settled" _ _ _;refine R7 ?_;lk;have f2:=u.ok.rup u2;refine⟨o,_,x,_,rfl,f2.ok.ob,cf.cl_Feed,cf.na_Feed_settled,by simp,?_⟩;rw[qn9 _ _ _ _ _,qn9 _ _ _ _ _,zb0];exact⟨a2,e,_,_,_,_,rfl,u.tr (f2.tr (f2.ok.set z e en) g2) g,c4,B3.tr g (B3.tr g2 B3.upd)⟩
 ·rintro σ H' ⟨a',s',x3,x4,x5,x6,rfl,u,t,g⟩;rw[hul,take_length] at u;rw[hul,drop_left] at t;exact q a' s' H' u t g
theorem xp5{H:Hp}:∀{d1 d2:List PyData} {us:List V},Dvs K H (d1++d2) us↔∃u1 u2,us=u1++u2/\Dvs K H d1 u1/\Dvs K H d2 u2
 | [],d2,us=>⟨λh=>⟨[],us,rfl,E4,h⟩,by rintro⟨u1,u2,rfl,h1,h2⟩;rw[Dvs] at h1;subst h1;exact h2⟩
 | d::d1,d2,us=>by
   constructor
   ·intro h;rw[cons_append,Dvs] at h;obtain⟨v,r,rfl,h1,h2⟩:=h;obtain⟨u1,u2,rfl,h3,h4⟩:=xp5.mp h2;exact⟨v::u1,u2,rfl,C0 h1 h3,h4⟩
   ·rintro⟨u1,u2,rfl,h1,h2⟩;exact Dvs.append h1 h2
abbrev wh1(K:Fg)(qB:Addr):TS :=
 (B1 (D2 (E9 qB "read_tokens" (J0 K) [] E0 (A0 0) (A1 (B9 (S0 K) [] E0 (A1 (I0 K (A0 0) "text") (A1 (I0 K (A0 0) "settled") #[4,2]))) A5)))
 (E1 (tSl (qu8 K) (I0 K (I0 K (A0 0) "reader") "mends") (O9 (A0 3)) U9)))
abbrev wh2(K:Fg)(qB:Addr):TS :=
 (B1 (B8 (tCB (J6 K) (A1 (I0 K (I0 K (A0 0) "reader") "mends") A5)) (A6 3))
 (wh1 K qB))
abbrev wh3(K:Fg)(qB:Addr):TS :=
 (B1 (qi5 K (A0 0) (tOp (C8 K) (I0 K (A0 0) "text") (A0 1)) "text")
 (wh2 K qB))
abbrev wh4(K:Fg)(qB:Addr):TS :=
 (B1 (B8 (tCB (zq5 K) (A1 (I0 K (A0 0) "settled") (A1 (tOp (rI0 λi j=>.int (i-j)) (tCB (J6 K) (A1 (I0 K (A0 0) "text") A5)) #[1,10]) A5))) (A6 2))
 (wh3 K qB))
def Z0(K:Fg):Sp:=λvs H Q _=>∃(kF kR kB o x r:Addr) (bv:V) (a:RAd) (z:Str) (s:Nat) (st:Rst) (rs:List Row) (rk:Str->Nat) (p:Str),vs=[.ref o,.str p]/\FdO K H kF kR kB o x r bv a z s false st/\BkO K H bv rs/\Bok rs rk/\z.length+p.length<=10000/\FdS rs rk z s st/\∀(a':RAd) (H':Hp) (s':Nat) (st':Rst) (ds:List Mnd) (q:Addr) (us:List V),Fup K kF kR kB o x r bv H a H' a' (z++p) s' false st'->FdS rs rk (z++p) s' st'->st'.ms=st.ms++ds->H q=none->q∉o::RAd.fp r a'->H' q=some (.lst us)->Dvs K H' (ds.map Mnd.da) us->B3 H H'->Q (.ref q) H'
def qm1(K:Fg)(qB:Addr):TS :=
 (B1 (D2 (E9 qB "refuse_behind_end" (E8 K) [] E0 (A0 0) A5))
 (wh4 K qB))
theorem xx4(cz:Cz K qA qC)(cf:Cf K qB)(h:Z0 K vs H Q E):qm1 K qB {nx:=λ_ H'=>Q .non H',rt:=Q} (C3 ["self","piece","searched","known"] vs) H:=by
 obtain⟨kF,kR,kB,o,x,r,bv,a,z,s,st,rs,rk,p,rfl,h,hk,bk,hz,hs,q⟩:=h;obtain rfl:=E2 cf.ns_Feed h.kf;obtain rfl:=E2 cz.ns_Reader h.rd.kr;show qm1 K _ _ [some (.ref o),some (.str p),none,none] H;unfold qm1;walk_at"18";refine⟨o,_,_,rfl,h.ob,rfl,?_⟩;lk;refine⟨qB,qC,kB,o,x,r,bv,a,z,s,st,rfl,h,?_⟩;show wh4 K _ _ _ _;walk_at"2";refine⟨o,_,x,_,_,rfl,h.ob,cf.cl_Feed,cf.na_Feed_settled,rfl,?_⟩;walk_at"2";refine⟨o,_,x,_,_,rfl,h.ob,cf.cl_Feed,cf.na_Feed_text,rfl,?_⟩;lk;refine wt4 #[16] ?_;lk;have eq:(if((z.length:Int)-10) > (s:Int) then((z.length:Int)-10) else(s:Int))=((max s (z.length-10):Nat):Int):=by split <;> omega
 rw[eq];show wh3 K _ _ _ _;refine V1 (R7 ?_);walk_at"2";refine⟨o,_,x,_,_,rfl,h.ob,cf.cl_Feed,cf.na_Feed_text,rfl,?_⟩;lk;refine T4 #[16] ?_;lk;refine⟨o,_,x,_,rfl,h.ob,cf.cl_Feed,cf.na_Feed_text,by simp,?_⟩;rw[qn9 _ _ _ _ _,zb0];have u1:=h.set (z++p) s false;have g1:B3 H (upd H o (.ins qB x [("reader",.ref r),("text",.str (z++p)),("settled",.int s),("ended",.bl false)])):=B3.upd;generalize upd H o (.ins qB x [("reader",.ref r),("text",.str (z++p)),("settled",.int s),("ended",.bl false)])=H1 at *
 show wh2 K _ _ _ _;lk;walk_at"37";have hul:us1.length=st.ms.length:=by have:=n2.length;rw[length_map] at this;exact this
 refine M6 (.inl (SqL.of n1)) ?_;rw[hul];show wh1 K _ _ _ _;obtain⟨j,hj,hsz,bj⟩:=hs.bg bk;have hl:(z++p).length=z.length+p.length:=G6 _ _;walk_at"18";refine⟨o,_,_,rfl,u1.ok.ob,rfl,?_⟩;walk_at"2";refine⟨o,_,x,_,_,rfl,u1.ok.ob,cf.cl_Feed,cf.na_Feed_text,rfl,?_⟩;walk_at"2";refine⟨o,_,x,_,_,rfl,u1.ok.ob,cf.cl_Feed,cf.na_Feed_settled,rfl,?_⟩;lk;refine⟨z++p,s,max s (z.length-10),rfl,Nat.le_max_left ..,by omega,by omega,λp2 us2 H2 acc s2 sm2 hp20 hp2 hd2 hf2 h21 h22 h23 h24 h25=>?_⟩;lk;obtain⟨f1,f2⟩:=hs.take h24 h25;have u2:=u1.tr (Fup.rf u1.ok sm2) g1;refine⟨qB,qC,kB,o,x,r,bv,a,z++p,s,false,st,rs,rk,p2,us2,acc,_,j,rfl,u2.ok,(hk.tupK (u2.tupK h)),bk,by omega,hp2,u1.ok.fresh hp20,hd2,hf2,f2,hj,bj,λa8 s8 H8 u3 t8 g3=>?_⟩;have g8:B3 H H8:=B3.tr g1 (B3.tr (A3.grow sm2) g3);have u8:=u2.tr u3 (B3.tr g1 (A3.grow sm2));have e8:s8=s2:=za9 t8 (by rw[show(z++p).cps.toList.length=(z++p).length from Array.length_toList];exact h22);subst e8;have mx:Mex st (acc.foldl (qf7 rs rk (z++p)) st):=Mex.fold (ze5 rs rk _) acc st;generalize acc.foldl (qf7 rs rk (z++p)) st=st8 at *
 lk;refine C2 ?_;refine C2 ?_;lk;walk_at"27";have hw1:w1.length=st.ms.length:=by have:=m3.length;rw[length_map] at this;exact this
 refine wx1 (SqL.of m1) λq9 hq9=>?_;rw[xf7 _ (by rw[length_append];omega),<-hw1,drop_left];have s9:=A3.new hq9 (.lst w2);exact q a8 _ s8 st8 dm q9 w2 (u8.tr (Fup.rf u8.ok s9) g8) f1 em (g8 _ hq9) (u8.ok.fresh hq9) A2 (Dvs.same s9 _ _ m4) (B3.tr g8 B3.upd)
abbrev qt3(K:Fg)(qC:Addr):TS :=
 (B1 (D2 (E9 qC "finish" (P8 K) [] E0 (I0 K (A0 0) "reader") (A1 (tCB (J6 K) (A1 (I0 K (A0 0) "text") A5)) A5)))
 (E1 (tSl (qu8 K) (I0 K (I0 K (A0 0) "reader") "mends") (O9 (A0 1)) U9)))
abbrev wm0(K:Fg)(qB:Addr)(qC:Addr):TS :=
 (B1 (D2 (E9 qB "read_tokens" (J0 K) [] E0 (A0 0) (A1 (B9 (O7 K) [] E0 (A1 (I0 K (A0 0) "text") (A1 (I0 K (A0 0) "settled") (A1 (tCB (J6 K) (A1 (I0 K (A0 0) "text") A5)) A5)))) A5)))
 (qt3 K qC))
abbrev wm1(K:Fg)(qB:Addr)(qC:Addr):TS :=
 (B1 (B8 (tCB (J6 K) (A1 (I0 K (I0 K (A0 0) "reader") "mends") A5)) (A6 1))
 (wm0 K qB qC))
def qd8(K:Fg):Sp:=λvs H Q _=>∃(kF kR kB o x r:Addr) (bv:V) (a:RAd) (z:Str) (s:Nat) (st:Rst) (rs:List Row) (rk:Str->Nat),vs=[.ref o]/\FdO K H kF kR kB o x r bv a z s false st/\BkO K H bv rs/\Bok rs rk/\z.length<=10000/\FdS rs rk z s st/\∀(a':RAd) (H':Hp) (s':Nat) (st':Rst) (ds:List Mnd) (q:Addr) (us:List V),Fup K kF kR kB o x r bv H a H' a' z s' true st'->st'=rdS rs rk z->st'.ms=st.ms++ds->H q=none->q∉o::RAd.fp r a'->H' q=some (.lst us)->Dvs K H' (ds.map Mnd.da) us->B3 H H'->Q (.ref q) H'
def qr1(K:Fg)(qB:Addr)(qC:Addr):TS :=
 (B1 (D2 (E9 qB "refuse_behind_end" (E8 K) [] E0 (A0 0) A5))
 (B1 (qi5 K (A0 0) (tC (.bl true)) "ended")
 (wm1 K qB qC)))
theorem yc2(cz:Cz K qA qC)(cf:Cf K qB)(h:qd8 K vs H Q E):qr1 K qB qC {nx:=λ_ H'=>Q .non H',rt:=Q} (C3 ["self","known"] vs) H:=by
 obtain⟨kF,kR,kB,o,x,r,bv,a,z,s,st,rs,rk,rfl,h,hk,bk,hz,hs,q⟩:=h;obtain rfl:=E2 cf.ns_Feed h.kf;obtain rfl:=E2 cz.ns_Reader h.rd.kr;show qr1 K _ _ _ [some (.ref o),none] H;unfold qr1;walk_at"18";refine⟨o,_,_,rfl,h.ob,rfl,?_⟩;lk;refine⟨qB,qC,kB,o,x,r,bv,a,z,s,st,rfl,h,?_⟩;show B1 (qi5 K (A0 0) (tC (.bl true)) "ended") _ _ _ _;refine V1 (R7 ?_);lk;refine⟨o,_,x,_,rfl,h.ob,cf.cl_Feed,cf.na_Feed_ended,by simp,?_⟩;rw[qn9 _ _ _ _ _,qn9 _ _ _ _ _,qn9 _ _ _ _ _,zb0];have u1:=h.set z s true;have g1:B3 H (upd H o (.ins qB x [("reader",.ref r),("text",.str z),("settled",.int s),("ended",.bl true)])):=B3.upd;generalize upd H o (.ins qB x [("reader",.ref r),("text",.str z),("settled",.int s),("ended",.bl true)])=H1 at *
 show wm1 K _ _ _ _ _;lk;walk_at"37";have hul:us1.length=st.ms.length:=by have:=n2.length;rw[length_map] at this;exact this
 refine M6 (.inl (SqL.of n1)) ?_;rw[hul];show wm0 K _ _ _ _ _;obtain⟨j,hj,hsz,bj⟩:=hs.bg bk;walk_at"9";walk_at"18";refine⟨o,_,_,rfl,u1.ok.ob,rfl,?_⟩;walk_at"2";refine⟨o,_,x,_,_,rfl,u1.ok.ob,cf.cl_Feed,cf.na_Feed_text,rfl,?_⟩;walk_at"2";refine⟨o,_,x,_,_,rfl,u1.ok.ob,cf.cl_Feed,cf.na_Feed_settled,rfl,?_⟩;walk_at"2";refine⟨o,_,x,_,_,rfl,u1.ok.ob,cf.cl_Feed,cf.na_Feed_text,rfl,?_⟩;lk;refine wt4 #[16] ?_;lk;have hdn:=hs.done;have tkr:TkC z.cps.toList s (TX.runs z.cps.toList s z.cps.toList.length++[]):=wz7 #[0] #[6] (.nil rfl);have main:∀(p2:Addr) (us2:List V) (H2:Hp),A3 H1 H2->H1 p2=none->H2 p2=some (.lst us2)->Dvs K H2 (TX.runs z.cps.toList s z.cps.toList.length) us2->L6 (TX.runs z.cps.toList s z.cps.toList.length)=true->J0 K [.ref o,.ref p2] H2 (λ_ H3=>qt3 K qC {nx:=λ_ H'=>Q .non H',rt:=Q} [some (.ref o),some (.int st.ms.length)] H3) E0:=λp2 us2 H2 sm2 hp20 hp2 hd2 hf2=>by
  have u2:=u1.tr (Fup.rf u1.ok sm2) g1;refine⟨qB,qC,kB,o,x,r,bv,a,z,s,true,st,rs,rk,p2,us2,_,[],j,rfl,u2.ok,(hk.tupK (u2.tupK h)),bk,by omega,hp2,u1.ok.fresh hp20,hd2,hf2,tkr,hj,bj,λa7 s8 H7 u3 t8 g3=>?_⟩;have g7:B3 H H7:=B3.tr g1 (B3.tr (A3.grow sm2) g3);have u7:=u2.tr u3 (B3.tr g1 (A3.grow sm2));have mx7:Mex st ((TX.runs z.cps.toList s z.cps.toList.length).foldl (qf7 rs rk z) st):=Mex.fold (ze5 rs rk _) _ st;rw[<-hdn] at u7 mx7;obtain⟨pp,hp1,_,_,bj'⟩:=xa0 (z:=z) bk #[17].length #[6];rw[take_length] at bj';have bj':Bg rs _ _ _ _ _ (qp4 rs rk z):=bj';walk_at"34";show qt3 K _ _ _ _;lk;refine C5 ?_;refine C2 ?_;lk;refine⟨o,_,x,_,_,rfl,u7.ok.ob,cf.cl_Feed,cf.na_Feed_reader,rfl,?_⟩;lk;refine⟨r,_,_,rfl,u7.ok.rd.o,rfl,?_⟩;walk_at"2";refine⟨o,_,x,_,_,rfl,u7.ok.ob,cf.cl_Feed,cf.na_Feed_text,rfl,?_⟩;lk;refine wt4 #[16] ?_;lk;refine⟨qC,kB,r,bv,a7,sj,rs,cl,b0,z.length,rfl,u7.ok.rd,hk.tupK (u7.tupK h),eb,by omega,bj'.cond #[0] #[0],by omega,λa8 H8 u4 g4=>?_⟩;walk_at"30";have u5:Rup K qC kB r bv H7 a7 H8 a8 (rdS rs rk z):=by rw[e6];exact u4
  have u8:=u7.tr (u7.ok.rup u5) g7;have g8:B3 H H8:=B3.tr g7 g4;have mx:Mex st (rdS rs rk z):=mx7.tr (by rw[e6];exact⟨_,rfl⟩);lk;refine C2 ?_;refine C2 ?_;lk;walk_at"27";have hw1:w1.length=st.ms.length:=by have:=m3.length;rw[length_map] at this;exact this
  refine wx1 (SqL.of m1) λq9 hq9=>?_;rw[xf7 _ (by rw[length_append];omega),<-hw1,drop_left];have s9:=A3.new hq9 (.lst w2);exact q a8 _ s8 _ dm q9 w2 (u8.tr (Fup.rf u8.ok s9) g8) rfl em (g8 _ hq9) (u8.ok.fresh hq9) A2 (Dvs.same s9 _ _ m4) (B3.tr g8 B3.upd)
 refine⟨z,s,z.length,rfl,hsz,Nat.le_refl _,by omega,λe p2 hp2=>?_,?_⟩
 ·have er:TX.runs z.cps.toList s z.cps.toList.length=[]:=by unfold TX.runs;rw[if_neg #[0]]
  lk;exact main p2 [] _ (A3.new hp2 _) hp2 A2 (by rw[er];exact E4) (by rw[er];rfl)
 ·intro hlt w t p2 H2 hw sm2 hp20 hp2 ht;have er:TX.runs z.cps.toList s z.cps.toList.length=[TX.runD z.cps.toList s z.length]:=by unfold TX.runs;rw[gl,if_pos hlt]
  have ew:TX.ofL (TX.told 0 ((z.cps.toList.drop s).take (z.length-s)))=w:=by rw[<-hw];exact we8 (by unfold TX.ofL;simp)
  lk;refine main p2 _ H2 sm2 hp20 hp2 ?_ (by rw[er];rfl);rw[er];unfold TX.runD;rw[ew];exact Dvs.one (C6.mpr ⟨t,_,rfl,SqT.of ht,C0 (D6.mpr rfl) (C0 (J7.mpr rfl) (C0 (J7.mpr rfl) (C0 (D6.mpr rfl) E4)))⟩)
theorem yt4(xs:List Str):(cat xs).cps.toList=xs.flatMap λx=>x.cps.toList:=by
 induction xs with
 | nil=>rfl
 | cons x xs ih=>rw[flatMap_cons,<-ih];exact qt2 _ _
theorem xb0(xs:List Str)(y:Str):cat (xs++[y])=cat xs++y:=by
 apply we8;rw[qt2,yt4,yt4,flatMap_append,flatMap_singleton]
theorem zv6{ns:List Int}{lo hi:Option Int}:∃cs:List Int,qe8 (ns.map V.int) lo hi=cs.map V.int:=by
 unfold qe8;rw[<-map_drop,<-map_take];exact⟨_,rfl⟩
theorem At6(z:Str)(d n:Nat):(Z8 z (some (d:Int)) (some ((d:Int)+(n:Int)))).cps.toList=(z.cps.toList.drop d).take n:=by
 rw[show(d:Int)+(n:Int)=((d+n:Nat):Int) from (Int.natCast_add d n).symm];unfold Z8;rw[HT.R5,HT.R5];generalize z.cps.toList=l;show(l.drop (min d l.length)).take (min (d+n) l.length-min d l.length)=_;by_cases h:d<=l.length
 ·rw[Nat.min_eq_left h];by_cases h2:d+n<=l.length
  ·rw[Nat.min_eq_left h2,Nat.add_sub_cancel_left]
  ·rw[take_of_length_le (by rw[length_drop];omega),take_of_length_le (by rw[length_drop];omega)]
 ·rw[drop_of_length_le (show l.length<=d by omega),drop_of_length_le #[0]];simp
theorem zv7(z:Str)(d:Nat):(Z8 z (some (d:Int)) none).cps.toList=z.cps.toList.drop d:=by
 unfold Z8;rw[HT.R5];generalize z.cps.toList=l;show(l.drop (min d l.length)).take (l.length-min d l.length)=_;rw[take_of_length_le (by rw[length_drop];omega)];by_cases h:d<=l.length
 ·rw[Nat.min_eq_left h]
 ·rw[drop_of_length_le (show l.length<=d by omega),drop_of_length_le #[0]]
abbrev xn4(K:Fg):TS :=
 (B8 (tCB (zq4 K) (A1 (tCB (J6 K) #[4,0]) (A1 (tOp (C8 K) (A0 3) (A0 6)) A5))) (A6 3))
abbrev xn5(K:Fg):TS :=
 (B1 (D2 (tBM K "list" D9 (A0 2) (A1 (tSl (qu8 K) (A0 0) (O9 (A0 3)) (O9 (tOp (C8 K) (A0 3) (A0 6)))) A5)))
 (xn4 K))
abbrev xn6(K:Fg):TS :=
 (B1 (B8 (tOp (D7 K) (T2 (A1 #[1,0] (A1 #[1,1] (A1 #[1,2] (A1 #[1,3] (A1 (tOp (C8 K) #[1,1] (tOp #[2] (tOp #[13] (A0 5) #[1,64]) #[1,12])) (A1 (tOp #[2] (tOp #[13] (A0 5) #[1,64]) #[1,70]) A5))))))) (tOp #[2] (A0 5) #[1,6])) (A6 6))
 (xn5 K))
abbrev wh5(K:Fg):TS :=
 (B1 (B8 (tOp #[2] (tOp qv4 (tOp #[2] (A0 4) #[1,2147483629]) #[1,48271]) #[1,2147483647]) (A6 5))
 (xn6 K))
abbrev wh6(K:Fg):TS :=
 (B1 (D2 (tBM K "list" D9 (A0 2) (A1 (tSl (qu8 K) (A0 0) (O9 (A0 3)) U9) A5)))
 (E1 (A0 2)))
abbrev wh7(K:Fg):TS :=
 (B1 (B8 #[1,0] (A6 3))
 (B1 (qc8 (qy3 K (A0 1)) (A6 4)
 (wh5 K))
 (wh6 K)))
def qh3(K:Fg):Sp:=λvs H Q _=>∃(z:Str) (c:Addr) (cs:List Int),vs=[.str z,.ref c]/\z.length<=9000/\SqL K H c (cs.map V.int)/\cs.length<=60/\∀(p:Addr) (ps:List Str) (H':Hp),A3 H H'->H p=none->H' p=some #[23,ps]->cat ps=z->ps.length<=61->Q (.ref p) H'
def qm2(K:Fg):TS :=
 (B1 (B8 (T2 A5) (A6 2))
 (wh7 K))
theorem xx6(h:qh3 K vs H Q E):qm2 K {nx:=λ_ H'=>Q .non H',rt:=Q} (C3 ["_law_text","_law_cells","_law_pieces_here","_law_done","_law_cell","_law_x","_law_size"] vs) H:=by
 obtain⟨z,c,cs,rfl,hz,hc,hcl,q⟩:=h;show qm2 K _ [some (.str z),some (.ref c),none,none,none,none,none] H;unfold qm2;walk_at"9";lk;refine⟨C7 (by z_go),λP hP=>?_⟩;have s1:=A3.new hP (.lst []);have e1:(upd H P (.lst [])) P=_:=A2;generalize upd H P (.lst [])=H1 at *
 show wh7 K _ _ _;lk;refine wx8 (H0:=H) (.inl hc) s1 (λi σ H'=>A3 H H'/\∃(qs:List Str) (d:Nat) (x4 x5 x6:Option V),σ=[some (.str z),some (.ref c),some (.ref P),some (.int (d:Int)),x4,x5,x6]/\H' P=some #[23,qs]/\qs.length<=i/\d<=z.length/\(cat qs).cps.toList=z.cps.toList.take d) ⟨s1,[],0,none,none,none,rfl,e1,Nat.le_refl _,Nat.zero_le _,rfl⟩ (λi σ H' p=>p.1) ?_ ?_
 ·rintro i v σ H' hv ⟨sm,qs,d,x4,x5,x6,rfl,hP',hql,hd,hcat⟩;have hi:i<60:=by have:=(List.getElem?_eq_some_iff.mp hv).1;rw[length_map] at this;omega
  rw[List.getElem?_map] at hv;obtain⟨cell,_,rfl⟩:=Option.map_eq_some_iff.mp hv;refine D0 ?_;show wh5 K _ _ _;lk;have m0:=Int.emod_nonneg cell (show(2147483629:Int)≠0 by decide);have m1:=Int.emod_lt_of_pos cell (show(0:Int)<2147483629 by decide);refine qs1 (by first|exact⟨by omega,by omega⟩|(unfold zf8;omega)) ?_;lk;have x0:=Int.emod_nonneg (cell % 2147483629*48271) (show(2147483647:Int)≠0 by decide);generalize cell % 2147483629*48271 % 2147483647=x at *
  refine⟨C7 (by z_go),λl hl=>?_⟩;have s2:=A3.new hl (.lst (([0,1,2,3,1+x / 64 % 12,x / 64 % 70]:List Int).map V.int));have e2:(upd H' l (.lst (([0,1,2,3,1+x / 64 % 12,x / 64 % 70]:List Int).map V.int))) l=_:=A2;have hPn:P≠l:=N4 hP' hl;lk;show D7 K _ _ (upd H' l (.lst (([0,1,2,3,1+x / 64 % 12,x / 64 % 70]:List Int).map V.int))) _;generalize upd H' l (.lst (([0,1,2,3,1+x / 64 % 12,x / 64 % 70]:List Int).map V.int))=H2 at *
  have y0:=Int.emod_nonneg x (show(6:Int)≠0 by decide);have y1:=Int.emod_lt_of_pos x (show(0:Int)<6 by decide);obtain⟨k,hk⟩:=Int.eq_ofNat_of_zero_le y0;obtain⟨n,hn⟩:∃n:Nat,atI (([0,1,2,3,1+x / 64 % 12,x / 64 % 70]:List Int).map V.int) (x % 6)=some (.int (n:Int)):=by
   rw[hk] at y1 ⊢;have z1:=Int.emod_nonneg (x / 64) (show(12:Int)≠0 by decide);have z2:=Int.emod_nonneg (x / 64) (show(70:Int)≠0 by decide);have hm:∀m∈([0,1,2,3,1+x / 64 % 12,x / 64 % 70]:List Int),0<=m:=by
    intro m hm;simp only[mem_cons,not_mem_nil,or_false] at hm;rcases hm with rfl|rfl|rfl|rfl|rfl|rfl <;> omega
   have hkl:k<([0,1,2,3,1+x / 64 % 12,x / 64 % 70]:List Int).length:=by show k<6;omega
   obtain⟨n,en⟩:=Int.eq_ofNat_of_zero_le (hm _ (List.getElem_mem hkl));exact⟨n,M8 (by rw[List.getElem?_map,List.getElem?_eq_getElem hkl,en];rfl)⟩
  refine L8 (SqL.of e2) hn ?_;have hP2:=s2 _ _ hP';lk;refine⟨.inl ⟨rfl,_,SqL.of hP2⟩,?_⟩;lk;refine wx0 (C7 #[0]) ?_;lk;refine E7 hP2 (by rw[sizeLine_eq,B2];omega) ?_;have hcat2:(cat (qs++[Z8 z (some (d:Int)) (some ((d:Int)+(n:Int)))])).cps.toList=z.cps.toList.take (min z.length (d+n)):=by
   rw[xb0,qt2,hcat,At6,<-take_add];by_cases h:d+n<=z.length
   ·rw[Nat.min_eq_right h]
   ·rw[Nat.min_eq_left #[0],take_of_length_le #[0],take_of_length_le #[0]]
  lk;refine wt4 #[16] ?_;lk;rw[show(if(d:Int)+(n:Int)<(z.length:Int) then(d:Int)+(n:Int) else(z.length:Int))=((min z.length (d+n):Nat):Int) by split <;> omega];refine⟨λc u e=>by rw[A8 (N4 e hP)];exact s2 _ _ (sm c u e),qs++[_],min z.length (d+n),_,_,_,rfl,?_,by rw[length_append,length_singleton];omega,by omega,hcat2⟩;rw[A2];unfold B0;rw[map_append];rfl
 ·rintro σ H' ⟨sm,qs,d,x4,x5,x6,rfl,hP',hql,hd,hcat⟩;rw[length_map] at hql;show wh6 K _ _ _;lk;refine⟨.inl ⟨rfl,_,SqL.of hP'⟩,?_⟩;lk;refine wx0 (C7 #[0]) ?_;lk;refine E7 hP' (by rw[sizeLine_eq,B2];omega) ?_;lk;refine q P (qs++[Z8 z (some (d:Int)) none]) _ (λc u e=>by rw[A8 (N4 e hP)];exact sm c u e) hP ?_ ?_ (by rw[length_append,length_singleton];omega)
  ·rw[A2];unfold B0;rw[map_append];rfl
  ·rw[xb0];apply we8;rw[qt2,hcat,zv7,take_append_drop]
theorem zb1(bk:Bok rs rk)(hz:z.length<=10000):(rdS rs rk z).ms.length<=700000:=by
 obtain⟨pp,hp1,hp2,_,bj'⟩:=xa0 (z:=z) bk #[17].length #[6];rw[take_length] at bj';have bj':Bg rs _ _ _ _ _ (qp4 rs rk z):=bj';have hl:=bj'.l;have hm:=bj'.m;show((qp4 rs rk z).ms++((qp4 rs rk z).bs.drop 1).reverse.map (clM z.length "end")).length<=_;rw[length_append,length_map,length_reverse,length_drop];omega
theorem FdS.len(bk:Bok rs rk)(h:FdS rs rk z s st)(hz:z.length<=10000):st.ms.length<=700000:=by
 obtain⟨j,h1,h2,b⟩:=h.bg bk;have:=b.m;omega
theorem ml{ds:List Mnd}{ts:List V}(e:st'.ms=st.ms++ds)(h:st'.ms.length<=700000)(d1:Dvs K H (st.ms.map Mnd.da) ts)(d2:Dvs K H' (ds.map Mnd.da) us):ts.length+us.length<=700000:=by
 have h1:=d1.length;have h2:=d2.length;rw[length_map] at h1 h2;rw[e,length_append] at h;omega
theorem Ag7{ms:List Mnd}{ws:List V}(h1:H p=some (.lst us))(d1:Dvs K H (ms.map Mnd.da) us)(h2:H q=some (.lst ws))(d2:Dvs K H (ms.map Mnd.da) ws)(k:Q (.bl true) H):P7 K (.ref p) (.ref q) H Q:=by
 refine Af2 (Z7.mpr ⟨p,us,rfl,SqL.of h1,d1⟩) (Z7.mpr ⟨q,ws,rfl,SqL.of h2,d2⟩) ?_ ?_
 ·have:=xu4 ms;simp only[PyData.depth];omega
 ·rw[wk1 _ (by rw[nd,za7])];exact k
theorem zv8(hB:BkO K H bv rs)(h12:rs.length<=12)(q:∀p,H p=none->Q (.ref p) (upd H p #[23,rs.map Row.name])):∃b,bv=.ref b/\(((∃xs,SqL K H b xs)/\qp1 (A6 0) tTT (tOp (D7 K) (A0 0) #[1,0]) [none] Q (Itl K b) H)\/((∃xs,SqT K H b xs)/\qp1 (A6 0) tTT (tOp (D7 K) (A0 0) #[1,0]) [none] Q (Itt K b) H)):=by
 obtain⟨t,us,rfl,ht,hd⟩:=hB;have hul:=hd.length;rw[length_map] at hul;refine xr3 (.inr ht) (λi ys H'=>H'=H/\ys=B0 ((rs.take i).map Row.name)) ⟨rfl,rfl⟩ ?_ ?_ ?_ ?_ ?_
 ·rintro i ys H' _ ⟨rfl,rfl⟩;rw[B2,length_map,length_take,sizeLine_eq];omega
 ·rintro h i ys H' _ ⟨rfl,rfl⟩;exact h
 ·rintro h i ys H' _ ⟨rfl,rfl⟩;exact h
 ·rintro i v ys H' hv ⟨rfl,rfl⟩;obtain⟨d,e,dv⟩:=hd.get' hv;rw[List.getElem?_map] at e;obtain⟨r,hr,rfl⟩:=Option.map_eq_some_iff.mp e;obtain⟨p,ws,rfl,hp,hw⟩:=C6.mp dv;rw[Dvs] at hw;obtain⟨v0,r0,rfl,d0,hw⟩:=hw;obtain rfl:=D6.mp d0;refine D0 ?_;lk;refine P6 hp (M8 (j:=0) rfl) ?_;refine⟨rfl,?_⟩;rw[qd3 hr,map_append];unfold B0;rw[map_append];rfl
 ·rintro ys H' ⟨rfl,rfl⟩ p hp;rw[hul,take_length];exact q p hp
def qr2(P:Mnd->Prop)(st st':Rst):Prop:=∃d,st'.ms=st.ms++d/\∀m∈d,P m
variable{P:Mnd->Prop}
theorem qr2.tr{a b c:Rst}:qr2 P a b->qr2 P b c->qr2 P a c:=by
 rintro⟨d,h,hd⟩ ⟨e,g,he⟩;exact⟨d++e,by rw[g,h,append_assoc],λm hm=>(mem_append.mp hm).elim (hd m) (he m)⟩
theorem qr2.rf(a:Rst):qr2 P a a:=⟨[],by simp,λm hm=>by cases hm⟩
theorem qr2.one{a b:Rst}{m:Mnd}(h:P m)(e:b.ms=a.ms++[m]):qr2 P a b:=⟨[m],e,λx hx=>by rw[mem_singleton.mp hx];exact h⟩
theorem qr2.fold{α:Type}{f:Rst->α->Rst}(h:∀s x,qr2 P s (f s x)):∀(l:List α) (s:Rst),qr2 P s (l.foldl f s)
 | [],s=>.rf s
 | x::l,s=>(h s x).tr (qr2.fold h l _)
theorem Ad8(h0:∀m:Mnd,m.s=i->P m)(h1:∀k,k<g.cps.toList.length->P (zt6 i g k)):qr2 P st (qt0 rs rk st kind i g t):=by
 have hp:∀(st:Rst) ns rule,qr2 P st (O0 st ns i rule):=λst ns rule=>qr2.fold (λs n=>.one (h0 _ rfl) rfl) ns st;have hd:∀(st:Rst) rule,qr2 P st (qp3 st i g rule):=λst rule=>.one (h0 _ rfl) rfl;have hc:∀k rule,qr2 P st (qg7 rs st k i rule):=λk rule=>⟨_,rfl,λm hm=>by
  obtain⟨b,_,rfl⟩:=mem_map.mp hm;exact h0 _ rfl⟩
 unfold qt0;split
 ·unfold opS;split
  ·exact hd _ _
  split
  ·exact hd _ _
  split
  ·exact hd _ _
  have h:=(hc #[18,t].1 "shut").tr (hp _ #[18,t].2.dropLast "frame");dsimp only;split
  ·exact h
  ·exact h
 split
 ·unfold xe8;split
  ·exact hc _ _
  ·split
   ·exact hd _ _
   ·exact hd _ _
 ·unfold xe9;split
  ·exact hd _ _
  split
  ·exact hd _ _
  refine(hp st (O5 rs st) "host").tr (qr2.tr (b:=qy8 rs i (O0 st (O5 rs st) i "host")) ?_ ⟨_,rfl,λm hm=>?_⟩)
  ·unfold qy8;refine qr2.tr (b:={(O0 st (O5 rs st) i "host") with bs:=wUp rs (λ_=>[]) (O0 st (O5 rs st) i "host").bs}) ⟨[],by simp,λm hm=>by cases hm⟩ (qr2.fold (λs n=>?_) _ _);unfold qn0;split
   ·exact .one (h0 _ rfl) rfl
   ·exact .rf _
  ·obtain⟨k,hk,rfl⟩:=mem_map.mp hm;refine h1 k ?_;unfold qg1 at hk;exact mem_range.mp (mem_filter.mp hk).1
section
variable{p:Str}
theorem zv9{k:Nat}(h1:k<e)(h2:e<=z.cps.toList.length)(h:∀m:Mnd,(k:Int)<=m.s->m.s<(e:Int)->P m):qr2 P st (qf7 rs rk z st (.tuple [.str kind,.int (k:Int),.int (e:Int),.str t])):=by
 walk_at"9";refine Ad8 (λm hm=>h m #[0] #[0]) λj hj=>h _ ?_ ?_
 ·show(k:Int)<=k+j;omega
 ·have e2:=yg0 z (p:=k) (e:=e) #[0] #[0];have e3:(Z8 z (some (k:Int)) (some (e:Int))).cps.toList.length=(Z8 z (some (k:Int)) (some (e:Int))).length:=Array.length_toList;show(k:Int)+j<e;omega
theorem zw0:∀(T R:List PyData) (k:Nat) (st:Rst),TkC z.cps.toList k (T++R)->(∀m∈st.ms,m.s<(k:Int))->∃k',TkC z.cps.toList k' R/\∀m∈(T.foldl (qf7 rs rk z) st).ms,m.s<(k':Int)
 | [],_,k,_,h,hm=>⟨k,h,hm⟩
 | d :: T,R,k,st,h,hm=>by
   cases h with
   | cons h1 h2 h3 h4 =>
     rename_i e kind t
     rw[foldl_cons]
     refine zw0 T R e _ h4 λm hx=>?_
     obtain⟨d,ed,hd⟩:=zv9 (rs:=rs) (rk:=rk) (st:=st) (kind:=kind) (t:=t) (P:=λm=>m.s<(e:Int)) h1 h2 λm _ h=>h
     rw[ed] at hx
     rcases mem_append.mp hx with h|h
     ·have:=hm m h;omega
     ·exact hd m h
theorem zw1:∀(T:List PyData) (k:Nat) (st:Rst) (b:Nat),b<=k->TkC z.cps.toList k T->qr2 (λm=>(b:Int)<=m.s) st (T.foldl (qf7 rs rk z) st)
 | [],_,_,_,_,_=>.rf _
 | d :: T,k,st,b,hb,h=>by
   cases h with
   | cons h1 h2 h3 h4 =>
     rename_i e kind t
     rw[foldl_cons]
     exact(zv9 h1 h2 λm h _=>(by omega:(b:Int)<=m.s)).tr (zw1 T e _ b #[0] h4)
theorem FdS.lt(h:FdS rs rk z s st):∀m∈st.ms,m.s<(s:Int):=by
 obtain⟨n,T,hn,hT,rfl⟩:=h;walk_at"36";rw[hT] at hc;have tk:=wz9 z.cps.toList;rw[hc] at tk;have hs:s<=z.cps.toList.length:=by have:=ym1 (l:=z.cps.toList) n 0 0 (Nat.zero_le _);rw[hT] at this;exact this
 obtain⟨k,h1,h2⟩:=zw0 (rs:=rs) (rk:=rk) T _ 0 st0 tk λm hm=>by cases hm
 obtain rfl:=za9 h1 hs;exact h2
theorem FdS.more(h:FdS rs rk z s st):qr2 (λm=>(s:Int)<=m.s) st (rdS rs rk (z++p)):=by
 obtain⟨n,T,hn,hT,rfl⟩:=h;walk_at"9";have hs:s<=z.cps.toList.length:=by have:=ym1 (l:=z.cps.toList) n 0 0 (Nat.zero_le _);rw[hT] at this;exact this
 have hg:=wp8 (l:=z.cps.toList) (p:=p.cps.toList) n 0 0 (Nat.zero_le _) #[0] #[6] (Nat.zero_le _);rw[hT,<-qt2,gl] at hg;have hg:TX.toks (z++p).cps.toList 0 0=T++TX.toks (z++p).cps.toList (max s (z.length-10)) s:=hg;walk_at"36";rw[hT] at hc;have tk:=wz9 z.cps.toList;rw[hc] at tk;have hll:(z++p).cps.toList.length=z.cps.toList.length+p.cps.toList.length:=by rw[qt2,length_append]
 have er:qp4 rs rk (z++p)=(TX.toks (z++p).cps.toList (max s (z.length-10)) s).foldl (qf7 rs rk (z++p)) (T.foldl (qf7 rs rk z) st0):=by
  unfold qp4;rw[hg,foldl_append,ym2 T _ 0 _ tk]
 have h1:qr2 (λm=>(s:Int)<=m.s) (T.foldl (qf7 rs rk z) st0) (qp4 rs rk (z++p)):=by
  rw[er];exact zw1 _ s _ s #[6] (wz8 _ _ _ _ (Nat.le_max_left ..) #[0])
 refine h1.tr ⟨_,rfl,λm hm=>?_⟩;obtain⟨b,_,rfl⟩:=mem_map.mp hm;have e5:(z++p).length=z.length+p.length:=G6 _ _;show(s:Int)<=((z++p).length:Int);omega
theorem FdS.filt(h:FdS rs rk z s st):(rdS rs rk (z++p)).ms.filter (λm=>decide (m.s<(s:Int)))=st.ms:=by
 obtain⟨d,e,hd⟩:=h.more (p:=p);rw[e,filter_append,filter_eq_self.mpr λm hm=>by simpa using h.lt m hm,filter_eq_nil_iff.mpr λm hm=>by have:=hd m hm;simp;omega,append_nil]
theorem FdS.uniq(h:FdS rs rk z s st)(h':FdS rs rk z s' st'):s=s'/\st=st':=by
 obtain⟨n,T,hn,hT,rfl⟩:=h;obtain⟨n',T',hn',hT',rfl⟩:=h';walk_at"36";have he:=qm0 (l:=z.cps.toList) n 0 0;rw[hT] at hc he;have:=yt2 (l:=z.cps.toList) (n:=n') (q:=0) #[0] hc.symm (by
  rcases he with h|⟨a0,k,f,_,h,_⟩
  ·exact .inl h
  ·exact .inr ⟨a0,k,f,h⟩)
 rw[hT'] at this;have e1:T=T':=this.1;exact⟨this.2,by rw[e1]⟩
theorem FdS.toks(h:FdS rs rk z s st):(TX.toks z.cps.toList 0 0=[]/\s=0)\/∃a0,TX.toks z.cps.toList 0 0=a0++[TX.runD z.cps.toList s z.cps.toList.length]\/∃k f,TX.toks z.cps.toList 0 0=a0++[TX.tagD z.cps.toList k f s]:=by
 obtain⟨n,T,hn,hT,rfl⟩:=h;walk_at"36";have he:=qm0 (l:=z.cps.toList) n 0 0;rw[hT] at hc he;rw[hc];by_cases hlt:s<z.cps.toList.length
 ·exact .inr ⟨T,.inl (by unfold TX.runs;rw[if_pos hlt])⟩
 ·have er:TX.runs z.cps.toList s z.cps.toList.length=[]:=by unfold TX.runs;rw[if_neg hlt]
  have he:T=[]/\s=0\/∃a0 k' f,0<=k'/\T=a0++[TX.tagD z.cps.toList k' f s]/\TX.tagAt z.cps.toList k'=some (f,s):=he;show T++TX.runs z.cps.toList s z.cps.toList.length=[]/\s=0\/_;rcases he with⟨h1,h2⟩|⟨a0,k,f,_,h1,_⟩
  ·exact .inl ⟨by rw[er,h1];rfl,h2⟩
  ·exact .inr ⟨a0,.inr ⟨k,f,by rw[er,h1,append_nil]⟩⟩
end
theorem Ag8{ns:List Int}(lo hi:Nat):∃cs:List Int,qe8 (ns.map V.int) (some (lo:Int)) (some (hi:Int))=cs.map V.int/\cs.length<=hi-lo:=by
 obtain⟨cs,h⟩:=zv6 (ns:=ns) (lo:=some (lo:Int)) (hi:=some (hi:Int));refine⟨cs,h,?_⟩;have e:=congrArg List.length h;rw[length_map] at e;rw[<-e];unfold qe8;rw[HT.R5,HT.R5,length_take,length_drop];omega
structure Ld(K:Fg)(H:Hp)(kF kR kB o x r T:Addr)(bv:V)(a:RAd)(z:Str)(s:Nat)(en:Bool)(st:Rst):Prop where
 ok:FdO K H kF kR kB o x r bv a z s en st
 t:∃ts,H T=some (.lst ts)/\Dvs K H (st.ms.map Mnd.da) ts
 n:T∉o::RAd.fp r a
noncomputable def fpL(T o r:Addr)(a:RAd):List Addr:=T::o::RAd.fp r a
section
variable{o x T:Addr}
theorem Ld.mut(l:Ld K H kF kR kB o x r T bv a z s en st):∀p∈fpL T o r a,yy5 H p:=λp hp=>by
 rcases mem_cons.mp hp with rfl|hp
 ·obtain⟨ts,h,_⟩:=l.t;exact .inl ⟨_,h⟩
 ·exact l.ok.mut p hp
theorem Ld.fresh(l:Ld K H kF kR kB o x r T bv a z s en st)(hp:H p=none):p∉fpL T o r a:=λhm=>by
 rcases l.mut p hm with⟨xs,e⟩|⟨C,dx,fs,e⟩ <;> rw[hp] at e <;> cases e
theorem Ld.but(l:Ld K H kF kR kB o x r T bv a z s en st)(bt:But ps H H')(tk:R6 H H')(hd:∀y∈fpL T o r a,y∉ps):Ld K H' kF kR kB o x r T bv a z s en st:=by
 obtain⟨ts,t1,t2⟩:=l.t;exact⟨l.ok.but bt tk λy hy=>hd y (mem_cons_of_mem _ hy),⟨ts,bt _ _ t1 (hd _ (by simp[fpL])),Dvs.tupK tk _ _ (E3 Mnd.fix _) t2⟩,l.n⟩
theorem Ld.more{ds:List Mnd}{ts:List V}(l:Ld K H kF kR kB o x r T bv a z s en st)(u:Fup K kF kR kB o x r bv H a H' a' z' s' en' st')(e:st'.ms=st.ms++ds)(hq:H' q=some (.lst us))(hd:Dvs K H' (ds.map Mnd.da) us)(ht:H T=some (.lst ts))(hdt:Dvs K H (st.ms.map Mnd.da) ts) :
 H' T=some (.lst ts)/\Ld K (upd H' T (.lst (ts++us))) kF kR kB o x r T bv a' z' s' en' st'/\But (fpL T o r a) H (upd H' T (.lst (ts++us)))/\∀y∈fpL T o r a',y∈fpL T o r a\/H y=none:=by
 have ht':=u.bt _ _ ht l.n
 have n':=u.nin l.n ht
 have tk:R6 H' (upd H' T (.lst (ts++us))):=V8 (.inl ⟨_,ht'⟩)
 refine⟨ht',⟨u.ok.but But.upd1 tk λy hy hc=>n' (by rw[mem_singleton.mp hc] at hy;exact hy),⟨_,A2,?_⟩,n'⟩,λc v ec nc=>?_,λy hy=>?_⟩
 ·rw[e,map_append]
  exact Dvs.append (Dvs.tupK (R6.trans (u.tupK l.ok) tk) _ _ (E3 Mnd.fix _) hdt) (Dvs.tupK tk _ _ (E3 Mnd.fix _) hd)
 ·rw[A8 λh=>nc (by rw[h];simp[fpL])]
  exact u.bt c v ec λhc=>nc (mem_cons_of_mem _ hc)
 ·unfold fpL at hy ⊢
  simp only[mem_cons] at hy ⊢
  rcases hy with h|h|h
  ·exact .inl (.inl h)
  ·exact .inl (.inr (.inl h))
  ·rcases u.fr y h with h|h
   ·exact .inl (.inr (.inr h))
   ·exact .inr h
end
structure Tw(K:Fg)(Hs H:Hp)(X:List Addr)(kF kR kB:Addr)(bv:V)(o x r T:Addr)(a:RAd)(z:Str)(s:Nat)(en:Bool)(st:Rst)(o' x' r' T':Addr)(a':RAd)(z':Str)(s':Nat)(en':Bool)(st':Rst):Prop where
 l:Ld K H kF kR kB o x r T bv a z s en st
 m:Ld K H kF kR kB o' x' r' T' bv a' z' s' en' st'
 dj:∀y∈fpL T o r a,y∉fpL T' o' r' a'
 bt:But X Hs H
 f:∀y∈fpL T o r a,y∈X\/Hs y=none
 f':∀y∈fpL T' o' r' a',y∈X\/Hs y=none
 g:B3 Hs H
 tk:R6 Hs H
variable{X:List Addr}{st2:Rst}
section
variable{Hs:Hp}{o x T o' x' r' T':Addr}{z2:Str}{s2:Nat}{en2:Bool}
theorem Tw.swap(t:Tw K Hs H X kF kR kB bv o x r T a z s en st o' x' r' T' a' z' s' en' st'):Tw K Hs H X kF kR kB bv o' x' r' T' a' z' s' en' st' o x r T a z s en st:=⟨t.m,t.l,λy h h2=>t.dj y h2 h,t.bt,t.f',t.f,t.g,t.tk⟩
theorem Tw.go(t:Tw K Hs H X kF kR kB bv o x r T a z s en st o' x' r' T' a' z' s' en' st')(l:Ld K H' kF kR kB o x r T bv a2 z2 s2 en2 st2)(b:But (fpL T o r a) H H')(f:∀y∈fpL T o r a2,y∈fpL T o r a\/H y=none)(g:B3 H H'):Tw K Hs H' X kF kR kB bv o x r T a2 z2 s2 en2 st2 o' x' r' T' a' z' s' en' st':=by
 have tk:=qs5 b t.l.mut;exact⟨l,t.m.but b tk λy h h2=>t.dj y h2 h,λy hy=>(f y hy).elim (t.dj y) λe=>t.m.fresh e,λc u e n=>b c u (t.bt c u e n) λhc=>(t.f c hc).elim n λh=>(by rw[h] at e;cases e),λy hy=>(f y hy).elim (t.f y) λe=>.inr (t.g _ e),t.f',B3.tr t.g g,R6.trans t.tk tk⟩
theorem Tw.same(t:Tw K Hs H X kF kR kB bv o x r T a z s en st o' x' r' T' a' z' s' en' st')(sm:A3 H H'):Tw K Hs H' X kF kR kB bv o x r T a z s en st o' x' r' T' a' z' s' en' st' :=
 t.go (t.l.but (ps:=[]) (λc u e _=>sm c u e) sm.tupK (λ_ _ h=>by cases h)) (λc u e _=>sm c u e) (λy h=>.inl h) (A3.grow sm)
end
theorem Ag9{ms:List Mnd}{ws:List V}(h1:H p=some (.lst us))(d1:Dvs K H (ms.map Mnd.da) us)(h2:H q=some (.lst ws))(d2:Dvs K H (ms.map Mnd.da) ws)(k:Q (.bl false) H):wq1 K (.ref p) (.ref q) H Q:=by
 refine Af3 (Z7.mpr ⟨p,us,rfl,SqL.of h1,d1⟩) (Z7.mpr ⟨q,ws,rfl,SqL.of h2,d2⟩) ?_ ?_
 ·have:=xu4 ms;simp only[PyData.depth];omega
 ·rw[wk1 _ (by rw[nd,za7])];exact k
abbrev xg2(K:Fg):TS :=
 (E1 (tOp (D7 K) (tOp (D7 K) (A0 1) #[12]) #[1,1]))
abbrev xg3(K:Fg):TS :=
 (E1 (tOp (D7 K) (tOp (D7 K) (A0 1) #[12]) #[1,2]))
abbrev qa4(K:Fg):TS :=
 (B1 (M4 (C1 (tOp (P7 K) (tOp (D7 K) (tOp (D7 K) (A0 1) #[12]) #[1,0]) (tC (.str "run"))))
 (xg2 K) J8)
 (xg3 K))
abbrev xg4(K:Fg):TS :=
 (B1 (M4 (C1 (tOp (P7 K) (A0 1) (T2 A5)))
 (E1 #[1,0]) J8)
 (qa4 K))
def qe5(K:Fg):Sp:=λvs H Q _=>∃(z:Str) (s:Nat) (rs:List Row) (rk:Str->Nat) (st:Rst),vs=[.str z]/\FdS rs rk z s st/\z.length<=10000/\∀H',A3 H H'->Q (.int s) H'
def Z1(K:Fg):TS :=
 (B1 (B8 (B9 (qg4 K) [] E0 #[4,0]) (A6 1))
 (xg4 K))
theorem xn8(h:qe5 K vs H Q E):Z1 K {nx:=λ_ H'=>Q .non H',rt:=Q} (C3 ["_law_text","_law_tokens"] vs) H:=by
 obtain⟨z,s,rs,rk,st,rfl,fd,hz,q⟩:=h;show Z1 K _ [some (.str z),none] H;unfold Z1;lk;refine⟨z,rfl,by omega,λp us H1 s1 hp0 hp hd=>?_⟩;lk;refine⟨C7 (by z_go),λe0 he0=>?_⟩;have s2:=A3.new he0 (.lst []);have e2:(upd H1 e0 (.lst [])) e0=_:=A2;have hp2:=s2 _ _ hp;have hd2:=Dvs.same s2 _ _ hd;have s12:=A3.tr s1 s2;generalize upd H1 e0 (.lst [])=H2 at *
 lk;refine Af9 (Z7.mpr ⟨p,us,rfl,SqL.of hp2,hd2⟩) e2 ?_;rcases fd.toks with⟨h1,h2⟩|⟨a0,hor⟩
 ·rw[h1];lk;rw[h2] at q;exact q _ s12
 ·have hne:∀y:PyData,TX.toks z.cps.toList 0 0=a0++[y]->#[17].isEmpty=false/\∃v n,us.length=n+1/\us[n]?=some v/\Dv K H2 y v:=λy e=>by
   rw[e] at hd2 ⊢;obtain⟨u1,u2,rfl,d1,d2⟩:=xp5.mp hd2;rw[Dvs] at d2;obtain⟨v,r,rfl,dv,d2⟩:=d2;rw[Dvs] at d2;subst d2;exact⟨by cases a0 <;> rfl,v,u1.length,by simp,by simp,dv⟩
  have key:∀(kind w:Str) (b e:Nat),(kind = "run"/\b=s\/kind ≠ "run"/\e=s)->TX.toks z.cps.toList 0 0=a0++[.tuple [.str kind,.int (b:Int),.int (e:Int),.str w]]->qa4 K {nx:=λ_ H'=>Q .non H',rt:=Q} [some (.str z),some (.ref p)] H2:=λkind w b e hk ey=>by
   obtain⟨_,v,n,hn,hv,dv⟩:=hne _ ey;obtain⟨q1,ws,rfl,hq,hwd⟩:=C6.mp dv;walk_at"10";obtain rfl:=D6.mp d0;obtain rfl:=J7.mp d1;obtain rfl:=J7.mp d2;lk;refine⟨1,rfl,?_⟩;refine L8 (SqL.of hp2) (qv9 hn hv) ?_;lk;refine P6 hq (v:=.str kind) (M8 (j:=0) rfl) ?_;lk;rcases hk with⟨rfl,rfl⟩|⟨hk,rfl⟩
   ·rw[decide_eq_true rfl];x_go;lk;refine⟨1,rfl,?_⟩;refine L8 (SqL.of hp2) (qv9 hn hv) ?_;lk;refine P6 hq (v:=.int (b:Int)) (M8 (j:=1) rfl) ?_;exact q _ s12
   ·rw[decide_eq_false hk];k_go;lk;refine⟨1,rfl,?_⟩;refine L8 (SqL.of hp2) (qv9 hn hv) ?_;lk;refine P6 hq (v:=.int (e:Int)) (M8 (j:=2) rfl) ?_;exact q _ s12
  rcases hor with h|⟨k,f,h⟩
  ·rw[(hne _ h).1];refine⟨false,rfl,?_⟩;k_go;show qa4 K _ _ _;exact key _ _ _ _ (.inl ⟨rfl,rfl⟩) h
  ·rw[(hne _ h).1];refine⟨false,rfl,?_⟩;k_go;show qa4 K _ _ _;unfold TX.tagD at h;exact key _ _ _ _ (.inr ⟨by split <;> decide,rfl⟩) h
theorem zw2(l:List Nat):(TX.ofL l).cps.toList=l:=by unfold TX.ofL;simp
theorem An9{ms:List Mnd}(hq:H q=some (.lst us))(hd:Dvs K H (ms.map Mnd.da) us)(hl:ms.length<=700000)(k:∀p ys,H p=none->Dvs K H ((ms.filter λm=>decide (m.s<(s:Int))).map Mnd.da) ys->Q (.ref p) (upd H p (.lst ys))):∃b,V.ref q=.ref b/\(((∃xs,SqL K H b xs)/\qp1 (A6 1) (C1 (tOp xr1 (tOp (D7 K) (A0 1) #[1,0]) (A0 0))) (A0 1) [some (.int (s:Int)),none] Q (Itl K b) H)\/((∃xs,SqT K H b xs)/\qp1 (A6 1) (C1 (tOp xr1 (tOp (D7 K) (A0 1) #[1,0]) (A0 0))) (A0 1) [some (.int (s:Int)),none] Q (Itt K b) H)):=by
 have hul:=hd.length;rw[length_map] at hul;refine ye2 (SqL.of hq) (λi ys H'=>H'=H/\ys.length<=i/\Dvs K H (((ms.take i).filter λm=>decide (m.s<(s:Int))).map Mnd.da) ys) ⟨rfl,Nat.le_refl _,E4⟩ ?_ ?_ ?_ ?_
 ·rintro i ys H' hi ⟨rfl,hy,_⟩;rw[sizeLine_eq];omega
 ·rintro i ys H' _ ⟨rfl,_⟩;exact SqL.of hq
 ·rintro i v ys H' hv ⟨rfl,hy,d⟩;obtain⟨d0,e,dv⟩:=hd.get' hv;rw[List.getElem?_map] at e;obtain⟨m,hm,rfl⟩:=Option.map_eq_some_iff.mp e;have dv0:=dv;obtain⟨p,ws,rfl,hp,hw⟩:=C6.mp dv;rw[Dvs] at hw;obtain⟨v0,r0,rfl,d0,hw⟩:=hw;obtain rfl:=J7.mp d0;refine D0 ?_;lk;refine P6 hp (v:=.int m.s) (M8 (j:=0) rfl) ?_;lk;by_cases h:m.s<(s:Int)
  ·rw[decide_eq_true h];lk;refine⟨rfl,by rw[length_append,length_singleton];omega,?_⟩;rw[qd3 hm,filter_append,map_append,filter_cons_of_pos (by simpa using h)];exact Dvs.append d (Dvs.one dv0)
  ·rw[decide_eq_false h];lk;refine⟨rfl,by omega,?_⟩;rw[qd3 hm,filter_append,map_append,filter_cons_of_neg (by simpa using h),filter_nil,map_nil,append_nil];exact d
 ·rintro ys H' ⟨rfl,hy,d⟩ p hp;rw[hul,take_length] at d;exact k p ys hp d
theorem Ad9{ps:List Str}{p:Str}(hcat:cat ps=z)(hp:ps[j]?=some p):z=cat (ps.take j)++p++cat (ps.drop (j+1)):=by
 rw[<-hcat];apply we8;rw[<-xb0,<-qd3 hp,qt2,yt4,yt4,yt4,<-flatMap_append,take_append_drop]
abbrev ze6(K:Fg)(qB:Addr):TS :=
 (D2 (tBM K "list" we4 (A0 8) (A1 (E9 qB "take" (Z0 K) [] E0 (A0 5) #[4,10]) A5)))
abbrev Ae0(K:Fg):TS :=
 (M4 (tOr (C1 (tOp (wq1 K) (A0 7) (qr9 [some 11,none] (qy3 K (A0 3)) (A6 1) (C1 (tOp xr1 (tOp (D7 K) (A0 1) #[1,0]) (A0 0))) (A0 1)))) (C1 (tOp (wq1 K) (A0 8) (A0 7))))
 (E1 (tC (.bl false))) J8)
abbrev ze7(K:Fg)(qB:Addr):TS :=
 (B1 (qc8 (zz5 (A0 9)) (A6 10)
 (ze6 K qB))
 (B1 (B8 (B9 (qe5 K) [] E0 #[4,6]) (A6 11))
 (Ae0 K)))
abbrev ze8(K:Fg)(qB:Addr):TS :=
 (B1 (D2 (tBM K "list" we4 (A0 7) (A1 (E9 qB "take" (Z0 K) [] E0 (A0 4) #[4,9]) A5)))
 (ze7 K qB))
abbrev ze9(K:Fg)(qB:Addr):TS :=
 (E1 (yn5 (tOp (P7 K) (tOp (C8 K) (A0 7) (E9 qB "end" (qd8 K) [] E0 (A0 4) A5)) (A0 3)) (tOp (P7 K) (tOp (C8 K) (A0 8) (E9 qB "end" (qd8 K) [] E0 (A0 5) A5)) (A0 3))))
abbrev zf0(K:Fg)(qB:Addr):TS :=
 (B1 (qc8 (qy3 K (B9 (qh3 K) [] E0 (A1 (A0 2) (A1 (tSl (qu8 K) (A0 0) (O9 #[1,3]) (O9 #[1,23])) A5)))) (A6 9)
 (B1 (B8 (tOp (C8 K) (A0 6) (A0 9)) (A6 6))
 (ze8 K qB)))
 (ze9 K qB))
abbrev Ae1(K:Fg)(qB:Addr):TS :=
 (B1 (B8 (tC (.str "")) (A6 6))
 (B1 (B8 (T2 A5) (A6 7))
 (B1 (B8 (T2 A5) (A6 8))
 (zf0 K qB))))
abbrev Ae2(K:Fg)(qB:Addr):TS :=
 (B1 (B8 (xi3 qB (Y9 K) [] E0 #[4,1]) (A6 5))
 (Ae1 K qB))
abbrev Ae3(K:Fg)(qB:Addr):TS :=
 (B1 (B8 (xi3 qB (Y9 K) [] E0 #[4,1]) (A6 4))
 (Ae2 K qB))
abbrev zf1(K:Fg)(qB:Addr):TS :=
 (B1 (B8 (tOp (D7 K) (B9 (qq7 K) [] E0 (A1 (A0 1) #[4,2])) #[1,1]) (A6 3))
 (Ae3 K qB))
abbrev yt5(K:Fg)(qB:Addr):TS :=
 (B1 (B8 (B9 (qe4 K) [] E0 (A1 (tSl (qu8 K) (A0 0) (O9 #[1,3]) (O9 #[1,43])) (A1 (qr9 [none] (qy3 K (A0 1)) (A6 0) tTT (tOp (D7 K) (A0 0) #[1,0])) A5))) (A6 2))
 (zf1 K qB))
def xg6(K:Fg):Sp:=λvs H Q _=>∃(a:Addr) (ns:List Int),vs=[.ref a]/\SqL K H a (ns.map V.int)/\ns.length<=63/\∀H',Q (.bl true) H'
def zf2(K:Fg)(qB:Addr):TS :=
 (B1 (B8 (B9 (qq9 K) [] E0 #[4,0]) (A6 1))
 (yt5 K qB))
theorem Ao0(cz:Cz K qA qC)(cf:Cf K qB)(h:xg6 K vs H Q E):zf2 K qB {nx:=λ_ H'=>Q .non H',rt:=Q} (C3 ["_law_script","_law_book_here","_law_text","_law_mends","_law_feed","_law_beside","_law_came","_law_told","_law_other","_law_piece","_law_sign","_law_last"] vs) H:=by
 obtain⟨sc,ns,rfl,hS,hn63,q⟩:=h;show zf2 K _ _ [some (.ref sc),none,none,none,none,none,none,none,none,none,none,none] H;unfold zf2;lk;refine⟨sc,ns,rfl,hS,λbv rs H1 s1 hB B hl hok=>?_⟩;obtain⟨rk,bk⟩:=zv0 B hok;obtain⟨cs,ec,hcs⟩:=Ag8 (ns:=ns) 3 43;obtain⟨cs2,ec2,hcs2⟩:=Ag8 (ns:=ns) 3 23;have ec:qe8 (ns.map V.int) (some 3) (some 43)=_:=ec;have ec2:qe8 (ns.map V.int) (some 3) (some 23)=_:=ec2;show yt5 K _ _ _ _;lk;refine wx1 (s1.sqL hS) λc1 hc1=>?_;rw[ec];have s2:=A3.new hc1 (.lst (cs.map V.int));have e2:(upd H1 c1 (.lst (cs.map V.int))) c1=_:=A2;generalize upd H1 c1 (.lst (cs.map V.int))=H2 at *
 lk;refine zv8 (hB.same s2) hl.2 λna hna=>?_;have s3:=A3.new hna #[23,rs.map Row.name];have e3:(upd H2 na #[23,rs.map Row.name]) na=_:=A2;generalize upd H2 na #[23,rs.map Row.name]=H3 at *
 lk;refine⟨c1,na,cs,rs.map Row.name,rfl,SqL.of (s3 _ _ e2),by omega,e3,by rw[length_map];exact hl.1,by rw[length_map];omega,λn hn=>?_,λz H4 hz s4=>?_⟩
 ·obtain⟨r,hr,rfl⟩:=mem_map.mp hn;exact(hok r hr).1
 have s14:A3 H1 H4:=A3.tr s2 (A3.tr s3 s4);have hB4:=hB.same s14;have hS4:=(A3.tr s1 s14).sqL hS;show zf1 K _ _ _ _;lk;refine⟨bv,z,rs,rk,rfl,hB4,bk,by omega,λv1 p5 q5 us5 H5 hp5 hv5 hq5 hu5 s5 _=>?_⟩;lk;refine P6 hp5 (v:=.ref q5) (M8 (j:=1) rfl) ?_;lk;refine wp0 ?_;lk;intro o dx ho hdx ne;have s6:A3 H5 (upd (upd H5 dx (.own o)) o (.ins qB dx [])):=λc u e=>D4 (D4 e (N9 hdx e)) (N9 ho e);have e6:(upd (upd H5 dx (.own o)) o (.ins qB dx [])) o=some (.ins qB dx []):=A2;have g6:B3 H5 (upd (upd H5 dx (.own o)) o (.ins qB dx [])):=B3.tr B3.upd B3.upd;generalize upd (upd H5 dx (.own o)) o (.ins qB dx [])=H6 at *
 refine⟨qB,o,dx,bv,rfl,cf.ns_Feed,e6,λkR kB r a H7 f7 b7 fr7 g7=>⟨rfl,?_⟩⟩;obtain rfl:=E2 cz.ns_Reader f7.rd.kr;have s57:A3 H5 H7:=λc u e=>b7 c u (s6 c u e) (by simp;exact N9 ho e);have nin7:∀c∈o::RAd.fp r a,H5 c=none:=λc hc=>by
  rcases mem_cons.mp hc with h|h
  ·rw[h];exact ho
  ·exact g6 _ (fr7 c h)
 lk;refine wp0 ?_;lk;intro o' dx' ho' hdx' ne';have s6:A3 H7 (upd (upd H7 dx' (.own o')) o' (.ins qB dx' [])):=λc u e=>D4 (D4 e (N9 hdx' e)) (N9 ho' e);have e6:(upd (upd H7 dx' (.own o')) o' (.ins qB dx' [])) o'=some (.ins qB dx' []):=A2;have g6:B3 H7 (upd (upd H7 dx' (.own o')) o' (.ins qB dx' [])):=B3.tr B3.upd B3.upd;generalize upd (upd H7 dx' (.own o')) o' (.ins qB dx' [])=H6' at *
 refine⟨qB,o',dx',bv,rfl,cf.ns_Feed,e6,λkR' kB' r' a' H8 f8 b8 fr8 g8=>⟨rfl,?_⟩⟩;obtain rfl:=E2 cz.ns_Reader f8.rd.kr;obtain rfl:=E2 f7.rd.kb f8.rd.kb;have s78:A3 H7 H8:=λc u e=>b8 c u (s6 c u e) (by simp;exact N9 ho' e);have nin8:∀c∈o'::RAd.fp r' a',H7 c=none:=λc hc=>by
  rcases mem_cons.mp hc with h|h
  ·rw[h];exact ho'
  ·exact g6 _ (fr8 c h)
 have f7':=f7.same s78;lk;refine⟨C7 (by z_go),λT hT=>?_⟩;have s9:=A3.new hT (.lst []);have eT:(upd H8 T (.lst [])) T=_:=A2;have nT:=f7'.fresh hT;have nT':=f8.fresh hT;have f7'':=f7'.same s9;have f8':=f8.same s9;generalize upd H8 T (.lst [])=H9 at *
 lk;refine⟨C7 (by z_go),λT' hT'=>?_⟩;have s10:=A3.new hT' (.lst []);have eT':(upd H9 T' (.lst [])) T'=_:=A2;have mT:=f7''.fresh hT';have mT':=f8'.fresh hT';have nTT:T≠T':=N9 hT' eT;generalize upd H9 T' (.lst [])=H10 at *
 show zf0 K _ _ _ _;lk;have s5x:A3 H5 H10:=A3.tr s57 (A3.tr s78 (A3.tr s9 s10));refine wx1 ((A3.tr s5 s5x).sqL hS4) λc11 hc11=>?_;rw[ec2];have s11:=A3.new hc11 (.lst (cs2.map V.int));have e11:(upd H10 c11 (.lst (cs2.map V.int))) c11=_:=A2;generalize upd H10 c11 (.lst (cs2.map V.int))=H11 at *
 lk;refine⟨z,c11,cs2,rfl,hz,SqL.of e11,by omega,λpl ps Hs sA npl hpl hcat hpn=>?_⟩;have sXs:A3 H10 Hs:=A3.tr s11 sA;have s5s:A3 H5 Hs:=A3.tr s5x sXs;have hBs:BkO K Hs bv rs:=(hB4.same s5).same s5s;have hT5:H5 T=none:=A3.grow s57 _ (A3.grow s78 _ hT);have hT5':H5 T'=none:=A3.grow s57 _ (A3.grow s78 _ (A3.grow s9 _ hT'));have tmk:∀Hx,A3 H10 Hx->Tw K Hx Hx (fpL T o r a++fpL T' o' r' a') qB qC kB bv o dx r T a "" 0 false st0 o' dx' r' T' a' "" 0 false st0:=λHx sx=>by
  refine⟨⟨f7''.same (A3.tr s10 sx),⟨[],sx _ _ (s10 _ _ eT),E4⟩,nT⟩,⟨f8'.same (A3.tr s10 sx),⟨[],sx _ _ eT',E4⟩,mT'⟩,λy hy hy'=>?_,λc u e _=>e,λy hy=>.inl (mem_append_left _ hy),λy hy=>.inl (mem_append_right _ hy),λ_ e=>e,R6.refl _⟩;unfold fpL at hy hy';rcases mem_cons.mp hy with h|h
  ·rcases mem_cons.mp hy' with h' | h'
   ·exact nTT (h.symm.trans h')
   ·exact nT' (by rw[<-h];exact h')
  ·rcases mem_cons.mp hy' with h' | h'
   ·exact mT (by rw[<-h'];exact h)
   ·have e1:=nin8 y h';rcases f7.mut y h with⟨xs,e⟩|⟨C,d,fs,e⟩ <;> rw[e1] at e <;> cases e
 have nX:∀c u,H5 c=some u->c∉fpL T o r a++fpL T' o' r' a':=λc u e hc=>by
  rcases mem_append.mp hc with h|h <;> rcases mem_cons.mp h with h|h
  ·rw[h,hT5] at e;cases e
  ·rw[nin7 c h] at e;cases e
  ·rw[h,hT5'] at e;cases e
  ·rw[A3.grow s57 _ (nin8 c h)] at e;cases e
 have npX:pl∉fpL T o r a++fpL T' o' r' a':=λhc=>by
  have t11:=tmk H11 s11;rcases mem_append.mp hc with h|h
  ·exact t11.l.fresh npl h
  ·exact t11.m.fresh npl h
 have t0:=tmk Hs sXs;generalize hX:fpL T o r a++fpL T' o' r' a'=X at *
 refine wa4 (SqL.of hpl) (λj σ H'=>∃a1 s1 st1 a2 s2 st2 x9 x10 x11,σ=[some (.ref sc),some bv,some (.str z),some (.ref q5),some (.ref o),some (.ref o'),some (.str (cat (ps.take j))),some (.ref T),some (.ref T'),x9,x10,x11]/\Tw K Hs H' X qB qC kB bv o dx r T a1 (cat (ps.take j)) s1 false st1 o' dx' r' T' a2 (cat (ps.take j)) s2 false st2/\FdS rs rk (cat (ps.take j)) s1 st1/\FdS rs rk (cat (ps.take j)) s2 st2) ?_ ?_ ?_ ?_
 ·exact⟨a,0,st0,a',0,st0,none,none,none,rfl,t0,.init,.init⟩
 ·rintro j σ H' _ ⟨a1,s1,st1,a2,s2,st2,x9,x10,x11,rfl,l,f1,f2⟩;exact SqL.of (l.bt _ _ hpl npX)
 ·rintro j v σ H' hv ⟨a1,s1,st1,a2,s2,st2,x9,x10,x11,rfl,l,f1,f2⟩;unfold B0 at hv;rw[List.getElem?_map] at hv;obtain⟨p,hp,rfl⟩:=Option.map_eq_some_iff.mp hv;have ecat:cat (ps.take (j+1))=cat (ps.take j)++p:=by rw[qd3 hp,xb0]
  have emid:=Ad9 hcat hp;have elen:(cat (ps.take j)).length+p.length<=9000:=by
   have e2:=congrArg Str.length emid;rw[G6,G6] at e2;omega
  rw[PAt,ecat];generalize cat (ps.take j)=zj at *
  refine D0 ?_;refine V1 (zo8 ?_);lk;refine T4 #[16] ?_;refine D0 ?_;show ze8 K _ _ _ _;obtain⟨ts,t1,t2⟩:=l.l.t;have hBt:=hBs.tupK l.tk;refine V1 ?_;lk;refine⟨.inl ⟨rfl,_,SqL.of t1⟩,?_⟩;walk_at"18";refine⟨o,_,_,rfl,l.l.ok.ob,rfl,?_⟩;lk;refine⟨qB,qC,kB,o,dx,r,bv,a1,_,s1,st1,rs,rk,p,rfl,l.l.ok,hBt,bk,by omega,f1,λa5 H5 s5 st5 ds q6 us6 u5 fd5 em hq60 nq6 hq6 hd6 g5=>?_⟩;lk;obtain⟨t3,l3,b3,r3⟩:=l.l.more u5 em hq6 hd6 t1 t2;have hml:=ml em (fd5.len bk (by rw[G6];omega)) t2 hd6;refine xr7 t3 hq6 #[16] ?_;have L3:=l.go l3 b3 r3 (B3.tr g5 B3.upd);generalize upd H5 T (.lst (ts++us6))=H6 at *
  show ze7 K _ _ _ _;lk;have gp:p.cps.toList.length=p.length:=Array.length_toList;refine zz9 (λi σ H'=>∃a2 s2 st2 x10,σ=[some (.ref sc),some bv,some (.str z),some (.ref q5),some (.ref o),some (.ref o'),some (.str (zj++p)),some (.ref T),some (.ref T'),some (.str p),x10,x11]/\Tw K Hs H' X qB qC kB bv o dx r T a5 (zj++p) s5 false st5 o' dx' r' T' a2 (zj++TX.ofL (p.cps.toList.take i)) s2 false st2/\FdS rs rk (zj++TX.ofL (p.cps.toList.take i)) s2 st2) ?_ ?_ ?_
  ·have e0:zj++TX.ofL (p.cps.toList.take 0)=zj:=we8 (by rw[qt2];show zj.cps.toList++[]=_;rw[append_nil]);rw[e0];exact⟨a2,s2,st2,x10,rfl,L3,f2⟩
  ·rintro i c σ H7 hc ⟨a2,s2,st2,x10,rfl,l,f2⟩;have hi:i<p.length:=by have:=(List.getElem?_eq_some_iff.mp hc).1;omega
   have ex:zj++TX.ofL (p.cps.toList.take (i+1))=zj++TX.ofL (p.cps.toList.take i)++⟨#[c]⟩:=we8 (by
    rw[qt2,qt2,qt2,zw2,zw2,qd3 hc,append_assoc])
   have hl2:(zj++TX.ofL (p.cps.toList.take i)).length+(⟨#[c]⟩:Str).length<=9000:=by
    rw[G6,yk9,length_take];show _+_+1<=_;omega
   rw[PAt,ex];generalize zj++TX.ofL (p.cps.toList.take i)=zi at *
   refine D0 ?_;obtain⟨ts,t1,t2⟩:=l.m.t;have hBt:=hBs.tupK l.tk;show ze6 K _ _ _ _;lk;refine⟨.inl ⟨rfl,_,SqL.of t1⟩,?_⟩;walk_at"18";refine⟨o',_,_,rfl,l.m.ok.ob,rfl,?_⟩;lk;refine⟨qB,qC,kB,o',dx',r',bv,a2,_,s2,st2,rs,rk,⟨#[c]⟩,rfl,l.m.ok,hBt,bk,by omega,f2,λa8 H8 s8 st8 ds q8 us8 u8 fd8 em hq80 nq8 hq8 hd8 g8=>?_⟩;lk;obtain⟨t3,l3,b3,r3⟩:=l.m.more u8 em hq8 hd8 t1 t2;have hml:=ml em (fd8.len bk (by rw[G6];omega)) t2 hd8;refine xr7 t3 hq8 #[16] ?_;exact⟨a8,s8,st8,_,rfl,(l.swap.go l3 b3 r3 (B3.tr g8 B3.upd)).swap,fd8⟩
  ·rintro σ H7 ⟨a2,s2,st2,x10,rfl,l,f2⟩;have ep:TX.ofL (p.cps.toList.take p.cps.size)=p:=we8 (by rw[zw2];exact take_of_length_le (Nat.le_of_eq gp));rw[ep] at l f2;obtain⟨rfl,rfl⟩:=f2.uniq fd5;obtain⟨ts,t1,t2⟩:=l.l.t;obtain⟨ts',t1',t2'⟩:=l.m.t;have hq7:=l.bt _ _ (s5s _ _ hq5) (nX _ _ hq5);have hu7:=Dvs.tupK l.tk _ _ (E3 Mnd.fix _) (Dvs.same s5s _ _ hu5);lk;refine⟨zj++p,s2,rs,rk,st2,rfl,f2,by rw[G6];omega,λH8 s8=>?_⟩;have l8:=l.same s8;have hu8:=Dvs.same s8 _ _ hu7;lk;refine An9 (s8 _ _ hq7) hu8 (zb1 bk #[0]) λc us9 hc d9=>?_;have s9:=A3.new hc (.lst us9);have ef:(rdS rs rk z).ms.filter (λm=>decide (m.s<(s2:Int)))=st2.ms:=by
    rw[emid];exact f2.filt
   rw[ef] at d9;have e9:(upd H8 c (.lst us9)) c=_:=A2;have l9:=l8.same s9;have s89:=A3.tr s8 s9;have d9:=Dvs.same s9 _ _ d9;generalize upd H8 c (.lst us9)=H9 at *
   lk;refine Ag9 (s89 _ _ t1) (Dvs.same s89 _ _ t2) e9 d9 ?_;refine⟨false,rfl,?_⟩;k_go;lk;refine Ag9 (s89 _ _ t1') (Dvs.same s89 _ _ t2') (s89 _ _ t1) (Dvs.same s89 _ _ t2) ?_;refine⟨false,rfl,?_⟩;k_go;exact⟨a5,s2,st2,a2,s2,st2,_,_,_,rfl,l9,f2,f2⟩
 ·rintro σ H' ⟨a1,s1,st1,a2,s2,st2,x9,x10,x11,rfl,l,f1,f2⟩;rw[B2,take_length,hcat] at l f1 f2;obtain⟨ts,t1,t2⟩:=l.l.t;obtain⟨ts',t1',t2'⟩:=l.m.t;have hBt:=hBs.tupK l.tk;have hqH:=l.bt _ _ (s5s _ _ hq5) (nX _ _ hq5);have huH:=Dvs.tupK l.tk _ _ (E3 Mnd.fix _) (Dvs.same s5s _ _ hu5);have nq1:q5∉o::RAd.fp r a1:=λhm=>(l.f _ (mem_cons_of_mem _ hm)).elim (nX _ _ hq5) λe=>by rw[s5s _ _ hq5] at e;cases e
  have nq2:q5∉o'::RAd.fp r' a2:=λhm=>(l.f' _ (mem_cons_of_mem _ hm)).elim (nX _ _ hq5) λe=>by rw[s5s _ _ hq5] at e;cases e
  show ze9 K _ _ _ _;walk_at"18";refine⟨o,_,_,rfl,l.l.ok.ob,rfl,?_⟩;lk;refine⟨qB,qC,kB,o,dx,r,bv,a1,z,s1,st1,rs,rk,rfl,l.l.ok,hBt,bk,by omega,f1,λa5 H5 s5 st5 ds q6 us6 u5 fd5 em hq60 nq6 hq6 hd6 g5=>?_⟩;subst fd5;have tk5:=u5.tupK l.l.ok;have t5:=u5.bt _ _ t1 l.l.n;have hml:=ml em (zb1 bk #[0]) t2 hd6;lk;refine yo9 t5 hq6 #[16] λc hc=>?_;have s9:=A3.new hc (.lst (ts++us6));have e9:(upd H5 c (.lst (ts++us6))) c=_:=A2;have d9:Dvs K H5 ((rdS rs rk z).ms.map Mnd.da) (ts++us6):=by
   rw[em,map_append];exact Dvs.append (Dvs.tupK tk5 _ _ (E3 Mnd.fix _) t2) hd6
  have d9:=Dvs.same s9 _ _ d9;generalize upd H5 c (.lst (ts++us6))=H6 at *
  have q6':=s9 _ _ (u5.bt _ _ hqH nq1);have hu6:=Dvs.same s9 _ _ (Dvs.tupK tk5 _ _ (E3 Mnd.fix _) huH);lk;refine Ag7 e9 d9 q6' hu6 ?_;refine⟨true,rfl,?_⟩;x_go;have m6:=(l.m.but u5.bt tk5 λy hy hc=>l.dj y (mem_cons_of_mem _ hc) hy).but (ps:=[]) (λc u e _=>s9 c u e) s9.tupK (λ_ _ h=>by cases h);obtain⟨ts',t1',t2'⟩:=m6.t;have hB6:=(hBt.tupK tk5).same s9;walk_at"18";refine⟨o',_,_,rfl,m6.ok.ob,rfl,?_⟩;lk;refine⟨qB,qC,kB,o',dx',r',bv,a2,z,s2,st2,rs,rk,rfl,m6.ok,hB6,bk,by omega,f2,λa7 H7 s7 st7 ds7 q7 us7 u7 fd7 em7 hq70 nq7 hq7 hd7 g7=>?_⟩;subst fd7;have tk7:=u7.tupK m6.ok;have t7:=u7.bt _ _ t1' m6.n;have hml:=ml em7 (zb1 bk #[0]) t2' hd7;lk;refine yo9 t7 hq7 #[16] λc8 hc8=>?_;have s10:=A3.new hc8 (.lst (ts'++us7));have e10:(upd H7 c8 (.lst (ts'++us7))) c8=_:=A2;have d10:Dvs K H7 ((rdS rs rk z).ms.map Mnd.da) (ts'++us7):=by
   rw[em7,map_append];exact Dvs.append (Dvs.tupK tk7 _ _ (E3 Mnd.fix _) t2') hd7
  lk;exact Ag7 e10 (Dvs.same s10 _ _ d10) (s10 _ _ (u7.bt _ _ q6' nq2)) (Dvs.same s10 _ _ (Dvs.tupK tk7 _ _ (E3 Mnd.fix _) hu6)) (q _)
variable{pos:Pos}{mg:Str->Option Value}
section
open PyProof.Rows
set_option maxHeartbeats 0
noncomputable def top(i:Nat):Stmt:=PySem.Challenge.pw_tagmend_k61_mends_as_they_come.main.body.getD i (.Pass ⟨0,0,0,0⟩)
noncomputable def Z2(s:Stmt)(j:Nat):Stmt:=match s with
 | .ClassDef _ _ _ b _ _ _ _ _ _ _=>b.getD j (.Pass ⟨0,0,0,0⟩)
 | _=>.Pass ⟨0,0,0,0⟩
noncomputable abbrev Q6:Stmt:=top 12
noncomputable abbrev xx7:Stmt:=top 13
noncomputable abbrev xg7:Stmt:=top 14
noncomputable abbrev xg8:Stmt:=top 15
noncomputable abbrev xg9:Stmt:=top 16
noncomputable abbrev wv3:Stmt:=top 17
noncomputable abbrev xh0:Stmt:=top 18
noncomputable abbrev xh1:Stmt:=top 21
noncomputable abbrev qk8:Stmt:=top 22
noncomputable abbrev xh2:Stmt:=top 23
noncomputable abbrev qh4:Stmt:=top 25
noncomputable abbrev xh3:Stmt:=top 28
noncomputable abbrev xh4:Stmt:=top 29
noncomputable abbrev wm2:Stmt:=top 30
noncomputable abbrev xx8:Stmt:=top 31
noncomputable abbrev qh5:Stmt:=top 32
noncomputable abbrev qo1:Stmt:=top 33
noncomputable abbrev qt4:Stmt:=top 34
noncomputable abbrev wm3:Stmt:=top 35
noncomputable abbrev xh5:Stmt:=top 39
noncomputable abbrev xh6:Stmt:=top 40
noncomputable abbrev qx1:Stmt:=top 41
noncomputable abbrev wm4:Stmt:=top 46
noncomputable abbrev qk9:Stmt:=top 47
noncomputable abbrev wm5:Stmt:=top 48
noncomputable abbrev wg0:Stmt:=top 49
noncomputable abbrev wv4:Stmt:=top 50
noncomputable abbrev qz1:Stmt:=top 51
noncomputable abbrev qt5:Stmt:=top 52
noncomputable abbrev wg1:Stmt:=top 53
noncomputable abbrev wg2:Stmt:=top 54
noncomputable abbrev wm6:Stmt:=top 57
noncomputable abbrev wm7:Stmt:=top 58
noncomputable abbrev qh6:Stmt:=top 61
noncomputable abbrev qt6:Stmt:=top 62
noncomputable abbrev qo2:Stmt:=top 63
noncomputable abbrev qt7:Stmt:=top 67
noncomputable abbrev wg3:Stmt:=top 68
noncomputable abbrev wm8:Stmt:=top 69
noncomputable abbrev qa5:Stmt:=top 70
noncomputable abbrev qe6:Stmt:=top 71
noncomputable abbrev qz2:Stmt:=top 72
noncomputable abbrev wg4:Stmt:=top 73
noncomputable abbrev qr3:Stmt:=top 74
noncomputable abbrev qz3:Stmt:=top 75
noncomputable abbrev qn4:Stmt:=top 76
noncomputable abbrev qz4:Stmt:=top 77
noncomputable abbrev qh7:Stmt:=top 78
noncomputable abbrev qt8:Stmt:=top 79
noncomputable abbrev qz5:Stmt:=top 80
noncomputable abbrev qt9:Stmt:=top 81
noncomputable abbrev xj1:Stmt:=top 82
noncomputable abbrev qo3:Stmt:=Z2 (top 59) 0
noncomputable abbrev qo4:Stmt:=Z2 (top 60) 0
noncomputable abbrev qo5:Stmt:=Z2 (top 60) 1
noncomputable abbrev qo6:Stmt:=Z2 (top 60) 2
noncomputable abbrev qh8:Stmt:=Z2 (top 60) 3
noncomputable abbrev U5:Stmt:=Z2 (top 60) 4
noncomputable abbrev U6:Stmt:=Z2 (top 60) 5
noncomputable abbrev qc6:Stmt:=Z2 (top 60) 6
noncomputable abbrev Q7:Stmt:=Z2 (top 60) 7
noncomputable abbrev V5:Stmt:=Z2 (top 60) 8
noncomputable abbrev S9:Stmt:=Z2 (top 60) 9
noncomputable abbrev ql0:Stmt:=Z2 (top 60) 10
noncomputable abbrev ql1:Stmt:=Z2 (top 60) 11
noncomputable abbrev qo7:Stmt:=Z2 (top 60) 12
noncomputable abbrev qh9:Stmt:=Z2 (top 60) 13
noncomputable abbrev U7:Stmt:=Z2 (top 60) 14
noncomputable abbrev R0:Stmt:=Z2 (top 60) 15
noncomputable abbrev qc7:Stmt:=Z2 (top 60) 16
noncomputable abbrev qz6:Stmt:=Z2 (top 65) 0
noncomputable abbrev qz7:Stmt:=Z2 (top 65) 1
noncomputable abbrev wg5:Stmt:=Z2 (top 65) 2
noncomputable abbrev Q0:Stmt:=Z2 (top 65) 4
noncomputable abbrev Z3:Stmt:=Z2 (top 65) 5
set_option genInjectivity false in
structure Fa where
 a:Addr
 d:FuncData
structure Fok(K:Fg)(mg:Str->Option Value)(x:Str)(st:Stmt)(ps:List Str)(f:Fa):Prop where
 F:Fun K x x st f.a f.d
 b:O8 K f.d ps []
 m:mg x=some (.ref f.a)
theorem zcl{X:Cx}{CX:CXT}{k:Nat}{fa:Fa}{st:Stmt}{ps:List Str}{sp:Sp}{p:Pos}{e:Expr}{es:List Expr}{t:TA}(F:D5 X.prog X.w X.K X.mg X.base CX k fa.a fa.d ps sp)(hr:qk3 j X.A)(f:Fok X.K X.mg x st ps fa)(hx:wj5 CX X E)(ha:PA X (e::es) t)(hk:k<=j:=by walk_at "le")(hg:autoParam (Gl X x) zAr)(hdb:autoParam ((x == ("__debug__":Str))=false) zAd)(he:autoParam #[14] zAr)(hpl:autoParam ((backTo pos (starEach es X.env)).any (·.1)=false) zAr):PE X (.Call (.Name x p) (e::es) [] pos) (B9 sp [] E t):=zx3 F (hr.mono hk) hg f.m f.F.kp f.b .nil hx ha hdb he hpl
theorem zst{X:Cx}{P:List Str}{sc:Scope}{i:Nat}{e:Expr}{pos':Pos}(S:B6 X.N P sc)(he:PE X e te)(hi:autoParam (X.N[i]?=some x) zAr)(hx:Loc X.env.scope x:=by exact Or.inl rfl)(hs:autoParam (swapsWith e (some (.Name x pos')) pos.line X.env=pure false) zAr)(hf:X.fn x=true\/X.env.scope.names.lookup x=some .local:=by walk_at "or"):PS X (.Assign [.Name x pos'] e pos) (B8 te (A6 i)):=qe7 S.nd hi hx he hs hf
set_option genInjectivity false in
structure Adr where
 za:Fa
 zb:Fa
 zc:Fa
 zd:Fa
 ze:Fa
 zf:Fa
 zh:Fa
 zk:Fa
 zm:Fa
 zn:Fa
 zo:Fa
 zp:Fa
 zr:Fa
 zt:Fa
 zu:Fa
 zv:Fa
 zw:Fa
 zx:Fa
 zy:Fa
 zz:Fa
 ya:Fa
 yb:Fa
 yc:Fa
 yd:Fa
 ye:Fa
 yf:Fa
 yg:Fa
 yh:Fa
 yi:Fa
 yj:Fa
 yk:Fa
 yl:Fa
 ym:Fa
 yn:Fa
 yo:Fa
 yp:Fa
 yq:Fa
 yr:Fa
 yt:Fa
 yu:Fa
 yw:Fa
 yx:Fa
 yy:Fa
 yz:Fa
 xb:Fa
 xc:Fa
 xf:Fa
 xg:Fa
 xh:Fa
 xi:Fa
 xj:Fa
 xk:Fa
 c23:Fa
 c25:Fa
 c24:Fa
 c26:Fa
 c18:Fa
 c10:Fa
 c7:Fa
 c16:Fa
 c13:Fa
 c12:Fa
 c15:Fa
 c20:Fa
 c21:Fa
 c22:Fa
 c19:Fa
 c9:Fa
 c6:Fa
 c17:Fa
 c27:Fa
 c28:Fa
 c29:Fa
 c5:Fa
 c14:Fa
 c_WALL_SORTS:Addr
 v_LONGEST_NAME:Value
 v_NAME:Value
 v_SORT:Value
 v_HOST:Value
 v_SHUTS:Value
 v_BARS:Value
 v_ROOT_NAME:Value
 v_MOST_OPEN:Value
 c_TOLD_FOR:Addr
 c_ESCAPED:Addr
 v_LONGEST_BEGUN:Value
 v_START:Value
 v_STOP:Value
 v_BLANKS:Value
 qA:Addr
 qB:Addr
 qC:Addr
structure Fom(K:Fg)(C:Addr)(x qual:Str)(st:Stmt)(ps:List Str)(f:Fa):Prop where
 F:Fun K x qual st f.a f.d
 b:O8 K f.d ps []
 m:qr8 K C x f.a
structure Foi(K:Fg)(C:Addr)(qual:Str)(st:Stmt)(ps:List Str)(f:Fa):Prop where
 F:Fun K "__init__" qual st f.a f.d
 b:O8 K f.d ps []
 m:Mk K C f.a
structure Txt(K:Fg)(mg:Str->Option Value)(t:Adr):Prop where
 za:Fok K mg "has_letters_of_name" Q6 ["word"] t.za
 zb:Fok K mg "row_of" xx7 ["rows","name"] t.zb
 zc:Fok K mg "sort_of" xg7 ["book","name"] t.zc
 zd:Fok K mg "is_wall" xg8 ["book","name"] t.zd
 ze:Fok K mg "host_of" xg9 ["book","name"] t.ze
 zf:Fok K mg "frame_of" wv3 ["book","name"] t.zf
 zh:Fok K mg "belongs" xh0 ["book","name","frame"] t.zh
 zk:Fok K mg "is_text" xh1 ["part"] t.zk
 zm:Fok K mg "straight_above" qk8 ["names"] t.zm
 zn:Fok K mg "near_of" xh2 ["book","names"] t.zn
 zo:Fok K mg "share_a_name" qh4 ["names","others"] t.zo
 zp:Fok K mg "closing" xh3 ["book","names","name"] t.zp
 zr:Fok K mg "opening" xh4 ["book","names","name"] t.zr
 zt:Fok K mg "hosts_for" wm2 ["book","names"] t.zt
 zu:Fok K mg "wanted" xx8 ["book","names","name"] t.zu
 zv:Fok K mg "wanted_by_guest" qh5 ["book","names","name"] t.zv
 zw:Fok K mg "kept_by_shuts" qo1 ["book","names","name"] t.zw
 zx:Fok K mg "hosts_within" qt4 ["book","name"] t.zx
 zy:Fok K mg "is_barred" wm3 ["book","kept","put"] t.zy
 zz:Fok K mg "escaped" xh5 ["text"] t.zz
 ya:Fok K mg "told_by" xh6 ["run"] t.ya
 yb:Fok K mg "lone_ones" qx1 ["run"] t.yb
 yc:Fok K mg "tokens_of" wm4 ["text"] t.yc
 yd:Fok K mg "settled_tokens" qk9 ["text","settled","searched"] t.yd
 ye:Fok K mg "tags_from" wm5 ["text","searched"] t.ye
 yf:Fok K mg "name_start" wg0 ["text","start"] t.yf
 yg:Fok K mg "tag_stop" wv4 ["text","start"] t.yg
 yh:Fok K mg "tag_between" qz1 ["text","start","stop"] t.yh
 yi:Fok K mg "runs_between" qt5 ["text","start","stop"] t.yi
 yj:Fok K mg "opening_of" wg1 ["name"] t.yj
 yk:Fok K mg "closing_of" wg2 ["name"] t.yk
 yl:Fok K mg "read_text" wm6 ["book","text"] t.yl
 ym:Fok K mg "reader_of" wm7 ["book","text"] t.ym
 yn:Fok K mg "those_that_wait" qh6 ["book","closed"] t.yn
 yo:Fok K mg "without_last" qt6 ["names","name"] t.yo
 yp:Fok K mg "may_come_anew" qo2 ["book","names","name"] t.yp
 yq:Fok K mg "_law_cell_at" qt7 ["_law_script","_law_k"] t.yq
 yr:Fok K mg "_law_mixed" wg3 ["_law_cell"] t.yr
 yt:Fok K mg "_law_take" wm8 ["_law_pot","_law_most"] t.yt
 yu:Fok K mg "_law_any_names" qa5 ["_law_pot","_law_count"] t.yu
 yw:Fok K mg "_law_signs_by" qe6 ["_law_pot","_law_most"] t.yw
 yx:Fok K mg "_law_stream" qz2 ["_law_cell","_law_count"] t.yx
 yy:Fok K mg "_law_names" wg4 ["_law_cell","_law_count"] t.yy
 yz:Fok K mg "_law_sorts" qr3 ["_law_xs","_law_count"] t.yz
 xb:Fok K mg "_law_picked" qz3 ["_law_names_here","_law_x"] t.xb
 xc:Fok K mg "_law_book" qn4 ["_law_script"] t.xc
 xf:Fok K mg "_law_run_by" qz4 ["_law_x"] t.xf
 xg:Fok K mg "_law_any_pieces" qh7 ["_law_pot","_law_names_here"] t.xg
 xh:Fok K mg "_law_text_by" qt8 ["_law_cells","_law_names_here"] t.xh
 xi:Fok K mg "_law_pieces" qz5 ["_law_text","_law_cells"] t.xi
 xj:Fok K mg "_law_settled" qt9 ["_law_text"] t.xj
 xk:Fok K mg "law" xj1 ["_law_script"] t.xk
 c23:Foi K t.qA "Branch.__init__" qo3 ["self","name","place"] t.c23
 c25:Foi K t.qC "Reader.__init__" qo4 ["self","book"] t.c25
 c24:Fom K t.qC "root" "Reader.root" qo5 ["self"] t.c24
 c26:Fom K t.qC "read" "Reader.read" qo6 ["self","kind","start","signs","told"] t.c26
 c18:Fom K t.qC "finish" "Reader.finish" qh8 ["self","size"] t.c18
 c10:Fom K t.qC "read_opening" "Reader.read_opening" U5 ["self","start","signs","name"] t.c10
 c7:Fom K t.qC "read_closing" "Reader.read_closing" U6 ["self","start","signs","name"] t.c7
 c16:Fom K t.qC "read_run" "Reader.read_run" qc6 ["self","start","signs","told"] t.c16
 c13:Fom K t.qC "open_names" "Reader.open_names" Q7 ["self"] t.c13
 c12:Fom K t.qC "is_in_frame" "Reader.is_in_frame" V5 ["self"] t.c12
 c15:Fom K t.qC "last_wall" "Reader.last_wall" S9 ["self"] t.c15
 c20:Fom K t.qC "enter" "Reader.enter" ql0 ["self","name"] t.c20
 c21:Fom K t.qC "leave" "Reader.leave" ql1 ["self"] t.c21
 c22:Fom K t.qC "drop" "Reader.drop" qo7 ["self","start","signs","rule"] t.c22
 c19:Fom K t.qC "put_in" "Reader.put_in" qh9 ["self","name","start","rule"] t.c19
 c9:Fom K t.qC "close_behind" "Reader.close_behind" U7 ["self","kept","start","rule"] t.c9
 c6:Fom K t.qC "put_in_waiting" "Reader.put_in_waiting" R0 ["self","start"] t.c6
 c17:Fom K t.qC "add_text" "Reader.add_text" qc7 ["self","start","signs","told"] t.c17
 c27:Foi K t.qB "Feed.__init__" qz6 ["self","book"] t.c27
 c28:Fom K t.qB "take" "Feed.take" qz7 ["self","piece"] t.c28
 c29:Fom K t.qB "end" "Feed.end" wg5 ["self"] t.c29
 c5:Fom K t.qB "refuse_behind_end" "Feed.refuse_behind_end" Q0 ["self"] t.c5
 c14:Fom K t.qB "read_tokens" "Feed.read_tokens" Z3 ["self","tokens"] t.c14
 g_WALL_SORTS:mg "WALL_SORTS"=some (.ref t.c_WALL_SORTS)
 q_WALL_SORTS:∀H:Hp,SqT K H t.c_WALL_SORTS [.str "room",.str "frame"]
 g_LONGEST_NAME:mg "LONGEST_NAME"=some t.v_LONGEST_NAME/\D8 (.int 8) t.v_LONGEST_NAME
 g_NAME:mg "NAME"=some t.v_NAME/\D8 (.int 0) t.v_NAME
 g_SORT:mg "SORT"=some t.v_SORT/\D8 (.int 1) t.v_SORT
 g_HOST:mg "HOST"=some t.v_HOST/\D8 (.int 2) t.v_HOST
 g_SHUTS:mg "SHUTS"=some t.v_SHUTS/\D8 (.int 3) t.v_SHUTS
 g_BARS:mg "BARS"=some t.v_BARS/\D8 (.int 4) t.v_BARS
 g_ROOT_NAME:mg "ROOT_NAME"=some t.v_ROOT_NAME/\D8 (.str "") t.v_ROOT_NAME
 g_MOST_OPEN:mg "MOST_OPEN"=some t.v_MOST_OPEN/\D8 (.int 20) t.v_MOST_OPEN
 g_TOLD_FOR:mg "TOLD_FOR"=some (.ref t.c_TOLD_FOR)
 q_TOLD_FOR:∀H:Hp,SqT K H t.c_TOLD_FOR [.str "&l;",.str "&a;"]
 g_ESCAPED:mg "ESCAPED"=some (.ref t.c_ESCAPED)
 q_ESCAPED:∀H:Hp,SqT K H t.c_ESCAPED [.str "<",.str "&"]
 g_LONGEST_BEGUN:mg "LONGEST_BEGUN"=some t.v_LONGEST_BEGUN/\D8 (.int 10) t.v_LONGEST_BEGUN
 g_START:mg "START"=some t.v_START/\D8 (.int 1) t.v_START
 g_STOP:mg "STOP"=some t.v_STOP/\D8 (.int 2) t.v_STOP
 g_BLANKS:mg "BLANKS"=some t.v_BLANKS/\D8 (.str " \n") t.v_BLANKS
 z_all:mg "all"=none
 z_any:mg "any"=none
 z_enumerate:mg "enumerate"=none
 z_int:mg "int"=none
 z_isinstance:mg "isinstance"=none
 z_len:mg "len"=none
 z_list:mg "list"=none
 z_max:mg "max"=none
 z_min:mg "min"=none
 z_range:mg "range"=none
 z_reversed:mg "reversed"=none
 z_sorted:mg "sorted"=none
 z_str:mg "str"=none
 z_tuple:mg "tuple"=none
 n_Branch:mg "Branch"=some (.ref t.qA)
 n_Feed:mg "Feed"=some (.ref t.qB)
 n_Reader:mg "Reader"=some (.ref t.qC)
 cz:Cz K t.qA t.qC
 cf:Cf K t.qB
section
variable{P:Program}{w:World}{base:Heap}{t:Adr}
theorem qi0:B6 ["word"] ["word"] (A7 Q6):=by walk_at "k"
theorem yg3:B6 ["rows","name","row"] ["rows","name"] (A7 xx7):=by walk_at "k"
theorem xx9:B6 ["book","name","row"] ["book","name"] (A7 xg7):=by walk_at "k"
theorem xy0:B6 ["book","name"] ["book","name"] (A7 xg8):=by walk_at "k"
theorem xy1:B6 ["book","name","row"] ["book","name"] (A7 xg9):=by walk_at "k"
theorem xj2:B6 ["book","name","row"] ["book","name"] (A7 wv3):=by walk_at "k"
theorem xy2:B6 ["book","name","frame","above"] ["book","name","frame"] (A7 xh0):=by walk_at "k"
theorem xy3:B6 ["part"] ["part"] (A7 xh1):=by walk_at "k"
theorem qx2:B6 ["names"] ["names"] (A7 qk8):=by walk_at "k"
theorem xy4:B6 ["book","names","start","number","name"] ["book","names"] (A7 xh2):=by walk_at "k"
theorem wh8:B6 ["names","others"] ["names","others"] (A7 qh4):=by walk_at "k"
theorem xy5:B6 ["book","names","name","number"] ["book","names","name"] (A7 xh3):=by walk_at "k"
theorem xy6:B6 ["book","names","name","plan","kept","put"] ["book","names","name"] (A7 xh4):=by walk_at "k"
theorem xb1:B6 ["book","names","hosts"] ["book","names"] (A7 wm2):=by walk_at "k"
theorem wp9:B6 ["book","names","name","frame","number","plan"] ["book","names","name"] (A7 xx8):=by walk_at "k"
theorem qu0:B6 ["book","names","name","hosts"] ["book","names","name"] (A7 qh5):=by walk_at "k"
theorem wc6:B6 ["book","names","name","shuts","first_near","number"] ["book","names","name"] (A7 qo1):=by walk_at "k"
theorem wh9:B6 ["book","name","hosts","host"] ["book","name"] (A7 qt4):=by walk_at "k"
theorem xb2:B6 ["book","kept","put","number","name","near"] ["book","kept","put"] (A7 wm3):=by walk_at "k"
theorem xy7:B6 ["text"] ["text"] (A7 xh5):=by walk_at "k"
theorem xy8:B6 ["run"] ["run"] (A7 xh6):=by walk_at "k"
theorem xb3:B6 ["run"] ["run"] (A7 qx1):=by walk_at "k"
theorem xb4:B6 ["text","tokens","settled"] ["text"] (A7 wm4):=by walk_at "k"
theorem qx3:B6 ["text","settled","searched","tokens","tag"] ["text","settled","searched"] (A7 qk9):=by walk_at "k"
theorem xb5:B6 ["text","searched","tags","start","stop"] ["text","searched"] (A7 wm5):=by walk_at "k"
theorem ws4:B6 ["text","start"] ["text","start"] (A7 wg0):=by walk_at "k"
theorem xj3:B6 ["text","start","first","end"] ["text","start"] (A7 wv4):=by walk_at "k"
theorem wm9:B6 ["text","start","stop","first","kind"] ["text","start","stop"] (A7 qz1):=by walk_at "k"
theorem wi0:B6 ["text","start","stop"] ["text","start","stop"] (A7 qt5):=by walk_at "k"
theorem ws5:B6 ["name"] ["name"] (A7 wg1):=by walk_at "k"
theorem ws6:B6 ["name"] ["name"] (A7 wg2):=by walk_at "k"
theorem xb6:B6 ["book","text","reader"] ["book","text"] (A7 wm6):=by walk_at "k"
theorem xb7:B6 ["book","text","reader","kind","start","stop","told"] ["book","text"] (A7 wm7):=by walk_at "k"
theorem qu1:B6 ["book","closed","waiting","name"] ["book","closed"] (A7 qh6):=by walk_at "k"
theorem wi1:B6 ["names","name","number"] ["names","name"] (A7 qt6):=by walk_at "k"
theorem wc7:B6 ["book","names","name","row","unfit"] ["book","names","name"] (A7 qo2):=by walk_at "k"
theorem wi2:B6 ["_law_script","_law_k"] ["_law_script","_law_k"] (A7 qt7):=by walk_at "k"
theorem ws7:B6 ["_law_cell","_law_number"] ["_law_cell"] (A7 wg3):=by walk_at "k"
theorem xb8:B6 ["_law_pot","_law_most","_law_number"] ["_law_pot","_law_most"] (A7 wm8):=by walk_at "k"
theorem qx4:B6 ["_law_pot","_law_count","_law_letters","_law_listed","_law_k","_law_name"] ["_law_pot","_law_count"] (A7 qa5):=by walk_at "k"
theorem wc8:B6 ["_law_pot","_law_most","_law_some"] ["_law_pot","_law_most"] (A7 qe6):=by walk_at "k"
theorem wn0:B6 ["_law_cell","_law_count","_law_found","_law_x","_law_k"] ["_law_cell","_law_count"] (A7 qz2):=by walk_at "k"
theorem ws8:B6 ["_law_cell","_law_count","_law_letters","_law_long","_law_spot","_law_listed","_law_k","_law_name","_law_j","_law_step"] ["_law_cell","_law_count"] (A7 wg4):=by walk_at "k"
theorem ws9:B6 ["_law_xs","_law_count","_law_sorts_here","_law_frames","_law_k","_law_able"] ["_law_xs","_law_count"] (A7 qr3):=by walk_at "k"
theorem wn1:B6 ["_law_names_here","_law_x","_law_picked_here","_law_name"] ["_law_names_here","_law_x"] (A7 qz3):=by walk_at "k"
theorem xb9:B6 ["_law_script","_law_names_here","_law_count","_law_xs","_law_sorts_here","_law_frames","_law_hosts","_law_host","_law_frame","_law_able","_law_free","_law_rows","_law_k","_law_shuts","_law_turn"] ["_law_script"] (A7 qn4):=by walk_at "k"
theorem wn2:B6 ["_law_x","_law_words"] ["_law_x"] (A7 qz4):=by walk_at "k"
theorem qu2:B6 ["_law_pot","_law_names_here","_law_text","_law_k","_law_way","_law_name"] ["_law_pot","_law_names_here"] (A7 qh7):=by walk_at "k"
theorem wi3:B6 ["_law_cells","_law_names_here","_law_pieces_here","_law_begun","_law_cell","_law_x","_law_way","_law_name"] ["_law_cells","_law_names_here"] (A7 qt8):=by walk_at "k"
theorem wn3:B6 ["_law_text","_law_cells","_law_pieces_here","_law_done","_law_cell","_law_x","_law_size"] ["_law_text","_law_cells"] (A7 qz5):=by walk_at "k"
theorem wi4:B6 ["_law_text","_law_tokens"] ["_law_text"] (A7 qt9):=by walk_at "k"
theorem zw3:B6 ["_law_script","_law_book_here","_law_text","_law_mends","_law_feed","_law_beside","_law_came","_law_told","_law_other","_law_piece","_law_sign","_law_last"] ["_law_script"] (A7 xj1):=by walk_at "k"
theorem wc9:B6 ["self","name","place"] ["self","name","place"] (A7 qo3):=by walk_at "k"
theorem wd0:B6 ["self","book"] ["self","book"] (A7 qo4):=by walk_at "k"
theorem wd1:B6 ["self"] ["self"] (A7 qo5):=by walk_at "k"
theorem wd2:B6 ["self","kind","start","signs","told"] ["self","kind","start","signs","told"] (A7 qo6):=by walk_at "k"
theorem qu3:B6 ["self","size"] ["self","size"] (A7 qh8):=by walk_at "k"
theorem qd9:B6 ["self","start","signs","name","plan","put"] ["self","start","signs","name"] (A7 U5):=by walk_at "k"
theorem qe0:B6 ["self","start","signs","name","number","wall"] ["self","start","signs","name"] (A7 U6):=by walk_at "k"
theorem qn5:B6 ["self","start","signs","told","hosts","host","number","place"] ["self","start","signs","told"] (A7 qc6):=by walk_at "k"
theorem qi1:B6 ["self"] ["self"] (A7 Q7):=by walk_at "k"
theorem qf5:B6 ["self"] ["self"] (A7 V5):=by walk_at "k"
theorem qk0:B6 ["self","walls"] ["self"] (A7 S9):=by walk_at "k"
theorem qx5:B6 ["self","name","above"] ["self","name"] (A7 ql0):=by walk_at "k"
theorem qx6:B6 ["self","branch"] ["self"] (A7 ql1):=by walk_at "k"
theorem wd3:B6 ["self","start","signs","rule"] ["self","start","signs","rule"] (A7 qo7):=by walk_at "k"
theorem qu4:B6 ["self","name","start","rule"] ["self","name","start","rule"] (A7 qh9):=by walk_at "k"
theorem qe1:B6 ["self","kept","start","rule","closed","name"] ["self","kept","start","rule"] (A7 U7):=by walk_at "k"
theorem Z4:B6 ["self","start","wall","names","name"] ["self","start"] (A7 R0):=by walk_at "k"
theorem qn6:B6 ["self","start","signs","told","branch","ahead"] ["self","start","signs","told"] (A7 qc7):=by walk_at "k"
theorem wn4:B6 ["self","book"] ["self","book"] (A7 qz6):=by walk_at "k"
theorem wn5:B6 ["self","piece","searched","known"] ["self","piece"] (A7 qz7):=by walk_at "k"
theorem wt0:B6 ["self","known"] ["self"] (A7 wg5):=by walk_at "k"
theorem X8:B6 ["self"] ["self"] (A7 Q0):=by walk_at "k"
theorem qk1:B6 ["self","tokens","kind","start","stop","told"] ["self","tokens"] (A7 Z3):=by walk_at "k"
def vT(l:List (Lean.TSyntax `term))(s:String):Lean.MacroM (List (Lean.TSyntax `term)):=do
 if s=="_" then return (←`(_))::l
 if s=="?" then return (←`(?_))::l
 if s=="%" then return (←`(by with_unfolding_all rfl))::l
 if s=="&" then return (←`(fun _ _=>rfl))::l
 if s.front=='@' then
  let n:=(s.drop 1).toNat!
  return Lean.Syntax.mkApp (l.getD n default) (l.take n).reverse.toArray::l.drop (n+1)
 return Lean.mkIdent s.toName::l
def vU(s:String):Lean.MacroM (Lean.TSyntax `term):=return (←(s.splitOn " ").foldlM vT []).headD default
local macro_rules|`(tactic|walk_at "v")=>do
 let a<-("PE _ _ _ @3|PE _ _ A0 _ @1 @3;pv _ @1|PE _ _ tC _ @1 @3;B7;N7;zb8;xp7;zw5 rfl T.z_str boot_str rfl @4|PE _ _ tOp D7 _ @1 _ _ @3 @3;T3 G5 G0 hr @1 @1 ? ? & @4|PE _ _ tOp C8 _ @1 _ _ @3 @3;C9 J5 ? ? @3|PE _ _ tOp qv7 _ @1 _ _ @3 @3;C9 wx2 ? ? @3|PE _ _ tOp rI qy1 _ @2 _ _ @3 @3;C9 we1 ? ? @3|PE _ _ tOp rI0 _ @1 _ _ @3 @3;C9 zm4 ? ? @3|PE _ _ tOp _ _ _ @3 @3;C9 yu3 ? ? @3|PE _ _ tOp qv4 _ _ @3 @3;C9 qv5 ? ? @3|PE _ _ tOp rI _ _ @2 _ _ @3 @3;C9 W9 ? ? @3|PE _ _ tOp P7 _ @1 _ _ @3 @3;Z6 wk2 xj7 hr @1 @1 ? ? M5 _ @1 @4|PE _ _ tOp wa5 _ false @2 _ _ @3 @3;Z6 qy4 G0 hr @1 @1 ? ? % @4|PE _ _ tOp wa5 _ true @2 _ _ @3 @3;Z6 wa6 G0 hr @1 @1 ? ? % @4|PE _ _ tOp wq1 _ @1 _ _ @3 @3;Z6 yh9 xj7 hr @1 @1 ? ? M5 _ @1 @4|PE _ _ tOp zh6 _ _ @3 @3;Z6 zo3 ? ? M5 _ @1 @4|PE _ _ tOp xj8 _ _ @3 @3;Z6 yw5 ? ? M5 _ @1 @4|PE _ _ tOp xz8 _ _ @3 @3;Z6 yi1 ? ? M5 _ @1 @4|PE _ _ tOp qv6 _ _ @3 @3;Z6 wo7 ? ? M5 _ @1 @4|PE _ _ tOp xr1 _ _ @3 @3;Z6 yw4 ? ? M5 _ @1 @4|PE _ _ I0 _ _ _ @3 @3;N8 ? rfl @2|PE _ _ Y1 _ @1 @3;qc4 ? @1|PE _ _ T2 _ @1 @3;qk4 ? @1|PE _ _ tUn _ _ @2 @3;zm2 yu4 ? @2|PE _ _ tIf _ _ _ @3 @3;yn6 ? ? ? @3|PE _ _ zb9 _ @1 @3;Ah6 ? @1|PE _ _ tSl qu8 _ @1 _ _ _ @4 @3;V6 qn7 ? ? ? @4|PE _ _ tSl yp7 _ @1 _ _ _ @4 @3;V6 Aa4 ? ? ? @4|PE _ _ xq4 _ _ xj5 _ @4 @3;xc5 PySem.F.plainAttrs_list PySem.F.slot_list_pop PySem.F.type_list_pop xc7 ? @5|PE _ _ tBM _ _ yo8 _ @1 _ _ @5 @3;qi7 PySem.F.plainAttrs_str PySem.F.slot_str_join PySem.F.type_str_join yi3 ? ? @6|PE _ _ tBM _ _ _ _ _ @5 @3;qi7 PySem.F.plainAttrs_list PySem.F.slot_list_pop PySem.F.type_list_pop zn5 ? ? @6|PE _ _ tBM _ _ D9 _ _ @5 @3;qi7 PySem.F.plainAttrs_list PySem.F.slot_list_append PySem.F.type_list_append qk5 ? ? @6|PE _ _ tBM _ _ we4 _ _ @5 @3;qi7 PySem.F.plainAttrs_list PySem.F.slot_list_extend PySem.F.type_list_extend xc6 ? ? @6|PE _ _ tBM _ _ xr6 _ _ @5 @3;qi7 PySem.F.plainAttrs_str PySem.F.slot_str_find PySem.F.type_str_find zp8 ? ? @6|PE _ _ tBM _ _ yx1 _ _ @5 @3;qi7 PySem.F.plainAttrs_str PySem.F.slot_str_find PySem.F.type_str_find zp9 ? ? @6|PE _ _ tBM _ _ yj0 _ _ @5 @3;qi7 PySem.F.plainAttrs_str PySem.F.slot_str_startswith PySem.F.type_str_startswith zi4 ? ? @6|PE _ _ tBM _ _ yj2 _ _ @5 @3;qi7 PySem.F.plainAttrs_str PySem.F.slot_str_strip PySem.F.type_str_strip zj6 ? ? @6|PE _ _ tCB zh9 _ @1 _ @2 @3;N1 xd0 rfl T.z_isinstance boot_isinstance ? @5|PE _ _ tCB J6 _ @1 _ @2 @3;N1 R1 rfl T.z_len boot_len ? @5|PE _ _ tCB xr2 _ @1 _ @2 @3;N1 yi2 rfl T.z_sorted boot_sorted ? @5|PE _ _ tCB ql3 _ @1 _ @2 @3;qr4 wk3 rfl T.z_tuple boot_tuple ? @5|PE _ _ tCB zo5 _ @2 @3;qr4 ye0 rfl T.z_int boot_int ? @5|PE _ _ _ @3;yt9 ? ? @2;pe_or ? ? @2;yt8 ? @1~PT _ _ _ @3|PT _ _ C1 tOp P7 _ @1 _ _ @3 @1 @3;E5 wk2 xj7 hr @1 @1 ? ? M5 _ @1 @4|PT _ _ C1 tOp wa5 _ false @2 _ _ @3 @1 @3;E5 qy4 G0 hr @1 @1 ? ? % @4|PT _ _ C1 tOp wa5 _ true @2 _ _ @3 @1 @3;E5 wa6 G0 hr @1 @1 ? ? % @4|PT _ _ C1 tOp wq1 _ @1 _ _ @3 @1 @3;E5 yh9 xj7 hr @1 @1 ? ? M5 _ @1 @4|PT _ _ C1 tOp zh6 _ _ @3 @1 @3;E5 zo3 ? ? M5 _ @1 @4|PT _ _ C1 tOp xj8 _ _ @3 @1 @3;E5 yw5 ? ? M5 _ @1 @4|PT _ _ C1 tOp xz8 _ _ @3 @1 @3;E5 yi1 ? ? M5 _ @1 @4|PT _ _ C1 tOp qv6 _ _ @3 @1 @3;E5 wo7 ? ? M5 _ @1 @4|PT _ _ C1 tOp xr1 _ _ @3 @1 @3;E5 yw4 ? ? M5 _ @1 @4|PT _ _ tB _ @1 @3;yt7 ? @1|PT _ _ zl5 _ @1 @3;Ah5 ? @1|PT _ _ xc1 _ _ @2 @3;PW.pt ? @1|PT _ _ tOr _ _ @2 @3;PW.pt ? @1~PS _ _ _ @3|PS _ _ M4 _ _ _ @3 @3;wa0 ? ? ? @3|PS _ _ E1 _ @1 @3;N2 ? @1|PS _ _ yn7 @3;zw6|PS _ _ D2 _ @1 @3;X2 ? @1|PS _ _ B8 _ _ @2 @3;qe7 S.nd rfl Or.inl rfl @1 ? rfl ? @6;qe7 S.nd rfl Or.inr rfl @1 ? rfl ? @6;xc2 ? ? @2|PS _ _ qc8 _ _ _ @3 @3;qy0 PassesOwn.never rfl ? ? ? @5|PS _ _ wd9 _ _ @2 @3;zm1 PassesOwn.never ? ? @3|PS _ _ _ @3;yu9 ? ? rfl @3;zl7~PSs _ _ _ @3|PSs _ _ B1 _ _ @2 @3;A9 ? ? @2|PSs _ _ J8 @3;qf8|PSs _ _ _ @3;C4 ? @1;A9 ? ? @2~PA _ _ _ @3|PA _ _ A1 _ _ @2 @3;A4 ? ? @2|PA _ _ A5 @3;B4|PA _ _ _ @3;zp7;qi8 ? @1~PW _ _ _ @3|PW _ _ xc1 _ _ @2 @3;yg6 ? ? @2|PW _ _ tOr _ _ @2 @3;Ae5 ? ? @2|PW _ _ _ @3;xo2 ? @1;zl6 ? @1~PG _ _ _ @3|PG _ _ A6 _ @1 @3;G2 S.nd rfl Or.inl rfl @1 @3;G2 S.nd rfl Or.inr rfl @1 @3|PG _ _ xz4 _ _ _ @3 @3;yg8 rfl ? @2|PG _ _ yg9 _ _ _ @3 @3;xp8 ? ? wk5 G0 hr @1 @1 @3~PGs _ _ _ @3|PGs _ _ _ @3;qr7 ? ? @2;xo3~PI _ _ _ _ @4|PI _ _ _ _ @4;wk4 ? @1;yi9 ? @1;yp5 rfl T.z_enumerate ? @3;zq7 rfl T.z_enumerate ? @3;Z5 rfl T.z_range ? @3;yd0 rfl T.z_range ? @3;zj2 rfl T.z_range ? @3;Aa9 rfl T.z_reversed ? @3;xi6 rfl T.z_reversed ? @3~PO _ _ _ @3|PO _ _ _ @3;V0 ? @1;we2".splitOn "~").toArray.mapM fun s=>do
  let l:=s.splitOn "|"
  let c<-l.tail.toArray.mapM fun r=>do
   let p<-vU ((r.splitOn ";").headD "")
   let b<-(r.splitOn ";").tail.toArray.mapM fun x=>do `(Lean.Parser.Tactic.tacticSeq|refine $(←vU x))
   `(Lean.Parser.Tactic.tacticSeq|((with_reducible show $p);first $[|$b]*))
  `(Lean.Parser.Tactic.tacticSeq|((with_reducible show $(←vU (l.headD "")));first $[|$c]*))
 `(tactic|first $[|$a]*|((with_reducible show _\/_);walk_at "or")|fail)
theorem wg6(T:Txt K mg t):D5 P w K mg base CX0 1 t.za.a t.za.d ["word"] (P4 K):=by
 refine T.za.F.ok qi0 #[5] (λcdv A outer s H vs Q E hr h=>⟨Q4 K,?_,wf4 h⟩);have S:=qi0;refine C4 ?_;refine N2 ?_;exact(yt9 (yo0 yi0 yi0 B7 #[24,pv 0] (G1 rfl T.g_LONGEST_NAME.1 T.g_LONGEST_NAME.2)) (yt8 (N1 (zi7 rfl) rfl T.z_all boot_all (A4 (qv3 rfl (O6 (osc:=A7 Q6) (ON:=["word"]) (N:=["sign"]) (fr:=[none]) #[11] rfl rfl) (yi9 (pv 0)) (λ_ _ _ _ _ _=>(G2 (i:=0) (show List.Nodup (["sign"]:List Str) by decide +kernel) rfl (Or.inl rfl))) qf9 (λ_ _ _ _ _ _=>wo4) (λ_ _ _ _ _ _=>(yo0 yi0 yi0 N7 (pv 0) N7))) B4))))
theorem wd4(T:Txt K mg t):D5 P w K mg base CX0 1 t.zb.a t.zb.d ["rows","name"] (qf3 K):=by
 refine T.zb.F.ok yg3 (yx9 K) (λcdv A outer s H vs Q E hr h=>⟨wl1 K,?_,zj7 h⟩);have S:=yg3;unfold wl1
 repeat' (first|(walk_at "v")|exact G1 rfl T.g_NAME.1 T.g_NAME.2)
theorem wn6(T:Txt K mg t):D5 P w K mg base CX0 1 t.zf.a t.zf.d ["book","name"] (qf4 K):=by
 refine T.zf.F.ok xj2 #[5] (λcdv A outer s H vs Q E hr h=>⟨we6 K,?_,yq3 h⟩);have S:=xj2;unfold we6
 repeat' (first|(walk_at "v")|exact G1 rfl T.g_HOST.1 T.g_HOST.2|exact G1 rfl T.g_NAME.1 T.g_NAME.2|exact G1 rfl T.g_SORT.1 T.g_SORT.2)
theorem zb2(T:Txt K mg t):D5 P w K mg base CX0 1 t.zk.a t.zk.d ["part"] (we9 K):=by
 refine T.zk.F.ok xy3 #[5] (λcdv A outer s H vs Q E hr h=>⟨wa9 K,?_,yy4 h⟩);have S:=xy3;unfold wa9
 repeat' walk_at "v"
theorem qi2(T:Txt K mg t):D5 P w K mg base CX0 1 t.zm.a t.zm.d ["names"] (O2 K):=by
 refine T.zm.F.ok qx2 #[5] (λcdv A outer s H vs Q E hr h=>⟨U0 K,?_,wy6 h⟩);have S:=qx2;unfold U0
 repeat' (first|(walk_at "v")|exact G1 rfl T.g_ROOT_NAME.1 T.g_ROOT_NAME.2)
theorem wi5(T:Txt K mg t):D5 P w K mg base CX0 1 t.zo.a t.zo.d ["names","others"] (W1 K):=by
 refine T.zo.F.ok wh8 #[5] (λcdv A outer s H vs Q E hr h=>⟨qg0 K,?_,xk8 h⟩);have S:=wh8;refine C4 ?_;refine N2 ?_;exact(N1 (zi8 rfl) rfl T.z_any boot_any (A4 (qv3 rfl (O6 (osc:=A7 qh4) (ON:=["names","others"]) (N:=["others","name"]) (fr:=[some 1,none]) #[11] rfl rfl) (wk4 (pv 0)) (λ_ _ _ _ _ _=>(G2 (i:=1) (show List.Nodup (["others","name"]:List Str) by decide +kernel) rfl (Or.inl rfl))) qf9 (λ_ _ _ _ _ _=>wo4) (λ_ _ _ _ _ _=>(Z6 (qy4 (G0 hr)) (pv 1) (pv 0) #[19]))) B4))
theorem zb3(T:Txt K mg t):D5 P w K mg base CX0 1 t.zz.a t.zz.d ["text"] (wf5 K):=by
 refine T.zz.F.ok xy7 #[5] (λcdv A outer s H vs Q E hr h=>⟨wp6 K,?_,za0 h⟩);have S:=xy7;refine C4 ?_;exact(N2 (xo6 (xo6 (pv 0))))
theorem zb4(T:Txt K mg t):D5 P w K mg base CX0 1 t.ya.a t.ya.d ["run"] (wf3 K):=by
 refine T.ya.F.ok xy8 #[5] (λcdv A outer s H vs Q E hr h=>⟨wp5 K,?_,yz8 h⟩);have S:=xy8;refine C4 ?_;exact(N2 (xo6 (xo6 (pv 0))))
theorem ym4(T:Txt K mg t):D5 P w K mg base CX0 1 t.yb.a t.yb.d ["run"] (qq1 K):=by
 refine T.yb.F.ok xb3 #[5] (λcdv A outer s H vs Q E hr h=>⟨qw0 K t.c_TOLD_FOR t.c_ESCAPED,?_,yj8 T.q_TOLD_FOR T.q_ESCAPED h⟩);have S:=xb3;refine C4 ?_;refine N2 ?_;exact(qv3 rfl (O6 (osc:=A7 qx1) (ON:=["run"]) (N:=["run","number","sign"]) (fr:=[some 0,none,none]) #[11] rfl rfl) (yp5 rfl T.z_enumerate (A4 (pv 0) B4)) (λ_ _ _ _ _ _=>(yg8 rfl (qr7 (G2 (i:=1) (show List.Nodup (["run","number","sign"]:List Str) by decide +kernel) rfl (Or.inl rfl)) (qr7 (G2 (i:=2) (show List.Nodup (["run","number","sign"]:List Str) by decide +kernel) rfl (Or.inl rfl)) xo3)))) (Aj3 (zc7 rfl (zc7 rfl Aj2))) (λ_ _ _ _ _ _=>(wo5 (PW.pt (yg6 (E5 (qy4 (G0 hr)) (pv 2) (G1 rfl T.g_ESCAPED rfl) #[19]) (xo2 (E5 (wa6 (G0 hr)) (V6 qn7 (pv 0) (V0 (pv 1)) (V0 (C9 J5 (pv 1) B7))) (G1 rfl T.g_TOLD_FOR rfl) #[19])))))) (λ_ _ _ _ _ _=>(pv 1)))
theorem wt1(T:Txt K mg t):D5 P w K mg base CX0 1 t.yf.a t.yf.d ["text","start"] (qd1 K):=by
 refine T.yf.F.ok ws4 #[5] (λcdv A outer s H vs Q E hr h=>⟨qg2 K,?_,ya4 h⟩);have S:=ws4;unfold qg2
 repeat' walk_at "v"
theorem yc3(T:Txt K mg t):D5 P w K mg base CX0 1 t.yj.a t.yj.d ["name"] (ql4 K):=by
 refine T.yj.F.ok ws5 #[5] (λcdv A outer s H vs Q E hr h=>⟨qq3 K,?_,ya7 h⟩);have S:=ws5;refine C4 ?_;exact(N2 (Af6 (pv 0)))
theorem yc4(T:Txt K mg t):D5 P w K mg base CX0 1 t.yk.a t.yk.d ["name"] (ql5 K):=by
 refine T.yk.F.ok ws6 #[5] (λcdv A outer s H vs Q E hr h=>⟨qq4 K,?_,ya8 h⟩);have S:=ws6;refine C4 ?_;exact(N2 (Af6 (pv 0)))
theorem xn9(T:Txt K mg t):D5 P w K mg base CX0 1 t.yo.a t.yo.d ["names","name"] (qe2 K):=by
 refine T.yo.F.ok wi1 #[5] (λcdv A outer s H vs Q E hr h=>⟨Y6 K,?_,xl1 h⟩);have S:=wi1;unfold Y6
 repeat' walk_at "v"
theorem qo8(T:Txt K mg t):D5 P w K mg base CX0 1 t.yq.a t.yq.d ["_law_script","_law_k"] (R3 K):=by
 refine T.yq.F.ok wi2 #[5] (λcdv A outer s H vs Q E hr h=>⟨Y3 K,?_,xk6 h⟩);have S:=wi2;unfold Y3
 repeat' walk_at "v"
theorem yc5(T:Txt K mg t):D5 P w K mg base CX0 1 t.yr.a t.yr.d ["_law_cell"] (qg9 K):=by
 refine T.yr.F.ok ws7 #[5] (λcdv A outer s H vs Q E hr h=>⟨qd4 K,?_,xu8 h⟩);have S:=ws7;unfold qd4
 repeat' walk_at "v"
theorem qi3(T:Txt K mg t):D5 P w K mg base CX0 1 t.yt.a t.yt.d ["_law_pot","_law_most"] (M2 K):=by
 refine T.yt.F.ok xb8 #[5] (λcdv A outer s H vs Q E hr h=>⟨qn3 K,?_,yl4 h⟩);have S:=xb8;unfold qn3
 repeat' walk_at "v"
theorem xy9(T:Txt K mg t):D5 P w K mg base CX0 1 t.yx.a t.yx.d ["_law_cell","_law_count"] (qg8 K):=by
 refine T.yx.F.ok wn0 #[5] (λcdv A outer s H vs Q E hr h=>⟨ql6 K,?_,xu6 h⟩);have S:=wn0;walk_at"26"
 ·refine zst (i:=2) S ?_;exact(qk4 B4)
 walk_at"26"
 ·refine zst (i:=3) S ?_;exact(C9 we1 (pv 0) B7)
 walk_at"26"
 ·refine wa0 ?_ ?_ ?_
  ·exact(E5 (wk2 (xj7 hr)) (C9 W9 (pv 0) B7) B7 (M5 _))
  ·refine C4 ?_;refine zst (i:=3) S ?_;exact(C9 J5 (C9 W9 (pv 3) B7) B7)
  ·exact qf8
 walk_at"26"
 ·refine qy0 PassesOwn.never rfl ?_ ?_ ?_
  ·exact(Z5 rfl T.z_range (A4 (pv 1) B4))
  ·exact(G2 (i:=4) S.nd rfl (Or.inl rfl))
  ·refine C4 ?_;refine wa0 ?_ ?_ ?_
   ·exact(E5 (wk2 (xj7 hr)) (C9 W9 (pv 0) B7) B7 (M5 _))
   ·refine A9 ?_ ?_
    ·exact(X2 (qi7 PySem.F.plainAttrs_list PySem.F.slot_list_append PySem.F.type_list_append qk5 (pv 2) (A4 (C9 W9 (pv 3) (C9 yu3 B7 B7)) B4)))
    refine C4 ?_;refine zst (i:=3) S ?_;exact(C9 we1 (pv 3) (C9 yu3 B7 B7))
   ·refine A9 ?_ ?_
    ·refine zst (i:=3) S ?_;exact(C9 W9 (C9 J5 (C9 J5 (C9 J5 (C9 qv5 (pv 3) (pv 3)) (C9 qv5 B7 (pv 3))) (C9 qv5 B7 (pv 4))) B7) B7)
    refine C4 ?_;exact(X2 (qi7 PySem.F.plainAttrs_list PySem.F.slot_list_append PySem.F.type_list_append qk5 (pv 2) (A4 (C9 we1 (C9 W9 (C9 J5 (C9 J5 (C9 qv5 (pv 3) (pv 3)) (C9 qv5 B7 (pv 3))) (pv 4)) B7) B7) B4)))
 refine C4 ?_;exact(N2 (Aa1 (pv 2) (zm2 yu4 B7)))
theorem yc6(T:Txt K mg t):D5 P w K mg base CX0 1 t.yz.a t.yz.d ["_law_xs","_law_count"] (ql7 K):=by
 refine T.yz.F.ok ws9 #[5] (λcdv A outer s H vs Q E hr h=>⟨qq8 K,?_,yb4 h⟩);have S:=ws9;walk_at"26"
 ·refine qe7 (i:=2) S.nd rfl (Or.inr rfl) ?_ rfl ?_
  ·exact(qk4 B4)
  ·walk_at "or"
 walk_at"26"
 ·refine qe7 (i:=3) S.nd rfl (Or.inr rfl) ?_ rfl ?_
  ·exact xq7
  ·walk_at "or"
 walk_at"26"
 ·refine qy0 PassesOwn.never rfl ?_ ?_ ?_
  ·exact(Z5 rfl T.z_range (A4 (pv 1) B4))
  ·exact(G2 (i:=4) S.nd rfl (Or.inl rfl))
  ·refine C4 ?_;exact(X2 (qi7 PySem.F.plainAttrs_list PySem.F.slot_list_append PySem.F.type_list_append qk5 (pv 2) (A4 (T3 (G5 (G0 hr)) (qk4 (by repeat (first|with_reducible refine qi8 ?_|with_reducible exact zp7))) (C9 W9 (xc5 PySem.F.plainAttrs_list PySem.F.slot_list_pop PySem.F.type_list_pop xc7 (pv 0)) B7) (λ_ _=>rfl)) B4)))
 walk_at"26"
 ·refine qy0 PassesOwn.never rfl ?_ ?_ ?_
  ·exact(xi6 rfl T.z_reversed rfl T.z_range (A4 (pv 1) B4))
  ·exact(G2 (i:=4) S.nd rfl (Or.inl rfl))
  ·refine C4 ?_;refine wa0 ?_ ?_ ?_
   ·exact(E5 (wk2 (xj7 hr)) (T3 (G5 (G0 hr)) (pv 2) (pv 4) (λ_ _=>rfl)) N7 (M5 _))
   ·refine A9 ?_ ?_
    ·exact(xo5 (i:=5) S.nd rfl rfl rfl (O6 (osc:=A7 qr3) (ON:=["_law_xs","_law_count","_law_sorts_here","_law_frames","_law_k","_law_able"]) (N:=["_law_frames","_law_sorts_here","_law_j"]) (fr:=[some 3,some 2,none]) #[11] rfl rfl) (yd0 rfl T.z_range (A4 (C9 J5 (pv 4) B7) (A4 (pv 1) B4))) (λ_ _ _ _ _ _=>(G2 (i:=2) (show List.Nodup (["_law_frames","_law_sorts_here","_law_j"]:List Str) by decide +kernel) rfl (Or.inl rfl))) qf9 (λ_ _ _ _ _ _=>(wo5 (PW.pt (yg6 (E5 (qy4 (G0 hr)) (T3 (G5 (G0 hr)) (pv 1) (pv 2) (λ_ _=>rfl)) (qc4 (A4 N7 (A4 N7 B4))) #[19]) (xo2 (E5 (wa6 (G0 hr)) (pv 2) (pv 0) #[19])))))) (λ_ _ _ _ _ _=>(pv 2)))
    refine C4 ?_;refine wa0 ?_ ?_ ?_
    ·exact(E5 (wk2 (xj7 hr)) (pv 5) (qk4 B4) (M5 _))
    ·refine C4 ?_;exact(xc2 N7 (xp8 (pv 2) (pv 4) (wk5 (G0 hr))))
    ·refine C4 ?_;exact(xc2 (pv 4) (xp8 (pv 3) (T3 (G5 (G0 hr)) (pv 5) (C9 W9 (xc5 PySem.F.plainAttrs_list PySem.F.slot_list_pop PySem.F.type_list_pop xc7 (pv 0)) #[24,pv 5]) (λ_ _=>rfl)) (wk5 (G0 hr))))
   ·exact qf8
 refine C4 ?_;exact(N2 (qc4 (A4 (pv 2) (A4 (pv 3) B4))))
theorem wn7(T:Txt K mg t):D5 P w K mg base CX0 1 t.xb.a t.xb.d ["_law_names_here","_law_x"] (Y7 K):=by
 refine T.xb.F.ok wn1 #[5] (λcdv A outer s H vs Q E hr h=>⟨qd6 K,?_,xw8 h⟩);have S:=wn1;unfold qd6
 repeat' walk_at "v"
theorem xz0(T:Txt K mg t):D5 P w K mg base CX0 1 t.xf.a t.xf.d ["_law_x"] (qh1 K):=by
 refine T.xf.F.ok wn2 #[5] (λcdv A outer s H vs Q E hr h=>⟨ql8 K,?_,xx2 h⟩);have S:=wn2;walk_at"26"
 ·refine qe7 (i:=1) ?_ ?_ ?_ ?_ ?_ ?_
  ·exact S.nd
  ·rfl
  ·exact(Or.inl rfl)
  ·refine qk4 ?_
   with_reducible refine qi8 ?_
   with_reducible refine qi8 ?_
   with_reducible refine qi8 ?_
   with_reducible refine qi8 ?_
   with_reducible refine qi8 ?_
   with_reducible refine qi8 ?_
   with_reducible refine qi8 ?_
   with_reducible refine qi8 ?_
   with_reducible refine qi8 ?_
   with_reducible refine qi8 ?_
   with_reducible refine qi8 ?_
   with_reducible refine qi8 ?_
   with_reducible refine qi8 ?_
   with_reducible refine qi8 ?_
   with_reducible refine qi8 ?_
   with_reducible refine qi8 ?_
   exact zp7
  ·exact rfl
  ·walk_at "or"
 refine C4 ?_;refine N2 ?_;refine C9 J5 ?_ ?_
 ·exact(T3 (G5 (G0 hr)) (pv 1) (C9 W9 (pv 0) B7) (λ_ _=>rfl))
 ·exact(T3 (G5 (G0 hr)) (qk4 (A4 N7 (A4 N7 (A4 N7 (A4 N7 B4))))) (C9 W9 (C9 we1 (pv 0) B7) B7) (λ_ _=>rfl))
theorem xz1(T:Txt K mg t):D5 P w K mg base CX0 1 t.xi.a t.xi.d ["_law_text","_law_cells"] (qh3 K):=by
 refine T.xi.F.ok wn3 #[5] (λcdv A outer s H vs Q E hr h=>⟨qm2 K,?_,xx6 h⟩);have S:=wn3;walk_at"26"
 ·refine zst (i:=2) S ?_;exact(qk4 B4)
 walk_at"26"
 ·refine zst (i:=3) S ?_;exact B7
 walk_at"26"
 ·refine qy0 PassesOwn.never rfl ?_ ?_ ?_
  ·exact(wk4 (pv 1))
  ·exact(G2 (i:=4) S.nd rfl (Or.inl rfl))
  ·refine A9 ?_ ?_
   ·refine zst (i:=5) S ?_;exact(C9 W9 (C9 qv5 (C9 W9 (pv 4) B7) B7) B7)
   walk_at"26"
   ·refine qe7 (i:=6) S.nd rfl (Or.inl rfl) ?_ rfl ?_
    ·refine T3 ?_ ?_ ?_ ?_
     ·exact G5 (G0 hr)
     ·refine qk4 ?_;refine A4 ?_ ?_
      ·exact B7
      refine A4 ?_ ?_
      ·exact B7
      refine A4 ?_ ?_
      ·exact B7
      refine A4 ?_ ?_
      ·exact B7
      refine A4 ?_ ?_
      ·exact(C9 J5 B7 (C9 W9 (C9 we1 (pv 5) B7) B7))
      refine A4 ?_ ?_
      ·exact(C9 W9 (C9 we1 (pv 5) B7) B7)
      exact B4
     ·exact(C9 W9 (pv 5) B7)
     ·exact λ_ _=>rfl
    ·walk_at "or"
   walk_at"26"
   ·exact(X2 (qi7 PySem.F.plainAttrs_list PySem.F.slot_list_append PySem.F.type_list_append qk5 (pv 2) (A4 (V6 qn7 (pv 0) (V0 (pv 3)) (V0 (C9 J5 (pv 3) (pv 6)))) B4)))
   refine C4 ?_;refine zst (i:=3) S ?_;exact(N1 (zj0 rfl) rfl T.z_min boot_min (A4 #[24,pv 0] (A4 (C9 J5 (pv 3) (pv 6)) B4)))
 walk_at"26"
 ·exact(X2 (qi7 PySem.F.plainAttrs_list PySem.F.slot_list_append PySem.F.type_list_append qk5 (pv 2) (A4 (V6 qn7 (pv 0) (V0 (pv 3)) we2) B4)))
 refine C4 ?_;exact(N2 (pv 2))
theorem wd5(T:Txt K mg t):D5 P w K mg base CX0 1 t.c23.a t.c23.d ["self","name","place"] (T6 K):=by
 refine T.c23.F.ok wc9 #[5] (λcdv A outer s H vs Q E hr h=>⟨V7 K,?_,xd1 T.cz h⟩);have S:=wc9;unfold V7
 repeat' walk_at "v"
theorem xh7(T:Txt K mg t):D5 P w K mg base CX0 1 t.c24.a t.c24.d ["self"] (qa0 K):=by
 refine T.c24.F.ok wd1 #[5] (λcdv A outer s H vs Q E hr h=>⟨W4 K,?_,xe7 T.cz h⟩);have S:=wd1;unfold W4
 repeat' (first|(walk_at "v")|exact G1 rfl T.g_ROOT_NAME.1 T.g_ROOT_NAME.2)
theorem G8(T:Txt K mg t):D5 P w K mg base CX0 1 t.c13.a t.c13.d ["self"] (D1 K):=by
 refine T.c13.F.ok qi1 #[5] (λcdv A outer s H vs Q E hr h=>⟨Q5 K,?_,wf6 T.cz h⟩);have S:=qi1;refine C4 ?_;exact(N2 (qr4 wk3 rfl T.z_tuple boot_tuple (A4 (qv3 rfl (O6 (osc:=A7 Q7) (ON:=["self"]) (N:=["branch"]) (fr:=[none]) #[11] rfl rfl) (wk4 (V6 qn7 (N8 (pv 0) rfl) (V0 B7) we2)) (λ_ _ _ _ _ _=>(G2 (i:=0) (show List.Nodup (["branch"]:List Str) by decide +kernel) rfl (Or.inl rfl))) qf9 (λ_ _ _ _ _ _=>wo4) (λ_ _ _ _ _ _=>(N8 (pv 0) rfl))) B4)))
theorem qi4(T:Txt K mg t):D5 P w K mg base CX0 1 t.c21.a t.c21.d ["self"] (O3 K):=by
 refine T.c21.F.ok qx6 #[5] (λcdv A outer s H vs Q E hr h=>⟨U3 K,?_,wz2 T.cz h⟩);have S:=qx6;unfold U3
 repeat' walk_at "v"
theorem ql2(T:Txt K mg t):D5 P w K mg base CX0 1 t.c22.a t.c22.d ["self","start","signs","rule"] (G7 K):=by
 refine T.c22.F.ok wd3 #[5] (λcdv A outer s H vs Q E hr h=>⟨V9 K,?_,xd2 T.cz h⟩);have S:=wd3;unfold V9
 repeat' walk_at "v"
theorem X9(T:Txt K mg t):D5 P w K mg base CX0 1 t.c5.a t.c5.d ["self"] (E8 K):=by
 refine T.c5.F.ok X8 #[5] (λcdv A outer s H vs Q E hr h=>⟨M3 K,?_,qr0 T.cz T.cf h⟩);have S:=X8;refine C4 ?_;refine wa0 ?_ ?_ ?_
 ·exact(yt7 (N8 (pv 0) rfl))
 ·refine C4 ?_;exact zl9
 ·exact qf8
theorem wg7(T:Txt K mg t):D5 P w K mg base CX0 2 t.zc.a t.zc.d ["book","name"] (Y2 K):=by
 refine T.zc.F.ok xx9 #[5] (λcdv A outer s H vs Q E hr h=>⟨wp1 K,?_,yy0 h⟩);have S:=xx9;unfold wp1
 repeat' (first|(walk_at "v")|refine zcl (wd4 T) hr T.zb B5 ?_|exact G1 rfl T.g_SORT.1 T.g_SORT.2)
theorem zb5(T:Txt K mg t):D5 P w K mg base CX0 2 t.ze.a t.ze.d ["book","name"] (qs4 K):=by
 refine T.ze.F.ok xy1 #[5] (λcdv A outer s H vs Q E hr h=>⟨wp2 K,?_,yy1 h⟩);have S:=xy1;unfold wp2
 repeat' (first|(walk_at "v")|refine zcl (wd4 T) hr T.zb B5 ?_|exact G1 rfl T.g_HOST.1 T.g_HOST.2|exact G1 rfl T.g_SORT.1 T.g_SORT.2)
theorem zb6(T:Txt K mg t):D5 P w K mg base CX0 2 t.zh.a t.zh.d ["book","name","frame"] (we7 K):=by
 refine T.zh.F.ok xy2 #[5] (λcdv A outer s H vs Q E hr h=>⟨wp3 K,?_,yy2 h⟩);have S:=xy2;unfold wp3
 repeat' (first|(walk_at "v")|refine zcl (wn6 T) hr T.zf B5 ?_)
theorem yt6(T:Txt K mg t):D5 P w K mg base CX0 2 t.yg.a t.yg.d ["text","start"] (qw1 K):=by
 refine T.yg.F.ok xj3 #[5] (λcdv A outer s H vs Q E hr h=>⟨qs8 K,?_,ys1 h⟩);have S:=xj3;unfold qs8
 repeat' (first|(walk_at "v")|refine zcl (wg6 T) hr T.za B5 ?_|refine zcl (wt1 T) hr T.yf B5 ?_|exact G1 rfl T.g_LONGEST_NAME.1 T.g_LONGEST_NAME.2)
theorem xz2(T:Txt K mg t):D5 P w K mg base CX0 2 t.yh.a t.yh.d ["text","start","stop"] (qg3 K):=by
 refine T.yh.F.ok wm9 #[5] (λcdv A outer s H vs Q E hr h=>⟨qd2 K,?_,xt5 h⟩);have S:=wm9;unfold qd2
 repeat' (first|(walk_at "v")|refine zcl (wt1 T) hr T.yf B5 ?_)
theorem qo9(T:Txt K mg t):D5 P w K mg base CX0 2 t.yi.a t.yi.d ["text","start","stop"] (O7 K):=by
 refine T.yi.F.ok wi0 #[5] (λcdv A outer s H vs Q E hr h=>⟨Y5 K,?_,xl0 h⟩);have S:=wi0;unfold Y5
 repeat' (first|(walk_at "v")|refine zcl (zb4 T) hr T.ya B5 ?_)
theorem qx7(T:Txt K mg t):D5 P w K mg base CX0 2 t.yu.a t.yu.d ["_law_pot","_law_count"] (S7 K):=by
 refine T.yu.F.ok qx4 #[5] (λcdv A outer s H vs Q E hr h=>⟨qa3 K,?_,xa5 h⟩);have S:=qx4;walk_at"26"
 ·refine qe7 (i:=2) S.nd rfl (Or.inr rfl) ?_ rfl ?_
  ·exact N7
  ·walk_at "or"
 walk_at"26"
 ·refine zst (i:=3) S ?_;exact xq7
 walk_at"26"
 ·refine qy0 PassesOwn.never rfl ?_ ?_ ?_
  ·exact(Z5 rfl T.z_range (A4 (pv 1) B4))
  ·exact(G2 (i:=4) S.nd rfl (Or.inl rfl))
  ·refine A9 ?_ ?_
   ·refine zst (i:=5) S ?_;exact(qi7 PySem.F.plainAttrs_str PySem.F.slot_str_join PySem.F.type_str_join yi3 N7 (A4 (qv3 rfl (O6 (osc:=A7 qa5) (ON:=["_law_pot","_law_count","_law_letters","_law_listed","_law_k","_law_name"]) (N:=["_law_letters","_law_pot","_law_j"]) (fr:=[some 2,some 0,none]) #[11] rfl rfl) (Z5 rfl T.z_range (A4 (C9 J5 B7 (zcl (qi3 T) hr T.yt B5 (A4 (pv 0) (A4 B7 B4)))) B4)) (λ_ _ _ _ _ _=>(G2 (i:=2) (show List.Nodup (["_law_letters","_law_pot","_law_j"]:List Str) by decide +kernel) rfl (Or.inl rfl))) qf9 (λ_ _ _ _ _ _=>wo4) (λ_ _ _ _ _ _=>(T3 (G5 (G0 hr)) (pv 0) (zcl (qi3 T) hr T.yt B5 (A4 (pv 1) (A4 B7 B4))) (λ_ _=>rfl)))) B4))
   refine C4 ?_;exact(xc2 zb8 (xp8 (pv 3) (T3 (G5 (G0 hr)) (qk4 (A4 (pv 5) (A4 (C9 J5 (pv 5) N7) B4))) (qr4 ye0 rfl T.z_int boot_int (A4 (Z6 (qy4 (G0 hr)) (pv 5) (qc4 (A4 N7 (A4 N7 B4))) #[19]) B4)) (λ_ _=>rfl)) (wk5 (G0 hr))))
 refine C4 ?_;exact(N2 (qr4 (xs4 rfl) rfl T.z_list boot_list (A4 (pv 3) B4)))
theorem xh8(T:Txt K mg t):D5 P w K mg base CX0 2 t.yw.a t.yw.d ["_law_pot","_law_most"] (qa2 K):=by
 refine T.yw.F.ok wc8 #[5] (λcdv A outer s H vs Q E hr h=>⟨qe3 K,?_,xf4 h⟩);have S:=wc8;walk_at"26"
 ·refine qe7 (i:=2) S.nd rfl (Or.inr rfl) ?_ rfl ?_
  ·exact N7
  ·walk_at "or"
 walk_at"26"
 ·refine qe7 (i:=2) S.nd rfl (Or.inr rfl) ?_ rfl ?_
  ·exact(C9 J5 (pv 2) N7)
  ·walk_at "or"
 refine C4 ?_;refine N2 ?_;exact(qi7 PySem.F.plainAttrs_str PySem.F.slot_str_join PySem.F.type_str_join yi3 N7 (A4 (qv3 rfl (O6 (osc:=A7 qe6) (ON:=["_law_pot","_law_most","_law_some"]) (N:=["_law_some","_law_pot","_law_k"]) (fr:=[some 2,some 0,none]) #[11] rfl rfl) (Z5 rfl T.z_range (A4 (zcl (qi3 T) hr T.yt B5 (A4 (pv 0) (A4 (C9 J5 (pv 1) B7) B4))) B4)) (λ_ _ _ _ _ _=>(G2 (i:=2) (show List.Nodup (["_law_some","_law_pot","_law_k"]:List Str) by decide +kernel) rfl (Or.inl rfl))) qf9 (λ_ _ _ _ _ _=>wo4) (λ_ _ _ _ _ _=>(T3 (G5 (G0 hr)) (pv 0) (zcl (qi3 T) hr T.yt B5 (A4 (pv 1) (A4 #[24,pv 0] B4))) (λ_ _=>rfl)))) B4))
theorem wn8(T:Txt K mg t):D5 P w K mg base CX0 2 t.c17.a t.c17.d ["self","start","signs","told"] (S5 K):=by
 refine T.c17.F.ok qn6 #[5] (λcdv A outer s H vs Q E hr h=>⟨P1 K,?_,wl8 T.cz h⟩);have S:=qn6;unfold P1
 repeat' (first|(walk_at "v")|refine zcl (zb2 T) hr T.zk B5 ?_)
theorem wg8(T:Txt K mg t):D5 P w K mg base CX0 3 t.zd.a t.zd.d ["book","name"] (qf0 K):=by
 refine T.zd.F.ok xy0 #[5] (λcdv A outer s H vs Q E hr h=>⟨wb0 K t.c_WALL_SORTS,?_,yy9 T.q_WALL_SORTS h⟩);have S:=xy0;unfold wb0
 repeat' (first|(walk_at "v")|refine zcl (wg7 T) hr T.zc B5 ?_|exact G1 rfl T.g_WALL_SORTS rfl)
theorem wi6(T:Txt K mg t):D5 P w K mg base CX0 3 t.zx.a t.zx.d ["book","name"] (W0 K):=by
 refine T.zx.F.ok wh9 #[5] (λcdv A outer s H vs Q E hr h=>⟨Y4 K,?_,xk7 h⟩);have S:=wh9;unfold Y4
 repeat' (first|(walk_at "v")|refine zcl (zb5 T) hr T.ze B5 ?_)
theorem ym5(T:Txt K mg t):D5 P w K mg base CX0 3 t.ye.a t.ye.d ["text","searched"] (qq2 K):=by
 refine T.ye.F.ok xb5 #[5] (λcdv A outer s H vs Q E hr h=>⟨qm8 K,?_,yk2 h⟩);have S:=xb5;unfold qm8
 repeat' (first|(walk_at "v")|refine zcl (xz2 T) hr T.yh B5 ?_|refine zcl (yt6 T) hr T.yg B5 ?_)
theorem yc7(T:Txt K mg t):D5 P w K mg base CX0 3 t.yy.a t.yy.d ["_law_cell","_law_count"] (qh0 K):=by
 refine T.yy.F.ok ws8 #[5] (λcdv A outer s H vs Q E hr h=>⟨qd5 K,?_,xw0 h⟩);have S:=ws8;unfold qd5
 repeat' (first|(walk_at "v")|refine zcl (qx7 T) hr T.yu B5 ?_)
theorem wv5(T:Txt K mg t):D5 P w K mg base CX0 3 t.xg.a t.xg.d ["_law_pot","_law_names_here"] (V4 K):=by
 refine T.xg.F.ok qu2 #[5] (λcdv A outer s H vs Q E hr h=>⟨S8 K,?_,wv2 h⟩);have S:=qu2;unfold S8
 repeat' (first|(walk_at "v")|refine zcl (qx7 T) hr T.yu B5 ?_|refine zcl (xh8 T) hr T.yw B5 ?_|refine zcl (qi3 T) hr T.yt B5 ?_)
theorem wd6(T:Txt K mg t):D5 P w K mg base CX0 3 t.c25.a t.c25.d ["self","book"] (U2 K):=by
 refine T.c25.F.ok wd0 #[5] (λcdv A outer s H vs Q E hr h=>⟨W3 K t.qA,?_,xe5 T.cz h⟩);have S:=wd0;unfold W3
 repeat' (first|(walk_at "v")|refine wo2 T.c23.m (wd5 T) #[3] rfl T.n_Branch T.c23.b .nil B5 ?_|exact G1 rfl T.g_ROOT_NAME.1 T.g_ROOT_NAME.2)
theorem wd7(T:Txt K mg t):D5 P w K mg base CX0 3 t.c12.a t.c12.d ["self"] (O4 K):=by
 refine T.c12.F.ok qf5 #[5] (λcdv A outer s H vs Q E hr h=>⟨M0 K t.qC,?_,wb6 T.cz h⟩);have S:=qf5;unfold M0
 repeat' (first|(walk_at "v")|refine zcl (wg7 T) hr T.zc B5 ?_|refine zcl (qi2 T) hr T.zm B5 ?_|refine N0 ?_ T.cz.cl_Reader T.c13.m (G8 T) #[3] T.c13.b .nil B5)
theorem qx8(T:Txt K mg t):D5 P w K mg base CX0 3 t.c20.a t.c20.d ["self","name"] (R8 K):=by
 refine T.c20.F.ok qx5 #[5] (λcdv A outer s H vs Q E hr h=>⟨T7 K t.qA,?_,wy4 T.cz h⟩);have S:=qx5;unfold T7
 repeat' (first|(walk_at "v")|refine wo2 T.c23.m (wd5 T) #[3] rfl T.n_Branch T.c23.b .nil B5 ?_)
theorem wv6(T:Txt K mg t):D5 P w K mg base CX0 4 t.zn.a t.zn.d ["book","names"] (qk7 K):=by
 refine T.zn.F.ok xy4 #[5] (λcdv A outer s H vs Q E hr h=>⟨wb2 K,?_,yz1 h⟩);have S:=xy4;unfold wb2
 repeat' (first|(walk_at "v")|refine zcl (wg8 T) hr T.zd B5 ?_)
theorem wv7(T:Txt K mg t):D5 P w K mg base CX0 4 t.zp.a t.zp.d ["book","names","name"] (qs6 K):=by
 refine T.zp.F.ok xy5 #[5] (λcdv A outer s H vs Q E hr h=>⟨wb1 K,?_,yz0 h⟩);have S:=xy5;unfold wb1
 repeat' (first|(walk_at "v")|refine zcl (zb6 T) hr T.zh B5 ?_|refine zcl (wg8 T) hr T.zd B5 ?_)
theorem ym6(T:Txt K mg t):D5 P w K mg base CX0 4 t.zt.a t.zt.d ["book","names"] (qp9 K):=by
 refine T.zt.F.ok xb1 #[5] (λcdv A outer s H vs Q E hr h=>⟨qm5 K,?_,yj5 h⟩);have S:=xb1;unfold qm5
 repeat' (first|(walk_at "v")|refine zcl (wi6 T) hr T.zx B5 ?_|refine zcl (qi2 T) hr T.zm B5 ?_|exact G1 rfl T.g_MOST_OPEN.1 T.g_MOST_OPEN.2)
theorem qx9(T:Txt K mg t):D5 P w K mg base CX0 4 t.yd.a t.yd.d ["text","settled","searched"] (S0 K):=by
 refine T.yd.F.ok qx3 #[5] (λcdv A outer s H vs Q E hr h=>⟨U1 K,?_,wy9 h⟩);have S:=qx3;unfold U1
 repeat' (first|(walk_at "v")|refine zcl (qo9 T) hr T.yi B5 ?_|refine zcl (ym5 T) hr T.ye B5 ?_|exact G1 rfl T.g_START.1 T.g_START.2|exact G1 rfl T.g_STOP.1 T.g_STOP.2)
theorem wv8(T:Txt K mg t):D5 P w K mg base CX0 4 t.yn.a t.yn.d ["book","closed"] (V3 K):=by
 refine T.yn.F.ok qu1 #[5] (λcdv A outer s H vs Q E hr h=>⟨S3 K,?_,wu4 h⟩);have S:=qu1;unfold S3
 repeat' (first|(walk_at "v")|refine zcl (wg8 T) hr T.zd B5 ?_|refine zcl (wg7 T) hr T.zc B5 ?_)
theorem ym7(T:Txt K mg t):D5 P w K mg base CX0 4 t.xc.a t.xc.d ["_law_script"] (qq9 K):=by
 refine T.xc.F.ok xb9 #[5] (λcdv A outer s H vs Q E hr h=>⟨qw9 K,?_,yl8 h⟩);have S:=xb9;walk_at"26"
 ·refine qe7 (i:=1) S.nd rfl (Or.inr rfl) ?_ rfl ?_
  ·refine zcl (yc7 T) hr T.yy B5 ?_;refine A4 ?_ ?_
   ·exact(zcl (qo8 T) hr T.yq B5 (A4 (pv 0) (A4 B7 B4)))
   refine A4 ?_ ?_
   ·refine C9 J5 ?_ ?_
    ·exact B7
    ·exact(C9 W9 (zcl (qo8 T) hr T.yq B5 (A4 (pv 0) (A4 B7 B4))) B7)
   exact B4
  ·walk_at "or"
 walk_at"26"
 ·refine zst (i:=2) S ?_;exact#[24,pv 1]
 walk_at"26"
 ·refine qe7 (i:=3) S.nd rfl (Or.inl rfl) ?_ rfl ?_
  ·refine zcl (xy9 T) hr T.yx B5 ?_;refine A4 ?_ ?_
   ·exact(zcl (qo8 T) hr T.yq B5 (A4 (pv 0) (A4 B7 B4)))
   refine A4 ?_ ?_
   ·exact B7
   exact B4
  ·walk_at "or"
 walk_at"26"
 ·exact(xc2 (zcl (yc6 T) hr T.yz B5 (A4 (pv 3) (A4 (pv 2) B4))) (yg8 rfl (qr7 (G2 (i:=4) S.nd rfl (Or.inr rfl)) (qr7 (G2 (i:=5) S.nd rfl (Or.inr rfl)) xo3))))
 walk_at"26"
 ·refine zst (i:=6) S ?_;exact xq7
 walk_at"26"
 ·refine qy0 PassesOwn.never rfl ?_ ?_ ?_
  ·exact(zr4 (pv 5) rfl rfl)
  ·exact(yg8 rfl (qr7 (G2 (i:=7) S.nd rfl (Or.inl rfl)) (qr7 (G2 (i:=8) S.nd rfl (Or.inl rfl)) xo3)))
  ·refine C4 ?_;exact(xc2 (pv 7) (xp8 (pv 6) (pv 8) (wk5 (G0 hr))))
 walk_at"26"
 ·exact(xo5 (i:=9) S.nd rfl rfl rfl (O6 (osc:=A7 qn4) (ON:=["_law_script","_law_names_here","_law_count","_law_xs","_law_sorts_here","_law_frames","_law_hosts","_law_host","_law_frame","_law_able","_law_free","_law_rows","_law_k","_law_shuts","_law_turn"]) (N:=["_law_names_here","_law_sorts_here","_law_k"]) (fr:=[some 1,some 4,none]) #[11] rfl rfl) (Z5 rfl T.z_range (A4 (pv 2) B4)) (λ_ _ _ _ _ _=>(G2 (i:=2) (show List.Nodup (["_law_names_here","_law_sorts_here","_law_k"]:List Str) by decide +kernel) rfl (Or.inl rfl))) qf9 (λ_ _ _ _ _ _=>(wo5 (E5 (qy4 (G0 hr)) (T3 (G5 (G0 hr)) (pv 1) (pv 2) (λ_ _=>rfl)) (qc4 (A4 N7 (A4 N7 B4))) #[19]))) (λ_ _ _ _ _ _=>(T3 (G5 (G0 hr)) (pv 0) (pv 2) (λ_ _=>rfl))))
 walk_at"26"
 ·exact(xo5 (i:=10) S.nd rfl rfl rfl (O6 (osc:=A7 qn4) (ON:=["_law_script","_law_names_here","_law_count","_law_xs","_law_sorts_here","_law_frames","_law_hosts","_law_host","_law_frame","_law_able","_law_free","_law_rows","_law_k","_law_shuts","_law_turn"]) (N:=["_law_names_here","_law_frames","_law_sorts_here","_law_k"]) (fr:=[some 1,some 5,some 4,none]) #[11] rfl rfl) (Z5 rfl T.z_range (A4 (pv 2) B4)) (λ_ _ _ _ _ _=>(G2 (i:=3) (show List.Nodup (["_law_names_here","_law_frames","_law_sorts_here","_law_k"]:List Str) by decide +kernel) rfl (Or.inl rfl))) qf9 (λ_ _ _ _ _ _=>(wo5 (PW.pt (yg6 (E5 (qy4 (G0 hr)) (T3 (G5 (G0 hr)) (pv 2) (pv 3) (λ_ _=>rfl)) (qc4 (A4 N7 (A4 N7 B4))) #[19]) (xo2 (E5 (wa6 (G0 hr)) (pv 3) (pv 1) #[19])))))) (λ_ _ _ _ _ _=>(T3 (G5 (G0 hr)) (pv 0) (pv 3) (λ_ _=>rfl))))
 walk_at"26"
 ·refine zst (i:=11) S ?_;exact(qk4 B4)
 walk_at"26"
 ·refine qy0 PassesOwn.never rfl ?_ ?_ ?_
  ·exact(Z5 rfl T.z_range (A4 (pv 2) B4))
  ·exact(G2 (i:=12) S.nd rfl (Or.inl rfl))
  ·refine A9 ?_ ?_
   ·refine zst (i:=7) S ?_;exact N7
   walk_at"26"
   ·refine wa0 ?_ ?_ ?_
    ·exact(E5 (qy4 (G0 hr)) (pv 12) (pv 6) #[19])
    ·refine C4 ?_;refine zst (i:=7) S ?_;exact(T3 (G5 (G0 hr)) (pv 1) (zy2 (G0 hr) (pv 6) (pv 12) (λ_ _=>rfl)) (λ_ _=>rfl))
    ·exact qf8
   walk_at"26"
   ·refine qe7 (i:=13) S.nd rfl (Or.inl rfl) ?_ rfl ?_
    ·refine zcl (wn7 T) hr T.xb B5 ?_;refine A4 ?_ ?_
     ·exact(pv 10)
     refine A4 ?_ ?_
     ·exact(xc5 PySem.F.plainAttrs_list PySem.F.slot_list_pop PySem.F.type_list_pop xc7 (pv 3))
     exact B4
    ·walk_at "or"
   walk_at"26"
   ·refine wa0 ?_ ?_ ?_
    ·exact(E5 (qy4 (G0 hr)) (pv 12) (pv 5) #[19])
    ·refine C4 ?_;refine zst (i:=13) S ?_;exact(qc4 B4)
    ·exact qf8
   refine C4 ?_;exact(X2 (qi7 PySem.F.plainAttrs_list PySem.F.slot_list_append PySem.F.type_list_append qk5 (pv 11) (A4 (qc4 (A4 (T3 (G5 (G0 hr)) (pv 1) (pv 12) (λ_ _=>rfl)) (A4 (T3 (G5 (G0 hr)) (pv 4) (pv 12) (λ_ _=>rfl)) (A4 (pv 7) (A4 (pv 13) (A4 (zcl (wn7 T) hr T.xb B5 (A4 (pv 9) (A4 (C9 J5 (C9 qv5 (xc5 PySem.F.plainAttrs_list PySem.F.slot_list_pop PySem.F.type_list_pop xc7 (pv 3)) B7) B7) B4))) B4)))))) B4)))
 walk_at"26"
 ·refine zst (i:=14) S ?_;exact(C9 W9 (xc5 PySem.F.plainAttrs_list PySem.F.slot_list_pop PySem.F.type_list_pop xc7 (pv 3)) (pv 2))
 refine C4 ?_;exact(N2 (qr4 wk3 rfl T.z_tuple boot_tuple (A4 (C9 J5 (V6 qn7 (pv 11) (V0 (pv 14)) we2) (V6 qn7 (pv 11) we2 (V0 (pv 14)))) B4)))
theorem xo0(T:Txt K mg t):D5 P w K mg base CX0 4 t.xh.a t.xh.d ["_law_cells","_law_names_here"] (qe4 K):=by
 refine T.xh.F.ok wi3 #[5] (λcdv A outer s H vs Q E hr h=>⟨Y8 K,?_,xn1 h⟩);have S:=wi3;unfold Y8
 repeat' (first|(walk_at "v")|refine zcl (wv5 T) hr T.xg B5 ?_|refine zcl (yc5 T) hr T.yr B5 ?_|refine zcl (xz0 T) hr T.xf B5 ?_)
theorem X1(T:Txt K mg t):D5 P w K mg base CX0 4 t.c15.a t.c15.d ["self"] (I9 K):=by
 refine T.c15.F.ok qk0 #[5] (λcdv A outer s H vs Q E hr h=>⟨S2 K,?_,wi8 T.cz h⟩);have S:=qk0;walk_at"26"
 ·exact(xo5 (i:=1) S.nd rfl rfl rfl (O6 (osc:=A7 S9) (ON:=["self","walls"]) (N:=["self","branch"]) (fr:=[some 0,none]) #[11] rfl rfl) (wk4 (N8 (pv 0) rfl)) (λ_ _ _ _ _ _=>(G2 (i:=1) (show List.Nodup (["self","branch"]:List Str) by decide +kernel) rfl (Or.inl rfl))) qf9 (λ_ _ _ _ _ _=>(wo5 (yt7 (zcl (wg8 T) hr T.zd B5 (A4 (N8 (pv 0) rfl) (A4 (N8 (pv 1) rfl) B4)))))) (λ_ _ _ _ _ _=>(pv 1)))
 refine C4 ?_;refine N2 ?_;exact(yn6 (E5 yw5 #[24,pv 1] B7 (M5 _)) (T3 (G5 (G0 hr)) (pv 1) (zm2 yu4 B7) (λ_ _=>rfl)) (T3 (G5 (G0 hr)) (N8 (pv 0) rfl) B7 (λ_ _=>rfl)))
theorem qf1(T:Txt K mg t):D5 P w K mg base CX0 4 t.c19.a t.c19.d ["self","name","start","rule"] (N3 K):=by
 refine T.c19.F.ok qu4 #[5] (λcdv A outer s H vs Q E hr h=>⟨S1 K t.qC,?_,wu3 T.cz h⟩);have S:=qu4;unfold S1
 repeat' (first|(walk_at "v")|refine zcl (yc3 T) hr T.yj B5 ?_|refine L4 ?_ T.cz.cl_Reader T.c20.m (qx8 T) #[3] T.c20.b .nil B5 ?_)
theorem xh9(T:Txt K mg t):D5 P w K mg base CX0 5 t.zw.a t.zw.d ["book","names","name"] (Z9 K):=by
 refine T.zw.F.ok wc6 #[5] (λcdv A outer s H vs Q E hr h=>⟨W2 K,?_,xd8 h⟩);have S:=wc6;unfold W2
 repeat' (first|(walk_at "v")|refine zcl (wv6 T) hr T.zn B5 ?_|refine zcl (wd4 T) hr T.zb B5 ?_|exact G1 rfl T.g_SHUTS.1 T.g_SHUTS.2)
theorem ym8(T:Txt K mg t):D5 P w K mg base CX0 5 t.zy.a t.zy.d ["book","kept","put"] (qq0 K):=by
 refine T.zy.F.ok xb2 #[5] (λcdv A outer s H vs Q E hr h=>⟨qm6 K,?_,yj7 h⟩);have S:=xb2;unfold qm6
 repeat' (first|(walk_at "v")|refine zcl (wv6 T) hr T.zn B5 ?_|refine zcl (wd4 T) hr T.zb B5 ?_|refine zcl (wi5 T) hr T.zo B5 ?_|exact G1 rfl T.g_BARS.1 T.g_BARS.2)
theorem xc0(T:Txt K mg t):D5 P w K mg base CX0 5 t.yc.a t.yc.d ["text"] (qg4 K):=by
 refine T.yc.F.ok xb4 #[5] (λcdv A outer s H vs Q E hr h=>⟨qm9 K,?_,yk3 h⟩);have S:=xb4;unfold qm9
 repeat' (first|(walk_at "v")|refine zcl (qo9 T) hr T.yi B5 ?_|refine zcl (qx9 T) hr T.yd B5 ?_|exact G1 rfl T.g_STOP.1 T.g_STOP.2)
theorem xi0(T:Txt K mg t):D5 P w K mg base CX0 5 t.yp.a t.yp.d ["book","names","name"] (qa1 K):=by
 refine T.yp.F.ok wc7 #[5] (λcdv A outer s H vs Q E hr h=>⟨W5 K,?_,xf1 h⟩);have S:=wc7;unfold W5
 repeat' (first|(walk_at "v")|refine zcl (wv6 T) hr T.zn B5 ?_|refine zcl (wd4 T) hr T.zb B5 ?_|refine zcl (wi5 T) hr T.zo B5 ?_|exact G1 rfl T.g_BARS.1 T.g_BARS.2|exact G1 rfl T.g_MOST_OPEN.1 T.g_MOST_OPEN.2|exact G1 rfl T.g_SHUTS.1 T.g_SHUTS.2)
theorem T1(T:Txt K mg t):D5 P w K mg base CX0 5 t.c9.a t.c9.d ["self","kept","start","rule"] (E6 K):=by
 refine T.c9.F.ok qe1 #[5] (λcdv A outer s H vs Q E hr h=>⟨J9 K t.qC,?_,qy7 T.cz h⟩);have S:=qe1;unfold J9
 repeat' (first|(walk_at "v")|refine zcl (yc4 T) hr T.yk B5 ?_|refine zcl (wv8 T) hr T.yn B5 ?_|refine N0 ?_ T.cz.cl_Reader T.c15.m (X1 T) #[3] T.c15.b .nil B5|refine N0 ?_ T.cz.cl_Reader T.c21.m (qi4 T) #[3] T.c21.b .nil B5|refine N0 ?_ T.cz.cl_Reader T.c13.m (G8 T) #[3] T.c13.b .nil B5)
theorem wn9(T:Txt K mg t):D5 P w K mg base CX0 5 t.c27.a t.c27.d ["self","book"] (Y9 K):=by
 refine T.c27.F.ok wn4 #[5] (λcdv A outer s H vs Q E hr h=>⟨qd7 K t.qC,?_,xx3 T.cz T.cf h⟩);have S:=wn4;unfold qd7
 repeat' (first|(walk_at "v")|refine wo2 T.c25.m (wd6 T) #[3] rfl T.n_Reader T.c25.b .nil B5 ?_)
theorem qu5(T:Txt K mg t):D5 P w K mg base CX0 6 t.zv.a t.zv.d ["book","names","name"] (V2 K):=by
 refine T.zv.F.ok qu0 #[5] (λcdv A outer s H vs Q E hr h=>⟨R9 K,?_,wu0 h⟩);have S:=qu0;unfold R9
 repeat' (first|(walk_at "v")|refine zcl (wi6 T) hr T.zx B5 ?_|refine zcl (xh9 T) hr T.zw B5 ?_|refine zcl (qi2 T) hr T.zm B5 ?_)
theorem xo1(T:Txt K mg t):D5 P w K mg base CX0 6 t.xj.a t.xj.d ["_law_text"] (qe5 K):=by
 refine T.xj.F.ok wi4 #[5] (λcdv A outer s H vs Q E hr h=>⟨Z1 K,?_,xn8 h⟩);have S:=wi4;unfold Z1
 repeat' (first|(walk_at "v")|refine zcl (xc0 T) hr T.yc B5 ?_)
theorem qu6(T:Txt K mg t):D5 P w K mg base CX0 6 t.c18.a t.c18.d ["self","size"] (P8 K):=by
 refine T.c18.F.ok qu3 #[5] (λcdv A outer s H vs Q E hr h=>⟨S4 K t.qC,?_,wu5 T.cz h⟩);have S:=qu3;unfold S4
 repeat' (first|(walk_at "v")|refine L4 ?_ T.cz.cl_Reader T.c9.m (T1 T) #[3] T.c9.b .nil B5 ?_)
theorem qz8(T:Txt K mg t):D5 P w K mg base CX0 6 t.c7.a t.c7.d ["self","start","signs","name"] (N6 K):=by
 refine T.c7.F.ok qe0 #[5] (λcdv A outer s H vs Q E hr h=>⟨L1 K t.qC,?_,qz0 T.cz h⟩);have S:=qe0;unfold L1
 repeat' (first|(walk_at "v")|refine zcl (wv7 T) hr T.zp B5 ?_|refine zcl (xn9 T) hr T.yo B5 ?_|refine L4 ?_ T.cz.cl_Reader T.c9.m (T1 T) #[3] T.c9.b .nil B5 ?_|refine L4 ?_ T.cz.cl_Reader T.c22.m (ql2 T) #[3] T.c22.b .nil B5 ?_|refine N0 ?_ T.cz.cl_Reader T.c15.m (X1 T) #[3] T.c15.b .nil B5|refine N0 ?_ T.cz.cl_Reader T.c21.m (qi4 T) #[3] T.c21.b .nil B5|refine N0 ?_ T.cz.cl_Reader T.c13.m (G8 T) #[3] T.c13.b .nil B5)
theorem qu7(T:Txt K mg t):D5 P w K mg base CX0 6 t.c6.a t.c6.d ["self","start"] (M1 K):=by
 refine T.c6.F.ok Z4 #[5] (λcdv A outer s H vs Q E hr h=>⟨G9 K t.qC,?_,qt1 T.cz h⟩);have S:=Z4;unfold G9
 repeat' (first|(walk_at "v")|refine zcl (xi0 T) hr T.yp B5 ?_|refine N0 ?_ T.cz.cl_Reader T.c15.m (X1 T) #[3] T.c15.b .nil B5|refine N0 ?_ T.cz.cl_Reader T.c13.m (G8 T) #[3] T.c13.b .nil B5|refine L4 ?_ T.cz.cl_Reader T.c19.m (qf1 T) #[3] T.c19.b .nil B5 ?_)
theorem wo0(T:Txt K mg t):D5 P w K mg base CX0 7 t.c16.a t.c16.d ["self","start","signs","told"] (S6 K):=by
 refine T.c16.F.ok qn5 #[5] (λcdv A outer s H vs Q E hr h=>⟨P2 K t.qC,?_,wl9 T.cz h⟩);have S:=qn5;unfold P2
 repeat' (first|(walk_at "v")|refine zcl (zb3 T) hr T.zz B5 ?_|refine zcl (ym6 T) hr T.zt B5 ?_|refine zcl (ym4 T) hr T.yb B5 ?_|refine L4 ?_ T.cz.cl_Reader T.c17.m (wn8 T) #[3] T.c17.b .nil B5 ?_|refine L4 ?_ T.cz.cl_Reader T.c22.m (ql2 T) #[3] T.c22.b .nil B5 ?_|refine N0 ?_ T.cz.cl_Reader T.c12.m (wd7 T) #[3] T.c12.b .nil B5|refine N0 ?_ T.cz.cl_Reader T.c13.m (G8 T) #[3] T.c13.b .nil B5|refine L4 ?_ T.cz.cl_Reader T.c19.m (qf1 T) #[3] T.c19.b .nil B5 ?_|refine L4 ?_ T.cz.cl_Reader T.c6.m (qu7 T) #[3] T.c6.b .nil B5 ?_|exact G1 rfl T.g_BLANKS.1 T.g_BLANKS.2)
theorem xz3(T:Txt K mg t):∀n:Nat,D5 P w K mg base CX0 (7+n) t.zu.a t.zu.d ["book","names","name"] (qs7 n K)
 | 0 => by
   have FR:D5 P w K mg base CX0 6 t.zu.a t.zu.d ["book","names","name"] (qm7 K 0):=⟨λ_ _ _ _ h=>h.elim,λ_ _ _ _ _ _ _ _ _ _ _ _ _ h=>h.elim⟩;refine T.zu.F.ok (k:=6) wp9 #[5] (λcdv A outer s H vs Q E hr h=>⟨wl6 K (qm7 K 0),?_,yf3 0 h⟩);have S:=wp9;walk_at"26"
   ·refine zst (i:=3) S ?_;exact(zcl (wn6 T) hr T.zf B5 (A4 (pv 0) (A4 (pv 2) B4)))
   walk_at"26"
   ·refine wa0 ?_ ?_ ?_
    ·exact(E5 yi1 (pv 3) xp7 (M5 _))
    ·refine C4 ?_;exact(N2 (zcl (qu5 T) hr T.zv B5 (A4 (pv 0) (A4 (pv 1) (A4 (pv 2) B4)))))
    ·exact qf8
   walk_at"26"
   ·refine zst (i:=4) S ?_;exact(zcl (wv7 T) hr T.zp B5 (A4 (pv 0) (A4 (pv 1) (A4 (pv 3) B4))))
   walk_at"26"
   ·refine wa0 ?_ ?_ ?_
    ·exact(E5 wo7 (pv 4) xp7 (M5 _))
    ·refine C4 ?_;exact(N2 (qc4 (A4 (C9 wx2 (pv 4) B7) (A4 (qc4 (A4 (pv 2) B4)) B4))))
    ·exact qf8
   walk_at"26"
   ·refine zst (i:=5) S ?_;exact(zcl FR hr T.zu B5 (A4 (pv 0) (A4 (pv 1) (A4 (pv 3) B4))))
   refine C4 ?_;refine N2 ?_;refine qc4 ?_;refine A4 ?_ ?_
   ·exact(T3 (G5 (G0 hr)) (pv 5) B7 (λ_ _=>rfl))
   refine A4 ?_ ?_
   ·exact(C9 wx2 (T3 (G5 (G0 hr)) (pv 5) B7 (λ_ _=>rfl)) (qc4 (A4 (pv 2) B4)))
   exact B4
 | n + 1=>by
   have FR:D5 P w K mg base CX0 (7+n) t.zu.a t.zu.d ["book","names","name"] (qm7 K (n+1)):=xz3 T n;refine T.zu.F.ok (k:=(7+n)) wp9 #[5] (λcdv A outer s H vs Q E hr h=>⟨wl6 K (qm7 K (n+1)),?_,yf3 (n+1) h⟩);have S:=wp9;walk_at"26"
   ·refine zst (i:=3) S ?_;exact(zcl (wn6 T) hr T.zf B5 (A4 (pv 0) (A4 (pv 2) B4)))
   walk_at"26"
   ·refine wa0 ?_ ?_ ?_
    ·exact(E5 yi1 (pv 3) xp7 (M5 _))
    ·refine C4 ?_;exact(N2 (zcl (qu5 T) hr T.zv B5 (A4 (pv 0) (A4 (pv 1) (A4 (pv 2) B4)))))
    ·exact qf8
   walk_at"26"
   ·refine zst (i:=4) S ?_;exact(zcl (wv7 T) hr T.zp B5 (A4 (pv 0) (A4 (pv 1) (A4 (pv 3) B4))))
   walk_at"26"
   ·refine wa0 ?_ ?_ ?_
    ·exact(E5 wo7 (pv 4) xp7 (M5 _))
    ·refine C4 ?_;exact(N2 (qc4 (A4 (C9 wx2 (pv 4) B7) (A4 (qc4 (A4 (pv 2) B4)) B4))))
    ·exact qf8
   walk_at"26"
   ·refine zst (i:=5) S ?_;exact(zcl FR hr T.zu B5 (A4 (pv 0) (A4 (pv 1) (A4 (pv 3) B4))))
   refine C4 ?_;refine N2 ?_;refine qc4 ?_;refine A4 ?_ ?_
   ·exact(T3 (G5 (G0 hr)) (pv 5) B7 (λ_ _=>rfl))
   refine A4 ?_ ?_
   ·exact(C9 wx2 (T3 (G5 (G0 hr)) (pv 5) B7 (λ_ _=>rfl)) (qc4 (A4 (pv 2) B4)))
   exact B4
theorem zl3(T:Txt K mg t):D5 P w K mg base CX0 20 t.zu.a t.zu.d ["book","names","name"] (yf2 K):=xz3 T 13
theorem zb7(T:Txt K mg t):D5 P w K mg base CX0 21 t.zr.a t.zr.d ["book","names","name"] (wf1 K):=by
 refine T.zr.F.ok xy6 #[5] (λcdv A outer s H vs Q E hr h=>⟨wb3 K,?_,yz2 h⟩);have S:=xy6;unfold wb3
 repeat' (first|(walk_at "v")|refine zcl (ym8 T) hr T.zy B5 ?_|refine zcl (zl3 T) hr T.zu B5 ?_|exact G1 rfl T.g_MOST_OPEN.1 T.g_MOST_OPEN.2)
theorem qz9(T:Txt K mg t):D5 P w K mg base CX0 22 t.c10.a t.c10.d ["self","start","signs","name"] (N5 K):=by
 refine T.c10.F.ok qd9 #[5] (λcdv A outer s H vs Q E hr h=>⟨L0 K t.qC,?_,qy9 T.cz h⟩);have S:=qd9;unfold L0
 repeat' (first|(walk_at "v")|refine zcl (zb7 T) hr T.zr B5 ?_|refine zcl (wg7 T) hr T.zc B5 ?_|refine L4 ?_ T.cz.cl_Reader T.c9.m (T1 T) #[3] T.c9.b .nil B5 ?_|refine L4 ?_ T.cz.cl_Reader T.c22.m (ql2 T) #[3] T.c22.b .nil B5 ?_|refine L4 ?_ T.cz.cl_Reader T.c20.m (qx8 T) #[3] T.c20.b .nil B5 ?_|refine N0 ?_ T.cz.cl_Reader T.c21.m (qi4 T) #[3] T.c21.b .nil B5|refine N0 ?_ T.cz.cl_Reader T.c13.m (G8 T) #[3] T.c13.b .nil B5|refine L4 ?_ T.cz.cl_Reader T.c19.m (qf1 T) #[3] T.c19.b .nil B5 ?_)
theorem wd8(T:Txt K mg t):D5 P w K mg base CX0 23 t.c26.a t.c26.d ["self","kind","start","signs","told"] (U4 K):=by
 refine T.c26.F.ok wd2 #[5] (λcdv A outer s H vs Q E hr h=>⟨W6 K t.qC,?_,xf3 T.cz h⟩);have S:=wd2;unfold W6
 repeat' (first|(walk_at "v")|refine L4 ?_ T.cz.cl_Reader T.c7.m (qz8 T) #[3] T.c7.b .nil B5 ?_|refine L4 ?_ T.cz.cl_Reader T.c10.m (qz9 T) #[3] T.c10.b .nil B5 ?_|refine L4 ?_ T.cz.cl_Reader T.c16.m (wo0 T) #[3] T.c16.b .nil B5 ?_)
theorem ym9(T:Txt K mg t):D5 P w K mg base CX0 24 t.ym.a t.ym.d ["book","text"] (qq6 K):=by
 refine T.ym.F.ok xb7 #[5] (λcdv A outer s H vs Q E hr h=>⟨qn1 K t.qC,?_,yl1 T.cz h⟩);have S:=xb7;unfold qn1
 repeat' (first|(walk_at "v")|refine zcl (xc0 T) hr T.yc B5 ?_|refine L4 ?_ T.cz.cl_Reader T.c18.m (qu6 T) #[3] T.c18.b .nil B5 ?_|refine L4 ?_ T.cz.cl_Reader T.c26.m (wd8 T) #[3] T.c26.b .nil B5 ?_|refine wo2 T.c25.m (wd6 T) #[3] rfl T.n_Reader T.c25.b .nil B5 ?_)
theorem qk2(T:Txt K mg t):D5 P w K mg base CX0 24 t.c14.a t.c14.d ["self","tokens"] (J0 K):=by
 refine T.c14.F.ok qk1 #[5] (λcdv A outer s H vs Q E hr h=>⟨O1 K t.qC,?_,wj3 T.cz T.cf h⟩);have S:=qk1;unfold O1
 repeat' (first|(walk_at "v")|refine L4 ?_ T.cz.cl_Reader T.c26.m (wd8 T) #[3] T.c26.b .nil B5 ?_)
theorem yn0(T:Txt K mg t):D5 P w K mg base CX0 25 t.yl.a t.yl.d ["book","text"] (qq7 K):=by
 refine T.yl.F.ok xb6 #[5] (λcdv A outer s H vs Q E hr h=>⟨qn2 K t.qC,?_,yl2 T.cz h⟩);have S:=xb6;unfold qn2
 repeat' (first|(walk_at "v")|refine zcl (ym9 T) hr T.ym B5 ?_|refine N0 ?_ T.cz.cl_Reader T.c24.m (xh7 T) #[3] T.c24.b .nil B5)
theorem wo1(T:Txt K mg t):D5 P w K mg base CX0 25 t.c28.a t.c28.d ["self","piece"] (Z0 K):=by
 refine T.c28.F.ok wn5 #[5] (λcdv A outer s H vs Q E hr h=>⟨qm1 K t.qB,?_,xx4 T.cz T.cf h⟩);have S:=wn5;walk_at"26"
 ·exact(X2 (N0 (pv 0) T.cf.cl_Feed T.c5.m (X9 T) #[3] T.c5.b .nil B5))
 walk_at"26"
 ·refine zst (i:=2) S ?_;exact(N1 (zj1 rfl) rfl T.z_max boot_max (A4 (N8 (pv 0) rfl) (A4 (C9 zm4 #[24,N8 (pv 0) rfl] (G1 rfl T.g_LONGEST_BEGUN.1 T.g_LONGEST_BEGUN.2)) B4)))
 walk_at"26"
 ·exact(yu9 (pv 0) (C9 J5 (N8 (pv 0) rfl) (pv 1)) rfl)
 walk_at"26"
 ·refine zst (i:=3) S ?_;exact#[24,N8 (N8 (pv 0) rfl) rfl]
 walk_at"26"
 ·exact(X2 (L4 (pv 0) T.cf.cl_Feed T.c14.m (qk2 T) #[3] T.c14.b .nil B5 (A4 (zcl (qx9 T) hr T.yd B5 (A4 (N8 (pv 0) rfl) (A4 (N8 (pv 0) rfl) (A4 (pv 2) B4)))) B4)))
 refine C4 ?_;exact(N2 (V6 qn7 (N8 (N8 (pv 0) rfl) rfl) (V0 (pv 3)) we2))
theorem wt2(T:Txt K mg t):D5 P w K mg base CX0 25 t.c29.a t.c29.d ["self"] (qd8 K):=by
 refine T.c29.F.ok wt0 #[5] (λcdv A outer s H vs Q E hr h=>⟨qr1 K t.qB t.qC,?_,yc2 T.cz T.cf h⟩);have S:=wt0;walk_at"26"
 ·exact(X2 (N0 (pv 0) T.cf.cl_Feed T.c5.m (X9 T) #[3] T.c5.b .nil B5))
 walk_at"26"
 ·exact(yu9 (pv 0) zb8 rfl)
 walk_at"26"
 ·refine zst (i:=1) S ?_;exact#[24,N8 (N8 (pv 0) rfl) rfl]
 walk_at"26"
 ·exact(X2 (L4 (pv 0) T.cf.cl_Feed T.c14.m (qk2 T) #[3] T.c14.b .nil B5 (A4 (zcl (qo9 T) hr T.yi B5 (A4 (N8 (pv 0) rfl) (A4 (N8 (pv 0) rfl) (A4 #[24,N8 (pv 0) rfl] B4)))) B4)))
 walk_at"26"
 ·exact(X2 (L4 (N8 (pv 0) rfl) T.cz.cl_Reader T.c18.m (qu6 T) #[3] T.c18.b .nil B5 (A4 #[24,N8 (pv 0) rfl] B4)))
 refine C4 ?_;exact(N2 (V6 qn7 (N8 (N8 (pv 0) rfl) rfl) (V0 (pv 1)) we2))
theorem Ao1(T:Txt K mg t):D5 P w K mg base CX0 26 t.xk.a t.xk.d ["_law_script"] (xg6 K):=by
 refine T.xk.F.ok zw3 #[5] (λcdv A outer s H vs Q E hr h=>⟨zf2 K t.qB,?_,Ao0 T.cz T.cf h⟩);have S:=zw3;walk_at"26"
 ·refine zst (i:=1) S ?_;exact(zcl (ym7 T) hr T.xc B5 (A4 (pv 0) B4))
 walk_at"26"
 ·refine qe7 (i:=2) S.nd rfl (Or.inl rfl) ?_ rfl ?_
  ·refine zcl (xo0 T) hr T.xh B5 ?_;refine A4 ?_ ?_
   ·exact(V6 qn7 (pv 0) (V0 B7) (V0 B7))
   refine A4 ?_ ?_
   ·exact(qv3 rfl (O6 (osc:=A7 xj1) (ON:=["_law_script","_law_book_here","_law_text","_law_mends","_law_feed","_law_beside","_law_came","_law_told","_law_other","_law_piece","_law_sign","_law_last"]) (N:=["_law_row"]) (fr:=[none]) #[11] rfl rfl) (wk4 (pv 1)) (λ_ _ _ _ _ _=>(G2 (i:=0) (show List.Nodup (["_law_row"]:List Str) by decide +kernel) rfl (Or.inl rfl))) qf9 (λ_ _ _ _ _ _=>wo4) (λ_ _ _ _ _ _=>(T3 (G5 (G0 hr)) (pv 0) B7 (λ_ _=>rfl))))
   exact B4
  ·walk_at "or"
 walk_at"26"
 ·refine zst (i:=3) S ?_;exact(T3 (G5 (G0 hr)) (zcl (yn0 T) hr T.yl B5 (A4 (pv 1) (A4 (pv 2) B4))) B7 (λ_ _=>rfl))
 walk_at"26"
 ·refine zst (i:=4) S ?_;exact(wo2 T.c27.m (wn9 T) #[3] rfl T.n_Feed T.c27.b .nil B5 (A4 (pv 1) B4))
 walk_at"26"
 ·refine zst (i:=5) S ?_;exact(wo2 T.c27.m (wn9 T) #[3] rfl T.n_Feed T.c27.b .nil B5 (A4 (pv 1) B4))
 walk_at"26"
 ·refine zst (i:=6) S ?_;exact N7
 walk_at"26"
 ·refine zst (i:=7) S ?_;exact(qk4 B4)
 walk_at"26"
 ·refine zst (i:=8) S ?_;exact(qk4 B4)
 walk_at"26"
 ·refine qy0 PassesOwn.never rfl ?_ ?_ ?_
  ·exact(wk4 (zcl (xz1 T) hr T.xi B5 (A4 (pv 2) (A4 (V6 qn7 (pv 0) (V0 B7) (V0 B7)) B4))))
  ·exact(G2 (i:=9) S.nd rfl (Or.inl rfl))
  ·refine A9 ?_ ?_
   ·refine zst (i:=6) S ?_;exact(C9 J5 (pv 6) (pv 9))
   walk_at"26"
   ·exact(X2 (qi7 PySem.F.plainAttrs_list PySem.F.slot_list_extend PySem.F.type_list_extend xc6 (pv 7) (A4 (L4 (pv 4) T.cf.cl_Feed T.c28.m (wo1 T) #[3] T.c28.b .nil B5 (A4 (pv 9) B4)) B4)))
   walk_at"26"
   ·refine qy0 PassesOwn.never rfl ?_ ?_ ?_
    ·exact(yi9 (pv 9))
    ·exact(G2 (i:=10) S.nd rfl (Or.inl rfl))
    ·refine C4 ?_;exact(X2 (qi7 PySem.F.plainAttrs_list PySem.F.slot_list_extend PySem.F.type_list_extend xc6 (pv 8) (A4 (L4 (pv 5) T.cf.cl_Feed T.c28.m (wo1 T) #[3] T.c28.b .nil B5 (A4 (pv 10) B4)) B4)))
   walk_at"26"
   ·refine qe7 (i:=11) S.nd rfl (Or.inr rfl) ?_ rfl ?_
    ·exact(zcl (xo1 T) hr T.xj B5 (A4 (pv 6) B4))
    ·walk_at "or"
   refine C4 ?_;refine wa0 ?_ ?_ ?_
   ·exact(PW.pt (Ae5 (E5 (yh9 (xj7 hr)) (pv 7) (qv3 rfl (O6 (osc:=A7 xj1) (ON:=["_law_script","_law_book_here","_law_text","_law_mends","_law_feed","_law_beside","_law_came","_law_told","_law_other","_law_piece","_law_sign","_law_last"]) (N:=["_law_last","_law_mend"]) (fr:=[some 11,none]) #[11] rfl rfl) (wk4 (pv 3)) (λ_ _ _ _ _ _=>(G2 (i:=1) (show List.Nodup (["_law_last","_law_mend"]:List Str) by decide +kernel) rfl (Or.inl rfl))) qf9 (λ_ _ _ _ _ _=>(wo5 (E5 yw4 (T3 (G5 (G0 hr)) (pv 1) B7 (λ_ _=>rfl)) (pv 0) (M5 _)))) (λ_ _ _ _ _ _=>(pv 1))) (M5 _)) (zl6 (E5 (yh9 (xj7 hr)) (pv 8) (pv 7) (M5 _)))))
   ·refine C4 ?_;exact(N2 zb8)
   ·exact qf8
 refine C4 ?_;exact(N2 (yt9 (Z6 (wk2 (xj7 hr)) (C9 J5 (pv 7) (N0 (pv 4) T.cf.cl_Feed T.c29.m (wt2 T) #[3] T.c29.b .nil B5)) (pv 3) (M5 _)) (yt8 (Z6 (wk2 (xj7 hr)) (C9 J5 (pv 8) (N0 (pv 5) T.cf.cl_Feed T.c29.m (wt2 T) #[3] T.c29.b .nil B5)) (pv 3) (M5 _)))))
end
theorem ln1{us:List Value}(h:us.length=1):∃x0,us=[x0]:=by
 rcases us with _|⟨x0,_|⟨y,us⟩⟩
 ·cases h
 ·exact⟨x0,rfl⟩
 ·cases h
theorem ln2{us:List Value}(h:us.length=2):∃x0 x1,us=[x0,x1]:=by
 rcases us with _|⟨x0,_|⟨x1,_|⟨y,us⟩⟩⟩
 ·cases h
 ·cases h
 ·exact⟨x0,x1,rfl⟩
 ·cases h
theorem ln3{us:List Value}(h:us.length=3):∃x0 x1 x2,us=[x0,x1,x2]:=by
 rcases us with _|⟨x0,_|⟨x1,_|⟨x2,_|⟨y,us⟩⟩⟩⟩
 ·cases h
 ·cases h
 ·cases h
 ·exact⟨x0,x1,x2,rfl⟩
 ·cases h
theorem ln4{us:List Value}(h:us.length=4):∃x0 x1 x2 x3,us=[x0,x1,x2,x3]:=by
 rcases us with _|⟨x0,_|⟨x1,_|⟨x2,_|⟨x3,_|⟨y,us⟩⟩⟩⟩⟩
 ·cases h
 ·cases h
 ·cases h
 ·cases h
 ·exact⟨x0,x1,x2,x3,rfl⟩
 ·cases h
theorem ln5{us:List Value}(h:us.length=5):∃x0 x1 x2 x3 x4,us=[x0,x1,x2,x3,x4]:=by
 rcases us with _|⟨x0,_|⟨x1,_|⟨x2,_|⟨x3,_|⟨x4,_|⟨y,us⟩⟩⟩⟩⟩⟩
 ·cases h
 ·cases h
 ·cases h
 ·cases h
 ·cases h
 ·exact⟨x0,x1,x2,x3,x4,rfl⟩
 ·cases h
local macro_rules|`(tactic|walk_at "b")=>`(tactic|(intro _ _ _ _ _ _ us hl;first|(obtain⟨_,_,_,_,_,rfl⟩:=ln5 hl;rfl)|(obtain⟨_,_,_,_,rfl⟩:=ln4 hl;rfl)|(obtain⟨_,_,_,rfl⟩:=ln3 hl;rfl)|(obtain⟨_,_,rfl⟩:=ln2 hl;rfl)|(obtain⟨_,rfl⟩:=ln1 hl;rfl)))
structure Fb(K:Fg)(x:Str)(st:Stmt)(f:Addr)(d:FuncData):Prop where
 a:PySem.W.nsIn K mainGlobals x=some (some (.ref f))
 F:Fun K x x st f d
theorem Fb.ok{K:Fg}{x:Str}{st:Stmt}{ps:List Str}{f:Addr}{fd:FuncData}{mg:Str->Option Value}{h:Heap}(b:Fb K x st f fd)(X:K.In h)(G:h.Ns mainGlobals mg)(hb:∀(kV doc pm:Value) (an:Option Addr) (cdv ct:Value) (us:List Value),us.length=ps.length->bindArgs (PySem.W.fnOf x x (ww3 st) (wo3 st) (A7 st) .none kV doc pm an cdv ct) ⟨us,[]⟩=pure (ps.zip us):=by walk_at "b"):Fok K mg x st ps ⟨f,fd⟩:=⟨b.F,b.F.binds hb,PySem.W.mg_of X G b.a⟩
structure Zn(K:Fg)(x:Str):Prop where
 a:PySem.W.nsIn K mainGlobals x=some none
theorem Zn.ok{K:Fg}{x:Str}{mg:Str->Option Value}{h:Heap}(b:Zn K x)(X:K.In h)(G:h.Ns mainGlobals mg):mg x=none:=PySem.W.mg_none_of X G b.a
structure Fm(K:Fg)(C:Addr)(x qual:Str)(st:Stmt)(f:Addr)(d:FuncData):Prop where
 a:PySem.W.findIn K (.ref C) x=some (some (.ref f))
 F:Fun K x qual st f d
 n:PySem.W.isFn K (.ref f)=true
theorem Fm.ok{C:Addr}{K:Fg}{x qual:Str}{st:Stmt}{ps:List Str}{f:Addr}{fd:FuncData}(b:Fm K C x qual st f fd)(hb:∀(kV doc pm:Value) (an:Option Addr) (cdv ct:Value) (us:List Value),us.length=ps.length->bindArgs (PySem.W.fnOf x qual (ww3 st) (wo3 st) (A7 st) .none kV doc pm an cdv ct) ⟨us,[]⟩=pure (ps.zip us):=by walk_at "b"):Fom K C x qual st ps ⟨f,fd⟩:=⟨b.F,b.F.binds hb,⟨b.a,b.n,b.F.kp⟩⟩
theorem Fm.oi{C:Addr}{K:Fg}{qual:Str}{st:Stmt}{ps:List Str}{f:Addr}{fd:FuncData}(b:Fm K C "__init__" qual st f fd)(m:PySem.W.makesIn K C=true)(k:PySem.W.keepIn K (.ref C)=true)(hb:∀(kV doc pm:Value) (an:Option Addr) (cdv ct:Value) (us:List Value),us.length=ps.length->bindArgs (PySem.W.fnOf "__init__" qual (ww3 st) (wo3 st) (A7 st) .none kV doc pm an cdv ct) ⟨us,[]⟩=pure (ps.zip us):=by walk_at "b"):Foi K C qual st ps ⟨f,fd⟩:=⟨b.F,b.F.binds hb,⟨m,b.a,b.n,k⟩⟩
theorem all_mk{l:PySem.W.OpenLaw}{w:World}{h:Heap}{fa f0 f1 f2 f3 f4 f5 f6 f7 f8 f9 f10 f11 f12 f13 f14 f15 f16 f17 f18 f19 f20 f21 f22 f23 f24 f25 f26 f27 f28 f29 f30 f31 f32 f33 f34 f35 f36 f37 f38 f39 f40 f41 f42 f43 f44 f45 f46 f47 f48 f49 f50 f51 f52 f53 f54 f55 f56 f57 f58 f59 f60 f61 f62 f63 f64 f65 f66 f67 f68 f69 f70 f71 f72 f73 f74:Addr}(X:K.In h)(G:h.Ns mainGlobals mg)(hfa:mg "law"=some (.ref fa)){d0 d1 d2 d3 d4 d5 d6 d7 d8 d9 d10 d11 d12 d13 d14 d15 d16 d17 d18 d19 d20 d21 d22 d23 d24 d25 d26 d27 d28 d29 d30 d31 d32 d33 d34 d35 d36 d37 d38 d39 d40 d41 d42 d43 d44 d45 d46 d47 d48 d49 d50 d51 d52 d53 d54 d55 d56 d57 d58 d59 d60 d61 d62 d63 d64 d65 d66 d67 d68 d69 d70 d71 d72 d73 d74:FuncData}{k_LONGEST_NAME k_NAME k_SORT k_HOST k_SHUTS k_BARS k_ROOT_NAME k_MOST_OPEN k_LONGEST_BEGUN k_START k_STOP k_BLANKS:Tok}{c_WALL_SORTS:Addr}{d_WALL_SORTS:Option Addr}{n_WALL_SORTS:Nat}{sl_WALL_SORTS:Array (Option Value)}{k_WALL_SORTS_0 k_WALL_SORTS_1:Tok}{c_TOLD_FOR:Addr}{d_TOLD_FOR:Option Addr}{n_TOLD_FOR:Nat}{sl_TOLD_FOR:Array (Option Value)}{k_TOLD_FOR_0 k_TOLD_FOR_1:Tok}{d_ESCAPED:Option Addr}{n_ESCAPED:Nat}{sl_ESCAPED:Array (Option Value)}{k_ESCAPED_0 k_ESCAPED_1:Tok}(eBranch:PySem.W.nsIn K mainGlobals "Branch"=some (some (.ref qA)))(eFeed:PySem.W.nsIn K mainGlobals "Feed"=some (some (.ref qB)))(eReader:PySem.W.nsIn K mainGlobals "Reader"=some (some (.ref qC)))(h0:Fb K "has_letters_of_name" Q6 f0 d0)(h1:Fb K "row_of" xx7 f1 d1)(h2:Fb K "sort_of" xg7 f2 d2)(h3:Fb K "is_wall" xg8 f3 d3)(h4:Fb K "host_of" xg9 f4 d4)(h5:Fb K "frame_of" wv3 f5 d5)(h6:Fb K "belongs" xh0 f6 d6)(h7:Fb K "is_text" xh1 f7 d7)(h8:Fb K "straight_above" qk8 f8 d8)(h9:Fb K "near_of" xh2 f9 d9)(h10:Fb K "share_a_name" qh4 f10 d10)(h11:Fb K "closing" xh3 f11 d11)(h12:Fb K "opening" xh4 f12 d12)(h13:Fb K "hosts_for" wm2 f13 d13)(h14:Fb K "wanted" xx8 f14 d14)(h15:Fb K "wanted_by_guest" qh5 f15 d15)(h16:Fb K "kept_by_shuts" qo1 f16 d16)(h17:Fb K "hosts_within" qt4 f17 d17)(h18:Fb K "is_barred" wm3 f18 d18)(h19:Fb K "escaped" xh5 f19 d19)(h20:Fb K "told_by" xh6 f20 d20)(h21:Fb K "lone_ones" qx1 f21 d21)(h22:Fb K "tokens_of" wm4 f22 d22)(h23:Fb K "settled_tokens" qk9 f23 d23)(h24:Fb K "tags_from" wm5 f24 d24)(h25:Fb K "name_start" wg0 f25 d25)(h26:Fb K "tag_stop" wv4 f26 d26)(h27:Fb K "tag_between" qz1 f27 d27)(h28:Fb K "runs_between" qt5 f28 d28)(h29:Fb K "opening_of" wg1 f29 d29)(h30:Fb K "closing_of" wg2 f30 d30)(h31:Fb K "read_text" wm6 f31 d31)(h32:Fb K "reader_of" wm7 f32 d32)(h33:Fb K "those_that_wait" qh6 f33 d33)(h34:Fb K "without_last" qt6 f34 d34)(h35:Fb K "may_come_anew" qo2 f35 d35)(h36:Fb K "_law_cell_at" qt7 f36 d36)(h37:Fb K "_law_mixed" wg3 f37 d37)(h38:Fb K "_law_take" wm8 f38 d38)(h39:Fb K "_law_any_names" qa5 f39 d39)(h40:Fb K "_law_signs_by" qe6 f40 d40)(h41:Fb K "_law_stream" qz2 f41 d41)(h42:Fb K "_law_names" wg4 f42 d42)(h43:Fb K "_law_sorts" qr3 f43 d43)(h44:Fb K "_law_picked" qz3 f44 d44)(h45:Fb K "_law_book" qn4 f45 d45)(h46:Fb K "_law_run_by" qz4 f46 d46)(h47:Fb K "_law_any_pieces" qh7 f47 d47)(h48:Fb K "_law_text_by" qt8 f48 d48)(h49:Fb K "_law_pieces" qz5 f49 d49)(h50:Fb K "_law_settled" qt9 f50 d50)(h51:Fb K "law" xj1 f51 d51)(h52:Fm K qA "__init__" "Branch.__init__" qo3 f52 d52)(h53:Fm K qC "__init__" "Reader.__init__" qo4 f53 d53)(h54:Fm K qC "root" "Reader.root" qo5 f54 d54)(h55:Fm K qC "read" "Reader.read" qo6 f55 d55)(h56:Fm K qC "finish" "Reader.finish" qh8 f56 d56)(h57:Fm K qC "read_opening" "Reader.read_opening" U5 f57 d57)(h58:Fm K qC "read_closing" "Reader.read_closing" U6 f58 d58)(h59:Fm K qC "read_run" "Reader.read_run" qc6 f59 d59)(h60:Fm K qC "open_names" "Reader.open_names" Q7 f60 d60)(h61:Fm K qC "is_in_frame" "Reader.is_in_frame" V5 f61 d61)(h62:Fm K qC "last_wall" "Reader.last_wall" S9 f62 d62)(h63:Fm K qC "enter" "Reader.enter" ql0 f63 d63)(h64:Fm K qC "leave" "Reader.leave" ql1 f64 d64)(h65:Fm K qC "drop" "Reader.drop" qo7 f65 d65)(h66:Fm K qC "put_in" "Reader.put_in" qh9 f66 d66)(h67:Fm K qC "close_behind" "Reader.close_behind" U7 f67 d67)(h68:Fm K qC "put_in_waiting" "Reader.put_in_waiting" R0 f68 d68)(h69:Fm K qC "add_text" "Reader.add_text" qc7 f69 d69)(h70:Fm K qB "__init__" "Feed.__init__" qz6 f70 d70)(h71:Fm K qB "take" "Feed.take" qz7 f71 d71)(h72:Fm K qB "end" "Feed.end" wg5 f72 d72)(h73:Fm K qB "refuse_behind_end" "Feed.refuse_behind_end" Q0 f73 d73)(h74:Fm K qB "read_tokens" "Feed.read_tokens" Z3 f74 d74)(uLONGEST_NAME:PySem.W.nsIn K mainGlobals "LONGEST_NAME"=some (some (.int 8 k_LONGEST_NAME)))(uNAME:PySem.W.nsIn K mainGlobals "NAME"=some (some (.int 0 k_NAME)))(uSORT:PySem.W.nsIn K mainGlobals "SORT"=some (some (.int 1 k_SORT)))(uHOST:PySem.W.nsIn K mainGlobals "HOST"=some (some (.int 2 k_HOST)))(uSHUTS:PySem.W.nsIn K mainGlobals "SHUTS"=some (some (.int 3 k_SHUTS)))(uBARS:PySem.W.nsIn K mainGlobals "BARS"=some (some (.int 4 k_BARS)))(uROOT_NAME:PySem.W.nsIn K mainGlobals "ROOT_NAME"=some (some (.str "" k_ROOT_NAME)))(uMOST_OPEN:PySem.W.nsIn K mainGlobals "MOST_OPEN"=some (some (.int 20 k_MOST_OPEN)))(uLONGEST_BEGUN:PySem.W.nsIn K mainGlobals "LONGEST_BEGUN"=some (some (.int 10 k_LONGEST_BEGUN)))(uSTART:PySem.W.nsIn K mainGlobals "START"=some (some (.int 1 k_START)))(uSTOP:PySem.W.nsIn K mainGlobals "STOP"=some (some (.int 2 k_STOP)))(uBLANKS:PySem.W.nsIn K mainGlobals "BLANKS"=some (some (.str " \n" k_BLANKS)))(uWALL_SORTS:PySem.W.nsIn K mainGlobals "WALL_SORTS"=some (some (.ref c_WALL_SORTS)))(wWALL_SORTS:K.lookup c_WALL_SORTS=some ⟨.type "tuple",d_WALL_SORTS,.seq #[.str "room" k_WALL_SORTS_0,.str "frame" k_WALL_SORTS_1] n_WALL_SORTS,sl_WALL_SORTS⟩)(uTOLD_FOR:PySem.W.nsIn K mainGlobals "TOLD_FOR"=some (some (.ref c_TOLD_FOR)))(wTOLD_FOR:K.lookup c_TOLD_FOR=some ⟨.type "tuple",d_TOLD_FOR,.seq #[.str "&l;" k_TOLD_FOR_0,.str "&a;" k_TOLD_FOR_1] n_TOLD_FOR,sl_TOLD_FOR⟩)(uESCAPED:PySem.W.nsIn K mainGlobals "ESCAPED"=some (some (.ref c_ESCAPED)))(wESCAPED:K.lookup c_ESCAPED=some ⟨.type "tuple",d_ESCAPED,.seq #[.str "<" k_ESCAPED_0,.str "&" k_ESCAPED_1] n_ESCAPED,sl_ESCAPED⟩)(mk0Branch:PySem.W.makesIn K qA=true)(kp0Branch:PySem.W.keepIn K (.ref qA)=true)(mk0Feed:PySem.W.makesIn K qB=true)(kp0Feed:PySem.W.keepIn K (.ref qB)=true)(mk0Reader:PySem.W.makesIn K qC=true)(kp0Reader:PySem.W.keepIn K (.ref qC)=true)(zall:Zn K "all")(zany:Zn K "any")(zenumerate:Zn K "enumerate")(zint:Zn K "int")(zisinstance:Zn K "isinstance")(zlen:Zn K "len")(zlist:Zn K "list")(zmax:Zn K "max")(zmin:Zn K "min")(zrange:Zn K "range")(zreversed:Zn K "reversed")(zsorted:Zn K "sorted")(zstr:Zn K "str")(ztuple:Zn K "tuple")(cz:Cz K qA qC)(cf:Cf K qB) :
 ∃fd:FuncData,(∀(s:Shared) (v:Value),BindsTo s fd ⟨[v],[]⟩ [("_law_script",v)])/\∀base:Heap,K.In base->base.Ns mainGlobals mg->D5 l.prog w K mg base CX0 26 fa fd ["_law_script"] (xg6 K):=by
 have e:=hfa.symm.trans (PySem.W.mg_of X G h51.a)
 have e:f51=fa:=by cases e;rfl
 subst e
 obtain⟨_,_,kV,dc,pm,an,cd,ct,_,rfl,_,_⟩:=id h51.F.ex
 let t:Adr:=⟨⟨f0,d0⟩,⟨f1,d1⟩,⟨f2,d2⟩,⟨f3,d3⟩,⟨f4,d4⟩,⟨f5,d5⟩,⟨f6,d6⟩,⟨f7,d7⟩,⟨f8,d8⟩,⟨f9,d9⟩,⟨f10,d10⟩,⟨f11,d11⟩,⟨f12,d12⟩,⟨f13,d13⟩,⟨f14,d14⟩,⟨f15,d15⟩,⟨f16,d16⟩,⟨f17,d17⟩,⟨f18,d18⟩,⟨f19,d19⟩,⟨f20,d20⟩,⟨f21,d21⟩,⟨f22,d22⟩,⟨f23,d23⟩,⟨f24,d24⟩,⟨f25,d25⟩,⟨f26,d26⟩,⟨f27,d27⟩,⟨f28,d28⟩,⟨f29,d29⟩,⟨f30,d30⟩,⟨f31,d31⟩,⟨f32,d32⟩,⟨f33,d33⟩,⟨f34,d34⟩,⟨f35,d35⟩,⟨f36,d36⟩,⟨f37,d37⟩,⟨f38,d38⟩,⟨f39,d39⟩,⟨f40,d40⟩,⟨f41,d41⟩,⟨f42,d42⟩,⟨f43,d43⟩,⟨f44,d44⟩,⟨f45,d45⟩,⟨f46,d46⟩,⟨f47,d47⟩,⟨f48,d48⟩,⟨f49,d49⟩,⟨f50,d50⟩,⟨f51,PySem.W.fnOf "law" "law" (ww3 xj1) (wo3 xj1) (A7 xj1) .none kV dc pm an cd ct⟩,⟨f52,d52⟩,⟨f53,d53⟩,⟨f54,d54⟩,⟨f55,d55⟩,⟨f56,d56⟩,⟨f57,d57⟩,⟨f58,d58⟩,⟨f59,d59⟩,⟨f60,d60⟩,⟨f61,d61⟩,⟨f62,d62⟩,⟨f63,d63⟩,⟨f64,d64⟩,⟨f65,d65⟩,⟨f66,d66⟩,⟨f67,d67⟩,⟨f68,d68⟩,⟨f69,d69⟩,⟨f70,d70⟩,⟨f71,d71⟩,⟨f72,d72⟩,⟨f73,d73⟩,⟨f74,d74⟩,c_WALL_SORTS,.int 8 k_LONGEST_NAME,.int 0 k_NAME,.int 1 k_SORT,.int 2 k_HOST,.int 3 k_SHUTS,.int 4 k_BARS,.str "" k_ROOT_NAME,.int 20 k_MOST_OPEN,c_TOLD_FOR,c_ESCAPED,.int 10 k_LONGEST_BEGUN,.int 1 k_START,.int 2 k_STOP,.str " \n" k_BLANKS,qA,qB,qC⟩
 have T:Txt K mg t:=⟨h0.ok X G,h1.ok X G,h2.ok X G,h3.ok X G,h4.ok X G,h5.ok X G,h6.ok X G,h7.ok X G,h8.ok X G,h9.ok X G,h10.ok X G,h11.ok X G,h12.ok X G,h13.ok X G,h14.ok X G,h15.ok X G,h16.ok X G,h17.ok X G,h18.ok X G,h19.ok X G,h20.ok X G,h21.ok X G,h22.ok X G,h23.ok X G,h24.ok X G,h25.ok X G,h26.ok X G,h27.ok X G,h28.ok X G,h29.ok X G,h30.ok X G,h31.ok X G,h32.ok X G,h33.ok X G,h34.ok X G,h35.ok X G,h36.ok X G,h37.ok X G,h38.ok X G,h39.ok X G,h40.ok X G,h41.ok X G,h42.ok X G,h43.ok X G,h44.ok X G,h45.ok X G,h46.ok X G,h47.ok X G,h48.ok X G,h49.ok X G,h50.ok X G,h51.ok X G,h52.oi mk0Branch kp0Branch,h53.oi mk0Reader kp0Reader,h54.ok,h55.ok,h56.ok,h57.ok,h58.ok,h59.ok,h60.ok,h61.ok,h62.ok,h63.ok,h64.ok,h65.ok,h66.ok,h67.ok,h68.ok,h69.ok,h70.oi mk0Feed kp0Feed,h71.ok,h72.ok,h73.ok,h74.ok,PySem.W.mg_of X G uWALL_SORTS,λ_=>.inr ⟨_,_,_,wWALL_SORTS,rfl,rfl,by rw[sizeLine_eq];show 2<=_;decide,(.cons ⟨_,rfl⟩ (.cons ⟨_,rfl⟩ .nil))⟩,⟨PySem.W.mg_of X G uLONGEST_NAME,⟨_,rfl⟩⟩,⟨PySem.W.mg_of X G uNAME,⟨_,rfl⟩⟩,⟨PySem.W.mg_of X G uSORT,⟨_,rfl⟩⟩,⟨PySem.W.mg_of X G uHOST,⟨_,rfl⟩⟩,⟨PySem.W.mg_of X G uSHUTS,⟨_,rfl⟩⟩,⟨PySem.W.mg_of X G uBARS,⟨_,rfl⟩⟩,⟨PySem.W.mg_of X G uROOT_NAME,⟨_,rfl⟩⟩,⟨PySem.W.mg_of X G uMOST_OPEN,⟨_,rfl⟩⟩,PySem.W.mg_of X G uTOLD_FOR,λ_=>.inr ⟨_,_,_,wTOLD_FOR,rfl,rfl,by rw[sizeLine_eq];show 2<=_;decide,(.cons ⟨_,rfl⟩ (.cons ⟨_,rfl⟩ .nil))⟩,PySem.W.mg_of X G uESCAPED,λ_=>.inr ⟨_,_,_,wESCAPED,rfl,rfl,by rw[sizeLine_eq];show 2<=_;decide,(.cons ⟨_,rfl⟩ (.cons ⟨_,rfl⟩ .nil))⟩,⟨PySem.W.mg_of X G uLONGEST_BEGUN,⟨_,rfl⟩⟩,⟨PySem.W.mg_of X G uSTART,⟨_,rfl⟩⟩,⟨PySem.W.mg_of X G uSTOP,⟨_,rfl⟩⟩,⟨PySem.W.mg_of X G uBLANKS,⟨_,rfl⟩⟩,zall.ok X G,zany.ok X G,zenumerate.ok X G,zint.ok X G,zisinstance.ok X G,zlen.ok X G,zlist.ok X G,zmax.ok X G,zmin.ok X G,zrange.ok X G,zreversed.ok X G,zsorted.ok X G,zstr.ok X G,ztuple.ok X G,PySem.W.mg_of X G eBranch,PySem.W.mg_of X G eFeed,PySem.W.mg_of X G eReader,cz,cf⟩
 exact⟨_,λs v=>.of_eq rfl,λbase _ _=>Ao1 T⟩
theorem walk{l:PySem.W.OpenLaw}{q:Program}{loose:List Str}{XP:(Str->Option Value)->Heap->Prop}{as:List Addr}{z t:Nat}{d:DefRec}{K:Params->Fg}(hn:l.most=some 63)(hdf:d.params.defaults=[])(hk:∀P,as=(K P).map (·.1))(h0:0<t) (F:∀(w:World) (mg:Str->Option Value) (fa:Addr) (h:Heap),(K w.params).In h->h.Ns mainGlobals mg->mg d.name=some (.ref fa) ->
  ∃fd:FuncData,(∀(s:Shared) (u:Value),BindsTo s fd ⟨[u],[]⟩ [("_law_script",u)])/\∀base:Heap,(K w.params).In base->base.Ns mainGlobals mg->D5 l.prog w (K w.params) mg base CX0 26 fa fd ["_law_script"] (xg6 (K w.params))) :
 PySem.W.WalkX q loose XP (PySem.W.X.obsZ as) (PySem.W.X.valZ K z t) l.row.toRowW d [] (λf vs=>PySem.call f vs) :=
 L2.zy3 (n:=63) (k:=26) (x := "_law_script") (CX:=λ_=>CX0) (sp:=λw=>xg6 (K w.params)) hn #[7] hdf ⟨rfl,by decide,by decide,rfl⟩ hk h0 F (λ_ _ a ns hl _ hS=>⟨a,ns,rfl,hS,hl,λ_=>rfl⟩) λ_ _ _ _ _ z=>z
end
end My
open PySem PySem.W PyProof.Rows
local macro_rules | `(tactic| x_go) => `(tactic| (refine' L2.Aj1 ?l ?c ?k; (case l => k_is); (case c => k_is); (case k => k_is)))
set_option maxRecDepth 100000 in
set_option maxHeartbeats 0 in
theorem PySem.Challenge.cw_tagmend_k61_mends_as_they_come_holds : PySem.Challenge.rw_tagmend_k61_mends_as_they_come.Holds := by
 w_on;o_law;z_head;(case hw=>w_witness2)
 k_fill
 refine My.walk (l:=PySem.Challenge.rw_tagmend_k61_mends_as_they_come) rfl rfl (λ_=>rfl) #[7] ?F
 case F =>
  intro w mg fa h KX G hmg
  refine' My.all_mk KX G hmg ?eBranch ?eFeed ?eReader ?h0 ?h1 ?h2 ?h3 ?h4 ?h5 ?h6 ?h7 ?h8 ?h9 ?h10 ?h11 ?h12 ?h13 ?h14 ?h15 ?h16 ?h17 ?h18 ?h19 ?h20 ?h21 ?h22 ?h23 ?h24 ?h25 ?h26 ?h27 ?h28 ?h29 ?h30 ?h31 ?h32 ?h33 ?h34 ?h35 ?h36 ?h37 ?h38 ?h39 ?h40 ?h41 ?h42 ?h43 ?h44 ?h45 ?h46 ?h47 ?h48 ?h49 ?h50 ?h51 ?h52 ?h53 ?h54 ?h55 ?h56 ?h57 ?h58 ?h59 ?h60 ?h61 ?h62 ?h63 ?h64 ?h65 ?h66 ?h67 ?h68 ?h69 ?h70 ?h71 ?h72 ?h73 ?h74 ?uLONGEST_NAME ?uNAME ?uSORT ?uHOST ?uSHUTS ?uBARS ?uROOT_NAME ?uMOST_OPEN ?uLONGEST_BEGUN ?uSTART ?uSTOP ?uBLANKS ?uWALL_SORTS ?wWALL_SORTS ?uTOLD_FOR ?wTOLD_FOR ?uESCAPED ?wESCAPED ?mk0Branch ?kp0Branch ?mk0Feed ?kp0Feed ?mk0Reader ?kp0Reader ?zall ?zany ?zenumerate ?zint ?zisinstance ?zlen ?zlist ?zmax ?zmin ?zrange ?zreversed ?zsorted ?zstr ?ztuple ?cz ?cf
  case eBranch|eFeed|eReader=>k_is
  case h0|h1|h2|h3|h4|h5|h6|h7|h8|h9|h10|h11|h12|h13|h14|h15|h16|h17|h18|h19|h20|h21|h22|h23|h24|h25|h26|h27|h28|h29|h30|h31|h32|h33|h34|h35|h36|h37|h38|h39|h40|h41|h42|h43|h44|h45|h46|h47|h48|h49|h50|h51=>(constructor;k_is;x_go)
  case h52|h53|h54|h55|h56|h57|h58|h59|h60|h61|h62|h63|h64|h65|h66|h67|h68|h69|h70|h71|h72|h73|h74=>(constructor;k_is;x_go;k_is)
  case cz|cf=>(constructor;all_goals k_is)
  case uLONGEST_NAME|uNAME|uSORT|uHOST|uSHUTS|uBARS|uROOT_NAME|uMOST_OPEN|uLONGEST_BEGUN|uSTART|uSTOP|uBLANKS|uWALL_SORTS|wWALL_SORTS|uTOLD_FOR|wTOLD_FOR|uESCAPED|wESCAPED|mk0Branch|kp0Branch|mk0Feed|kp0Feed|mk0Reader|kp0Reader=>k_is
  case zall|zany|zenumerate|zint|zisinstance|zlen|zlist|zmax|zmin|zrange|zreversed|zsorted|zstr|ztuple=>(refine My.Zn.mk ?_;k_is)
end
