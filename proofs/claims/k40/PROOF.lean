import PyProof.Rows.All
import Wide.All
import OpenK.AllK
import Wide.FinOn
import Lean
import PyProof.EqAt
import PyProof.EqKinds
import PyProof.TupleCall
import PyProof.NeData
import PyProof.Rows.StrJoin2
import PyProof.Rows.SortStr
import PyProof.Rows.SortWalk
import KE.KRevIter
import PyProof.Rows.RuleN_isinstance
import PyProof.StrReplace2
import PyProof.StrWalks
import PyProof.Draws
import PyProof.EnumMake
import PyProof.Rows.StrNews2
import PyProof.StrLawsTight
import PyProof.StrLawsReplace
import PyProof.ConsumeWalk
import PyProof.StrLawsFrom
import PyProof.DictValues
import PyProof.Rows.SumAny
import PyProof.SeqI3
import PyProof.NoPylong
import PyProof.Rows.FStrParts
import PyProof.ListRange
import PyProof.ListStr
import PyProof.DictWalks
import PyProof.DictItemsLoops
import PyProof.FactsAll.dict_itemiterator_1
import PyProof.Rows.RegStrFacts
import KE.KDictList
import KE.KDictOf
import PyProof.AttrMissSeq
import PyProof.TupleIter
import PyProof.StrLawsFirst
import PyProof.ReprHeadsTuple
import PyProof.ReprLen
import PyProof.Rows.StrMul
import PySem.Challenge.RW_tagmend_k40_texts_without_mends
set_option Elab.async false
set_option hygiene false
set_option linter.all false
set_option compiler.extract_closed false
set_option genSizeOf false
set_option bootstrap.genMatcherCode false
open List PySem
local macro_rules|`(#[0])=>`((by omega))|`(#[1,$x])=>`((tC (.int $x)))|`(#[2])=>`((rI (fun _ j=>0<j) fun i j=>.int (i % j)))|`(#[3,$x])=>`((A3 (A7 $x) B1))|`(#[4])=>`((by walk_at "n"))
local macro_rules|`(#[5,$x])=>`((some (.ref $x)))|`(#[6])=>`((hr.mono (by walk_at "le")))|`(#[7])=>`((by walk_at"b"))|`(#[8,$x])=>`((L3 (D0 (D7 hr)) (pv $x) C2 (fun _ _=>rfl)))|`(#[9])=>`((model X.prog X.w))
local macro_rules|`(#[10])=>`((by decide))|`(#[11])=>`((Nat.le_refl _))|`(#[12])=>`((tUn (rU fun i=>.int (-i)) #[1,1]))|`(#[13])=>`((room_here hu))|`(#[14])=>`((upd (upd (upd (upd H' t (.lst (B4 (x0::xr)))) t2 (.lst [.str (wrd ns),.str x0])) t3 (.lst [.str "bars",.str "shuts"])) t4 (.lst (B4 (names++[("bars":Str),("shuts":Str)])))))
local macro_rules|`(#[15])=>`(("frame":Str))|`(#[16])=>`((starEach (e::es) X.env=(false,eval e X.env)::starEach es X.env))|`(#[17])=>`((by decide +kernel))|`(#[18])=>`((k == NameKind.free && env.scope.kind == .function && env.kindOf n == some .cell))|`(#[19,$x])=>`((qg7 (L1 G2 rfl T.z_isinstance boot_isinstance $x)))
local macro_rules|`(#[20,$x])=>`((tOp (D2 K) (A7 $x) #[1,0]))|`(#[21])=>`((M5 rs rk (G4 st) 13 n))|`(#[22])=>`((TX.toks z.cps.toList 0 0))|`(#[23])=>`((J.go i H/\∃ N:St->Hp->Prop,(∀ σ' H',N σ' H'->∃ m',m'<m/\W (i+1) m' σ' H')/\∀ x H',J.yld i H x H'->g x σ H' fun σ2 H2=>tb {D with nx:=N,ct:=N,bk:=D.nx} σ2 H2))|`(#[24,$x])=>`((.lst (B4 $x)))
local macro_rules|`(#[25])=>`((by with_unfolding_all rfl))|`(#[26])=>`((.ins qA x.x [(("name":Str),.str b.n),(("place":Str),.ref x.p),(("parts":Str),.ref x.q),(("waiting":Str),.ref w)]))|`(#[27,$x])=>`((Nat.ne_of_lt (Nat.lt_of_lt_of_le (Heap.lt_size e) $x)))|`(#[28])=>`((s.heap.objs.size+1))|`(#[29,$x])=>`((PyProof.Rows.callWith_type1 (thn (ha pos pins s σ H _ I h) fun us s1 zq=>?_) hs $x))
local macro_rules|`(#[30])=>`((((∃ xs,SqL K H b xs)/\wu6 g tb D σ (Itl K b) H)\/((∃ xs,SqT K H b xs)/\wu6 g tb D σ (Itt K b) H)))|`(#[31])=>`((model prog w))|`(#[32])=>`((s.heap.push {cls:=.type "tuple_iterator",data:=.fields #[.ref l,.int 0 0]}))|`(#[33])=>`((J7 I q (by simp)))|`(#[34])=>`((upd (upd H2 dx (.own o)) o (.ins qA dx [])))
local macro_rules|`(#[35])=>`(((x == ("__debug__":Str))=false))|`(#[36,$x])=>`((A9.new $x _))|`(#[37])=>`((("branches":Str),.ref L))|`(#[39,$x])=>`((tOp (D2 K) (A7 $x) #[1,1]))|`(#[40])=>`((rI wx0 fun i j=>.int (i / j)))
local macro_rules|`(#[41])=>`((blk X N scope cl C s₂ H₂ fp pn))|`(#[42,$x])=>`((upd H p (.lst $x)))|`(#[43,$x])=>`(((backTo $x (starEach es X.env)).any (·.1)=false))|`(#[44,$x])=>`((tOp (D2 K) (A7 $x) #[12]))|`(#[45,$x])=>`((z.cps.toList.drop $x))
local macro_rules|`(#[46,$x])=>`((B0 (pv $x) B8))|`(#[47])=>`((B4 [("a":Str), "b c"," ","x<y","&","tea &l;","\n","<p>","</p>",">","0  1","&a;","q"]))|`(#[48])=>`((.int (made:Nat)))|`(#[49])=>`((Or.inl rfl))|`(#[50])=>`((.ins qA x.x [(("name":Str),.str bb.n),(("place":Str),.ref x.p),(("parts":Str),.ref x.q),(("waiting":Str),.ref w)]))
local macro_rules|`(#[51])=>`((fun j h1 h2=>by have q:=qf5 xs ys A.in1 s _ _ _ _ h4 k4 ha hb (room_in (by rw[PyData.depth,PyData.depth] at hu;exact hu)) j (by simpa using h1) (by simpa using h2);rw[Array.getElem_toList,Array.getElem_toList] at q;exact q))|`(#[52,$x])=>`((mem_append_right _ $x))|`(#[53])=>`((PW.pt (yk0 (qs6 #[19,B0 (pv 0) (B0 (qa0 rfl T.z_tuple boot_tuple rfl) B8)]) (yk0 (E4 (xo3 (wk9 hr)) (L1 qs4 rfl T.z_len boot_len #[46,0]) C2 (L5 _)) (yr6 (qs6 #[19,(B0 #[8,0] (B0 (qa0 rfl T.z_str boot_str rfl) B8))]))))))|`(#[54])=>`((((∃ xs,SqL K H b xs)/\wg7 g tt te σ' Q (Itl K b) H)\/((∃ xs,SqT K H b xs)/\wg7 g tt te σ' Q (Itt K b) H)))|`(#[55])=>`((notedBy #[31] A env fun e s'=>R (.error e) s'))
local macro_rules|`(#[56])=>`((.ListComp elt [⟨tg,iter,ifs,0⟩] scope pos))|`(#[57])=>`((X5 rs st wt.1 i "shut"))|`(#[58])=>`((st.bs.drop (kept+1)))|`(#[59,$x])=>`((SqL.of $x))|`(#[61])=>`((A.under (.builtin "type.__call__" ⟨.ref C::us,kw⟩)))
local macro_rules|`(#[63])=>`((("book":Str),bv))|`(#[64])=>`((qd9 g.cps.toList g.cps.toList.length))|`(#[65])=>`((fun _ _=>rfl))|`(#[66])=>`((.tup [.str (gd names i),.str (gd S i),.str (gd Hs i),.ref t1,.ref t2]))|`(#[67])=>`(((u=.non/\N0 rs (some n)=none)\/∃ b r ps pb,u=.ref b/\N0 rs (some n)=some r/\SqT K H b [.str (Row.name r),.str r.sort,.str r.host,.ref ps,.ref pb]/\SqT K H ps (B4 r.shuts)/\SqT K H pb (B4 r.bars)))
local macro_rules|`(#[68])=>`((wpAny_pure ⟨_,rfl,wpAny_pure h⟩))|`(#[69])=>`((.tup [.str (if f=k+1 then "open" else "close"),.int k,.int e,.str (TX.ofL (#[45,f].take (e-1-f)))]))|`(#[70])=>`((N6 qB "open_names" (D8 K) [] E0 (A7 0) B1))|`(#[71])=>`((by rw[sizeLine_eq];omega))|`(#[72])=>`(((items.toList.drop (sIx items.size 0 lo)).take (sIx items.size items.size hi-sIx items.size 0 lo)))
local macro_rules|`(#[73])=>`((wd7 [] [(.inr ("<":Str),.str "&l;"),(.inr ("&":Str),.str "&a;")]))|`(#[74,$x])=>`((compareOp $x))|`(#[75,$x])=>`((zd0 CX P w K mg base N qual scope f $x A outer s H E))|`(#[76])=>`((ns.map V.int))
local macro_rules | `(tactic| omega) => `(tactic| lia)
local macro_rules | `(tactic| walk_at "tk") => `(tactic| first | exact Nat.succ_pos _ | assumption | exact L2.Inv.tk ‹_› | omega)
local macro_rules | `(tactic| z_go) => `(tactic| first | exact Nat.le_of_ble_eq_true rfl | simp)
local macro_rules | `(tactic| walk_at "or") => `(tactic| first | exact .inl rfl | exact .inr rfl)
local macro_rules | `(tactic| walk_at "le") => `(tactic| first | decide | omega)
local macro_rules | `(tactic| walk_at "k") => `(tactic| exact ⟨rfl, rfl, rfl, by decide +kernel, rfl, by decide +kernel, by decide +kernel⟩)
local macro_rules | `(tactic| walk_at "n") => `(tactic| (intro _ _ _ _ zh; repeat (first | (obtain ⟨rfl, _⟩ := zh; rfl) | obtain ⟨_, zh⟩ := zh)))
local macro_rules|`(tactic|walk_at"b")=>`(tactic|(intro _ _ _ _ _ _ us hl;first|(obtain⟨_,rfl⟩:=ln1 hl;rfl)|(obtain⟨_,_,rfl⟩:=ln2 hl;rfl)|(obtain⟨_,_,_,rfl⟩:=ln3 hl;rfl)|(obtain⟨_,_,_,_,rfl⟩:=ln4 hl;rfl)|(obtain⟨_,_,_,_,_,rfl⟩:=ln5 hl;rfl)))
local macro_rules|`(tactic|walk_at"0")=>`(tactic|(
 intro X hP hw hK hc i pins s σ H E I hf st hg
 subst hP hw hK))
local macro_rules|`(tactic|walk_at"1")=>`(tactic|(
 intro pins s σ H x y v u Q I rx ry h
 obtain⟨i,j,rfl,rfl,q⟩:=h
 obtain⟨t,rfl⟩:=rx
 obtain⟨t',rfl⟩:=ry))
local macro_rules|`(tactic|walk_at"2")=>`(tactic|(
 lk
 refine G0 ?_
 lk
 refine⟨r,_,a.x,_,_,rfl,h.o,cz.cl_Reader,cz.na_Reader_branches,rfl,?_⟩))
local macro_rules|`(tactic|walk_at"3")=>`(tactic|(
 lk
 refine E5 ?_
 lk
 refine⟨r,_,_,rfl,h.o,rfl,?_⟩
 lk))
local macro_rules|`(tactic|walk_at"4")=>`(tactic|(
 obtain rfl:=N3 cz.ns_Reader h.kr
 obtain rfl:=N3 cz.ns_Branch h.kb))
local macro_rules|`(tactic|walk_at"5")=>`(tactic|(
 have q:=qf5 xs ys A.in1 s _ _ _ _ h4 k4 ha hb (room_in hu) j (by simpa using h1) (by simpa using h2)
 rw[Array.getElem_toList,Array.getElem_toList] at q
 exact q))
local macro_rules|`(tactic|walk_at"6")=>`(tactic|(
 show wpAny _ _ (field (.ref it) 0 >>= _) _ _ s
 refine wpAny_bind (wpAny_field ho hd (x:=.ref l) rfl ?_)
 show wpAny _ _ (if(Value.ref l == Value.none)=true then _ else _) _ _ s
 rw[if_neg (show ¬((Value.ref l == Value.none)=true) from Bool.false_ne_true)]
 show wpAny _ _ (field (.ref it) 1 >>= _) _ _ s
 refine wpAny_bind (wpAny_field ho hd (x:=.int i 0) rfl ?_)
 show wpAny _ _ (seqItems? (.ref l) >>= _) _ _ s
 refine wpAny_bind (wpAny_seqItems hol hdl ?_)))
local macro_rules|`(tactic|walk_at"7")=>`(tactic|intro pins s σ H x y v u Q I rx ry h)
local macro_rules|`(tactic|walk_at"8")=>`(tactic|(
 have l1:vs.size=xs.length:=by simpa using J8 h4
 have l2:ws.size=ys.length:=by simpa using J8 k4
 rw[L2.nd] at ha hb
 rw[PyData.depth,PyData.depth] at hu))
local macro_rules|`(tactic|walk_at"9")=>`(tactic|(
 lk
 refine G0 ?_
 lk
 refine⟨r,_,a.x,_,_,rfl,h.o,cz.cl_Reader,cz.na_Reader_book,rfl,?_⟩))
local macro_rules|`(tactic|walk_at"10")=>`(tactic|(
 refine⟨x.o,_,x.x,_,_,rfl,hx.o,cz.cl_Branch,cz.na_Branch_parts,rfl,?_⟩
 lk))
local macro_rules|`(tactic|walk_at"11")=>`(tactic|obtain⟨f0,f1,f2,f3,f4,f5⟩:=hf it (by simp))
local macro_rules|`(tactic|walk_at"12")=>`(tactic|(
 obtain⟨b0,bs0,eb0⟩:=exists_cons_of_ne_nil bg.ne
 have hnm:G4 st=bs0.map Brn.n:=by unfold G4;rw[eb0];rfl
 have hbl:=bg.l
 have hl0:bs0.length<=20:=by rw[eb0] at hbl;simp at hbl;omega
 have hms:=bg.m))
local macro_rules|`(tactic|walk_at"13")=>`(tactic|(
 have ne:p≠s.heap.objs.size:=Nat.ne_of_lt (by obtain⟨o,e,_⟩:=pl.isList;exact Heap.lt_size e)
 refine⟨_,_,_,_,_,_,fun i=>(bs[i]?).getD false,rfl,Walks.list (show X.A.in1.handled=none from I.ok.hd hc) s.heap.objs.size p ne _,⟨⟨_,Heap.get?_push_size _ rfl,rfl,rfl⟩,pl.isList.at fun o e=>Heap.get?_push_of_some _ e⟩,?_,fun h' tk hk ht=>?_⟩))
local macro_rules|`(tactic|walk_at"14")=>`(tactic|(
 lk
 refine⟨D5 (by z_go),fun p hp=>?_⟩))
local macro_rules|`(tactic|walk_at"15")=>`(tactic|have hl:z.cps.toList.length=z.length:=Array.length_toList)
local macro_rules|`(tactic|walk_at"16")=>`(tactic|(
 have e:b=s1.heap.objs.size:=by simpa using hb
 subst e
 exact I1.fpOk #[11] (I1.hok.fresh #[11])))
local macro_rules|`(tactic|walk_at"17")=>`(tactic|(
 refine wpAny_bind ?_
 simp only[newExc,newTuple]
 refine wpAny_bind (wpAny_newObj_type ?_ (by size_fits))
 refine wpAny_bind (m:=firstArgMember _ _) (wpAny_of_eq (a:=Value.none) (by first|rfl|(simp only[firstArgMember];rfl)) ?_)
 refine wpAny_newObj_type ?_ (by size_fits)
 simp only[raiseNew]
 refine wpAny_bind (wpAny_handled ?_)))
local macro_rules|`(tactic|walk_at"18")=>`(tactic|intro pins s σ H Q I h)
local macro_rules|`(tactic|walk_at"19")=>`(tactic|(
 lk
 refine⟨D5 (by z_go),fun e0 he0=>?_⟩
 have s1:=A9.new he0 (.lst [])
 have A1:=A.same s1
 lk
 refine xb7 A1.t A8 ?_
 generalize upd H e0 (.lst [])=H1 at *))
local macro_rules|`(tactic|walk_at"20")=>`(tactic|(
 rw[TX.nm_iff,dr]
 refine⟨h1,h8,fun i hi=>?_,by rw[List.getElem?_append_right #[0],en,Nat.sub_self];rfl⟩
 have hi2:i<n.cps.toList.length:=by omega
 refine⟨n.cps.toList[i],by rw[List.getElem?_append_left hi2,List.getElem?_eq_getElem hi2],?_⟩
 have:=h.lt _ (List.getElem_mem hi2)
 unfold TX.letter))
local macro_rules|`(tactic|walk_at"21")=>`(tactic|(
 lk
 refine⟨1,rfl,?_⟩))
local macro_rules|`(tactic|walk_at"22")=>`(tactic|(
 intro pins s σ H x v vl vu lo hi sl Q I rx hs pl pu h
 obtain⟨a,xs,rfl,hx,hw,q⟩:=h
 cases rx
 obtain⟨its,r,ht,hz⟩:=I.tuple hx
 have hlen:its.toArray.size=xs.length:=by rw[size_toArray];exact r.length.symm
 refine⟨"tuple",_,PyProof.Rows.slot_tuple_getitem.lookup,ht.typeIs,?_⟩))
local macro_rules|`(tactic|walk_at"23")=>`(tactic|(
 lk
 refine G0 ?_
 lk))
local macro_rules|`(tactic|walk_at"24")=>`(tactic|(
 obtain⟨v1,r1,rfl,w1,dv4⟩:=(show ∃ v r,vs4=v::r/\_ from by rw[Dvs] at dv4;exact dv4)
 obtain⟨v2,r2,rfl,w2,dv4⟩:=(show ∃ v r,r1=v::r/\_ from by rw[Dvs] at dv4;exact dv4)
 obtain⟨v3,r3,rfl,w3,dv4⟩:=(show ∃ v r,r2=v::r/\_ from by rw[Dvs] at dv4;exact dv4)))
local macro_rules|`(tactic|walk_at"25")=>`(tactic|(
 have hb:=h.b
 rw[ea,eb] at hb
 have hx:=(hb.split hl).2.1
 have xnd:=h.xnd ea
 have no:x.o≠x.q:=by simp[BA.fp] at xnd;exact xnd.1.1))
local macro_rules|`(tactic|walk_at"26")=>`(tactic|(
 lk
 refine E5 ?_
 lk))
local macro_rules|`(tactic|walk_at"27")=>`(tactic|(
 refine wpAny_with_toks (n:=1) I.tk (W.item i s _ _ hg st fun v h' tk hv st' kk ht=>?_)
 have ht:0<tk:=ht
 obtain⟨t,rfl⟩:=hv
 have I1:Inv X pins σ H {s with heap:=h',toks:=tk}:=I.turned (fun b o hb e=>kk b o (by simpa using hb) e) f0 f1 f3 f4 f5))
local macro_rules|`(tactic|walk_at"28")=>`(tactic|intro pins s σ H x vs v us Q I rx rv h)
local macro_rules|`(tactic|walk_at"29")=>`(tactic|(
 lk
 refine qu3 (by show _+1<=_;omega) ?_
 lk
 refine G1 ha' (v:=.str k) (D3 (j:=0) rfl) ?_
 refine qu3 (by rw[length_append];show _+1+_<=_;omega) ?_
 lk
 refine qu3 (by rw[length_append,length_append,M4];show _+1+_+1<=_;omega) ?_))
local macro_rules|`(tactic|walk_at"30")=>`(tactic|(
 obtain⟨d,hd1,hd2⟩:=hd.get' hx
 rw[List.getElem?_map] at hd1
 obtain⟨r,hr,rfl⟩:=Option.map_eq_some_iff.mp hd1))
local macro_rules|`(tactic|walk_at"31")=>`(tactic|(
 have e:b=it:=by simpa using hb
 subst e
 obtain⟨o,e,c,d⟩:=st
 exact⟨o,e,fun v z=>by rw[d] at z;cases z⟩))
local macro_rules|`(tactic|walk_at"32")=>`(tactic|(
 obtain⟨d,e,hx,hy,hz,q⟩:=h
 obtain⟨as,ra⟩:=Dv.reads I d x v hx rx
 obtain⟨bs,rb⟩:=Dv.reads I e y u hy ry
 have hroom:X.A.units+min d.depth e.depth<cLine:=Nat.lt_of_le_of_lt (Nat.add_le_add_left hz _) hu))
local macro_rules|`(tactic|walk_at"33")=>`(tactic|obtain⟨x,H1,I1,r1,q1⟩:=zq)
local macro_rules|`(tactic|walk_at"34")=>`(tactic|(
 have hP:(bs.map Value.bool)[i]?=some v:=by simpa using hP
 rw[List.getElem?_map] at hP
 obtain⟨b,hb,rfl⟩:=Option.map_eq_some_iff.mp hP
 have hQ:Q ((bs[i]?).getD false) s:=hQ
 rw[hb] at hQ
 exact wpAny_pure hQ))
local macro_rules|`(tactic|walk_at"35")=>`(tactic|refine C1 ?_ ?_)
local macro_rules|`(tactic|walk_at"36")=>`(tactic|(
 rw[show its.toArray.any (eqU x)=its.any (eqU x) by simp,wx4 r fs]
 exact q))
local macro_rules|`(tactic|walk_at"37")=>`(tactic|(
 refine PySem.W.methodCall_KW (pl:=pl) (thn (he pins s σ H _ I h) fun u s1 zq=>?_) ht
 obtain⟨x,H1,I1,rx,a,dx,fs,ex,ea,l,q⟩:=zq
 subst ex
 obtain rfl:u=Value.ref a:=rx
 refine xn6 I1 ea c hm l ?_))
local macro_rules|`(tactic|walk_at"38")=>`(tactic|(
 have e:(decide ((V.str x)=V.str y))=decide (x=y):=by simp
 rw[e];exact h))
local macro_rules|`(tactic|walk_at"39")=>`(tactic|(
 lk
 refine⟨D5 (by z_go),fun d hd=>?_⟩
 lk))
theorem zAu(a:True:=by rfl)(b:True:=by decide)(c:0<1:=by walk_at "tk")(d:True:=by intro _;rfl)(e:True:=by first|exact .inl rfl|exact .inr rfl|assumption):True:=a
def zAr:Lean.Syntax:=zAu._auto_1
def zAd:Lean.Syntax:=zAu._auto_2
def zAt:Lean.Syntax:=zAu._auto_3
def zAi:Lean.Syntax:=zAu._auto_4
def zAf:Lean.Syntax:=zAu._auto_5
namespace PySem.W.Fast
theorem tw14425873325645238330:True:=⟨⟩
theorem tw4120350274541180266:True:=⟨⟩
theorem tw4507256504588934088:True:=⟨⟩
theorem tw17446210292679838965:True:=⟨⟩
theorem tw11344527930732769846:True:=⟨⟩
theorem tw2960155128094161533:True:=⟨⟩
theorem tw5763137411245779746:True:=⟨⟩
theorem tw15264628037603106745:True:=⟨⟩
theorem tw7308714524885627516:True:=⟨⟩
theorem tw9793364707071767760:True:=⟨⟩
theorem tw10383316308121946898:True:=⟨⟩
theorem tw13352836863005720133:True:=⟨⟩
theorem tw8990908172592518988:True:=⟨⟩
theorem tw9697867397894493245:True:=⟨⟩
theorem tw460262504918949642:True:=⟨⟩
theorem tw4988076588649555696:True:=⟨⟩
theorem tw4843407967829199781:True:=⟨⟩
theorem tw2223087295744225880:True:=⟨⟩
theorem tw6289147936733618152:True:=⟨⟩
theorem tw8246909356081332234:True:=⟨⟩
theorem tw11918385595776290473:True:=⟨⟩
theorem tw9638479994305099035:True:=⟨⟩
theorem tw12158237828215691138:True:=⟨⟩
theorem tw12525437573803295823:True:=⟨⟩
theorem tw11707655458506910343:True:=⟨⟩
theorem tw8414107738355322895:True:=⟨⟩
theorem tw299764761296269323:True:=⟨⟩
theorem tw15982913819157996490:True:=⟨⟩
theorem tw2550533844277393453:True:=⟨⟩
theorem tw10488796028634852034:True:=⟨⟩
theorem tw11879238414824903294:True:=⟨⟩
theorem tw2401188639061941333:True:=⟨⟩
theorem tw5938050381837113852:True:=⟨⟩
theorem tw12788514303261583484:True:=⟨⟩
theorem tw13186239999401456940:True:=⟨⟩
theorem tw8791119832958319162:True:=⟨⟩
theorem tw10731289172383564131:True:=⟨⟩
theorem tw5453346180275370450:True:=⟨⟩
theorem tw454953934228060364:True:=⟨⟩
theorem tw13163403816453768621:True:=⟨⟩
theorem tw10647341386943107132:True:=⟨⟩
theorem tw10206699480248884595:True:=⟨⟩
theorem tw5400502674532548375:True:=⟨⟩
theorem tw7495591397308217879:True:=⟨⟩
theorem tw3684544376208855078:True:=⟨⟩
theorem tw4202455621264239408:True:=⟨⟩
theorem tw3945431549360173757:True:=⟨⟩
theorem tw655535246659315265:True:=⟨⟩
theorem tw4590077098438270804:True:=⟨⟩
theorem tw497865832194836704:True:=⟨⟩
theorem tw10282900950557323263:True:=⟨⟩
theorem tw9714895404130657666:True:=⟨⟩
theorem tw16852122413768280169:True:=⟨⟩
theorem tw3286687898279534406:True:=⟨⟩
theorem tw13169873165231304007:True:=⟨⟩
theorem tw8715887865639613259:True:=⟨⟩
theorem tw4613160681321844045:True:=⟨⟩
theorem tw2645089120254027248:True:=⟨⟩
theorem tw9115793455985842434:True:=⟨⟩
theorem tw12692966337953140571:True:=⟨⟩
theorem tw15833612375684638817:True:=⟨⟩
theorem tw17741225697987759390:True:=⟨⟩
theorem tw2021787366968696445:True:=⟨⟩
theorem tw9583780436590791151:True:=⟨⟩
theorem tw14502209448958984286:True:=⟨⟩
theorem tw16574995229325782988:True:=⟨⟩
theorem tw7369377071866493294:True:=⟨⟩
theorem tw3227241612360310031:True:=⟨⟩
theorem tw1902622090339095801:True:=⟨⟩
theorem tw13059639694995304378:True:=⟨⟩
theorem tw1382297604341169866:True:=⟨⟩
theorem tw17112753537484735494:True:=⟨⟩
theorem tw13751016752511336108:True:=⟨⟩
theorem tw10569834940407432153:True:=⟨⟩
theorem tw15442726541958154677:True:=⟨⟩
theorem tw13512461344899967625:True:=⟨⟩
theorem tw4923139105172964733:True:=⟨⟩
theorem tw13465726599324683363:True:=⟨⟩
theorem tw8127908228186021090:True:=⟨⟩
theorem tw7280989362324651178:True:=⟨⟩
theorem tw16090385726277317654:True:=⟨⟩
theorem tw1803369593703870548:True:=⟨⟩
theorem tw42457361895159750:True:=⟨⟩
theorem tw9718476338779334573:True:=⟨⟩
theorem tw2879265797945711454:True:=⟨⟩
theorem tw14097562566617911029:True:=⟨⟩
theorem tw15356253505972688736:True:=⟨⟩
theorem tw4792641464016490410:True:=⟨⟩
theorem tw8895573620818289794:True:=⟨⟩
theorem tw8451350384780707807:True:=⟨⟩
theorem tw7367805574445491928:True:=⟨⟩
theorem tw11232021018927484121:True:=⟨⟩
theorem tw16263450722670216100:True:=⟨⟩
theorem tw7137243048968021093:True:=⟨⟩
theorem tw12082446513375146308:True:=⟨⟩
theorem tw13455336355057318116:True:=⟨⟩
theorem tw6335428829779203643:True:=⟨⟩
theorem tw13513017031121566758:True:=⟨⟩
theorem tw2467695102342430405:True:=⟨⟩
theorem tw9251875589627515794:True:=⟨⟩
theorem tw13602046925320764040:True:=⟨⟩
theorem tw11106266825747587856:True:=⟨⟩
theorem tw10598513960258931038:True:=⟨⟩
theorem tw14158967789383871516:True:=⟨⟩
theorem tw16150533702537265445:True:=⟨⟩
theorem tw6114149214653859034:True:=⟨⟩
theorem tw12782862320888583681:True:=⟨⟩
theorem tw9820102945152684071:True:=⟨⟩
theorem tw5990939333762182027:True:=⟨⟩
theorem tw6328964352887279090:True:=⟨⟩
theorem tw4768473070569092156:True:=⟨⟩
theorem tw3938478631904370166:True:=⟨⟩
theorem tw4855221917657545303:True:=⟨⟩
theorem tw14863328210593201046:True:=⟨⟩
theorem tw16000287586165471210:True:=⟨⟩
theorem tw2899055614818444208:True:=⟨⟩
theorem tw3226281909195399161:True:=⟨⟩
theorem tw2563884438560487355:True:=⟨⟩
theorem tw16526344005474585070:True:=⟨⟩
theorem tw14069428640894025194:True:=⟨⟩
theorem tw9259152930401434584:True:=⟨⟩
theorem tw13163960616314516050:True:=⟨⟩
theorem tw10638529083655440468:True:=⟨⟩
theorem tw6223046357963995147:True:=⟨⟩
theorem tw17289500661581849462:True:=⟨⟩
theorem tw12266494737341681830:True:=⟨⟩
theorem tw1083424945473425866:True:=⟨⟩
theorem tw10954542580450275933:True:=⟨⟩
theorem tw18103030405606918237:True:=⟨⟩
theorem tw2055285408257059542:True:=⟨⟩
theorem tw2754095581660535700:True:=⟨⟩
theorem tw5259235245165113908:True:=⟨⟩
theorem tw12086854208429676807:True:=⟨⟩
theorem tw5490504876138751838:True:=⟨⟩
theorem tw11767976278203247811:True:=⟨⟩
theorem tw10397106753726258692:True:=⟨⟩
theorem tw15011202867846573411:True:=⟨⟩
theorem tw10530138517711877541:True:=⟨⟩
theorem tw13560489692750583459:True:=⟨⟩
theorem tw6479412843679309803:True:=⟨⟩
theorem tw17379764214497958270:True:=⟨⟩
theorem tw13489408826148330383:True:=⟨⟩
theorem tw11611478515722092235:True:=⟨⟩
theorem tw625735211631611644:True:=⟨⟩
theorem tw1209172923659320656:True:=⟨⟩
theorem tw7295353207879139583:True:=⟨⟩
theorem tw9224572986853006530:True:=⟨⟩
theorem tw7228354738508878963:True:=⟨⟩
theorem tw14847526708966627219:True:=⟨⟩
theorem tw16021866127339213972:True:=⟨⟩
theorem tw15263947758407500526:True:=⟨⟩
theorem tw7189836179060056870:True:=⟨⟩
theorem tw17949191026031962564:True:=⟨⟩
theorem tw8620269743204942685:True:=⟨⟩
theorem tw14328655164217550016:True:=⟨⟩
theorem tw6692177909054363155:True:=⟨⟩
theorem tw2436051444374832998:True:=⟨⟩
theorem tw1573792748400118760:True:=⟨⟩
theorem tw5749106031925173625:True:=⟨⟩
theorem tw17907990509009835123:True:=⟨⟩
theorem tw13708126983737744704:True:=⟨⟩
theorem tw6919604461449282236:True:=⟨⟩
theorem tw18108201235612776651:True:=⟨⟩
theorem tw3308302550724942134:True:=⟨⟩
theorem tw394826830551035505:True:=⟨⟩
theorem tw12607661800494453186:True:=⟨⟩
theorem tw8241905959794880566:True:=⟨⟩
theorem tw7990562124056409135:True:=⟨⟩
theorem tw3003742580838003842:True:=⟨⟩
theorem tw6147025944142007727:True:=⟨⟩
theorem tw6035576406344580880:True:=⟨⟩
theorem tw15095718528944095855:True:=⟨⟩
theorem tw17375516227655702927:True:=⟨⟩
theorem tw5368560732357766629:True:=⟨⟩
theorem tw3339479653875058528:True:=⟨⟩
theorem tw3705277810739848159:True:=⟨⟩
theorem tw5802466834536160277:True:=⟨⟩
theorem tw12135052109031110536:True:=⟨⟩
theorem tw17959259037989415405:True:=⟨⟩
theorem tw18202643404059106930:True:=⟨⟩
theorem tw15496086918212610802:True:=⟨⟩
theorem tw8565259383589634500:True:=⟨⟩
theorem tw8571656971240634349:True:=⟨⟩
theorem tw8665293485377961124:True:=⟨⟩
theorem tw10965677972466117161:True:=⟨⟩
theorem tw3617523670983808832:True:=⟨⟩
theorem tw3455601778812480293:True:=⟨⟩
theorem tw5954195300199049308:True:=⟨⟩
theorem tw13631439236115793450:True:=⟨⟩
theorem tw13095717068542095013:True:=⟨⟩
theorem tw14391386231384535370:True:=⟨⟩
theorem tw3774554116811611180:True:=⟨⟩
end PySem.W.Fast
noncomputable section
abbrev Fg:=PySem.W.Frag
set_option maxRecDepth 100000
namespace L2
open PySem PySem.Spec PyProof.Rows
abbrev Key:=Sum Int Str
def xx9:Key->Value->Bool
 | .inl k,v=>Value.isInt k v
 | .inr x,v=>Value.isStrOf x v
def An9(w:World):Key->Int
 | .inl k=>hashInt k
 | .inr x=>hashStr w x
theorem S0:∀ {k:Key} {v:Value},xx9 k v=true->(∃ i t,k=Sum.inl i/\v=Value.int i t)\/(∃ x t,k=Sum.inr x/\v=Value.str x t)
 | .inl i,v,h=>by
   obtain⟨t,e⟩:=Value.isInt_shape (k:=i) (v:=v) h
   exact .inl ⟨i,t,rfl,e⟩
 | .inr x,v,h=>by
   obtain⟨t,e⟩:=Value.isStrOf_shape (x:=x) (v:=v) h
   exact .inr ⟨x,t,rfl,e⟩
theorem zb8(i:Int)(t:Tok):xx9 (.inl i) (.int i t)=true:=by simp[xx9,Value.isInt]
theorem zb9(x:Str)(t:Tok):xx9 (.inr x) (.str x t)=true:=by simp[xx9,Value.isStrOf]
theorem Ab8(a b:Int):decide ((Sum.inl a:Key)=Sum.inl b)=(a == b):=by
 by_cases e:a=b
 ·subst e;simp
 ·have h:¬(Sum.inl a:Key)=Sum.inl b:=fun q=>e (Sum.inl.inj q)
  rw[decide_eq_false h]
  exact(beq_eq_false_iff_ne.mpr e).symm
theorem Ab9(a b:Str):decide ((Sum.inr a:Key)=Sum.inr b)=decide (a=b):=by
 by_cases e:a=b
 ·subst e;simp
 ·have h:¬(Sum.inr a:Key)=Sum.inr b:=fun q=>e (Sum.inr.inj q)
  rw[decide_eq_false h,decide_eq_false e]
theorem Ac0(a:Int)(b:Str):decide ((Sum.inl a:Key)=Sum.inr b)=false:=decide_eq_false (fun q=>nomatch q)
theorem Ac1(a:Str)(b:Int):decide ((Sum.inr a:Key)=Sum.inl b)=false:=decide_eq_false (fun q=>nomatch q)
def S1(prog:Program)(w:World):PySem.KeyKind prog w Key where
 is:=xx9
 hash:=An9 w
 inj:=fun v a b ha hb=>by
  rcases S0 ha with⟨i,t,rfl,rfl⟩|⟨x,t,rfl,rfl⟩
  ·rcases S0 hb with⟨j,u,rfl,e⟩|⟨y,u,rfl,e⟩
   ·injection e with e1 _;rw[e1]
   ·exact nomatch e
  ·rcases S0 hb with⟨j,u,rfl,e⟩|⟨y,u,rfl,e⟩
   ·exact nomatch e
   ·injection e with e1 _;rw[e1]
 byValue:=fun k v h=>by
  rcases S0 h with⟨i,t,rfl,rfl⟩|⟨x,t,rfl,rfl⟩ <;> rfl
 pyHash:=fun hv h=>by
  rcases S0 hv with⟨i,t,rfl,rfl⟩|⟨x,t,rfl,rfl⟩
  ·exact wpAny_pyHash_int h
  ·exact wpAny_pyHash_str h
 eqBool:=fun hu hv h=>by
  rcases S0 hu with⟨i,t,rfl,rfl⟩|⟨x,t,rfl,rfl⟩
  ·rcases S0 hv with⟨j,u,rfl,rfl⟩|⟨y,u,rfl,rfl⟩
   ·rw[Ab8] at h;exact wpAny_eqBool_int h
   ·rw[Ac0] at h;exact SeqAt.EqAt.int_str i t y u _ _ _ _ h
  ·rcases S0 hv with⟨j,u,rfl,rfl⟩|⟨y,u,rfl,rfl⟩
   ·rw[Ac1] at h;exact SeqAt.EqAt.str_int x t j u _ _ _ _ h
   ·rw[Ab9] at h;exact wpAny_eqBool_str h
 «strs»:=fun k x t v h=>by
  rcases S0 h with⟨i,u,rfl,e⟩|⟨y,u,rfl,e⟩
  ·exact nomatch e
  ·injection e with e1 _
   subst e1
   cases v <;> rfl
theorem yj6(prog:Program)(w:World)(i:Int)(t:Tok):(S1 prog w).is (.inl i) (.int i t)=true:=zb8 i t
theorem yj7(prog:Program)(w:World)(x:Str)(t:Tok):(S1 prog w).is (.inr x) (.str x t)=true:=zb9 x t
inductive V where
 | non|bl (b:Bool)|int (i:Int)|str (x:Str)|byt (b:Array UInt8)|flt (b:UInt64)|ref (a:Addr)|ty (n:String)
 deriving DecidableEq
def E9:V->Value->Prop
 | .non,u=>u=Value.none
 | .bl b,u=>u=Value.bool b
 | .int i,u=>∃ t,u=Value.int i t
 | .str x,u=>∃ t,u=Value.str x t
 | .byt b,u=>∃ t,u=Value.bytes b t
 | .flt b,u=>∃ t,u=Value.float b t
 | .ref a,u=>u=Value.ref a
 | .ty n,u=>u=Value.type n
abbrev E6:List V->List Value->Prop:=Paired E9
variable{us:List Value}{xs:List V}
theorem E6.length(r:E6 xs us):xs.length=us.length:=Paired.length r
theorem E6.get:∀ {xs:List V} {us:List Value} {i:Nat} {x:V},E6 xs us->xs[i]?=some x->∃ u,us[i]?=some u/\E9 x u
 | _,_,_,_,.nil,e=>by simp at e
 | _,_,0,_,.cons r _,e=>by simp at e;subst e;exact⟨_,rfl,r⟩
 | _,_,i+1,x,.cons _ t,e=>by
   obtain⟨u,h1,h2⟩:=E6.get (i:=i) (x:=x) t (by simpa using e)
   exact⟨u,by simpa using h1,h2⟩
theorem E6.set{x:V}{u:Value}(r:E9 x u):∀ {xs:List V} {us:List Value} (i:Nat),E6 xs us->E6 (xs.set i x) (us.set i u)
 | _,_,_,.nil=>.nil
 | _,_,0,.cons _ t=>.cons r t
 | _,_,i+1,.cons q t=>.cons q (E6.set r i t)
theorem E6.append:∀ {xs ys:List V} {us ws:List Value},E6 xs us->E6 ys ws->E6 (xs++ys) (us++ws)
 | _,_,_,_,.nil,s=>s
 | _,_,_,_,.cons r t,s=>.cons r (E6.append t s)
theorem E6.take:∀ {xs:List V} {us:List Value} (n:Nat),E6 xs us->E6 (xs.take n) (us.take n)
 | _,_,0,_=>.nil
 | _,_,_+1,.nil=>.nil
 | _,_,n+1,.cons r t=>.cons r (E6.take n t)
theorem E6.drop:∀ {xs:List V} {us:List Value} (n:Nat),E6 xs us->E6 (xs.drop n) (us.drop n)
 | _,_,0,r=>r
 | _,_,_+1,.nil=>.nil
 | _,_,n+1,.cons _ t=>E6.drop n t
def wq8:Option V->Option Value->Prop
 | some v,some u=>E9 v u
 | none,none=>True
 | _,_=>False
def KV{κ:Type}:List (κ×V)->List (κ×Value)->Prop:=Paired fun(p:κ×V) (q:κ×Value)=>p.1=q.1/\E9 p.2 q.2
def kV:Key->V
 | .inl i=>.int i
 | .inr x=>.str x
set_option genInjectivity false in
inductive HO where
 /-- a list -/
 | lst (xs:List V)
 /-- a tuple (never changes) -/
 | tup (xs:List V)
 /-- a dict whose keys are ints and texts;one whose keys are tuples of ints and texts (the empty one is both) -/
 | dK (kvs:List (Key×V))|dT (kvs:List (List Key×V))
 /-- a set of ints: its members,its size -/
 | set (S:Int->Bool) (n:Nat)
 /-- an instance of the class at C,its dict at dx,its attributes -/
 | ins (C dx:Addr) (fs:List (Str×V))
 /-- the dict of the instance at x -/
 | own (x:Addr)
 /-- the dict of an exception -/
 | xd (fs:List (Str×V))
 /-- a bound method,f of x -/
 | met (f x:Addr)
 /-- a range object lo,lo+1,.. below hi -/
 | rng (lo hi:Int)
 /-- a thing that is known to the object (the script;a dict while a loop walks it): read,never written while it is so -/
 | frz (o:Obj) (u:HO)
 /-- a code object's table -/
 | tbl (ps:Array Value)
 /-- any other thing,by what is true of its one object (a def of one's own: SetO a S n:=HO.ext fun h=>..) -/
 | ext (φ:Heap->Prop)
abbrev Hp:=Addr->Option HO
def upd(H:Hp)(a:Addr)(o:HO):Hp:=fun b=>if b=a then some o else H b
variable{H:Hp}{a:Addr}
theorem A8{o:HO}:upd H a o a=some o:=by unfold upd;rw[if_pos rfl]
variable{b:Addr}
theorem B5{o:HO}(h:b≠a):upd H a o b=H b:=by unfold upd;rw[if_neg h]
theorem zr5{o u:HO}:upd (upd H a o) a u=upd H a u:=by
 funext b;unfold upd;split <;> rfl
theorem Aj1{o u:HO}(h:H a=some o)(h':H b=some u)(d:o≠u):a≠b:=by
 intro e;subst e;rw[h] at h';exact d (Option.some.inj h')
theorem V4{o:HO}(h:H a=some o)(h':H b=none):a≠b:=by
 intro e;subst e;rw[h] at h';cases h'
section
variable(P:Program)(w:World)
def U0(H:Hp)(h:Heap)(a:Addr):HO->Prop
 | .lst xs=>xs.length<=sizeLine/\∃ (its:List Value) (n:Nat),E6 xs its/\h.get? a=some {cls:=.type "list",data:=.seq its.toArray n}
 | .tup xs=>xs.length<=sizeLine/\∃ its:List Value,E6 xs its/\IsTup h a its.toArray
 | .dK kvs=>kvs.length<=sizeLine/\(a == sysModules)=false/\∃ vs,KV kvs vs/\h.DictOf (S1 P w) a vs
 | .dT kvs=>kvs.length<=sizeLine/\(a == sysModules)=false/\∃ xs:List (List Key×Addr×Value),
  Paired (fun(p:List Key×V) (q:List Key×Addr×Value)=>p.1=q.1/\H q.2.1=some (.tup (p.1.map kV))/\E9 p.2 q.2.2) kvs xs /\
  ∃ o es ep,h.get? a=some o/\o.ExactDict/\o.data=.dict es ep/\es.toList=xs.map (entryOfKey (tupleKind (S1 P w)))/\(xs.map (·.1)).Nodup
 | .set S n=>h.SetOf (intKind P w) a S n
 | .ins C dx fs=>H dx=some (.own a)/\fs.length<=1000/\dx≠a/\h.get? a=some (PySem.W.instObj C dx) /\
  ∃ mA,h.Ns1 dx mA/\(∀ f,wq8 (fs.lookup f) (mA f))/\PySem.Within mA (fs.map (·.1))
 | .own _=>∃ o,h.get? a=some o
 | .xd fs=>∃ mA,h.Ns1 a mA/\∀ f,wq8 (fs.lookup f) (mA f)
 | .rng lo hi=>∃ t u v,h.get? a=some {cls:=.type "range",data:=.fields #[.int lo t,.int hi u,.int 1 v]}
 | .frz o u=>h.get? a=some o/\U0 H h a u
 | .tbl ps=>h.get? a=some {cls:=.none,data:=.fields ps}
 | .met f x=>h.get? a=some (PySem.W.methodObj (.ref f) (.ref x))
 | .ext φ=>φ h/\(∃ o,h.get? a=some o)/\∀ h1 h2:Heap,φ h1->(∀ o,h1.get? a=some o->h2.get? a=some o)->φ h2
def HOk(H:Hp)(h:Heap):Prop:=∀ a o,H a=some o->U0 P w H h a o
end
variable{H':Hp}{P:Program}{h h':Heap}{w:World}
section
variable{o:HO}
theorem U0.lt(x:U0 P w H h a o):a<h.objs.size:=by
 cases o with
 | lst xs=>obtain⟨_,_,_,_,e⟩:=x;exact Heap.lt_size e
 | tup xs=>obtain⟨_,_,_,p⟩:=x;exact p.lt
 | dK kvs=>obtain⟨_,_,_,_,o,_,_,e,_⟩:=x;exact Heap.lt_size e
 | dT kvs=>obtain⟨_,_,_,_,o,_,_,e,_⟩:=x;exact Heap.lt_size e
 | set S n=>obtain⟨o,_,_,_,e,_⟩:=x;exact Heap.lt_size e
 | ins C dx fs=>obtain⟨_,_,_,e,_⟩:=x;exact Heap.lt_size e
 | own y=>obtain⟨_,e⟩:=x;exact Heap.lt_size e
 | xd fs=>obtain⟨_,⟨_,_,_,e,_⟩,_⟩:=x;exact Heap.lt_size e
 | rng lo hi=>obtain⟨_,_,_,e⟩:=x;exact Heap.lt_size e
 | frz ob u=>obtain⟨e,_⟩:=x;exact Heap.lt_size e
 | tbl ps=>exact Heap.lt_size (show h.get? a=some _ from x)
 | met f y=>exact Heap.lt_size (show h.get? a=some _ from x)
 | ext φ=>obtain⟨_,⟨_,e⟩,_⟩:=x;exact Heap.lt_size e
theorem Paired.mapP{α β:Type}{F G:α->β->Prop}:∀ {l₁:List α} {l₂:List β},Paired F l₁ l₂->(∀ a b,F a b->G a b)->Paired G l₁ l₂
 | _,_,.nil,_=>.nil
 | _,_,.cons r t,f=>.cons (f _ _ r) (Paired.mapP t f)
theorem U0.stay(x:U0 P w H h a o)(k:∀ b u,(b=a\/H b=some (.own a))->h.get? b=some u->h'.get? b=some u)(ho:∀ b,H b=some (.own a)->H' b=some (.own a))(ht:∀ b xs,H b=some (.tup xs)->H' b=some (.tup xs)):U0 P w H' h' a o:=by
 induction o with
 | lst xs=>obtain⟨z,its,n,r,e⟩:=x;exact⟨z,its,n,r,k _ _ (.inl rfl) e⟩
 | tup xs=>obtain⟨z,its,r,ob,e,c⟩:=x;exact⟨z,its,r,ob,k _ _ (.inl rfl) e,c⟩
 | dK kvs=>obtain⟨z,y,vs,r,ob,es,ep,e,c⟩:=x;exact⟨z,y,vs,r,ob,es,ep,k _ _ (.inl rfl) e,c⟩
 | dT kvs =>
   obtain⟨z,y,xs,r,ob,es,ep,e,c⟩:=x
   exact⟨z,y,xs,Paired.mapP r fun p q z=>⟨z.1,ht _ _ z.2.1,z.2.2⟩,ob,es,ep,k _ _ (.inl rfl) e,c⟩
 | set S n=>obtain⟨ob,es,ep,t,e,c⟩:=x;exact⟨ob,es,ep,t,k _ _ (.inl rfl) e,c⟩
 | ins C dx fs =>
   obtain⟨d,z,ne,e,mA,⟨od,es,ep,e2,c⟩,r⟩:=x
   exact⟨ho _ d,z,ne,k _ _ (.inl rfl) e,mA,⟨od,es,ep,k _ _ (.inr d) e2,c⟩,r⟩
 | own y=>obtain⟨ob,e⟩:=x;exact⟨ob,k _ _ (.inl rfl) e⟩
 | xd fs=>obtain⟨mA,⟨od,es,ep,e,c⟩,r⟩:=x;exact⟨mA,⟨od,es,ep,k _ _ (.inl rfl) e,c⟩,r⟩
 | rng lo hi=>obtain⟨t,u,v,e⟩:=x;exact⟨t,u,v,k _ _ (.inl rfl) e⟩
 | frz ob u ih=>obtain⟨e,q⟩:=x;exact⟨k _ _ (.inl rfl) e,ih q⟩
 | tbl ps =>
   have e:h.get? a=some {cls:=.none,data:=.fields ps}:=x
   show h'.get? a=some {cls:=.none,data:=.fields ps}
   exact k a _ (.inl rfl) e
 | met f y =>
   have e:h.get? a=some (PySem.W.methodObj (.ref f) (.ref y)):=x
   show h'.get? a=some (PySem.W.methodObj (.ref f) (.ref y))
   exact k a _ (.inl rfl) e
 | ext φ=>obtain⟨p,⟨o,e⟩,st⟩:=x;exact⟨st _ _ p fun o q=>k _ _ (.inl rfl) q,⟨o,k _ _ (.inl rfl) e⟩,st⟩
theorem HOk.lt(x:HOk P w H h)(e:H a=some o):a<h.objs.size:=(x a o e).lt
theorem HOk.fresh(x:HOk P w H h)(e:h.objs.size<=a):H a=none:=by
 cases q:H a with
 | none=>rfl
 | some u=>exact absurd (Nat.lt_of_lt_of_le (x.lt q) e) (Nat.lt_irrefl _)
theorem HOk.kept(x:HOk P w H h)(k:∀ b u,h.get? b=some u->h'.get? b=some u):HOk P w H h':=fun a o e =>
 (x a o e).stay (fun b u _ q=>k b u q) (fun _ q=>q) fun _ _ q=>q
theorem HOk.laid(x:HOk P w H h)(k:∀ b u,h.get? b=some u->h'.get? b=some u)(hp:h.objs.size<=a)(new:U0 P w (upd H a o) h' a o):HOk P w (upd H a o) h':=fun b u e=>by
 have hn:=x.fresh hp
 by_cases hb:b=a
 ·subst hb;rw[A8] at e;cases e;exact new
 ·rw[B5 hb] at e
  exact(x b u e).stay (fun c v _ q=>k c v q) (fun c q=>by rw[B5 (V4 q hn)];exact q) fun c xs q=>by rw[B5 (V4 q hn)];exact q
end
def Rd(H:Hp)(a:Addr)(u:HO):Prop:=H a=some u\/∃ o,H a=some (.frz o u)
theorem Rd.ok{u:HO}(r:Rd H a u)(x:HOk P w H h):U0 P w H h a u:=by
 rcases r with r|⟨o,r⟩
 ·exact x a u r
 ·obtain⟨_,q⟩:=x a _ r
  exact q
def Mut:Option HO->Prop
 | some (.lst _)=>True
 | some (.dK _)=>True
 | some (.dT _)=>True
 | some (.set _ _)=>True
 | some (.ins _ _ _)=>True
 | some (.ext _)=>True
 | some (.xd _)=>True
 | _=>False
section
variable{x e:Addr}{o':HO}
theorem HOk.write(ok:HOk P w H h)(mu:Mut (H x))(he:e=x\/H e=some (.own x))(k:∀ b u,b≠e->h.get? b=some u->h'.get? b=some u)(heo:∃ u,h'.get? e=some u)(new:U0 P w (upd H x o') h' x o'):HOk P w (upd H x o') h':=fun b u q=>by
 have nown:∀ c y,H c=some (.own y)->c≠x:=fun c y r z=>by subst z;rw[r] at mu;exact mu
 have ntup:∀ c xs,H c=some (.tup xs)->c≠x:=fun c xs r z=>by subst z;rw[r] at mu;exact mu
 by_cases hb:b=x
 ·subst hb;rw[A8] at q;cases q;exact new
 ·rw[B5 hb] at q
  by_cases hbe:b=e
  ·have q':H b=some (.own x):=by
    rcases he with z|z
    ·exact absurd (hbe.trans z) hb
    ·rw[hbe];exact z
   rw[q] at q';cases q'
   obtain⟨v,hv⟩:=heo
   exact⟨v,by rw[hbe];exact hv⟩
  ·refine(ok b u q).stay (fun c v hc r=>k c v ?_ r) (fun c r=>by rw[B5 (nown c b r)];exact r) fun c xs r=>by rw[B5 (ntup c xs r)];exact r
   rcases hc with rfl|hc
   ·exact hbe
   ·rintro rfl
    rcases he with z|z
    ·exact nown c b hc z
    ·rw[hc] at z;cases z;exact hb rfl
end
structure Un(fs ex:List Addr)(H H':Hp)(h h':Heap):Prop where
 keep:∀ b o,h.get? b=some o->H b=none->b∉fs->b∉ex->h'.get? b=some o
 slot:∀ b o,h.get? b=some o->H b=none->b∈fs->b∉ex->∃ sl,h'.get? b=some {o with slots:=sl}
 free:∀ b o,h.get? b=some o->H b=none->b∉ex->H' b=none
 there:∀ b o,h.get? b=some o->b∉ex->∃ o',h'.get? b=some o'
 tups:∀ b xs,H b=some (.tup xs)->H' b=some (.tup xs)
 frzs:∀ b o u,H b=some (.frz o u)->H' b=some (.frz o u)
 tbls:∀ b ps,H b=some (.tbl ps)->∃ more,H' b=some (.tbl (ps++more))
variable{H1 H2:Hp}
section
variable{fs fs' ex ex':List Addr}{h1 h2:Heap}{x e:Addr}{o:HO}
theorem Un.any(u:Un fs ex H H1 h h1){ob:Obj}(q:h.get? b=some ob)(n:H b=none)(hx:b∉ex):∃ sl,h1.get? b=some {ob with slots:=sl}:=by
 by_cases hb:b∈fs
 ·exact u.slot b ob q n hb hx
 ·exact⟨ob.slots,u.keep b ob q n hb hx⟩
theorem Un.kept(k:∀ b u,h.get? b=some u->h'.get? b=some u):Un fs ex H H h h' :=
 ⟨fun b ob q _ _ _=>k b ob q,fun b ob q _ _ _=>⟨ob.slots,k b ob q⟩,fun _ _ _ n _=>n,fun b ob q _=>⟨ob,k b ob q⟩,fun _ _ q=>q,fun _ _ _ q=>q,fun _ ps q=>⟨#[],by rw[q];simp⟩⟩
theorem Un.refl:Un fs ex H H h h:=Un.kept fun _ _ q=>q
theorem Un.laid(k:∀ b u,h.get? b=some u->h'.get? b=some u)(hp:h.objs.size<=a)(hn:H a=none):Un fs ex H (upd H a o) h h' where
 keep:=fun b u q _ _ _=>k b u q
 slot:=fun b u q _ _ _=>⟨u.slots,k b u q⟩
 free:=fun b u q n _=>by rw[B5 (Nat.ne_of_lt (Nat.lt_of_lt_of_le (Heap.lt_size q) hp))];exact n
 there:=fun b u q _=>⟨u,k b u q⟩
 tups:=fun b xs q=>by rw[B5 (V4 q hn)];exact q
 frzs:=fun b u xs q=>by rw[B5 (V4 q hn)];exact q
 tbls:=fun b ps q=>⟨#[],by rw[B5 (V4 q hn),q];simp⟩
theorem Un.write(mu:Mut (H x))(he:e=x\/H e=some (.own x))(k:∀ b u,b≠e->h.get? b=some u->h'.get? b=some u)(heo:∃ u,h'.get? e=some u):Un fs ex H (upd H x o) h h':=by
 have hx:∀ b,H b=none->b≠x:=fun b n z=>by subst z;rw[n] at mu;exact mu
 have hb:∀ b,H b=none->b≠e:=fun b n z=>by
  subst z
  rcases he with r|r
  ·exact hx b n r
  ·rw[n] at r;cases r
 have hm:∀ b u,H b=some u->¬Mut (some u)->b≠x:=fun b u q nm z=>by subst z;rw[q] at mu;exact nm mu
 refine⟨fun b u q n _ _=>k b u (hb b n) q,fun b u q n _ _=>⟨u.slots,k b u (hb b n) q⟩,fun b u q n _=>by rw[B5 (hx b n)];exact n,fun b u q _=>?_,
  fun b xs q=>by rw[B5 (hm b _ q fun z=>z)];exact q,fun b u xs q=>by rw[B5 (hm b _ q fun z=>z)];exact q,fun b ps q=>⟨#[],by rw[B5 (hm b _ q fun z=>z),q];simp⟩⟩
 by_cases hbe:b=e
 ·subst hbe;exact heo
 ·exact⟨u,k b u hbe q⟩
end
def trk(h:Heap)(H:Hp):List Addr:=(List.range h.objs.size).filter fun a=>(H a).isSome
def yc0(h:Heap)(H:Hp):Heap:=PySem.W.hideAll h (trk h H)
theorem zc0(h:Heap)(H:Hp):(yc0 h H).objs.size=h.objs.size:=PySem.W.hideAll_size _ _
theorem zg8{o:Obj}(e:h.get? b=some o)(n:H b=none):(yc0 h H).get? b=some o :=
 PySem.W.hideAll_get _ e fun hm=>by
  have q:(H b).isSome=true:=(mem_filter.mp hm).2
  rw[n] at q;simp at q
theorem zr6{o:Obj}(e:(yc0 h H).get? b=some o):h.get? b=some o/\H b=none:=by
 have e':h.get? b=some o:=PySem.W.of_hideAll (trk h H) e
 refine⟨e',?_⟩
 cases q:H b with
 | none=>rfl
 | some x =>
   have hm:b∈trk h H:=mem_filter.mpr ⟨mem_range.mpr (Heap.lt_size e'),by simp[q]⟩
   have z:(yc0 h H).get? b=none:=PySem.W.hideAll_none (trk h H) hm
   rw[z] at e;cases e
structure Mod(K:Fg)(mg:Str->Option Value)(base:Heap):Prop where
 kin:K.In base
 glob:base.Ns mainGlobals mg
 blt:∃ mb,base.Ns builtinsNs mb/\∀ x:Str,x ≠ "__name__"->mb x=bootBuiltins x
 nolimit:base.NoLimit
set_option genInjectivity false in
structure Cx where
 prog:Program
 w:World
 K:Fg
 mg:Str->Option Value
 base:Heap
 A:Around
 N:List Str
 s₀:Shared
 H₀:Hp
 env:Env
 outer:List Env
 stack:List Env
 ex:List Addr
 fn:Str->Bool
 calm:Bool
 pn:List (Addr×Obj)
 xe:Value->Shared->Prop
def frs(l:List Env):List Addr:=l.filterMap (·.frame)
abbrev Cx.fs(X:Cx):List Addr:=frs X.outer
def Vis(sc:Scope)(x:Str):Prop:=sc.names.lookup x=some .local\/sc.names.lookup x=some .cell\/sc.names.lookup x=some .free
def Loc(sc:Scope)(x:Str):Prop:=sc.names.lookup x=some .local\/sc.names.lookup x=some .cell
def Ao0(env:Env)(h:Heap)(m:Str->Option Value)(x:Str)(u:Value):Prop :=
 (env.kindOf x=some .local/\m x=some u)\/((env.kindOf x=some .cell\/env.kindOf x=some .free)/\∃ c,env.cells.lookup x=some c/\h.IsCell c (some u))
structure Cx.Ok(X:Cx):Prop where
 mod:Mod X.K X.mg X.base
 kind:X.env.scope.kind=.function
 glob:X.env.globals=mainGlobals
 blt:X.env.builtins=builtinsNs
 above:X.s₀.heap.objs.size<=X.env.locals
 inj:∀ x y c,X.env.cells.lookup x=some c->X.env.cells.lookup y=some c->x=y
 has:∀ x,(X.env.kindOf x=some .cell\/X.env.kindOf x=some .free)->∃ c,X.env.cells.lookup x=some c
 cab:∀ x c,X.fn x=true->X.env.cells.lookup x=some c->X.s₀.heap.objs.size<=c
 hd:X.calm=true->X.A.handled=none
 frames:X.A.frames=some X.stack
 stk:X.stack=X.outer\/(X.stack=X.env::X.outer/\X.env.frame=some X.env.locals)
 exf:∀ b∈X.ex,b≠X.env.locals/\∀ x c,X.env.cells.lookup x=some c->c≠b
 bs:∀ b o,X.base.get? b=some o->X.s₀.heap.get? b=some o/\X.H₀ b=none
 bsz:X.base.objs.size<=X.s₀.heap.objs.size
 noex:∀ b o,X.base.get? b=some o->b∉X.ex
 exfs:∀ b∈X.ex,b∉X.fs
 funs:X.s₀.heap.FunFrames X.base X.outer
 frf:∀ b∈X.fs,X.H₀ b=none
structure Inv(X:Cx)(pins:List (Addr×Obj))(σ:List (Option V))(H:Hp)(s:Shared):Prop where
 ok:X.Ok
 os:s.os=X.s₀.os
 bare:AllBare s.gens
 base:Un X.fs X.ex X.H₀ H X.s₀.heap s.heap
 loc:∃ m,s.heap.Ns X.env.locals m/\∀ (i:Nat) (x:Str) (v:V),X.N[i]?=some x->σ[i]?=some (some v)->Vis X.env.scope x->∃ u,E9 v u/\Ao0 X.env s.heap m x u
 cell:∀ x c,X.env.cells.lookup x=some c->∃ v,s.heap.IsCell c v
 free:H X.env.locals=none
 freeC:∀ x c,X.env.cells.lookup x=some c->H c=none
 pin:∀ p∈X.pn++pins,s.heap.get? p.1=some p.2/\H p.1=none/\p.1≠X.env.locals/\p.1∉X.fs/\∀ v,p.2.data≠.cell v
 hok:HOk X.prog X.w H s.heap
 len:σ.length=X.N.length
 tk:0<s.toks
variable{X:Cx}{pins:List (Addr×Obj)}{s:Shared}{d':Drawn}{g':Array GenState}{t':Nat}{it:Addr}{N:List Str}{x:Str}{A:Around}{E:Value->Shared->Prop}{M:Model}{u:Value}{v:V}
section
variable{σ:List (Option V)}
theorem Cx.Ok.nofr(ok:X.Ok){o:Obj}(e:X.base.get? b=some o):b∉X.fs:=fun hb=>by
 have:=(ok.funs.mem hb).1
 rw[e] at this;cases this
theorem Inv.bs(I:Inv X pins σ H s):∀ b o,X.base.get? b=some o->s.heap.get? b=some o/\H b=none:=fun b o e =>
 ⟨I.base.keep b o (I.ok.bs b o e).1 (I.ok.bs b o e).2 (I.ok.nofr e) (I.ok.noex b o e),I.base.free b o (I.ok.bs b o e).1 (I.ok.bs b o e).2 (I.ok.noex b o e)⟩
theorem Inv.bk(I:Inv X pins σ H s):∀ b o,X.base.get? b=some o->s.heap.get? b=some o:=fun b o e=>(I.bs b o e).1
theorem Inv.mod(I:Inv X pins σ H s):Mod X.K X.mg X.base:=I.ok.mod
theorem Inv.kIn(I:Inv X pins σ H s):X.K.In s.heap:=I.ok.mod.kin.keeps I.bk
theorem Inv.lt(I:Inv X pins σ H s):X.env.locals<s.heap.objs.size:=let ⟨_,hn,_⟩:=I.loc;hn.lt
theorem Inv.sz(I:Inv X pins σ H s):X.s₀.heap.objs.size<=s.heap.objs.size:=Nat.le_trans I.ok.above (Nat.le_of_lt I.lt)
theorem Inv.nofs(I:Inv X pins σ H s)(h:s.heap.objs.size<=a):a∉X.fs:=fun hb=>by
 obtain⟨_,o,ho,_⟩:=I.ok.funs.mem hb
 exact absurd (Nat.lt_of_lt_of_le (Heap.lt_size ho) (Nat.le_trans I.sz h)) (Nat.lt_irrefl _)
theorem Inv.cne(I:Inv X pins σ H s):∀ x c,X.env.cells.lookup x=some c->c≠X.env.locals:=fun x c e z=>by
 obtain⟨v,o,ho,hd⟩:=I.cell x c e
 obtain⟨m,⟨o',es,ep,ho',hd',_⟩,_⟩:=I.loc
 rw[z,ho'] at ho;cases ho;rw[hd'] at hd;cases hd
theorem Inv.funs(I:Inv X pins σ H s):s.heap.FunFrames X.base X.outer:=by
 have all:∀ (l:List Env),(∀ b∈frs l,b∈X.fs)->X.s₀.heap.FunFrames X.base l->s.heap.FunFrames X.base l:=by
  intro l
  induction l with
  | nil=>intro _ _;trivial
  | cons env r ih =>
    intro hs hl
    obtain⟨hk,⟨L,o,hf,hn,ho,hd⟩,hr⟩:=hl
    have hL:L∈X.fs:=hs L (by unfold frs;rw[filterMap_cons,hf];exact mem_cons_self)
    obtain⟨sl,e⟩:=I.base.slot L o ho (I.ok.frf L hL) hL fun z=>I.ok.exfs L z hL
    exact⟨hk,⟨L,_,hf,hn,e,hd⟩,ih (fun b hb=>hs b (by unfold frs;rw[filterMap_cons,hf];exact mem_cons_of_mem _ hb)) hr⟩
 exact all X.outer (fun _ hb=>hb) I.ok.funs
theorem Inv.stack(I:Inv X pins σ H s):s.heap.FunFrames X.base X.stack:=by
 rcases I.ok.stk with e|⟨e,hf⟩
 ·rw[e];exact I.funs
 ·rw[e]
  obtain⟨m,hn,_⟩:=I.loc
  refine .cons (by rw[I.ok.kind];decide) hf hn ?_ I.funs
  exact Heap.get?_none_of_le (Nat.le_trans I.ok.bsz I.ok.above)
theorem Inv.stkSub(I:Inv X pins σ H s):∀ b∈frs X.stack,b∈X.env.locals::X.fs:=fun b hb=>by
 rcases I.ok.stk with e|⟨e,hf⟩
 ·rw[e] at hb;exact mem_cons_of_mem _ hb
 ·rw[e] at hb
  unfold frs at hb
  rw[filterMap_cons,hf] at hb
  exact hb
theorem Inv.stkFree(I:Inv X pins σ H s):∀ b∈frs X.stack,H b=none:=fun b hb=>by
 rcases mem_cons.mp (I.stkSub b hb) with e|hb
 ·rw[e];exact I.free
 ·obtain⟨_,o,ho,_⟩:=I.ok.funs.mem hb
  exact I.base.free b o ho (I.ok.frf b hb) fun z=>I.ok.exfs b z hb
theorem Inv.step{ch:List Addr}(I:Inv X pins σ H s)(hch:∀ b∈ch,(b∈X.ex\/X.s₀.heap.objs.size<=b)/\b≠X.env.locals/\(∀ x c,X.env.cells.lookup x=some c->c≠b)/\∀ p∈X.pn++pins,p.1≠b)(keep:∀ b o,b≠X.env.locals->b∉X.fs->b∉ch->s.heap.get? b=some o->H b=none->h'.get? b=some o)(slot:∀ b o,b≠X.env.locals->b∈X.fs->b∉ch->s.heap.get? b=some o->H b=none->∃ sl,h'.get? b=some {o with slots:=sl})(free:∀ b o,b∉ch->s.heap.get? b=some o->H b=none->H' b=none)(there:∀ b o,b∉ch->s.heap.get? b=some o->∃ o',h'.get? b=some o')(tups:∀ b xs,H b=some (.tup xs)->H' b=some (.tup xs))(frzs:∀ b o u,H b=some (.frz o u)->H' b=some (.frz o u))(tbls:∀ b ps,H b=some (.tbl ps)->∃ more,H' b=some (.tbl (ps++more)))(ns:∀ m,s.heap.Ns X.env.locals m->h'.Ns X.env.locals m)(hok:HOk X.prog X.w H' h')(hg:AllBare g')(ht:autoParam (0<t') zAt) :
 Inv X pins σ H' {s with heap:=h',gens:=g',drawn:=d',toks:=t'}:=by
 have neL:∀ b o,X.s₀.heap.get? b=some o->b≠X.env.locals:=fun b o e=>Nat.ne_of_lt (Nat.lt_of_lt_of_le (Heap.lt_size e) I.ok.above)
 have neC:∀ b o,X.s₀.heap.get? b=some o->b∉X.ex->b∉ch:=fun b o e hx hb=>by
  rcases(hch b hb).1 with z|z
  ·exact hx z
  ·exact absurd (Nat.lt_of_lt_of_le (Heap.lt_size e) z) (Nat.lt_irrefl _)
 have cellK:∀ x c,X.env.cells.lookup x=some c->∀ v,s.heap.IsCell c v->h'.IsCell c v:=fun x c e v ⟨o,ho,hd⟩=>by
  have nch:c∉ch:=fun z=>(hch c z).2.2.1 x c e rfl
  by_cases hc:c∈X.fs
  ·obtain⟨sl,q⟩:=slot c o (I.cne x c e) hc nch ho (I.freeC x c e)
   exact⟨_,q,hd⟩
  ·exact⟨o,keep c o (I.cne x c e) hc nch ho (I.freeC x c e),hd⟩
 refine⟨I.ok,I.os,hg,⟨fun b o e n hb hx=>?_,fun b o e n hb hx=>?_,fun b o e n hx=>?_,fun b o e hx=>?_,fun b xs e=>tups b xs (I.base.tups b xs e),fun b o xs e=>frzs b o xs (I.base.frzs b o xs e),fun b ps e=>?_⟩,?_,fun x c e=>?_,?_,fun x c e=>?_,fun p hp=>?_,hok,I.len,ht⟩
 ·exact keep b o (neL b o e) hb (neC b o e hx) (I.base.keep b o e n hb hx) (I.base.free b o e n hx)
 ·obtain⟨sl,e1⟩:=I.base.slot b o e n hb hx
  obtain⟨sl',e2⟩:=slot b _ (neL b o e) hb (neC b o e hx) e1 (I.base.free b o e n hx)
  exact⟨sl',e2⟩
 ·obtain⟨o',e1⟩:=I.base.there b o e hx
  exact free b o' (neC b o e hx) e1 (I.base.free b o e n hx)
 ·obtain⟨o',e1⟩:=I.base.there b o e hx
  exact there b o' (neC b o e hx) e1
 ·obtain⟨m1,e1⟩:=I.base.tbls b ps e
  obtain⟨m2,e2⟩:=tbls b _ e1
  exact⟨m1++m2,by rw[e2,Array.append_assoc]⟩
 ·obtain⟨m,hn,hl⟩:=I.loc
  refine⟨m,ns m hn,fun i x v e1 e2 e3=>?_⟩
  obtain⟨u,r,l⟩:=hl i x v e1 e2 e3
  refine⟨u,r,?_⟩
  rcases l with l|⟨k,c,e,z⟩
  ·exact .inl l
  ·exact .inr ⟨k,c,e,cellK x c e _ z⟩
 ·obtain⟨v,z⟩:=I.cell x c e
  exact⟨v,cellK x c e v z⟩
 ·obtain⟨m,⟨o,_,_,ho,_⟩,_⟩:=I.loc
  exact free _ o (fun z=>(hch _ z).2.1 rfl) ho I.free
 ·obtain⟨v,o,ho,hd⟩:=I.cell x c e
  exact free c o (fun z=>(hch c z).2.2.1 x c e rfl) ho (I.freeC x c e)
 ·obtain⟨e,n,ne,nf,d⟩:=I.pin p hp
  have nch:p.1∉ch:=fun z=>(hch p.1 z).2.2.2 p hp rfl
  exact⟨keep p.1 p.2 ne nf nch e n,free p.1 p.2 nch e n,ne,nf,d⟩
theorem Inv.un(I:Inv X pins σ H s)(u:Un X.fs [] H H' s.heap h')(hok:HOk X.prog X.w H' h')(ht:autoParam (0<t') zAt):Inv X pins σ H' {s with heap:=h',toks:=t'}:=by
 obtain⟨m,⟨o,es,ep,ho,r⟩,_⟩:=id I.loc
 obtain⟨sl,hL⟩:=u.any ho I.free (by simp)
 exact I.step (g':=s.gens) (d':=s.drawn) (ch:=[]) (fun _ z=>nomatch z) (fun b o _ hb _ e n=>u.keep b o e n hb (by simp)) (fun b o _ hb _ e n=>u.slot b o e n hb (by simp)) (fun b o _ e n=>u.free b o e n (by simp)) (fun b o _ e=>u.there b o e (by simp)) u.tups u.frzs u.tbls (fun m' hm=>by
  obtain⟨o',es',ep',ho',r'⟩:=hm
  rw[ho] at ho';cases ho'
  exact⟨_,es',ep',hL,r'⟩) hok I.bare
theorem Inv.call{ch:List Addr}(I:Inv X pins σ H s)(u:Un (frs X.stack) ch H H' s.heap h')(hok:HOk X.prog X.w H' h')(hg:AllBare g')(hch:∀ b∈ch,(b∈X.ex\/X.s₀.heap.objs.size<=b)/\b≠X.env.locals/\(∀ x c,X.env.cells.lookup x=some c->c≠b)/\∀ p∈X.pn++pins,p.1≠b)(ht:autoParam (0<t') zAt) :
 Inv X pins σ H' {s with heap:=h',gens:=g',drawn:=d',toks:=t'}:=by
 obtain⟨m,⟨o,es,ep,ho,r⟩,_⟩:=id I.loc
 obtain⟨sl,hL⟩:=u.any ho I.free fun z=>(hch _ z).2.1 rfl
 exact I.step (ch:=ch) hch (fun b o hL hb hc e n=>u.keep b o e n (fun z=>(mem_cons.mp (I.stkSub b z)).elim hL hb) hc) (fun b o _ _ hc e n=>u.any e n hc) (fun b o hc e n=>u.free b o e n hc) (fun b o hc e=>u.there b o e hc) u.tups u.frzs u.tbls (fun m' hm=>by
  obtain⟨o',es',ep',ho',r'⟩:=hm
  rw[ho] at ho';cases ho'
  exact⟨_,es',ep',hL,r'⟩) hok hg
theorem Inv.turned(I:Inv X pins σ H s)(k:∀ b o,b≠it->s.heap.get? b=some o->h'.get? b=some o)(hn:H it=none)(hL:it≠X.env.locals)(h1:it∈X.ex\/X.s₀.heap.objs.size<=it)(h2:∀ x c,X.env.cells.lookup x=some c->c≠it)(h3:∀ p∈X.pn++pins,p.1≠it)(ht:autoParam (0<t') zAt):Inv X pins σ H {s with heap:=h',toks:=t'}:=by
 have nit:∀ b u,H b=some u->b≠it:=fun b u e z=>by rw[z,hn] at e;cases e
 refine I.step (g':=s.gens) (d':=s.drawn) (ch:=[it]) (fun b hb=>?_) (fun b o _ _ hc e _=>k b o (fun z=>hc (by simp[z])) e) (fun b o _ _ hc e _=>⟨o.slots,k b o (fun z=>hc (by simp[z])) e⟩) (fun _ _ _ _ n=>n)
  (fun b o hc e=>⟨o,k b o (fun z=>hc (by simp[z])) e⟩) (fun _ _ e=>e) (fun _ _ _ e=>e) (fun b ps e=>⟨#[],by rw[e];simp⟩) (fun m hm=>?_) (fun b u e=>?_) I.bare
 ·have e:b=it:=by simpa using hb
  subst e
  exact⟨h1,hL,h2,h3⟩
 ·obtain⟨o,es,ep,ho,r⟩:=hm
  exact⟨o,es,ep,k _ o (Ne.symm hL) ho,r⟩
 ·refine(I.hok b u e).stay (fun c v hc q=>k c v ?_ q) (fun _ q=>q) fun _ _ q=>q
  rcases hc with z|z
  ·rw[z];exact nit b u e
  ·exact nit c _ z
theorem Inv.tok(I:Inv X pins σ H s)(t':Nat)(ht:autoParam (0<t') zAt):Inv X pins σ H {s with toks:=t'}:=I.un (h':=s.heap) (t':=t') Un.refl I.hok
theorem Inv.kept(I:Inv X pins σ H s)(k:∀ b u,s.heap.get? b=some u->h'.get? b=some u)(ht:autoParam (0<t') zAt):Inv X pins σ H {s with heap:=h',toks:=t'}:=I.un (Un.kept k) (I.hok.kept k)
theorem Inv.laid{o:HO}(I:Inv X pins σ H s)(k:∀ b u,s.heap.get? b=some u->h'.get? b=some u)(hp:s.heap.objs.size<=a)(new:U0 X.prog X.w (upd H a o) h' a o)(ht:autoParam (0<t') zAt) :
 Inv X pins σ (upd H a o) {s with heap:=h',toks:=t'}:=I.un (Un.laid k hp (I.hok.fresh hp)) (I.hok.laid k hp new)
theorem Inv.write{x e:Addr}{o:HO}(I:Inv X pins σ H s)(mu:Mut (H x))(he:e=x\/H e=some (.own x))(k:∀ b u,b≠e->s.heap.get? b=some u->h'.get? b=some u)(heo:∃ u,h'.get? e=some u)(new:U0 X.prog X.w (upd H x o) h' x o)(ht:autoParam (0<t') zAt):Inv X pins σ (upd H x o) {s with heap:=h',toks:=t'}:=I.un (Un.write mu he k heo) (I.hok.write mu he k heo new)
theorem Inv.weak{σ':List (Option V)}(I:Inv X pins σ H s)(hl:σ'.length=σ.length)(w:∀ (i:Nat) v,σ'[i]?=some (some v)->σ[i]?=some (some v)):Inv X pins σ' H s :=
 ⟨I.ok,I.os,I.bare,I.base,let ⟨m,hn,hl'⟩:=I.loc;⟨m,hn,fun i x v e1 e2 e3=>hl' i x v e1 (w i v e2) e3⟩,I.cell,I.free,I.freeC,I.pin,I.hok,hl.trans I.len,I.tk⟩
theorem Inv.pins_of{pins':List (Addr×Obj)}(I:Inv X pins σ H s)(h:∀ p∈pins',s.heap.get? p.1=some p.2/\H p.1=none/\p.1≠X.env.locals/\p.1∉X.fs/\∀ v,p.2.data≠.cell v):Inv X pins' σ H s :=
 ⟨I.ok,I.os,I.bare,I.base,I.loc,I.cell,I.free,I.freeC,fun p hp=>(mem_append.mp hp).elim (fun z=>I.pin p (mem_append_left _ z)) (h p),I.hok,I.len,I.tk⟩
theorem yj8(hN:N.Nodup){i j:Nat}(a:N[i]?=some x)(b:N[j]?=some x):i=j:=by
 obtain⟨h1,e1⟩:=List.getElem?_eq_some_iff.mp a
 obtain⟨h2,e2⟩:=List.getElem?_eq_some_iff.mp b
 exact(List.getElem_inj hN).mp (e1.trans e2.symm)
theorem xy0{i:Nat}{Q:Unit->Shared->Prop}(I:Inv X pins σ H s)(hN:X.N.Nodup)(hi:X.N[i]?=some x)(hx:Loc X.env.scope x)(r:E9 v u)(h:∀ s',Inv X pins (σ.set i (some v)) H s'->(∃ a,Heap.SameBut a s.heap s'.heap/\(a=X.env.locals\/X.env.cells.lookup x=some a))->Q () s')(hf:autoParam (X.fn x=true\/X.env.scope.names.lookup x=some .local) zAf):wpAny M A (storeName X.env x u) Q E s:=by
 obtain⟨m,hn,hl⟩:=id I.loc
 have hcls:(X.env.scope.kind == .class || (X.env.scope.kind == .module && X.env.locals != X.env.globals))=false:=by rw[I.ok.kind];rfl
 have hiσ:i<σ.length:=by rw[I.len];exact(List.getElem?_eq_some_iff.mp hi).1
 have cne:=I.cne
 have tracked:∀ {a:Addr} {h':Heap},(∃ o,s.heap.get? a=some o/\H a=none)->Heap.SameBut a s.heap h'->HOk X.prog X.w H h':=fun{a h'} ha hs b ob e=>by
  obtain⟨_,_,hfree⟩:=ha
  refine(I.hok b ob e).stay (fun c w' hc q=>(hs.2 c ?_).trans q) (fun _ q=>q) fun _ _ q=>q
  rintro rfl
  rcases hc with rfl|hc
  ·rw[hfree] at e;cases e
  ·rw[hfree] at hc;cases hc
 rcases hx with hk|hk
 ·refine wpAny_storeName_local hk hn (fun h' hn' hs=>?_) hcls
  obtain⟨oL,_,_,hoL,_⟩:=id hn
  refine h _ ⟨I.ok,I.os,I.bare,⟨fun b o e n hb hx=>?_,fun b o e n hb hx=>?_,I.base.free,fun b o e hx=>?_,I.base.tups,I.base.frzs,I.base.tbls⟩,⟨_,hn',fun j y v' e1 e2 e3=>?_⟩,fun y c e=>?_,I.free,I.freeC,fun p hp=>?_,tracked ⟨oL,hoL,I.free⟩ hs,by simpa using I.len,by first|exact I.tk|exact Nat.succ_pos _⟩ ⟨_,hs,.inl rfl⟩
  ·exact(hs.2 b #[27,I.ok.above]).trans (I.base.keep b o e n hb hx)
  ·obtain⟨sl,e1⟩:=I.base.slot b o e n hb hx
   exact⟨sl,(hs.2 b #[27,I.ok.above]).trans e1⟩
  ·obtain⟨o',e1⟩:=I.base.there b o e hx
   exact⟨o',(hs.2 b #[27,I.ok.above]).trans e1⟩
  ·by_cases hj:j=i
   ·subst hj
    rw[hi] at e1;cases e1
    rw[List.getElem?_set_self hiσ] at e2
    cases e2
    exact⟨u,r,.inl ⟨hk,by simp⟩⟩
   ·rw[List.getElem?_set_ne (Ne.symm hj)] at e2
    obtain⟨u',r',q⟩:=hl j y v' e1 e2 e3
    refine⟨u',r',?_⟩
    rcases q with⟨k,e⟩|⟨k,c,e,z⟩
    ·refine .inl ⟨k,?_⟩
     have:y≠x:=fun e=>hj (yj8 hN e1 (e▸hi))
     simp[this,e]
    ·exact .inr ⟨k,c,e,z.sameBut hs (cne y c e)⟩
  ·obtain⟨w',z⟩:=I.cell y c e
   exact⟨w',z.sameBut hs (cne y c e)⟩
  ·obtain⟨e,n,ne,nf,d⟩:=I.pin p hp
   exact⟨(hs.2 p.1 ne).trans e,n,ne,nf,d⟩
 ·have hfn:X.fn x=true:=by
   rcases hf with z|z
   ·exact z
   ·rw[z] at hk;cases hk
  obtain⟨c,hc⟩:=I.ok.has x (.inl hk)
  obtain⟨w',z⟩:=I.cell x c hc
  refine wpAny_storeName_cell I.ok.kind hk hc z (fun h' hc' hs=>?_)
  obtain⟨oc,hoc,hocd⟩:=id z
  refine h {s with heap:=h'} ⟨I.ok,I.os,I.bare,⟨fun b o e n hb hx=>?_,fun b o e n hb hx=>?_,I.base.free,fun b o e hx=>?_,I.base.tups,I.base.frzs,I.base.tbls⟩,⟨m,hn.sameBut hs (Ne.symm (cne x c hc)),fun j y v' e1 e2 e3=>?_⟩,fun y c' e=>?_,I.free,I.freeC,fun p hp=>?_,tracked ⟨oc,hoc,I.freeC x c hc⟩ hs,by simpa using I.len,by first|exact I.tk|exact Nat.succ_pos _⟩ ⟨c,hs,.inr hc⟩
  ·exact(hs.2 b #[27,I.ok.cab x c hfn hc]).trans (I.base.keep b o e n hb hx)
  ·obtain⟨sl,e1⟩:=I.base.slot b o e n hb hx
   exact⟨sl,(hs.2 b #[27,I.ok.cab x c hfn hc]).trans e1⟩
  ·obtain⟨o',e1⟩:=I.base.there b o e hx
   exact⟨o',(hs.2 b #[27,I.ok.cab x c hfn hc]).trans e1⟩
  ·by_cases hj:j=i
   ·subst hj
    rw[hi] at e1;cases e1
    rw[List.getElem?_set_self hiσ] at e2
    cases e2
    exact⟨u,r,.inr ⟨.inl hk,c,hc,hc'⟩⟩
   ·rw[List.getElem?_set_ne (Ne.symm hj)] at e2
    obtain⟨u',r',q⟩:=hl j y v' e1 e2 e3
    refine⟨u',r',?_⟩
    rcases q with q|⟨k,c',e,z'⟩
    ·exact .inl q
    ·refine .inr ⟨k,c',e,z'.sameBut hs ?_⟩
     rintro rfl
     exact hj (yj8 hN e1 (I.ok.inj _ _ _ e hc▸hi))
  ·by_cases hcc:c'=c
   ·subst hcc;exact⟨_,hc'⟩
   ·obtain⟨w2,z2⟩:=I.cell y c' e
    exact⟨w2,z2.sameBut hs hcc⟩
  ·obtain⟨e,n,ne,nf,d⟩:=I.pin p hp
   refine⟨(hs.2 p.1 ?_).trans e,n,ne,nf,d⟩
   intro q
   rw[q,hoc] at e
   have q':oc=p.2:=Option.some.inj e
   exact d w' (by rw[<-q'];exact hocd)
theorem yj9{i:Nat}{Q:Unit->Shared->Prop}(I:Inv X pins σ H s)(hN:X.N.Nodup)(hi:X.N[i]?=some x)(hx:Loc X.env.scope x)(r:E9 v u)(h:∀ s',Inv X pins (σ.set i (some v)) H s'->Q () s')(hf:autoParam (X.fn x=true\/X.env.scope.names.lookup x=some .local) zAf):wpAny M A (storeName X.env x u) Q E s :=
 xy0 I hN hi hx r (fun s' I' _=>h s' I') hf
end
abbrev XK:=Value->Option Addr->Hp->Prop
abbrev St:=List (Option V)
abbrev VK:=V->Hp->Prop
abbrev TE:=St->Hp->VK->Prop
abbrev TT:=St->Hp->(Bool->Hp->Prop)->Prop
abbrev TA:=St->Hp->(List V->Hp->Prop)->Prop
set_option genInjectivity false in
structure V5 where
 nx:St->Hp->Prop
 rt:VK
 bk:St->Hp->Prop:=fun _ _=>False
 ct:St->Hp->Prop:=fun _ _=>False
abbrev TS:=V5->St->Hp->Prop
def EP(X:Cx)(pins:List (Addr×Obj))(σ:St)(Q:VK)(u:Value)(s':Shared):Prop:=∃ v H',Inv X pins σ H' s'/\E9 v u/\Q v H'
def TP(X:Cx)(pins:List (Addr×Obj))(σ:St)(Q:Bool->Hp->Prop)(b:Bool)(s':Shared):Prop:=∃ H',Inv X pins σ H' s'/\Q b H'
def AP(X:Cx)(pins:List (Addr×Obj))(σ:St)(Q:List V->Hp->Prop)(us:List Value)(s':Shared):Prop:=∃ vs H',Inv X pins σ H' s'/\E6 vs us/\Q vs H'
def SP(X:Cx)(pins:List (Addr×Obj))(D:V5)(f:Flow)(s':Shared):Prop :=
 match f with
 | .next=>∃ σ' H',Inv X pins σ' H' s'/\D.nx σ' H'
 | .brk=>∃ σ' H',Inv X pins σ' H' s'/\D.bk σ' H'
 | .cont=>∃ σ' H',Inv X pins σ' H' s'/\D.ct σ' H'
 | .ret u=>∃ v σ' H',Inv X pins σ' H' s'/\E9 v u/\D.rt v H'
def PE(X:Cx)(e:Expr)(t:TE):Prop :=
 ∀ (pins:List (Addr×Obj)) (s:Shared) (σ:St) (H:Hp) (Q:VK),Inv X pins σ H s->t σ H Q->wpAny #[9] X.A (eval e X.env) (EP X pins σ Q) X.xe s
def PT(X:Cx)(e:Expr)(t:TT):Prop :=
 ∀ (pins:List (Addr×Obj)) (s:Shared) (σ:St) (H:Hp) (Q:Bool->Hp->Prop),Inv X pins σ H s->t σ H Q->wpAny #[9] X.A (isTrue e X.env (eval e X.env)) (TP X pins σ Q) X.xe s
def PW(X:Cx)(e:Expr)(t:TT):Prop :=
 ∀ (whole:Sem Value) (pins:List (Addr×Obj)) (s:Shared) (σ:St) (H:Hp) (Q:Bool->Hp->Prop),Inv X pins σ H s->t σ H Q->wpAny #[9] X.A (isTrue e X.env whole) (TP X pins σ Q) X.xe s
variable{e:Expr}
theorem PW.pt{t:TT}(h:PW X e t):PT X e t:=h _
def PA(X:Cx)(es:List Expr)(t:TA):Prop :=
 ∀ (pos:Pos) (pins:List (Addr×Obj)) (s:Shared) (σ:St) (H:Hp) (Q:List V->Hp->Prop),Inv X pins σ H s->t σ H Q->wpAny #[9] X.A (spliced (backTo pos (starEach es X.env))) (AP X pins σ Q) X.xe s
def PS(X:Cx)(st:Stmt)(t:TS):Prop :=
 ∀ (pins:List (Addr×Obj)) (s:Shared) (σ:St) (H:Hp) (D:V5),Inv X pins σ H s->t D σ H->wpAny #[9] X.A (exec st X.env) (SP X pins D) X.xe s
def PSs(X:Cx)(st:List Stmt)(t:TS):Prop :=
 ∀ (pins:List (Addr×Obj)) (s:Shared) (σ:St) (H:Hp) (D:V5),Inv X pins σ H s->t D σ H->wpAny #[9] X.A (execs st X.env) (SP X pins D) X.xe s
variable{α:Type}
theorem thn{t:Sem α}{Q Q':α->Shared->Prop}(h:wpAny M A t Q E s)(hQ:∀ a s,Q a s->Q' a s):wpAny M A t Q' E s:=wpAny_mono h hQ fun _ _ x=>x
variable{pos:Pos}{Q:Value->Shared->Prop}{σ:St}{ta:TE}{c:Expr}
section
def A7(i:Nat):TE:=fun σ H Q=>∃ v,σ[i]?=some (some v)/\Q v H
def tC(v:V):TE:=fun _ H Q=>Q v H
theorem Ac2{i:Nat}(hN:X.N[i]?=some x)(hv:Vis X.env.scope x)(hd:autoParam #[35] zAd)(hcd:autoParam ((x == ("__classdict__":Str))=false) zAd):PE X (.Name x pos) (A7 i):=by
 walk_at"18"
 obtain⟨v,e,h⟩:=h
 obtain⟨m,hn,hl⟩:=I.loc
 obtain⟨u,r,l⟩:=hl i x v hN e hv
 have fin:EP X pins σ Q u s:=⟨v,H,I,r,h⟩
 rcases l with⟨hk,hm⟩|⟨hk,c,hc,hcell⟩
 ·exact wpAny_Name (wpAny_loadName_local I.ok.kind hk hn hm fin) hd
 ·rcases hk with hk|hk
  ·exact wpAny_Name (wpAny_loadName_cell I.ok.kind hk hc hcell fin) hd
  ·exact wpAny_Name (wpAny_loadName_free I.ok.kind hk hc hcell fin hcd) hd
theorem C2{i j pos}:PE X (.Constant (.int i) j pos) #[1,i]:=fun _ _ _ H _ I h=>wpAny_Constant_int ⟨.int i,H,I.tok _,⟨_,rfl⟩,h⟩
theorem ww8{b j pos}:PE X (.Constant (.bool b) j pos) (tC (.bl b)):=fun _ _ _ H _ I h=>Constant_bool ⟨.bl b,H,I,rfl,h⟩
theorem xn1{j pos}:PE X (.Constant .none j pos) (tC .non):=fun _ _ _ H _ I h=>Constant_none ⟨.non,H,I,rfl,h⟩
theorem G3{x j pos}:PE X (.Constant (.str x) j pos) (tC (.str x)):=fun _ _ _ H _ I h=>Calls.Constant_str ⟨.str x,H,I.tok _,⟨_,rfl⟩,h⟩
def Gl(X:Cx)(x:Str):Prop:=X.env.kindOf x=some .globalImplicit
theorem yc1(I:Inv X pins σ H s)(hg:Gl X x)(hm:X.mg x=some u)(h:Q u s)(hd:autoParam #[35] zAd):wpAny #[9] X.A (eval (.Name x pos) X.env) Q E s :=
 Calls.Name_function_global I.ok.kind hg (Calls.loadGlobal_global (by rw[I.ok.glob];exact I.mod.glob.keeps I.bk) hm h) hd
theorem wd0(I:Inv X pins σ H s)(hg:Gl X x)(hm:X.mg x=none)(hv:bootBuiltins x=some u)(h:Q u s)(hn:autoParam (x ≠ "__name__") zAd)(hd:autoParam #[35] zAd):wpAny #[9] X.A (eval (.Name x pos) X.env) Q E s:=by
 obtain⟨mb,h1,h2⟩:=I.mod.blt
 exact Calls.Name_function_global I.ok.kind hg (Calls.loadGlobal_builtin (by rw[I.ok.glob];exact I.mod.glob.keeps I.bk) hm (by rw[I.ok.blt];exact h1.keeps I.bk) ((h2 x hn).trans hv) h) hd
theorem L6(hg:Gl X x)(hm:X.mg x=some u)(r:E9 v u)(hd:autoParam #[35] zAd):PE X (.Name x pos) (tC v) :=
 fun _ _ _ H _ I h=>yc1 I hg hm ⟨v,H,I,r,h⟩ hd
theorem qa0(hg:Gl X x)(hm:X.mg x=none)(hv:bootBuiltins x=some u)(r:E9 v u)(hn:autoParam (x ≠ "__name__") zAd)(hd:autoParam #[35] zAd):PE X (.Name x pos) (tC v) :=
 fun _ _ _ H _ I h=>wd0 I hg hm hv ⟨v,H,I,r,h⟩ hn hd
variable{a b:Expr}{tb:TE}
def tB(t:TE):TT:=fun σ H Q=>t σ H fun x H1=>∃ c,x=.bl c/\Q c H1
theorem qg7{t:TE}(h:PE X e t)(he:autoParam (∀ whole,isTrue e X.env whole=(do let v<-whole;standAt e.pos;holding [v] (truthy v))) zAi):PT X e (tB t):=by
 intro pins s σ H Q I hw
 refine isTrue_plain (thn (h pins s σ H _ I hw) fun v s1 zq=>?_) (he _)
 walk_at"33"
 obtain⟨d,rfl,q⟩:=q1
 cases r1
 exact wpAny_truthy_bool ⟨H1,I1,q⟩
variable{tA tB':TT}{rest:List Expr}
def qm7(t u:TT):TT:=fun σ H Q=>t σ H fun c H1=>if c=true then u σ H1 Q else Q false H1
def tOr(t u:TT):TT:=fun σ H Q=>t σ H fun c H1=>if c=true then Q true H1 else u σ H1 Q
def ww9(t:TT):TT:=fun σ H Q=>t σ H fun c H1=>Q (!c) H1
theorem qw4(ha:PT X a tA):PW X (.BoolOp .And [a] pos) tA:=by
 intro wh pins s σ H Q I h
 refine isTrue_and (thn (ha pins s σ H Q I h) fun c s1 e=>?_)
 cases c with
 | true=>exact isTrue_and_nil e
 | false=>exact e
theorem yr6(ha:PT X a tA):PW X (.BoolOp .Or [a] pos) tA:=by
 intro wh pins s σ H Q I h
 refine isTrue_or (thn (ha pins s σ H Q I h) fun c s1 e=>?_)
 cases c with
 | false=>exact isTrue_or_nil e
 | true=>exact e
theorem wd1(ha:PT X a tA)(hb:PW X (.BoolOp .And (b::rest) pos) tB'):PW X (.BoolOp .And (a::b::rest) pos) (qm7 tA tB'):=by
 intro wh pins s σ H Q I h
 refine isTrue_and (thn (ha pins s σ H _ I h) fun c s1 zq=>?_)
 obtain⟨H1,I1,q1⟩:=zq
 cases c with
 | true=>exact hb wh pins s1 σ H1 Q I1 q1
 | false=>exact⟨H1,I1,q1⟩
theorem yk0(ha:PT X a tA)(hb:PW X (.BoolOp .Or (b::rest) pos) tB'):PW X (.BoolOp .Or (a::b::rest) pos) (tOr tA tB'):=by
 intro wh pins s σ H Q I h
 refine isTrue_or (thn (ha pins s σ H _ I h) fun c s1 zq=>?_)
 obtain⟨H1,I1,q1⟩:=zq
 cases c with
 | true=>exact⟨H1,I1,q1⟩
 | false=>exact hb wh pins s1 σ H1 Q I1 q1
theorem qs6(ha:PT X a tA):PT X (.UnaryOp .Not a pos) (ww9 tA):=by
 walk_at"18"
 exact isTrue_not (ha pins s σ H (fun c H1=>Q (!c) H1) I h)
def wr9(ta tb:TE):TE:=fun σ H Q=>ta σ H fun x H1=>∃ c,x=.bl c/\if c=true then tb σ H1 Q else Q (.bl false) H1
def yx8(ta:TE):TE:=fun σ H Q=>ta σ H fun x H1=>∃ c,x=.bl c/\Q (.bl (!c)) H1
theorem zg9{op}{t:TE}(h:PE X a t):PE X (.BoolOp op [a] pos) t:=fun pins s σ H Q I hw=>BoolOp_one (h pins s σ H Q I hw)
theorem zh0(ha:PE X a ta)(hb:PE X (.BoolOp .And (b::rest) pos) tb):PE X (.BoolOp .And (a::b::rest) pos) (wr9 ta tb):=by
 walk_at"18"
 refine BoolOp_and (thn (ha pins s σ H _ I h) fun v s1 zq=>?_)
 walk_at"33"
 obtain⟨c,rfl,q1⟩:=q1
 cases r1
 refine wpAny_truthy_bool ?_
 cases c with
 | true=>exact hb pins s1 σ H1 Q I1 q1
 | false=>exact⟨.bl false,H1,I1,rfl,q1⟩
theorem Ac3(ha:PE X a ta):PE X (.UnaryOp .Not a pos) (yx8 ta):=by
 walk_at"18"
 refine UnaryOp_ (thn (ha pins s σ H _ I h) fun v s1 zq=>?_)
 walk_at"33"
 obtain⟨c,rfl,q1⟩:=q1
 cases r1
 exact not_of (wpAny_truthy_bool ⟨.bl (!c),H1,I1,rfl,q1⟩)
def tIf(t:TT)(ta tb:TE):TE:=fun σ H Q=>t σ H fun c H1=>if c=true then ta σ H1 Q else tb σ H1 Q
theorem yk1(hc:PT X c tA)(ha:PE X a ta)(hb:PE X b tb):PE X (.IfExp c a b pos) (tIf tA ta tb):=by
 walk_at"18"
 refine wpAny_IfExp (thn (hc pins s σ H _ I h) fun d s1 zq=>?_)
 obtain⟨H1,I1,q1⟩:=zq
 cases d with
 | true=>exact ha pins s1 σ H1 Q I1 q1
 | false=>exact hb pins s1 σ H1 Q I1 q1
end
def SqL(K:Fg)(H:Hp)(a:Addr)(xs:List V):Prop :=
 Rd H a (.lst xs) \/
  ∃ (o:Obj) (its:Array Value) (n:Nat),K.lookup a=some o/\o.cls=.type "list"/\o.dict=none/\o.data=.seq its n/\its.size<=sizeLine/\E6 xs its.toList
def SqT(K:Fg)(H:Hp)(a:Addr)(xs:List V):Prop :=
 Rd H a (.tup xs) \/
  ∃ (o:Obj) (its:Array Value) (n:Nat),K.lookup a=some o/\o.cls=.type "tuple"/\o.data=.seq its n/\its.size<=sizeLine/\E6 xs its.toList
def Ao1:Value->Option V
 | .none=>some .non
 | .bool b=>some (.bl b)
 | .int i _=>some (.int i)
 | .str x _=>some (.str x)
 | .bytes b _=>some (.byt b)
 | .float b _=>some (.flt b)
 | .ref a=>some (.ref a)
 | .type n=>some (.ty n)
 | _=>none
theorem E9.abs{x:V}(r:E9 x u):Ao1 u=some x:=by
 cases x with
 | non=>cases r;rfl
 | bl _=>cases r;rfl
 | int _=>obtain⟨t,rfl⟩:=r;rfl
 | str _=>obtain⟨t,rfl⟩:=r;rfl
 | byt _=>obtain⟨t,rfl⟩:=r;rfl
 | flt _=>obtain⟨t,rfl⟩:=r;rfl
 | ref _=>cases r;rfl
 | ty _=>cases r;rfl
variable{y:V}
theorem E9.inj{x:V}(r:E9 x u)(q:E9 y u):x=y:=Option.some.inj (r.abs.symm.trans q.abs)
theorem E6.inj{xs ys:List V}{us:List Value}(h:E6 xs us):E6 ys us->xs=ys:=by
 induction h generalizing ys with
 | nil=>intro k;cases k;rfl
 | cons r t ih=>intro k;cases k with|cons r' t'=>rw[r.inj r',ih t']
variable{ys:List V}
variable{K:Fg}
theorem SqL.of(h:H a=some (.lst xs)):SqL K H a xs:=.inl (.inl h)
theorem SqT.of(h:H a=some (.tup xs)):SqT K H a xs:=.inl (.inl h)
theorem Inv.list(I:Inv X pins σ H s)(h:SqL X.K H a xs):∃ its:List Value,E6 xs its/\PlainL s.heap a its.toArray/\xs.length<=sizeLine:=by
 rcases h with h|⟨o,its,n,hk,hc,hd,hs,hz,r⟩
 ·obtain⟨z,its,n,r,e⟩:=h.ok I.hok
  exact⟨its,r,⟨_,n,e,rfl,rfl,rfl⟩,z⟩
 ·refine⟨its.toList,r,⟨o,n,I.kIn a o hk,hc,hd,by simpa using hs⟩,?_⟩
  have e:=r.length
  simp only[Array.length_toList] at e
  omega
theorem Inv.tuple(I:Inv X pins σ H s)(h:SqT X.K H a xs):∃ its:List Value,E6 xs its/\IsTup s.heap a its.toArray/\xs.length<=sizeLine:=by
 rcases h with h|⟨o,its,n,hk,hc,hs,hz,r⟩
 ·obtain⟨z,its,r,p⟩:=h.ok I.hok
  exact⟨its,r,p,z⟩
 ·refine⟨its.toList,r,⟨o,I.kIn a o hk,hc,n,by simpa using hs⟩,?_⟩
  have e:=r.length
  simp only[Array.length_toList] at e
  omega
theorem Inv.list_inj(I:Inv X pins σ H s)(h:SqL X.K H a xs)(h':SqL X.K H a ys):xs=ys:=by
 obtain⟨its,r,⟨o,n,e,_,_,d⟩,_⟩:=I.list h
 obtain⟨its',r',⟨o',n',e',_,_,d'⟩,_⟩:=I.list h'
 rw[e] at e';cases e'
 rw[d] at d'
 injection d' with d1 _
 have:its=its':=by simpa using congrArg Array.toList d1
 subst this
 exact r.inj r'
theorem Inv.tuple_inj(I:Inv X pins σ H s)(h:SqT X.K H a xs)(h':SqT X.K H a ys):xs=ys:=by
 obtain⟨its,r,⟨o,e,_,n,d⟩,_⟩:=I.tuple h
 obtain⟨its',r',⟨o',e',_,n',d'⟩,_⟩:=I.tuple h'
 rw[e] at e';cases e'
 rw[d] at d'
 injection d' with d1 _
 have:its=its':=by simpa using congrArg Array.toList d1
 subst this
 exact r.inj r'
abbrev Cx.wish(X:Cx)(E:Value->Shared->Prop):Cx:={X with xe:=E}
abbrev Cx.nox(X:Cx):Cx:=X.wish fun _ _=>False
theorem Cx.Ok.wish(ok:X.Ok)(E:Value->Shared->Prop):(X.wish E).Ok :=
 ⟨ok.mod,ok.kind,ok.glob,ok.blt,ok.above,ok.inj,ok.has,ok.cab,ok.hd,ok.frames,ok.stk,ok.exf,ok.bs,ok.bsz,ok.noex,ok.exfs,ok.funs,ok.frf⟩
theorem Cx.Ok.unwish(ok:(X.wish E).Ok):X.Ok :=
 ⟨ok.mod,ok.kind,ok.glob,ok.blt,ok.above,ok.inj,ok.has,ok.cab,ok.hd,ok.frames,ok.stk,ok.exf,ok.bs,ok.bsz,ok.noex,ok.exfs,ok.funs,ok.frf⟩
theorem Inv.wish(I:Inv X pins σ H s)(E:Value->Shared->Prop):Inv (X.wish E) pins σ H s:=⟨I.ok.wish E,I.os,I.bare,I.base,I.loc,I.cell,I.free,I.freeC,I.pin,I.hok,I.len,I.tk⟩
theorem Inv.unwish(I:Inv (X.wish E) pins σ H s):Inv X pins σ H s:=⟨I.ok.unwish,I.os,I.bare,I.base,I.loc,I.cell,I.free,I.freeC,I.pin,I.hok,I.len,I.tk⟩
theorem SP.unwish{D:V5}{f:Flow}{s':Shared}(h:SP (X.wish E) pins D f s'):SP X pins D f s':=by
 cases f with
 | next=>obtain⟨σ',H',I,q⟩:=h;exact⟨σ',H',I.unwish,q⟩
 | brk=>obtain⟨σ',H',I,q⟩:=h;exact⟨σ',H',I.unwish,q⟩
 | cont=>obtain⟨σ',H',I,q⟩:=h;exact⟨σ',H',I.unwish,q⟩
 | ret u=>obtain⟨v,σ',H',I,r,q⟩:=h;exact⟨v,σ',H',I.unwish,r,q⟩
theorem PSs.nox{st:List Stmt}{t:TS}(h:PSs X.nox st t):PSs X st t:=fun pins s σ H D I hw =>
 wpAny_mono (h pins s σ H D (I.wish _) hw) (fun _ _ q=>q.unwish) fun _ _ z=>False.elim z
variable{st:Stmt}{te:TE}
section
variable{rest:List Stmt}{t u:TS}
def J5:TS:=fun D σ H=>D.nx σ H
def B9(t u:TS):TS:=fun D σ H=>t {D with nx:=u D} σ H
theorem T9:PSs X [] J5:=fun _ _ σ H _ I h=>wpAny_execs_nil ⟨σ,H,I,h⟩
theorem C1(h1:PS X st t)(h2:PSs X rest u):PSs X (st::rest) (B9 t u):=by
 intro pins s σ H D I h
 refine wpAny_execs_cons (thn (h1 pins s σ H {D with nx:=u D} I h) fun f s1 q=>?_)
 cases f with
 | next =>
   obtain⟨σ',H',I',q⟩:=q
   exact h2 pins s1 σ' H' D I' q
 | ret v=>exact q
 | brk=>exact q
 | cont=>exact q
theorem C6(h1:PS X st t):PSs X [st] t:=by
 intro pins s σ H D I h
 refine wpAny_execs_cons (thn (h1 pins s σ H D I h) fun f s1 q=>?_)
 cases f with
 | next=>exact wpAny_execs_nil q
 | ret v=>exact q
 | brk=>exact q
 | cont=>exact q
def yr7:TS:=fun D σ H=>D.bk σ H
theorem zh1:PS X (.Break pos) yr7:=fun _ _ σ H _ I h=>wpAny_Break ⟨σ,H,I,h⟩
theorem Inv.quiet(I:Inv X pins σ H s):interactive X.env=false:=by simp[interactive,I.ok.kind]
def G5(te:TE):TS:=fun D σ H=>te σ H fun _ H1=>D.nx σ H1
theorem xl9(he:PE X e te)(hs:autoParam (swapsWith e none pos.line X.env=pure false) zAr):PS X (.Expr e pos) (G5 te):=by
 intro pins s σ H D I h
 exact wpAny_Expr_any (thn (he pins s σ H _ I h) fun v s1 ⟨x,H1,I1,r1,q1⟩=>⟨σ,H1,I1,q1⟩) I.quiet hs
def E3(te:TE):TS:=fun D σ H=>te σ H D.rt
theorem M0(he:PE X e te):PS X (.Return (some e) pos) (E3 te):=by
 intro pins s σ H D I h
 exact wpAny_Return_some (thn (he pins s σ H _ I h) fun v s1 ⟨x,H1,I1,r1,q1⟩=>⟨x,σ,H1,I1,r1,q1⟩)
def yk2:TS:=fun D _ H=>D.rt .non H
theorem zr7:PS X (.Return none pos) yk2:=fun _ _ σ H _ I h=>wpAny_Return_none ⟨.non,σ,H,I,rfl,h⟩
def N1(c:TT)(t u:TS):TS:=fun D σ H=>c σ H fun b H1=>if b=true then t D σ H1 else u D σ H1
theorem qg0{a b:List Stmt}{tc:TT}(hc:PT X c tc)(ha:PSs X a t)(hb:PSs X b u):PS X (.If c a b pos) (N1 tc t u):=by
 intro pins s σ H D I h
 refine wpAny_If (thn (hc pins s σ H _ I h) fun d s1 zq=>?_)
 obtain⟨H1,I1,q1⟩:=zq
 cases d with
 | true=>exact ha pins s1 σ H1 D I1 q1
 | false=>exact hb pins s1 σ H1 D I1 q1
end
abbrev TG:=V->St->Hp->(St->Hp->Prop)->Prop
abbrev TGs:=List V->St->Hp->(St->Hp->Prop)->Prop
def PG(X:Cx)(target:Expr)(t:TG):Prop :=
 ∀ (pins:List (Addr×Obj)) (s:Shared) (σ:St) (H:Hp) (v:V) (u:Value) (Q:St->Hp->Prop),Inv X pins σ H s->E9 v u->t v σ H Q ->
  wpAny #[9] X.A (assign target X.env u) (fun _ s'=>∃ σ' H',Inv X pins σ' H' s'/\Q σ' H') X.xe s
def PGs(X:Cx)(ts:List Expr)(t:TGs):Prop :=
 ∀ (pins:List (Addr×Obj)) (s:Shared) (σ:St) (H:Hp) (vs:List V) (us:List Value) (Q:St->Hp->Prop),Inv X pins σ H s->E6 vs us->t vs σ H Q ->
  wpAny #[9] X.A (assignInOrder ((assignEach ts X.env).map (·.2)) us) (fun _ s'=>∃ σ' H',Inv X pins σ' H' s'/\Q σ' H') X.xe s
abbrev zh2:=V->V->V->Hp->(Hp->Prop)->Prop
def Ac4(X:Cx)(t:zh2):Prop :=
 ∀ (pins:List (Addr×Obj)) (s:Shared) (σ:St) (H:Hp) (o i v:V) (ov iv u:Value) (Q:Hp->Prop),Inv X pins σ H s->E9 o ov->E9 i iv->E9 v u->t o i v H Q ->
  wpAny #[9] X.A (setItem ov iv u) (fun _ s'=>∃ H',Inv X pins σ H' s'/\Q H') X.xe s
def B3(i:Nat):TG:=fun v σ H Q=>Q (σ.set i (some v)) H
theorem J6{i:Nat}(hN:X.N.Nodup)(hi:X.N[i]?=some x)(hx:Loc X.env.scope x)(hf:autoParam (X.fn x=true\/X.env.scope.names.lookup x=some .local) zAf):PG X (.Name x pos) (B3 i):=by
 intro pins s σ H v u Q I r h
 exact wpAny_assign_Name (yj9 I hN hi hx r (fun s' I'=>⟨_,H,I',h⟩) hf)
def yr8:TGs:=fun vs σ H Q=>vs=[]/\Q σ H
def qs7(t:TG)(u:TGs):TGs:=fun vs σ H Q=>∃ v r,vs=v::r/\t v σ H fun σ' H'=>u r σ' H' Q
theorem yc2:PGs X [] yr8:=by
 intro pins s σ H vs us Q I r h
 obtain⟨e,h⟩:=h
 subst e
 cases r
 exact assignInOrder_nil ⟨σ,H,I,h⟩
variable{es:List Expr}
theorem qz8{t:TG}{u:TGs}(h1:PG X e t)(h2:PGs X es u)(hs:autoParam ((assignEach (e::es) X.env).map (·.2)=assign e X.env::(assignEach es X.env).map (·.2)) zAr):PGs X (e::es) (qs7 t u):=by
 intro pins s σ H vs us Q I r h
 obtain⟨v,vr,e1,h⟩:=h
 subst e1
 cases r with
 | cons r rr =>
   rw[hs]
   refine assignInOrder_cons (thn (h1 pins s σ H _ _ _ I r h) fun _ s1 zq=>?_)
   obtain⟨σ1,H1,I1,q1⟩:=zq
   exact h2 pins s1 σ1 H1 _ _ Q I1 rr q1
def yk3(K:Fg)(n:Nat)(t:TGs):TG:=fun v σ H Q=>∃ a xs,v=.ref a/\SqT K H a xs/\xs.length=n/\t xs σ H Q
variable{n:Nat}
theorem yr9{k:Nat}{t:TGs}(hc:X.calm=true)(h:PGs X es t)(hn:autoParam ((assignEach es X.env).length=n) zAr)(hst:autoParam ((assignEach es X.env).findIdx? (·.1)=none) zAr):PG X (.Tuple es k pos) (yk3 X.K n t):=by
 intro pins s σ H v u Q I r hw
 obtain⟨a,xs,e1,hq,hl,hw⟩:=hw
 subst e1
 cases r
 obtain⟨its,rv,ht,hz⟩:=I.tuple hq
 refine assign_Tuple_tuple (I.ok.hd hc) ht (by simp[hn,<-hl,rv.length]) hst fun h' hx=>?_
 have I1:Inv X pins σ H {s with heap:=h'}:=I.kept (t':=s.toks) fun b o e=>hx b o (Nat.ne_of_lt (Heap.lt_size e)) e
 exact h pins _ σ H xs _ Q I1 (by simpa using rv) hw
def ys0(to ti:TE)(t:zh2):TG:=fun v σ H Q=>to σ H fun o H1=>ti σ H1 fun i H2=>t o i v H2 fun H3=>Q σ H3
variable{o:Expr}{ti to:TE}
theorem xn2{i:Expr}{t:zh2}(ho:PE X o to)(hi:PE X i ti)(hs:Ac4 X t) (ha:∀ v,assign (.Subscript o i pos) X.env v=(do
  let ov<-holding [v] (eval o X.env)
  let iv<-holding [v,ov] (eval i X.env)
  standAt pos
  holding [v,ov,iv] (setItem ov iv v)
  release [v,ov,iv] []):=by intro _;rfl):PG X (.Subscript o i pos) (ys0 to ti t):=by
 intro pins s σ H v u Q I r h
 rw[ha]
 refine wpAny_bind (wpAny_holding (thn (ho pins s σ H _ I h) fun ov s1 zq=>?_))
 walk_at"33"
 refine wpAny_bind (wpAny_holding (thn (hi pins s1 σ H1 _ I1 q1) fun iv s2 zq=>?_))
 obtain⟨y,H2,I2,r2,q2⟩:=zq
 refine wpAny_bind (wpAny_standAt (wpAny_bind (wpAny_holding (thn (hs pins s2 σ H2 x y v ov iv u _ I2 r1 r2 r q2) fun _ s3 zq=>?_))))
 obtain⟨H3,I3,q3⟩:=zq
 exact wpAny_release ⟨σ,H3,I3,q3⟩
def C8(te:TE)(g:TG):TS:=fun D σ H=>te σ H fun x H1=>g x σ H1 D.nx
variable{g:TG}
theorem xc9{tg:Expr}(he:PE X e te)(hg:PG X tg g)(hs:autoParam (swapsWithSole [tg] e pos.line X.env=pure false) zAr)(hw:autoParam (swappedStores [tg] e X.env=pure none) zAr)(h1:autoParam ((assignEach [tg] X.env).map (·.2)=[assign tg X.env]) zAr):PS X (.Assign [tg] e pos) (C8 te g):=by
 intro pins s σ H D I h
 refine wpAny_Assign_stores (thn (he pins s σ H _ I h) fun v s1 zq=>?_) hs hw
 walk_at"33"
 rw[h1]
 exact thn (hg pins s1 σ H1 x v _ I1 r1 q1) fun _ s2 q=>q
variable{pos':Pos}
theorem X2{i:Nat}(hN:X.N.Nodup)(hi:X.N[i]?=some x)(hx:Loc X.env.scope x)(he:PE X e te)(hs:autoParam (swapsWith e (some (.Name x pos')) pos.line X.env=pure false) zAr)(hf:autoParam (X.fn x=true\/X.env.scope.names.lookup x=some .local) zAf) :
 PS X (.Assign [.Name x pos'] e pos) (C8 te (B3 i)):=by
 intro pins s σ H D I h
 refine wpAny_Assign_Name (thn (he pins s σ H _ I h) fun v s1 zq=>?_) hs
 obtain⟨y,H1,I1,r1,q1⟩:=zq
 exact yj9 I1 hN hi hx r1 (fun s2 I2=>⟨_,H1,I2,q1⟩) hf
def qy6(c:TT)(tb:TS):TS:=fun D σ H=>∃ W:Nat->St->Hp->Prop,(∃ m,W m σ H)/\∀ m σ H,W m σ H ->
 c σ H fun b H1=>if b=true then ∃ N:St->Hp->Prop,(∀ σ' H',N σ' H'->∃ m',m'<m/\W m' σ' H')/\tb {D with nx:=N,ct:=N,bk:=D.nx} σ H1 else D.nx σ H1
variable{body:List Stmt}{tb:TS}
theorem zh3{tc:TT}(hp:PassesOwn #[9] X.A X.env X.xe)(hc:PT X c tc)(hb:PSs X body tb):PS X (.While c body [] pos) (qy6 tc tb):=by
 intro pins s σ H D I h
 obtain⟨W,⟨m0,w0⟩,turn⟩:=h
 refine wpAny_While (codeAny_whileLoop (fun n s'=>∃ σ' H',Inv X pins σ' H' s'/\W n σ' H') ?_ m0 ⟨σ,H,I,w0⟩)
 rintro n s1 ⟨σ1,H1,I1,w1⟩
 refine wpAny_passesOwn hp (thn (hc pins s1 σ1 H1 _ I1 (turn n σ1 H1 w1)) fun b s2 zq=>?_)
 obtain⟨H2,I2,q2⟩:=zq
 cases b with
 | true =>
   obtain⟨N,hN,q2⟩:=q2
   rw[if_pos rfl]
   refine wpAny_passesOwn hp (thn (hb pins s2 σ1 H2 _ I2 q2) fun f s3 q3=>?_)
   cases f with
   | next =>
     obtain⟨σ3,H3,I3,n3⟩:=q3
     obtain⟨m',hm,w3⟩:=hN σ3 H3 n3
     exact⟨m',hm,σ3,H3,I3,w3⟩
   | cont =>
     obtain⟨σ3,H3,I3,n3⟩:=q3
     obtain⟨m',hm,w3⟩:=hN σ3 H3 n3
     exact⟨m',hm,σ3,H3,I3,w3⟩
   | brk=>exact q3
   | ret v=>exact q3
 | false =>
   rw[if_neg Bool.false_ne_true]
   exact wpAny_execs_nil ⟨σ1,H2,I2,q2⟩
set_option genInjectivity false in
structure It where
 go:Nat->Hp->Prop
 yld:Nat->Hp->V->Hp->Prop
 stop:Nat->Hp->Prop
def xu6(X:Cx)(pins:List (Addr×Obj))(H:Hp)(b:Addr):Prop :=
 H b=none/\b≠X.env.locals/\b∉X.fs/\(b∈X.ex\/X.s₀.heap.objs.size<=b)/\(∀ x c,X.env.cells.lookup x=some c->c≠b)/\∀ p∈X.pn++pins,p.1≠b
theorem Inv.fpOk(I:Inv X pins σ H s)(hb:s.heap.objs.size<=b)(hn:H' b=none):xu6 X pins H' b:=by
 refine⟨hn,Nat.ne_of_gt (Nat.lt_of_lt_of_le I.lt hb),I.nofs hb,.inr (Nat.le_trans I.sz hb),fun x c e z=>?_,fun p hp z=>?_⟩
 ·obtain⟨v,q⟩:=I.cell x c e
  exact absurd (Nat.lt_of_lt_of_le q.lt (by rw[z];exact hb)) (Nat.lt_irrefl _)
 ·exact absurd (Nat.lt_of_lt_of_le (Heap.lt_size (I.pin p hp).1) (by rw[z];exact hb)) (Nat.lt_irrefl _)
structure xn3(P:Program)(w:World)(K:Fg)(tg:Expr)(J:It)(fp:List Addr)(it:Addr)(tn:Nat->Heap->Prop):Prop where
 mem:it∈fp
 obj:∀ i h,tn i h->∀ b∈fp,∃ o,h.get? b=some o/\∀ v,o.data≠.cell v
 keep:∀ i h h',tn i h->(∀ b∈fp,∀ o,h.get? b=some o->h'.get? b=some o)->tn i h'
 item:∀ (X:Cx),X.prog=P->X.w=w->X.K=K->X.calm=true->∀ (i:Nat) (pins:List (Addr×Obj)) (s:Shared) (σ:St) (H:Hp) (E:Value->Shared->Prop),Inv X pins σ H s->(∀ b∈fp,xu6 X pins H b)->tn i s.heap->J.go i H ->
  wpAny (model P w) X.A (pyNext (.ref it)) (fun r s1=>∃ u,r=some u /\
   wpAny (model P w) X.A (letOwnedTupleGo tg (.ref it) u) (fun _ s2=>∃ x H',Inv X pins σ H' s2/\E9 x u/\J.yld i H x H'/\tn (i+1) s2.heap/\∀ b∈fp,H' b=none) E s1) E s
 done:∀ (X:Cx),X.prog=P->X.w=w->X.K=K->X.calm=true->∀ (i:Nat) (pins:List (Addr×Obj)) (s:Shared) (σ:St) (H:Hp) (E:Value->Shared->Prop),Inv X pins σ H s->(∀ b∈fp,xu6 X pins H b)->tn i s.heap->J.stop i H ->
  wpAny (model P w) X.A (pyNext (.ref it)) (fun r s1=>r=none/\Inv X pins σ H s1) E s
 self:∀ (A:Around) (i:Nat) (s:Shared) (Q:Value->Shared->Prop) (E:Value->Shared->Prop),tn i s.heap->Q (.ref it) s->wpAny (model P w) A (pyIter (.ref it)) Q E s
abbrev TI:=St->Hp->(It->Hp->Prop)->Prop
def PIE(X:Cx)(pins:List (Addr×Obj))(σ:St)(tg:Expr)(R:It->Hp->Prop)(itv:Value)(s2:Shared):Prop :=
 ∃ (it:Addr) (fp:List Addr) (tn:Nat->Heap->Prop) (J:It) (H':Hp),itv=.ref it/\Inv X pins σ H' s2/\xn3 X.prog X.w X.K tg J fp it tn/\tn 0 s2.heap/\(∀ b∈fp,xu6 X pins H' b)/\R J H'
def PI(X:Cx)(tg iter:Expr)(wi:TI):Prop :=
 ∀ (pins:List (Addr×Obj)) (s:Shared) (σ:St) (H:Hp) (R:It->Hp->Prop),Inv X pins σ H s->wi σ H R ->
  wpAny #[9] X.A (eval iter X.env) (fun v s1=>wpAny #[9] X.A (pyIter v) (PIE X pins σ tg R) X.xe s1) X.xe s
theorem xy1{tg:Expr}{o:Obj}{n:String}{vs:Array Value}{Q:Unit->Shared->Prop}(ho:s.heap.get? it=some o)(hc:o.cls=.type n)(hd:o.data=.fields vs)(hn:["enumerate","zip","dict_itemiterator","dict_reverseitemiterator","odict_iterator","itertools.zip_longest","itertools.pairwise"].contains n=false)(hQ:Q () s):wpAny M A (letOwnedTupleGo tg (.ref it) u) Q E s:=by
 unfold letOwnedTupleGo
 cases tg <;> first
  | exact wpAny_pure hQ
  | (cases u <;> first
   | exact wpAny_pure hQ
   | (refine wpAny_bind (wpAny_load ho ?_)
      rw[hc,hd]
      show wpAny M A (if(["enumerate","zip","dict_itemiterator","dict_reverseitemiterator","odict_iterator","itertools.zip_longest","itertools.pairwise"].contains n && vs[0]? == some (rawInt _))=true then _ else _) Q E s
      rw[if_neg (by intro h;rw[hn,Bool.false_and] at h;cases h)]
      exact wpAny_pure hQ))
def Itl(K:Fg)(a:Addr):It :=
 ⟨fun i H=>∃ xs x,SqL K H a xs/\xs[i]?=some x,fun i H x H'=>H'=H/\∀ xs,SqL K H a xs->xs[i]?=some x,fun i H=>∃ xs,SqL K H a xs/\xs.length<=i⟩
def Itt(K:Fg)(a:Addr):It :=
 ⟨fun i H=>∃ xs x,SqT K H a xs/\xs[i]?=some x,fun i H x H'=>H'=H/\∀ xs,SqT K H a xs->xs[i]?=some x,fun i H=>∃ xs,SqT K H a xs/\xs.length<=i⟩
def Itr(lo:Int)(n:Nat):It:=⟨fun i _=>i<n,fun i H x H'=>H'=H/\x=.int (lo+i),fun i _=>n<=i⟩
theorem zc1{tg:Expr}(a it:Addr):xn3 P w K tg (Itl K a) [it] it (fun i h=>h.IsListIter it a i) where
 mem:=by simp
 obj:=fun i h st b hb=>by
  walk_at"31"
 keep:=fun i h h' st k=>st.at fun o e=>k it (by simp) o e
 item:=by
  walk_at"0"
  obtain⟨xs,x,hq,hx⟩:=hg
  obtain⟨its,rv,p,hz⟩:=I.list hq
  obtain⟨u,hu,ru⟩:=rv.get hx
  walk_at"11"
  refine wpAny_pyNext_list_item st p.isList (x:=u) (by simpa using hu) fun h' st' sb=>?_
  have I1:Inv X pins σ H {s with heap:=h'}:=I.turned (t':=s.toks) (fun b o hb e=>(sb.2 b hb).trans e) f0 f1 f3 f4 f5
  obtain⟨o,e,c,d⟩:=id st'
  exact⟨u,rfl,xy1 (s:={s with heap:=h'}) e c d #[10] ⟨x,H,I1,ru,⟨rfl,fun ys hy=>by rw[I.list_inj hy hq];exact hx⟩,st',fun b hb=>(hf b hb).1⟩⟩
 done:=by
  walk_at"0"
  obtain⟨xs,hq,hx⟩:=hg
  obtain⟨its,rv,p,hz⟩:=I.list hq
  walk_at"11"
  have hl:=rv.length
  exact wpAny_pyNext_list_end (I.ok.hd hc) st p.isList (by simp;omega) fun h' eb=>⟨rfl,I.turned (t':=s.toks) (fun b o hb e=>eb b o hb e) f0 f1 f3 f4 f5⟩
 self:=fun _ _ _ _ _ st h=>wpAny_pyIter_listiter st h
theorem ys1{tg:Expr}(a it:Addr):xn3 P w K tg (Itt K a) [it] it (fun i h=>h.IsTupleIter it a i) where
 mem:=by simp
 obj:=fun i h st b hb=>by
  walk_at"31"
 keep:=fun i h h' st k=>st.at fun o e=>k it (by simp) o e
 item:=by
  walk_at"0"
  obtain⟨xs,x,hq,hx⟩:=hg
  obtain⟨its,rv,p,hz⟩:=I.tuple hq
  obtain⟨u,hu,ru⟩:=rv.get hx
  walk_at"11"
  refine wpAny_pyNext_tuple_item st (show s.heap.IsTuple a its.toArray from p) (x:=u) (by simpa using hu) fun h' st' sb=>?_
  have I1:Inv X pins σ H {s with heap:=h'}:=I.turned (t':=s.toks) (fun b o hb e=>(sb.2 b hb).trans e) f0 f1 f3 f4 f5
  obtain⟨o,e,c,d⟩:=id st'
  exact⟨u,rfl,xy1 (s:={s with heap:=h'}) e c d #[10] ⟨x,H,I1,ru,⟨rfl,fun ys hy=>by rw[I.tuple_inj hy hq];exact hx⟩,st',fun b hb=>(hf b hb).1⟩⟩
 done:=by
  walk_at"0"
  obtain⟨xs,hq,hx⟩:=hg
  obtain⟨its,rv,p,hz⟩:=I.tuple hq
  walk_at"11"
  have hl:=rv.length
  exact wpAny_pyNext_tuple_end (I.ok.hd hc) st (show s.heap.IsTuple a its.toArray from p) (by simp;omega) fun h' eb=>⟨rfl,I.turned (t':=s.toks) (fun b o hb e=>eb b o hb e) f0 f1 f3 f4 f5⟩
 self:=fun _ _ _ _ _ st h=>wpAny_pyIter_tupleiter st h
theorem ys2{tg:Expr}(it:Addr)(lo:Int)(n:Nat):xn3 P w K tg (Itr lo n) [it] it (fun i h=>IsRangeIter h it (lo+(i:Nat)*1) ((n:Int)-(i:Nat)) 1) where
 mem:=by simp
 obj:=fun i h st b hb=>by
  have e:b=it:=by simpa using hb
  subst e
  exact⟨_,st,fun v z=>by
   have z':Data.fields _=Data.cell v:=z
   cases z'⟩
 keep:=fun i h h' st k=>k it (by simp) _ st
 item:=by
  walk_at"0"
  walk_at"11"
  have W:=Walks.range (prog:=X.prog) (w:=X.w) (I.ok.hd hc) it lo 1 n
  walk_at"27"
  refine⟨_,rfl,xy1 (s:={s with heap:=h',toks:=tk}) (n := "range_iterator") st' rfl rfl #[10] ⟨.int (lo+i),H,I1,⟨t,?_⟩,⟨rfl,rfl⟩,st',fun b hb=>(hf b hb).1⟩⟩
  rw[Int.mul_one]
 done:=by
  walk_at"0"
  walk_at"11"
  exact wpAny_pyNext_range_end (I.ok.hd hc) st (by have:n<=i:=hg;omega) fun h' eb=>⟨rfl,I.turned (t':=s.toks) (fun b o hb e=>eb b o hb e) f0 f1 f3 f4 f5⟩
 self:=fun _ _ _ _ _ st h=>wpAny_pyIter_rangeiter st h
variable{R:It->Hp->Prop}{iter:Expr}{wi:TI}
section
variable{tg:Expr}
theorem yk4{lo hi:Int}{t u v:Tok}{tk:Nat}(I:Inv X pins σ H s)(h1:-(2 ^ 62)<=lo)(h2:lo<2 ^ 62)(h3:-(2 ^ 62)<=hi)(h4:hi<2 ^ 62)(q:R (Itr lo (hi-lo).toNat) H)(ht:autoParam (0<tk) zAt):wpAny #[9] X.A (pyIter (.ref s.heap.objs.size)) (PIE X pins σ tg R) E {s with heap:=s.heap.push {cls:=.type "range",data:=.fields #[.int lo t,.int hi u,.int 1 v]},toks:=tk}:=by
 refine wpAny_pyIter_range (IsRange.new ..) (small_one h1 h2 h3 h4) ?_
 have I1:Inv X pins σ H {s with heap:=s.heap.push {cls:=.type "range",data:=.fields #[.int lo t,.int hi u,.int 1 v]},toks:=tk}:=I.kept fun b o e=>Heap.get?_push_of_some _ e
 refine⟨(s.heap.push {cls:=.type "range",data:=.fields #[.int lo t,.int hi u,.int 1 v]}).objs.size,[(s.heap.push {cls:=.type "range",data:=.fields #[.int lo t,.int hi u,.int 1 v]}).objs.size],_,_,H,rfl,
  I1.kept (t':=tk) fun b o e=>Heap.get?_push_of_some _ e,ys2 _ lo (hi-lo).toNat,?_,fun b hb=>?_,q⟩
 ·have e1:lo+((0:Nat):Int)*1=lo:=by simp
  have e2:(((hi-lo).toNat:Nat):Int)-((0:Nat):Int)=Builtin.Range.rangeSize lo hi 1:=by rw[rangeSize_one];split <;> omega
  show IsRangeIter _ _ (lo+((0:Nat):Int)*1) ((((hi-lo).toNat:Nat):Int)-((0:Nat):Int)) 1
  rw[e1,e2]
  exact Heap.get?_push_size _ rfl
 ·have e:b=(s.heap.push {cls:=.type "range",data:=.fields #[.int lo t,.int hi u,.int 1 v]}).objs.size:=by simpa using hb
  subst e
  exact I1.fpOk #[11] (I1.hok.fresh #[11])
def wj9(ta:TA):TI:=fun σ H R=>ta σ H fun vs H1=>∃ j:Int,vs=[.int j]/\-(2 ^ 62)<=j/\j<2 ^ 62/\R (Itr 0 j.toNat) H1
def yx9(ta:TA):TI:=fun σ H R=>ta σ H fun vs H1=>∃ i j:Int,vs=[.int i,.int j]/\(-(2 ^ 62)<=i/\i<2 ^ 62/\-(2 ^ 62)<=j/\j<2 ^ 62)/\R (Itr i (j-i).toNat) H1
theorem qk7{a:Expr}{ta:TA}{p:Pos}(hg:Gl X "range")(hm:X.mg "range"=none)(ha:PA X [a] ta)(hs:autoParam (starEach [a] X.env=[(false,eval a X.env)]) zAr):PI X tg (.Call (.Name "range" p) [a] [] pos) (wj9 ta):=by
 intro pins s σ H R I h
 refine Call_ (wd0 I hg hm boot_range #[29,rfl])
 obtain⟨vs,H1,I1,r1,q1⟩:=zq
 obtain⟨j,e,q1,q2,q⟩:=q1
 subst e
 cases r1 with
 | cons r rr =>
   cases rr
   obtain⟨t,rfl⟩:=r
   exact call_range_1 (yk4 I1 #[0] #[0] q1 q2 (by simpa using q))
theorem xy2{a b:Expr}{ta:TA}{p:Pos}(hg:Gl X "range")(hm:X.mg "range"=none)(ha:PA X [a,b] ta)(hs:autoParam (starEach [a,b] X.env=[(false,eval a X.env),(false,eval b X.env)]) zAr)(hs2:autoParam (starEach [b] X.env=[(false,eval b X.env)]) zAr) :
 PI X tg (.Call (.Name "range" p) [a,b] [] pos) (yx9 ta):=by
 intro pins s σ H R I h
 refine Call_ (wd0 I hg hm boot_range (PyProof.Rows.callWith_type1 (thn (ha pos pins s σ H _ I h) fun us s1 zq=>?_) (by rw[hs,hs2]) (by rw[hs2];rfl)))
 obtain⟨vs,H1,I1,r1,q1⟩:=zq
 obtain⟨i,j,e,⟨q1,q2,q3,q4⟩,q⟩:=q1
 subst e
 cases r1 with
 | cons r rr =>
   cases rr with
   | cons r' rr =>
     cases rr
     obtain⟨t,rfl⟩:=r
     obtain⟨t',rfl⟩:=r'
     exact call_range_2 (yk4 I1 q1 q2 q3 q4 q)
def qf4(wi:TI)(g:TG)(tb:TS):TS:=fun D σ H=>wi σ H fun J H1=>∃ W:Nat->Nat->St->Hp->Prop,(∃ m,W 0 m σ H1)/\∀ i m σ H,W i m σ H ->
 (J.stop i H/\D.nx σ H)\/#[23]
def xn4(fp:List Addr)(h:Heap):List (Addr×Obj):=fp.filterMap fun b=>(h.get? b).map fun o=>(b,o)
theorem wd2{fp:List Addr}{o:Obj}(hb:b∈fp)(e:h.get? b=some o):(b,o)∈xn4 fp h:=mem_filterMap.mpr ⟨b,hb,by rw[e];rfl⟩
theorem zc2{fp:List Addr}{p:Addr×Obj}(hp:p∈xn4 fp h):p.1∈fp/\h.get? p.1=some p.2:=by
 obtain⟨b,hb,e⟩:=mem_filterMap.mp hp
 cases q:h.get? b with
 | none=>rw[q] at e;cases e
 | some o =>
   rw[q] at e
   have e':(b,o)=p:=Option.some.inj e
   subst e'
   exact⟨hb,q⟩
theorem Inv.pinned{fp:List Addr}(I:Inv X pins σ H s)(hf:∀ b∈fp,xu6 X pins H b)(ho:∀ b∈fp,∃ o,s.heap.get? b=some o/\∀ v,o.data≠.cell v):Inv X (pins++xn4 fp s.heap) σ H s :=
 I.pins_of fun p hp=>(mem_append.mp hp).elim (fun z=>I.pin p #[52,z]) fun z=>by
  obtain⟨hb,e⟩:=zc2 z
  obtain⟨f0,f1,f2,_⟩:=hf p.1 hb
  obtain⟨o,e',d⟩:=ho p.1 hb
  rw[e] at e';cases e'
  exact⟨e,f0,f1,f2,d⟩
theorem Inv.unpinned{pl:List (Addr×Obj)}(I:Inv X (pins++pl) σ H s):Inv X pins σ H s:=I.pins_of fun p hp=>I.pin p #[52,mem_append_left _ hp]
theorem wd3(hp:PassesOwn #[9] X.A X.env X.xe)(hc:X.calm=true)(hi:PI X tg iter wi)(hg:PG X tg g)(hb:PSs X body tb)(hs:autoParam (∀ x,foldedSetIterable iter X.env x=pure x) zAi):PS X (.For tg iter body [] pos) (qf4 wi g tb):=by
 intro pins s σ H D I h
 refine wpAny_For (thn (hi pins s σ H _ I h) fun v s1 h1=>thn h1 fun itv s2 h2=>?_) hs
 obtain⟨it,fp,tn,J,H2,e,I2,T,st2,f2,W,⟨m0,w0⟩,turn⟩:=h2
 subst e
 have stat:∀ {H':Hp},(∀ b∈fp,H' b=none)->∀ b∈fp,xu6 X pins H' b:=fun hn b hb=>⟨hn b hb,(f2 b hb).2⟩
 refine codeAny_forLoop_any (fun n s'=>∃ i σ' H',Inv X pins σ' H' s'/\tn i s'.heap/\(∀ b∈fp,H' b=none)/\W i n σ' H') ?_ m0 ⟨0,σ,H2,I2,st2,fun b hb=>(f2 b hb).1,w0⟩
 rintro n s3 ⟨i,σ3,H3,I3,st3,fr3,w3⟩
 rcases turn i n σ3 H3 w3 with⟨stop,qn⟩|⟨go,N,hN,step⟩
 ·refine wpAny_passesOwn hp (thn (T.done X rfl rfl rfl hc i pins s3 σ3 H3 X.xe I3 (stat fr3) st3 stop) fun r s4 zq=>?_)
  obtain⟨hr,I4⟩:=zq
  subst hr
  exact wpAny_execs_nil ⟨σ3,H3,I4,qn⟩
 ·refine wpAny_passesOwn hp (thn (T.item X rfl rfl rfl hc i pins s3 σ3 H3 X.xe I3 (stat fr3) st3 go) fun r s4 zq=>?_)
  obtain⟨u,hr,h4⟩:=zq
  subst hr
  refine wpAny_passesOwn hp (thn h4 fun _ s5 zq=>?_)
  obtain⟨x,H5,I5,r5,y5,st5,fr5⟩:=zq
  have I5':=I5.pinned (stat fr5) (T.obj _ _ st5)
  refine wpAny_passesOwn hp (thn (hg _ s5 σ3 H5 x u _ I5' r5 (step x H5 y5)) fun _ s6 zq=>?_)
  obtain⟨σ6,H6,I6,q6⟩:=zq
  refine wpAny_passesOwn hp (thn (hb _ s6 σ6 H6 _ I6 q6) fun f s7 q7=>?_)
  have again:∀ {σ7:St} {H7:Hp},Inv X (pins++xn4 fp s5.heap) σ7 H7 s7->N σ7 H7->∃ m,m<n/\∃ i σ' H',Inv X pins σ' H' s7/\tn i s7.heap/\(∀ b∈fp,H' b=none)/\W i m σ' H':=fun{σ7 H7} I7 n7=>by
   obtain⟨m',hm,w7⟩:=hN σ7 H7 n7
   refine⟨m',hm,i+1,σ7,H7,I7.unpinned,T.keep _ _ _ st5 fun b hb o e=>(I7.pin (b,o) #[52,mem_append_right _ (wd2 hb e)]).1,fun b hb=>?_,w7⟩
   obtain⟨o,e,d⟩:=T.obj _ _ st5 b hb
   exact(I7.pin (b,o) #[52,mem_append_right _ (wd2 hb e)]).2.1
  cases f with
  | next=>obtain⟨σ7,H7,I7,n7⟩:=q7;exact again I7 n7
  | cont=>obtain⟨σ7,H7,I7,n7⟩:=q7;exact again I7 n7
  | brk=>obtain⟨σ7,H7,I7,q7⟩:=q7;exact⟨σ7,H7,I7.unpinned,q7⟩
  | ret v=>obtain⟨x7,σ7,H7,I7,r7,q7⟩:=q7;exact⟨x7,σ7,H7,I7.unpinned,r7,q7⟩
end
abbrev PAt{α:Type}(P:Nat->α->Hp->Prop)(i:Nat):α->Hp->Prop:=P i
variable{D:V5}
theorem xn5(Pv:Nat->St->Hp->Prop)(h0:Pv 0 σ H)(hl:∀ i σ H,i<=xs.length->Pv i σ H->SqL K H a xs)(hs:∀ i x σ H,xs[i]?=some x->Pv i σ H->g x σ H fun σ2 H2=>tb {D with nx:=PAt Pv (i+1),ct:=PAt Pv (i+1),bk:=D.nx} σ2 H2)(hd:∀ σ H,Pv xs.length σ H->D.nx σ H) :
 ∃ W:Nat->Nat->St->Hp->Prop,(∃ m,W 0 m σ H)/\∀ i m σ H,W i m σ H ->
  ((Itl K a).stop i H/\D.nx σ H)\/((Itl K a).go i H/\∃ N:St->Hp->Prop,(∀ σ' H',N σ' H'->∃ m',m'<m/\W (i+1) m' σ' H')/\∀ x H',(Itl K a).yld i H x H'->g x σ H' fun σ2 H2=>tb {D with nx:=N,ct:=N,bk:=D.nx} σ2 H2):=by
 refine⟨fun i m σ H=>m=xs.length-i/\i<=xs.length/\Pv i σ H,⟨xs.length,by simp,Nat.zero_le _,h0⟩,?_⟩
 rintro i m σ H ⟨rfl,hi,p⟩
 have q:=hl i σ H hi p
 by_cases hlt:i<xs.length
 ·refine .inr ⟨⟨xs,xs[i],q,by simp[hlt]⟩,Pv (i+1),fun σ' H' p'=>⟨xs.length-(i+1),by omega,rfl,hlt,p'⟩,fun x H' y=>?_⟩
  obtain⟨e,y⟩:=y
  subst e
  exact hs i x σ _ (y xs q) p
 ·have e:i=xs.length:=by omega
  subst e
  exact .inl ⟨⟨xs,q,Nat.le_refl _⟩,hd σ H p⟩
theorem yc3(Pv:Nat->St->Hp->Prop)(h0:Pv 0 σ H)(hl:∀ i σ H,i<=xs.length->Pv i σ H->SqT K H a xs)(hs:∀ i x σ H,xs[i]?=some x->Pv i σ H->g x σ H fun σ2 H2=>tb {D with nx:=PAt Pv (i+1),ct:=PAt Pv (i+1),bk:=D.nx} σ2 H2)(hd:∀ σ H,Pv xs.length σ H->D.nx σ H) :
 ∃ W:Nat->Nat->St->Hp->Prop,(∃ m,W 0 m σ H)/\∀ i m σ H,W i m σ H ->
  ((Itt K a).stop i H/\D.nx σ H)\/((Itt K a).go i H/\∃ N:St->Hp->Prop,(∀ σ' H',N σ' H'->∃ m',m'<m/\W (i+1) m' σ' H')/\∀ x H',(Itt K a).yld i H x H'->g x σ H' fun σ2 H2=>tb {D with nx:=N,ct:=N,bk:=D.nx} σ2 H2):=by
 refine⟨fun i m σ H=>m=xs.length-i/\i<=xs.length/\Pv i σ H,⟨xs.length,by simp,Nat.zero_le _,h0⟩,?_⟩
 rintro i m σ H ⟨rfl,hi,p⟩
 have q:=hl i σ H hi p
 by_cases hlt:i<xs.length
 ·refine .inr ⟨⟨xs,xs[i],q,by simp[hlt]⟩,Pv (i+1),fun σ' H' p'=>⟨xs.length-(i+1),by omega,rfl,hlt,p'⟩,fun x H' y=>?_⟩
  obtain⟨e,y⟩:=y
  subst e
  exact hs i x σ _ (y xs q) p
 ·have e:i=xs.length:=by omega
  subst e
  exact .inl ⟨⟨xs,q,Nat.le_refl _⟩,hd σ H p⟩
theorem xy3{lo:Int}(Pv:Nat->St->Hp->Prop)(h0:Pv 0 σ H)(hs:∀ i σ H,i<n->Pv i σ H->g (.int (lo+i)) σ H fun σ2 H2=>tb {D with nx:=PAt Pv (i+1),ct:=PAt Pv (i+1),bk:=D.nx} σ2 H2)(hd:∀ σ H,Pv n σ H->D.nx σ H) :
 ∃ W:Nat->Nat->St->Hp->Prop,(∃ m,W 0 m σ H)/\∀ i m σ H,W i m σ H ->
  ((Itr lo n).stop i H/\D.nx σ H)\/((Itr lo n).go i H/\∃ N:St->Hp->Prop,(∀ σ' H',N σ' H'->∃ m',m'<m/\W (i+1) m' σ' H')/\∀ x H',(Itr lo n).yld i H x H'->g x σ H' fun σ2 H2=>tb {D with nx:=N,ct:=N,bk:=D.nx} σ2 H2):=by
 refine⟨fun i m σ H=>m=n-i/\i<=n/\Pv i σ H,⟨n,by simp,Nat.zero_le _,h0⟩,?_⟩
 rintro i m σ H ⟨rfl,hi,p⟩
 by_cases hlt:i<n
 ·refine .inr ⟨hlt,Pv (i+1),fun σ' H' p'=>⟨n-(i+1),by omega,rfl,hlt,p'⟩,fun x H' y=>?_⟩
  obtain⟨e,y⟩:=y
  subst e y
  exact hs i σ _ hlt p
 ·have e:i=n:=by omega
  subst e
  exact .inl ⟨Nat.le_refl _,hd σ H p⟩
theorem yk5{c:TT}(Pv:St->Hp->Prop)(μ:St->Hp->Nat)(h0:Pv σ H)(hs:∀ σ H,Pv σ H->c σ H fun b H1=>if b=true then tb {D with nx:=fun σ' H'=>Pv σ' H'/\μ σ' H'<μ σ H,ct:=fun σ' H'=>Pv σ' H'/\μ σ' H'<μ σ H,bk:=D.nx} σ H1 else D.nx σ H1)(mono:∀ σ H Q Q',(∀ b H1,Q b H1->Q' b H1)->c σ H Q->c σ H Q'):qy6 c tb D σ H:=by
 refine⟨fun m σ H=>m=μ σ H/\Pv σ H,⟨_,rfl,h0⟩,?_⟩
 rintro m σ H ⟨rfl,p⟩
 refine mono σ H _ _ (fun b H1 q=>?_) (hs σ H p)
 cases b with
 | true=>exact⟨_,fun σ' H' ⟨p',l⟩=>⟨_,l,rfl,p'⟩,q⟩
 | false=>exact q
abbrev R2:=V->V->Hp->VK->Prop
def OpR(X:Cx)(f:Value->Value->Sem Value)(r:R2):Prop :=
 ∀ (pins:List (Addr×Obj)) (s:Shared) (σ:St) (H:Hp) (x y:V) (v u:Value) (Q:VK),Inv X pins σ H s->E9 x v->E9 y u->r x y H Q ->
  wpAny #[9] X.A (f v u) (EP X pins σ Q) X.xe s
def UnR(X:Cx)(f:Value->Sem Value)(r:V->Hp->VK->Prop):Prop :=
 ∀ (pins:List (Addr×Obj)) (s:Shared) (σ:St) (H:Hp) (x:V) (v:Value) (Q:VK),Inv X pins σ H s->E9 x v->r x H Q ->
  wpAny #[9] X.A (f v) (EP X pins σ Q) X.xe s
def qj3(X:Cx)(f:Value)(r:List V->Hp->VK->Prop):Prop :=
 ∀ (pins:List (Addr×Obj)) (s:Shared) (σ:St) (H:Hp) (xs:List V) (us:List Value) (Q:VK),Inv X pins σ H s->E6 xs us->r xs H Q ->
  wpAny #[9] X.A (call f us) (EP X pins σ Q) X.xe s
def tOp(r:R2)(ta tb:TE):TE:=fun σ H Q=>ta σ H fun x H1=>tb σ H1 fun y H2=>r x y H2 Q
def tUn(r:V->Hp->VK->Prop)(ta:TE):TE:=fun σ H Q=>ta σ H fun x H1=>r x H1 Q
def rI(C:Int->Int->Prop)(g:Int->Int->V):R2:=fun x y H Q=>∃ i j,x=.int i/\y=.int j/\C i j/\Q (g i j) H
def rI0(g:Int->Int->V):R2:=fun x y H Q=>∃ i j,x=.int i/\y=.int j/\Q (g i j) H
def rU(g:Int->V):V->Hp->VK->Prop:=fun x H Q=>∃ i,x=.int i/\Q (g i) H
variable{tc:TE}{f:Value->Value->Sem Value}{i j:Int}
section
variable{a b:Expr}{tb:TE}
theorem Ac5(ha:PE X a ta)(hb:PE X b tb){R:V->V->Hp->Prop}(I:Inv X pins σ H s)(h:ta σ H fun x H1=>tb σ H1 fun y H2=>R x y H2)(hf:∀ v u s2 x y H2,Inv X pins σ H2 s2->E9 x v->E9 y u->R x y H2->wpAny #[9] X.A (f v u) Q X.xe s2) :
 wpAny #[9] X.A (eval a X.env) (fun v s₁=>wpAny #[9] X.A (eval b X.env) (fun u s₂=>wpAny #[9] X.A (f v u) Q X.xe s₂) X.xe s₁) X.xe s:=by
 refine thn (ha pins s σ H _ I h) fun v s1 zq=>?_
 walk_at"33"
 refine thn (hb pins s1 σ H1 _ I1 q1) fun u s2 zq=>?_
 obtain⟨y,H2,I2,r2,q2⟩:=zq
 exact hf v u s2 x y H2 I2 r1 r2 q2
theorem D1{op:Operator}{r:R2}(ho:OpR X (binaryOp op) r)(ha:PE X a ta)(hb:PE X b tb):PE X (.BinOp a op b pos) (tOp r ta tb):=by
 walk_at"18"
 exact wpAny_BinOp (Ac5 ha hb I h fun v u s2 x y H2 I2 rx ry q=>ho pins s2 σ H2 x y v u Q I2 rx ry q)
theorem yy0{op:UnaryOp}{r:V->Hp->VK->Prop}(ho:UnR X (unaryOp op) r)(ha:PE X a ta):PE X (.UnaryOp op a pos) (tUn r ta):=by
 walk_at"18"
 exact UnaryOp_ (thn (ha pins s σ H _ I h) fun v s1 ⟨x,H1,I1,r1,q1⟩=>ho pins s1 σ H1 x v Q I1 r1 q1)
theorem opI{C:Int->Int->Prop}{g:Int->Int->Int}(rule:∀ (i j:Int) (t u:Tok) (s:Shared) (Q:Value->Shared->Prop) (E:Value->Shared->Prop),C i j->Q (.int (g i j) s.toks) {s with toks:=s.toks+1}->wpAny #[9] X.A (f (.int i t) (.int j u)) Q E s) :
 OpR X f (rI C fun i j=>.int (g i j)):=by
 walk_at"7"
 obtain⟨i,j,rfl,rfl,hc,q⟩:=h
 obtain⟨t,rfl⟩:=rx
 obtain⟨t',rfl⟩:=ry
 exact rule i j t t' s _ _ hc ⟨.int (g i j),H,I.tok _,⟨_,rfl⟩,q⟩
theorem Aj2{g:Int->Int->Int}(rule:∀ (i j:Int) (t u:Tok) (s:Shared) (Q:Value->Shared->Prop) (E:Value->Shared->Prop),Q (.int (g i j) s.toks) {s with toks:=s.toks+1}->wpAny #[9] X.A (f (.int i t) (.int j u)) Q E s) :
 OpR X f (rI0 fun i j=>.int (g i j)):=by
 walk_at"1"
 exact rule i j t t' s _ _ ⟨.int (g i j),H,I.tok _,⟨_,rfl⟩,q⟩
theorem zr8{g:Int->Int->Bool}(rule:∀ (i j:Int) (t u:Tok) (s:Shared) (Q:Value->Shared->Prop) (E:Value->Shared->Prop),Q (.bool (g i j)) s->wpAny #[9] X.A (f (.int i t) (.int j u)) Q E s) :
 OpR X f (rI0 fun i j=>.bl (g i j)):=by
 walk_at"1"
 exact rule i j t t' s _ _ ⟨.bl (g i j),H,I,rfl,q⟩
def wx0(i j:Int):Prop:=0<j/\j<1073741824
def zc3(i j:Int):Prop:=0<=j/\j<=1000000/\i.natAbs<2 ^ 64
def zh4(i j:Int):Prop:=(-(2 ^ 64)<i/\i<2 ^ 64)\/(-(2 ^ 64)<j/\j<2 ^ 64)
theorem zh4.ok(h:zh4 i j):IntMulOk i j:=by
 rcases h with⟨h1,h2⟩|⟨h1,h2⟩
 ·exact .of_left (intBits_le_64 h1 h2)
 ·exact .of_right (intBits_le_64 h1 h2)
theorem ys3(k:Nat):(0:Int)<=2 ^ k:=by
 rw[two_pow_cast]
 exact Int.natCast_nonneg _
theorem Ac6:OpR X (binaryOp .Add) (rI0 fun i j=>.int (i+j)):=Aj2 fun _ _ _ _ _ _ _ q=>add_int q
theorem Ac7:OpR X (binaryOp .Sub) (rI0 fun i j=>.int (i-j)):=Aj2 fun _ _ _ _ _ _ _ q=>sub_int q
theorem Ac8:OpR X (binaryOp .Mult) (rI zh4 fun i j=>.int (i*j)):=opI fun _ _ _ _ _ _ _ hc q=>mul_int q hc.ok
theorem xm0:OpR X (binaryOp .FloorDiv) #[40]:=opI fun i j _ _ _ _ _ hc q=>by
 have h1:(0:Int)<j:=hc.1
 have h2:j<1073741824:=hc.2
 exact floordiv_int #[0] (by rw[Int.fdiv_eq_ediv_of_nonneg i #[0]];exact q) (.inl (PyProof.noPylong_small #[0]))
theorem qd0:OpR X (binaryOp .Mod) #[2]:=opI fun i j _ _ _ _ _ hc q=>by
 have h1:(0:Int)<j:=hc
 exact mod_int' #[0] (by rw[Int.fmod_eq_emod_of_nonneg i #[0]];exact q)
theorem zh5:OpR X (binaryOp .LShift) (rI zc3 fun i j=>.int (i*2 ^ j.toNat)):=opI fun _ _ _ _ _ _ _ hc q=>lshift_int_small hc.1 hc.2.1 hc.2.2 q
theorem zh6:OpR X (binaryOp .RShift) (rI (fun _ j=>0<=j) fun i j=>.int (i / 2 ^ j.toNat)):=opI fun i j _ _ _ _ _ hc q =>
 rshift_int hc (by rw[Int.fdiv_eq_ediv_of_nonneg i (ys3 _)];exact q)
theorem unI{f:Value->Sem Value}{g:Int->Int}(rule:∀ (i:Int) (t:Tok) (s:Shared) (Q:Value->Shared->Prop) (E:Value->Shared->Prop),Q (.int (g i) s.toks) {s with toks:=s.toks+1}->wpAny #[9] X.A (f (.int i t)) Q E s) :
 UnR X f (rU fun i=>.int (g i)):=by
 intro pins s σ H x v Q I rx h
 obtain⟨i,rfl,q⟩:=h
 obtain⟨t,rfl⟩:=rx
 exact rule i t s _ _ ⟨.int (g i),H,I.tok _,⟨_,rfl⟩,q⟩
theorem yc4:UnR X (unaryOp .USub) (rU fun i=>.int (-i)):=unI fun _ _ _ _ _ q=>neg_int q
end
def zr9:V->V->Bool
 | .non,.non=>true | .non,.int _=>true | .int _,.non=>true | .non,.bl _=>true | .bl _,.non=>true | .non,.str _=>true | .str _,.non=>true
 | .int _,.int _=>true | .bl _,.bl _=>true | .str _,.str _=>true | .byt _,.byt _=>true
 | .int _,.str _=>true | .str _,.int _=>true | .bl _,.str _=>true | .str _,.bl _=>true
 | _,_=>false
def rEq:R2:=fun x y H Q=>zr9 x y=true/\Q (.bl (decide (x=y))) H
def rNe:R2:=fun x y H Q=>zr9 x y=true/\Q (.bl (!decide (x=y))) H
theorem yy1:decide (V.int i=V.int j)=(i == j):=by
 rw[Bool.eq_iff_iff]
 simp
theorem zh7{i j:Bool}:decide (V.bl i=V.bl j)=(i == j):=by
 rw[Bool.eq_iff_iff]
 simp
theorem yy2{i j:Str}:decide (V.str i=V.str j)=(i == j):=by
 rw[Bool.eq_iff_iff]
 simp
theorem yy3{i j:Array UInt8}:decide (V.byt i=V.byt j)=(i.toList == j.toList):=by
 rw[Bool.eq_iff_iff]
 cases i
 cases j
 simp
section
variable{a b:Expr}{tb:TE}
theorem J7{Q:VK}{k k':Bool}(I:Inv X pins σ H s)(q:Q (.bl k) H)(e:k=k'):EP X pins σ Q (.bool k') s:=by
 subst e
 exact⟨.bl k,H,I,rfl,q⟩
theorem Aj3:OpR X #[74,.Eq] rEq:=by
 walk_at"7"
 obtain⟨hs,q⟩:=h
 cases x with
 | non =>
   cases rx
   cases y with
   | non=>cases ry;exact PySem.EqNone.eq_none_none #[33]
   | bl j=>cases ry;exact PySem.EqNone.eq_none_bool #[33]
   | int j=>obtain⟨t',rfl⟩:=ry;exact PySem.EqNone.eq_none_int #[33]
   | str j=>obtain⟨t',rfl⟩:=ry;exact PySem.EqNone.eq_none_str #[33]
   | _=>exact absurd (show false=true from hs) Bool.false_ne_true
 | bl i =>
   cases rx
   cases y with
   | non=>cases ry;exact PySem.EqNone.eq_bool_none #[33]
   | bl j=>cases ry;exact eq_bool (J7 I q zh7)
   | str j=>obtain⟨t',rfl⟩:=ry;exact PySem.EqMixed.eq_bool_str #[33]
   | _=>exact absurd (show false=true from hs) Bool.false_ne_true
 | int i =>
   obtain⟨t,rfl⟩:=rx
   cases y with
   | non=>cases ry;exact PySem.EqNone.eq_int_none #[33]
   | int j=>obtain⟨t',rfl⟩:=ry;exact eq_int (J7 I q yy1)
   | str j=>obtain⟨t',rfl⟩:=ry;exact PySem.EqMixed.eq_int_str #[33]
   | _=>exact absurd (show false=true from hs) Bool.false_ne_true
 | str i =>
   obtain⟨t,rfl⟩:=rx
   cases y with
   | non=>cases ry;exact PySem.EqNone.eq_str_none #[33]
   | bl j=>cases ry;exact PySem.EqMixed.eq_str_bool #[33]
   | int j=>obtain⟨t',rfl⟩:=ry;exact PySem.EqMixed.eq_str_int #[33]
   | str j=>obtain⟨t',rfl⟩:=ry;exact eq_str (J7 I q yy2)
   | _=>exact absurd (show false=true from hs) Bool.false_ne_true
 | byt i =>
   obtain⟨t,rfl⟩:=rx
   cases y with
   | byt j=>obtain⟨t',rfl⟩:=ry;exact PySem.W.eq_bytes (J7 I q yy3)
   | _=>exact absurd (show false=true from hs) Bool.false_ne_true
 | _=>cases y <;> exact absurd (show false=true from hs) Bool.false_ne_true
theorem Aj4:OpR X #[74,.NotEq] rNe:=by
 walk_at"7"
 obtain⟨hs,q⟩:=h
 cases x with
 | non =>
   cases rx
   cases y with
   | non=>cases ry;exact PySem.EqNone.ne_none_none #[33]
   | bl j=>cases ry;exact PySem.EqNone.ne_none_bool #[33]
   | int j=>obtain⟨t',rfl⟩:=ry;exact PySem.EqNone.ne_none_int #[33]
   | str j=>obtain⟨t',rfl⟩:=ry;exact PySem.EqNone.ne_none_str #[33]
   | _=>exact absurd (show false=true from hs) Bool.false_ne_true
 | bl i =>
   cases rx
   cases y with
   | non=>cases ry;exact PySem.EqNone.ne_bool_none #[33]
   | bl j=>cases ry;exact ne_bool (J7 I q (congrArg not zh7))
   | str j=>obtain⟨t',rfl⟩:=ry;exact PySem.EqMixed.ne_bool_str #[33]
   | _=>exact absurd (show false=true from hs) Bool.false_ne_true
 | int i =>
   obtain⟨t,rfl⟩:=rx
   cases y with
   | non=>cases ry;exact PySem.EqNone.ne_int_none #[33]
   | int j=>obtain⟨t',rfl⟩:=ry;exact ne_int (J7 I q (congrArg not yy1))
   | str j=>obtain⟨t',rfl⟩:=ry;exact PySem.EqMixed.ne_int_str #[33]
   | _=>exact absurd (show false=true from hs) Bool.false_ne_true
 | str i =>
   obtain⟨t,rfl⟩:=rx
   cases y with
   | non=>cases ry;exact PySem.EqNone.ne_str_none #[33]
   | bl j=>cases ry;exact PySem.EqMixed.ne_str_bool #[33]
   | int j=>obtain⟨t',rfl⟩:=ry;exact PySem.EqMixed.ne_str_int #[33]
   | str j=>obtain⟨t',rfl⟩:=ry;exact ne_str (J7 I q (congrArg not yy2))
   | _=>exact absurd (show false=true from hs) Bool.false_ne_true
 | byt i =>
   obtain⟨t,rfl⟩:=rx
   cases y with
   | byt j=>obtain⟨t',rfl⟩:=ry;exact PySem.W.ne_bytes (J7 I q (congrArg not yy3))
   | _=>exact absurd (show false=true from hs) Bool.false_ne_true
 | _=>cases y <;> exact absurd (show false=true from hs) Bool.false_ne_true
theorem Aj5:OpR X #[74,.Lt] (rI0 fun i j=>.bl (decide (i<j))):=zr8 fun _ _ _ _ _ _ _ q=>lt_int q
theorem Aj6:OpR X #[74,.LtE] (rI0 fun i j=>.bl (decide (i<=j))):=zr8 fun _ _ _ _ _ _ _ q=>le_int q
theorem Aj7:OpR X #[74,.Gt] (rI0 fun i j=>.bl (decide (j<i))):=zr8 fun _ _ _ _ _ _ _ q=>gt_int q
theorem Aj8:OpR X #[74,.GtE] (rI0 fun i j=>.bl (decide (j<=i))):=zr8 fun _ _ _ _ _ _ _ q=>ge_int q
theorem zc4:OpR X #[74,.Lt] (fun x y H Q=>∃ i j,x=.str i/\y=.str j/\Q (.bl (decide (i.cps.toList<j.cps.toList))) H):=by
 walk_at"1"
 exact lt_str (J7 I q rfl)
theorem zc5:OpR X #[74,.In] (fun x y H Q=>∃ i j,x=.str i/\y=.str j/\Q (.bl (!(Builtin.Str.occurrences j i 0 j.length 1).isEmpty)) H):=by
 walk_at"1"
 exact in_str (J7 I q rfl)
theorem Ac9:OpR X #[74,.Is] (fun x y H Q=>y=.non/\Q (.bl (decide (x=.non))) H):=by
 walk_at"7"
 obtain⟨rfl,q⟩:=h
 cases ry
 refine is_none_gen (J7 I q ?_)
 cases x <;> first
  | (cases rx;rfl)
  | (obtain⟨t,rfl⟩:=rx;rfl)
theorem zs0:OpR X #[74,.IsNot] (fun x y H Q=>y=.non/\Q (.bl (!decide (x=.non))) H):=by
 walk_at"7"
 obtain⟨rfl,q⟩:=h
 cases ry
 refine isnot_none_gen (J7 I q ?_)
 cases x <;> first
  | (cases rx;rfl)
  | (obtain⟨t,rfl⟩:=rx;rfl)
theorem OpR.or{r r':R2}(h:OpR X f r)(h':OpR X f r'):OpR X f (fun x y H Q=>r x y H Q\/r' x y H Q):=by
 intro pins s σ H x y v u Q I rx ry q
 rcases q with q|q
 ·exact h pins s σ H x y v u Q I rx ry q
 ·exact h' pins s σ H x y v u Q I rx ry q
theorem L5(b:Expr){op:CmpOp}(h:autoParam (op≠.In) zAd)(h2:autoParam (op≠.NotIn) zAd):behindInMarks op b=false:=by
 have e1:(op == CmpOp.In)=false:=by cases op <;> first|rfl|exact absurd rfl h
 have e2:(op == CmpOp.NotIn)=false:=by cases op <;> first|rfl|exact absurd rfl h2
 cases b <;> simp[behindInMarks,e1,e2]
theorem qa1{op:CmpOp}{r:R2}(ho:OpR X #[74,op] r)(ha:PE X a ta)(hb:PE X b tb)(hm:behindInMarks op b=false):PE X (.Compare a [op] [b] pos) (tOp r ta tb):=by
 walk_at"18"
 exact wpAny_Compare1 (Ac5 ha hb I h fun v u s2 x y H2 I2 rx ry q=>ho pins s2 σ H2 x y v u Q I2 rx ry q) hm
def C5(t:TE):TT:=fun σ H Q=>t σ H fun x H'=>∃ k,x=.bl k/\Q k H'
theorem E4{op:CmpOp}{r:R2}(ho:OpR X #[74,op] r)(ha:PE X a ta)(hb:PE X b tb)(hm:behindInMarks op b=false):PT X (.Compare a [op] [b] pos) (C5 (tOp r ta tb)):=by
 walk_at"18"
 refine wpAny_isTrue_Compare1 (thn (ha pins s σ H _ I h) fun v s1 ⟨x,H1,I1,r1,q1⟩=>thn (hb pins s1 σ H1 _ I1 q1) fun u s2 ⟨y,H2,I2,r2,q2⟩ =>
  thn (ho pins s2 σ H2 x y v u _ I2 r1 r2 q2) fun c s3 ⟨z,H3,I3,r3,k,e,q3⟩=>?_) hm
 subst e
 cases r3
 exact wpAny_truthy_bool ⟨H3,I3,q3⟩
def yc5(r r':R2)(ta tb tc:TE):TE:=fun σ H Q=>ta σ H fun x H1=>tb σ H1 fun y H2=>r x y H2 fun z H3=>∃ k,z=.bl k /\
 (if k=true then tc σ H3 fun w' H4=>r' y w' H4 Q else Q (.bl false) H3)
theorem yk6{op op':CmpOp}{r r':R2}(ho:OpR X #[74,op] r)(ho':OpR X #[74,op'] r')(ha:PE X a ta)(hb:PE X b tb)(hc:PE X c tc)(hm:lastMarks [op,op'] [b,c]=false:=by with_unfolding_all rfl):PE X (.Compare a [op,op'] [b,c] pos) (yc5 r r' ta tb tc):=by
 walk_at"18"
 refine Compare_chain (thn (ha pins s σ H _ I h) fun v s1 ⟨x,H1,I1,r1,q1⟩=>chain_link (thn (hb pins s1 σ H1 _ I1 q1) fun u s2 ⟨y,H2,I2,r2,q2⟩ =>
  thn (ho pins s2 σ H2 x y v u _ I2 r1 r2 q2) fun d s3 ⟨z,H3,I3,r3,k,e,q3⟩=>?_)) hm
 subst e
 cases r3
 refine wpAny_truthy_bool ?_
 cases k with
 | false=>exact ite_ff ⟨.bl false,H3,I3,rfl,q3⟩
 | true=>exact ite_tt (chain_last (thn (hc pins s3 σ H3 _ I3 q3) fun w' s4 ⟨z',H4,I4,r4,q4⟩=>ho' pins s4 σ H4 y z' u w' Q I4 r2 r4 q4))
theorem xd0:(sizeLine:Nat)<2 ^ 63:=by rw[sizeLine_eq];decide
theorem ys4:OpR X (binaryOp .Add) (fun x y H Q=>∃ i j,x=.str i/\y=.str j/\i.length+j.length<=sizeLine/\Q (.str (i++j)) H):=by
 walk_at"7"
 obtain⟨i,j,rfl,rfl,hz,q⟩:=h
 obtain⟨t,rfl⟩:=rx
 obtain⟨t',rfl⟩:=ry
 exact wpAny_with_toks (n:=1) I.tk (add_str (fun t' tk ht=>⟨.str (i++j),H,I.tok _ ht,⟨_,rfl⟩,q⟩) hz)
theorem qz9{x:V}(r:E6 [x] us):∃ u,us=[u]/\E9 x u:=by
 cases r with
 | cons r1 r2=>cases r2;exact⟨_,rfl,r1⟩
theorem xy4{x:V}(r:E6 [x,y] us):∃ u w',us=[u,w']/\E9 x u/\E9 y w':=by
 cases r with
 | cons r1 r2 =>
   cases r2 with
   | cons r3 r4=>cases r4;exact⟨_,_,rfl,r1,r3⟩
theorem zc6:qj3 X (.type "int") (fun xs H Q=>(∃ i,xs=[.int i]/\Q (.int i) H)\/∃ k,xs=[.bl k]/\Q (.int (if k then 1 else 0)) H):=by
 intro pins s σ H xs us Q I r h
 rcases h with⟨i,rfl,q⟩|⟨k,rfl,q⟩
 ·obtain⟨u,rfl,t,rfl⟩:=qz9 r
  exact call_int_int ⟨.int i,H,I,⟨_,rfl⟩,q⟩
 ·obtain⟨u,rfl,r1⟩:=qz9 r
  cases r1
  exact call_int_bool ⟨.int (if k then 1 else 0),H,I.tok _,⟨_,rfl⟩,q⟩
end
structure ys5(h:Heap)(x dx C:Addr)(mA:Str->Option Value):Prop where
 obj:h.get? x=some (PySem.W.instObj C dx)
 ns:h.Ns1 dx mA
 ne:dx≠x
variable{dx:Addr}{mA:Str->Option Value}
theorem zc7(n:h.Ns1 dx mA):∃ od,h.get? dx=some od/\∀ name,PySem.W.lookIn name od=some (mA name):=by
 obtain⟨o,es,ep,ho,hd,hk,_,hm⟩:=n
 refine⟨o,ho,fun name=>?_⟩
 have e:=hm name
 unfold nsFind findBy at e
 rw[<-Array.find?_toList] at e
 unfold PySem.W.lookIn
 rw[hd]
 dsimp only
 split
 ·rename_i y q
  rw[q] at e
  exact congrArg some e
 ·rename_i q
  rw[q] at e
  have a:es.toList.any (·.refKey)=false:=by
   rw[any_eq_false]
   intro y hy
   obtain⟨z,t,hkey⟩:=hk y (Array.mem_toList_iff.mp hy)
   simp[DictEntry.refKey,hkey]
  have a':¬es.toList.any (·.refKey)=true:=by rw[a];exact Bool.false_ne_true
  rw[if_neg a']
  exact congrArg some e
variable{C:Addr}
theorem ys5.look{x:Addr}(I:ys5 h x dx C mA):∃ od,PySem.W.InstAt h x (PySem.W.instObj C dx) C (some od)/\∀ name,PySem.W.lookIn name od=some (mA name) :=
 let ⟨od,ho,hl⟩:=zc7 I.ns
 ⟨od,⟨I.obj,rfl,rfl,ho⟩,hl⟩
variable{name:Str}{prog:Program}{pl:Sem Bool}{kw:List (Str×Value)}
section
variable{x f:Addr}{v:Value}
theorem zs3{expr:Bool}(X:K.In s.heap)(I:ys5 s.heap x dx C mA)(hg:PySem.W.plainGet K C name=true)(hh:PySem.W.hasDictIn K C=true)(ha:PySem.W.findIn K (.ref C) name=some none)(hv:mA name=some v)(hv':PySem.W.handedIn v=true)(h:Q v {s with toks:=s.toks+1}) :
 wpAny #[31] A (getAttr (.ref x) name expr) Q E s:=by
 obtain⟨od,J,hl⟩:=I.look
 exact PySem.W.get_value X J (PySem.W.plainGet_of hg).1 (PySem.W.findObj_own hh ha rfl (by rw[hl,hv])) hv' h
theorem zh8{Q:Value×List Value->Shared->Prop}(X:K.In s.heap)(I:ys5 s.heap x dx C mA)(hg:PySem.W.plainGet K C name=true)(hf:PySem.W.findIn K (.ref C) name=some #[5,f])(ht:PySem.W.isFn K (.ref f)=true)(hv:mA name=none)(h:Q (.ref f,[.ref x]) s) :
 wpAny #[31] A (getMethod (.ref x) name pl) Q E s:=by
 obtain⟨od,J,hl⟩:=I.look
 exact PySem.W.method_fn X J (PySem.W.plainGet_of hg).1 (PySem.W.plainGet_of hg).2 hf (beq_iff_eq.mp ht) (by show(PySem.W.lookIn name od).map (·.isSome)=some false;rw[hl,hv];rfl) h
theorem zs4{ns:List Str}{Q:Unit->Shared->Prop}(X:K.In s.heap)(I:ys5 s.heap x dx C mA)(hs:PySem.W.findIn K (.ref C) "__setattr__"=some (some (.builtin "object.__setattr__")))(hp:PySem.W.plainOver K C=true)(ht:PySem.W.takerIn K C name=some none)(hh:PySem.W.hasDictIn K C=true)(hw:PySem.Within mA ns)(hsz:ns.length<=sizeLine)(h:∀ h',ys5 h' x dx C (fun y=>if y=name then some v else mA y)->Heap.SameBut dx s.heap h'->Q () {s with heap:=h',toks:=s.toks+2}) :
 wpAny #[31] A (setAttr (.ref x) name v) Q E s:=by
 obtain⟨od,J,hl⟩:=I.look
 refine PySem.W.set_plain X J hs (PySem.W.osa_open (s:={s with toks:=s.toks+1}) (r:=none) X J hp ht fun b=>?_)
 obtain⟨cd,hc,hd'⟩:=PySem.W.any_some hh
 have hx:s.heap.get? x=some ⟨.ref C,some dx,.plain,#[]⟩:=I.obj
 refine wpAny_bind (wpAny_pure (wpAny_bind (wpAny_bind (wpAny_loadPart hx (wpAny_bind (PySem.W.Looks.here (s:={s with toks:=s.toks+1}) (PySem.W.looks_clsIn X hc) ?_))))))
 rw[hd']
 refine wpAny_pure (a:=some dx) (wpAny_bind (wpAny_pure (wpAny_bind ?_)))
 refine wpAny_nsSet1 (s:={s with toks:=s.toks+1}) I.ns fun h' hn2 hs2=>?_
 obtain⟨oD,esD,epD,hoD,hdD,hcD⟩:=hn2.count (PySem.Within.cons name v hw)
 refine wpAny_bind (wpAny_lookBehind hoD (by rw[hdD];exact pastItsLine_dict (Nat.le_trans hcD (by rw[length_cons];omega))) ?_)
 exact wpAny_pure (h _ ⟨(hs2.2 _ (Ne.symm I.ne)).trans I.obj,hn2,I.ne⟩ hs2)
theorem zh9{R:Result->Shared->Prop}{vs:List Value}(X:K.In s.heap)(hm:PySem.W.makesIn K C=true)(hi:PySem.W.findIn K (.ref C) "__init__"=some #[5,f])(hf:PySem.W.typeIn K (.ref f)=some (.type "function")) (h:codeAny #[31] (A.under (.builtin "type.__call__" ⟨.ref C::vs,kw⟩)) (.call (.ref f) ⟨.ref #[28]::vs,kw⟩) (PySem.W.InitBack #[28] R)
  {s with heap:=(s.heap.push PySem.W.emptyDict).push (PySem.W.instObj C s.heap.objs.size)}) :
 codeAny #[31] A (.call (.ref C) ⟨vs,kw⟩) R s:=by
 obtain⟨hh,g,d,t,os⟩:=s
 exact PySem.W.make_core (PySem.W.makes_of X hm) (PySem.W.looks_findIn X hi) (fun self=>PySem.W.bind_fn X self hf) (.inl rfl) h
end
def qm8(f:Str)(v:V):List (Str×V)->List (Str×V)
 | []=>[(f,v)]
 | (g,x)::r=>if g=f then(g,v)::r else(g,x)::qm8 f v r
theorem xi7(f g:Str)(v:V):∀ fs:List (Str×V),(qm8 f v fs).lookup g=if g=f then some v else fs.lookup g
 | []=>by
   show List.lookup g [(f,v)]=_
   by_cases h:g=f
   ·have hb:(g == f)=true:=beq_iff_eq.mpr h
    simp only[List.lookup,hb,if_pos h]
   ·have hb:(g == f)=false:=beq_eq_false_iff_ne.mpr h
    simp only[List.lookup,hb,if_neg h]
 | (k,x)::r=>by
   have ih:=xi7 f g v r
   rw[show qm8 f v ((k,x)::r)=(if k=f then(k,v)::r else(k,x)::qm8 f v r) from rfl]
   by_cases hk:k=f
   ·rw[if_pos hk]
    by_cases h:g=k
    ·have hb:(g == k)=true:=beq_iff_eq.mpr h
     simp only[List.lookup,hb,if_pos (h.trans hk)]
    ·have hb:(g == k)=false:=beq_eq_false_iff_ne.mpr h
     simp only[List.lookup,hb,if_neg (fun e:g=f=>h (e.trans hk.symm))]
   ·rw[if_neg hk]
    by_cases h:g=k
    ·have hb:(g == k)=true:=beq_iff_eq.mpr h
     simp only[List.lookup,hb,if_neg (fun e:g=f=>hk (h.symm.trans e))]
    ·have hb:(g == k)=false:=beq_eq_false_iff_ne.mpr h
     simp only[List.lookup,hb]
     exact ih
theorem xd1(f:Str)(v:V):∀ fs:List (Str×V),f∈(qm8 f v fs).map (·.1)/\∀ g,g∈fs.map (·.1)->g∈(qm8 f v fs).map (·.1)
 | []=>⟨by simp[qm8],fun g h=>by simp at h⟩
 | (k,x)::r=>by
   obtain⟨i1,i2⟩:=xd1 f v r
   rw[show qm8 f v ((k,x)::r)=(if k=f then(k,v)::r else(k,x)::qm8 f v r) from rfl]
   by_cases hk:k=f
   ·rw[if_pos hk]
    subst hk
    exact⟨by simp,fun g h=>by simpa using h⟩
   ·rw[if_neg hk]
    refine⟨?_,fun g h=>?_⟩
    ·rw[map_cons]
     exact mem_cons_of_mem _ i1
    ·rw[map_cons] at h ⊢
     rcases mem_cons.mp h with e|e
     ·exact mem_cons.mpr (.inl e)
     ·exact mem_cons_of_mem _ (i2 g e)
theorem xi8(f:Str)(v:V):∀ fs:List (Str×V),(qm8 f v fs).length<=fs.length+1
 | []=>by simp[qm8]
 | (k,x)::r=>by
   have ih:=xi8 f v r
   rw[show qm8 f v ((k,x)::r)=(if k=f then(k,v)::r else(k,x)::qm8 f v r) from rfl]
   by_cases hk:k=f
   ·rw[if_pos hk,length_cons,length_cons];omega
   ·rw[if_neg hk,length_cons,length_cons];omega
theorem wq8.some_of{o:Option Value}(r:wq8 (some v) o):∃ u,o=some u/\E9 v u:=by
 cases o with
 | none=>exact(show False from r).elim
 | some u=>exact⟨u,rfl,r⟩
theorem wq8.none_of{o:Option Value}(r:wq8 none o):o=none:=by
 cases o with
 | none=>rfl
 | some u=>exact(show False from r).elim
theorem zc8(r:E9 v u):PySem.W.handedIn u=true:=by
 cases v with
 | non=>cases (show u=Value.none from r);rfl
 | bl b=>cases (show u=Value.bool b from r);rfl
 | int i=>obtain⟨t,e⟩:=(show ∃ t,u=Value.int i t from r);cases e;rfl
 | str x=>obtain⟨t,e⟩:=(show ∃ t,u=Value.str x t from r);cases e;rfl
 | byt b=>obtain⟨t,e⟩:=(show ∃ t,u=Value.bytes b t from r);cases e;rfl
 | flt b=>obtain⟨t,e⟩:=(show ∃ t,u=Value.float b t from r);cases e;rfl
 | ref a=>cases (show u=Value.ref a from r);rfl
 | ty n=>cases (show u=Value.type n from r);rfl
section
variable{fs fs':List (Str×V)}
theorem xm1(hok:HOk P w H h)(e:H a=some (.ins C dx fs)):∃ mA,ys5 h a dx C mA/\(∀ f,wq8 (fs.lookup f) (mA f))/\PySem.Within mA (fs.map (·.1))/\fs.length<=1000/\H dx=some (.own a):=by
 obtain⟨d,z,ne,ob,mA,n,r,q⟩:=(show U0 P w H h a (.ins C dx fs) from hok a _ e)
 exact⟨mA,⟨ob,n,ne⟩,r,q,z,d⟩
end
structure Cls(K:Fg)(C:Addr):Prop where
 pg:PySem.W.plainGet K C Str.empty=true
 hd:PySem.W.hasDictIn K C=true
 po:PySem.W.plainOver K C=true
 sa:PySem.W.findIn K (.ref C) "__setattr__"=some (some (.builtin "object.__setattr__"))
theorem Cls.get(c:Cls K C)(f:Str):PySem.W.plainGet K C f=true:=c.pg
def wk0(K:Fg)(C:Addr)(f:Str):Prop:=PySem.W.findIn K (.ref C) f=some none
theorem wk0.taker{f:Str}(n:wk0 K C f):PySem.W.takerIn K C f=some none:=by
 unfold PySem.W.takerIn
 rw[show PySem.W.findIn K (.ref C) f=some none from n]
 rfl
structure wd4(K:Fg)(C:Addr)(m:Str)(f:Addr):Prop where
 at_:PySem.W.findIn K (.ref C) m=some #[5,f]
 fn:PySem.W.isFn K (.ref f)=true
 kp:PySem.W.keepIn K (.ref f)=true
variable{m:Str}{env:Env}
section
variable{fs:List (Str×V)}{f:Str}
theorem ys6{b:Bool}(I:Inv X pins σ H s)(e:H a=some (.ins C dx fs))(c:Cls X.K C)(n:wk0 X.K C f)(l:fs.lookup f=some v)(h:∀ u s',Inv X pins σ H s'->E9 v u->Q u s'):wpAny #[9] A (getAttr (.ref a) f b) Q E s:=by
 obtain⟨mA,O,r,_,_,_⟩:=xm1 I.hok e
 obtain⟨u,hu,ru⟩:=wq8.some_of (v:=v) (o:=mA f) (by rw[<-l];exact r f)
 exact zs3 I.kIn O (c.get f) c.hd n hu (zc8 ru) (h u _ (I.tok _) ru)
theorem xn6{g:Addr}{Q:Value×List Value->Shared->Prop}(I:Inv X pins σ H s)(e:H a=some (.ins C dx fs))(c:Cls X.K C)(k:wd4 X.K C m g)(l:fs.lookup m=none)(h:Q (.ref g,[.ref a]) s):wpAny #[9] A (getMethod (.ref a) m pl) Q E s:=by
 obtain⟨mA,O,r,_,_,_⟩:=xm1 I.hok e
 have hn:mA m=none:=wq8.none_of (by rw[<-l];exact r m)
 exact zh8 I.kIn O (c.get m) k.at_ k.fn hn h
theorem ys7{Q:Unit->Shared->Prop}(I:Inv X pins σ H s)(e:H a=some (.ins C dx fs))(c:Cls X.K C)(n:wk0 X.K C f)(hl:fs.length<1000)(ry:E9 y u)(h:∀ s',Inv X pins σ (upd H a (.ins C dx (qm8 f y fs))) s'->Q () s'):wpAny #[9] A (setAttr (.ref a) f u) Q E s:=by
 obtain⟨mA,O,r,wi,_,ho⟩:=xm1 I.hok e
 have hz:(fs.map (·.1)).length<=sizeLine:=by rw[length_map,sizeLine_eq];omega
 refine zs4 I.kIn O c.sa c.po n.taker c.hd wi hz fun h' O' sb=>h _ ?_
 have hd:∃ o,h'.get? dx=some o:=let ⟨o,_,_,e',_⟩:=O'.ns;⟨o,e'⟩
 refine I.write (x:=a) (e:=dx) (by rw[e];exact True.intro) (.inr ho) (fun b q hb z=>(sb.2 b hb).trans z) hd ?_
 refine⟨by rw[B5 O.ne];exact ho,?_,O.ne,O'.obj,_,O'.ns,fun g=>?_,fun g hg=>?_⟩
 ·have:=xi8 f y fs;omega
 ·show wq8 ((qm8 f y fs).lookup g) (if g=f then some u else mA g)
  rw[xi7]
  by_cases q:g=f
  ·rw[if_pos q,if_pos q];exact ry
  ·rw[if_neg q,if_neg q];exact r g
 ·by_cases q:g=f
  ·rw[q];exact(xd1 f y fs).1
  ·refine(xd1 f y fs).2 g (wi g fun z=>hg ?_)
   show(if g=f then some u else mA g)=none
   rw[if_neg q];exact z
theorem Inv.made(I:Inv X pins σ H s):Inv X pins σ (upd (upd H s.heap.objs.size (.own #[28])) #[28] (.ins C s.heap.objs.size []))
 {s with heap:=(s.heap.push PySem.W.emptyDict).push (PySem.W.instObj C s.heap.objs.size)}:=by
 have e1:(s.heap.push PySem.W.emptyDict).get? s.heap.objs.size=some PySem.W.emptyDict:=Heap.get?_push_size s.heap rfl
 have e2:((s.heap.push PySem.W.emptyDict).push (PySem.W.instObj C s.heap.objs.size)).get? #[28]=some (PySem.W.instObj C s.heap.objs.size):=by
  have:=Heap.get?_push_size (s.heap.push PySem.W.emptyDict) (o:=PySem.W.instObj C s.heap.objs.size) rfl
  rwa [Heap.size_push] at this
 have e3:(s.heap.push PySem.W.emptyDict).Ns s.heap.objs.size (fun _=>none):=⟨PySem.W.emptyDict,#[],_,e1,rfl,(fun e he=>absurd he (by simp)),fun _=>rfl⟩
 have I1:=I.laid (a:=s.heap.objs.size) (o:=.own #[28]) (h':=s.heap.push PySem.W.emptyDict) (t':=s.toks) (fun b u q=>Heap.get?_push_of_some _ q) #[11] ⟨_,e1⟩
 refine I1.laid (a:=s.heap.objs.size+1) (o:=.ins C s.heap.objs.size []) (t':=s.toks) (fun b u q=>Heap.get?_push_of_some _ q) (Nat.le_of_eq (Heap.size_push _ _)) ?_
 have ne:s.heap.objs.size≠s.heap.objs.size+1:=Nat.ne_of_lt (Nat.lt_succ_self _)
 refine⟨by rw[B5 ne,A8],Nat.zero_le _,ne,e2,fun _=>none,(Heap.Ns1.of_empty e3).at fun o q=>Heap.get?_push_of_some _ q,fun _=>True.intro,fun y hy=>absurd rfl hy⟩
theorem zs5{f:Str}(hb:attributeBase e f env (eval e env)=eval e env)(h:wpAny #[31] A (eval e env) (fun o s₁=>wpAny #[31] A (getAttr o f true) Q E s₁) E s):wpAny #[31] A (eval (.Attribute e f pos) env) Q E s :=
 Attribute_any_ h (by rw[arm_eval_Attribute,hb])
end
def R4(K:Fg)(ta:TE)(f:Str):TE:=fun σ H Q=>ta σ H fun x H1=>∃ a C dx fs v,x=.ref a/\H1 a=some (.ins C dx fs)/\Cls K C/\wk0 K C f/\fs.lookup f=some v/\Q v H1
def wk1(K:Fg)(ta tv:TE)(f:Str):TS:=fun D σ H=>tv σ H fun y H1=>ta σ H1 fun x H2=>∃ a C dx fs,x=.ref a/\H2 a=some (.ins C dx fs)/\Cls K C/\wk0 K C f/\fs.length<1000 /\
 D.nx σ (upd H2 a (.ins C dx (qm8 f y fs)))
variable{tpos:Pos}{tv:TE}
section
variable{value:Expr}{f:Str}
theorem wu4(he:PE X e ta)(hb:attributeBase e f X.env (eval e X.env)=eval e X.env):PE X (.Attribute e f pos) (R4 X.K ta f):=by
 walk_at"18"
 refine zs5 hb (thn (he pins s σ H _ I h) fun u s1 zq=>?_)
 obtain⟨x,H1,I1,rx,a,C,dx,fs,v,ex,ea,c,n,l,q⟩:=zq
 subst ex
 obtain rfl:u=Value.ref a:=rx
 exact ys6 I1 ea c n l fun u' s2 I2 ru=>⟨v,H1,I2,ru,q⟩
theorem Ad0(ha:PE X o ta)(hv:PE X value tv)(hs:swapsWith value (some (.Attribute o f pos')) pos.line X.env=pure false):PS X (.Assign [.Attribute o f pos'] value pos) (wk1 X.K ta tv f):=by
 intro pins s σ H D I h
 refine plainObj_wpAny_Assign_Attribute (thn (hv pins s σ H _ I h) fun u s1 ⟨y,H1,I1,ry,q⟩=>thn (ha pins s1 σ H1 _ I1 q) fun ov s2 zq=>?_) hs
 obtain⟨x,H2,I2,rx,a,C,dx,fs,ex,ea,c,n,l,q2⟩:=zq
 subst ex
 obtain rfl:ov=Value.ref a:=rx
 exact ys7 I2 ea c n l ry fun s3 I3=>⟨σ,_,I3,q2⟩
end
section
variable{c:Value}{b:Bool}
inductive wx1(K:Fg)(H:Hp):V->Value->Prop where
 | non:wx1 K H .non (.type "NoneType")
 | bl (x:Bool):wx1 K H (.bl x) (.type "bool")
 | int (i:Int):wx1 K H (.int i) (.type "int")
 | str (x:Str):wx1 K H (.str x) (.type "str")
 | flt (x:UInt64):wx1 K H (.flt x) (.type "float")
 | lst {a:Addr} {xs:List V} (e:H a=some (.lst xs)):wx1 K H (.ref a) (.type "list")
 | frz {a:Addr} {o:Obj} {xs:List V} (e:H a=some (.frz o (.lst xs))):wx1 K H (.ref a) (.type "list")
 | tup {a:Addr} {xs:List V} (e:H a=some (.tup xs)):wx1 K H (.ref a) (.type "tuple")
 | dK {a:Addr} {kvs:List (Key×V)} (e:H a=some (.dK kvs)):wx1 K H (.ref a) (.type "dict")
 | dT {a:Addr} {kvs:List (List Key×V)} (e:H a=some (.dT kvs)):wx1 K H (.ref a) (.type "dict")
 | ins {a C dx:Addr} {fs:List (Str×V)} (e:H a=some (.ins C dx fs)) (cl:Cls K C) (ha:PySem.W.findIn K (.ref C) "__class__"=some (some (.builtin "object.__class__")))
  (hn:PySem.W.specialIn K (.builtin "object.__class__") "__get__"=some (some (.builtin "getset_descriptor.__get__"))) (htk:PySem.W.takesIn K (.builtin "object.__class__")=some true)
  (hm:PySem.W.mroIn K C (.type "object")=some true):wx1 K H (.ref a) (.ref C)
theorem zc9{x:V}{t:Value}(I:Inv X pins σ H s)(rx:E9 x u)(ty:wx1 X.K H x t)(e:PySem.W.kitOne X.K t c=some b)(h:∀ tk,Q (.bool b) {s with toks:=tk}) :
 wpAny #[9] A (call (.builtin "isinstance") [u,c]) Q E s:=by
 cases ty with
 | non=>cases (show u=Value.none from rx);exact PySem.W.kia_one PySem.W.kitx_none I.kIn True.intro e (fun z=>nomatch z) h
 | bl y=>cases (show u=Value.bool y from rx);exact PySem.W.kia_one PySem.W.kitx_bool I.kIn True.intro e (fun z=>nomatch z) h
 | int i=>obtain⟨t,q⟩:=(show ∃ t,u=Value.int i t from rx);cases q;exact PySem.W.kia_one PySem.W.kitx_int I.kIn True.intro e (fun z=>nomatch z) h
 | str y=>obtain⟨t,q⟩:=(show ∃ t,u=Value.str y t from rx);cases q;exact PySem.W.kia_one PySem.W.kitx_str I.kIn True.intro e (fun z=>nomatch z) h
 | flt y=>obtain⟨t,q⟩:=(show ∃ t,u=Value.float y t from rx);cases q;exact PySem.W.kia_one PySem.W.kitx_float I.kIn True.intro e (fun z=>nomatch z) h
 | @lst a xs ea =>
   cases (show u=Value.ref a from rx)
   obtain⟨_,_,n,_,h1⟩:=(show U0 X.prog X.w H s.heap a (.lst xs) from I.hok a _ ea)
   exact PySem.W.kia_one PySem.W.kitx_list I.kIn ⟨_,h1,rfl⟩ e (fun z=>nomatch z) h
 | @frz a ob xs ea =>
   cases (show u=Value.ref a from rx)
   obtain⟨_,_,_,n,_,h1⟩:=(show U0 X.prog X.w H s.heap a (.frz ob (.lst xs)) from I.hok a _ ea)
   exact PySem.W.kia_one PySem.W.kitx_list I.kIn ⟨_,h1,rfl⟩ e (fun z=>nomatch z) h
 | @tup a xs ea =>
   cases (show u=Value.ref a from rx)
   obtain⟨_,_,_,p⟩:=(show U0 X.prog X.w H s.heap a (.tup xs) from I.hok a _ ea)
   obtain⟨o,h1,h2,_⟩:=p
   exact PySem.W.kia_one PySem.W.kitx_tuple I.kIn ⟨o,h1,h2⟩ e (fun z=>nomatch z) h
 | @dK a kvs ea =>
   cases (show u=Value.ref a from rx)
   obtain⟨_,_,vs,_,p⟩:=(show U0 X.prog X.w H s.heap a (.dK kvs) from I.hok a _ ea)
   obtain⟨o,es,ep,h1,h2,_⟩:=p
   exact PySem.W.kia_one PySem.W.kitx_dict I.kIn ⟨o,h1,h2.1⟩ e (fun z=>nomatch z) h
 | @dT a kvs ea =>
   cases (show u=Value.ref a from rx)
   obtain⟨_,_,xs,_,o,es,ep,h1,h2,_⟩:=(show U0 X.prog X.w H s.heap a (.dT kvs) from I.hok a _ ea)
   exact PySem.W.kia_one PySem.W.kitx_dict I.kIn ⟨o,h1,h2.1⟩ e (fun z=>nomatch z) h
 | @ins a C dx fs ea cl ha hn htk hm =>
   cases (show u=Value.ref a from rx)
   obtain⟨mA,O,_⟩:=xm1 I.hok ea
   obtain⟨od,J,_⟩:=O.look
   exact PySem.W.kia_one (PySem.W.kitx_own (cl.get _) cl.hd ha hn htk hm) I.kIn J e (fun z=>nomatch z) h
end
structure qk8(k:Nat)(A:Around):Prop where
 hd:A.handled=none
 dp:A.depth+3*k+5<recursionLimit
 un:A.units+16*k+200<cLine
 gd:A.guards=some []
theorem qk8.mono{j k:Nat}(r:qk8 k A)(h:j<=k):qk8 j A:=⟨r.hd,by have:=r.dp;omega,by have:=r.un;omega,r.gd⟩
theorem qk8.deeper{k:Nat}(r:qk8 (k+1) A)(env:Env):qk8 k (A.deeper env) :=
 ⟨r.hd,by have:=r.dp;show A.depth+1+3*k+5<_;omega,by have:=r.un;show A.units+3+16*k+200<_;omega,r.gd⟩
theorem ys8:#[61].depth=A.depth+1:=by
 first|rfl|simp[Around.under,Code.weight,Code.isCreation,Code.isGuard,Code.isCaller,Code.frames,Code.isFrame,guardIds]
theorem ys9:#[61].units=A.units+1:=by
 first|rfl|simp[Around.under,Code.cUnits,Code.frames,Code.isFrame]
theorem yk7:#[61].guards=pushGuards [] A.guards:=by
 first|rfl|simp[Around.under,Code.guards,Code.isGuard,guardIds]
theorem qk8.make{k:Nat}(r:qk8 (k+1) A)(C:Addr)(us:List Value)(kw:List (Str×Value)):qk8 k #[61] :=
 ⟨r.hd,by have:=r.dp;rw[ys8];omega,by have:=r.un;rw[ys9];omega,by rw[yk7,r.gd];rfl⟩
theorem qk8.depth{k:Nat}(r:qk8 k A):A.depth<recursionLimit:=by have:=r.dp;omega
theorem qk8.units{k:Nat}(r:qk8 k A):A.units+64<cLine:=by have:=r.un;omega
def B1:TA:=fun _ H Q=>Q [] H
def A3(ta:TE)(tr:TA):TA:=fun σ H Q=>ta σ H fun x H1=>tr σ H1 fun xs H2=>Q (x::xs) H2
variable{t:TA}
theorem B8:PA X [] B1:=fun _ _ _ _ H Q I h=>Calls.spliced_nil ⟨[],H,I,.nil,h⟩
theorem B0(ha:PE X e te)(hr:PA X es t)(hs:autoParam #[16] zAr):PA X (e::es) (A3 te t):=by
 intro pos pins s σ H Q I h
 rw[hs]
 show wpAny _ _ (spliced ((false,eval e X.env)::backTo pos (starEach es X.env))) _ _ s
 refine Calls.spliced_cons (thn (ha pins s σ H _ I h) fun u s1 zq=>?_)
 walk_at"33"
 exact thn (hr pos pins s1 σ H1 _ I1 q1) fun us s2 ⟨xs,H2,I2,r2,q2⟩=>⟨x::xs,H2,I2,.cons r1 r2,q2⟩
def X3(t:TA):TE:=fun σ H Q=>t σ H fun xs H1=>xs.length<=sizeLine/\∀ p,H1 p=none->Q (.ref p) (upd H1 p (.tup xs))
def T8(t:TA):TE:=fun σ H Q=>t σ H fun xs H1=>xs.length<=sizeLine/\∀ p,H1 p=none->Q (.ref p) (upd H1 p (.lst xs))
theorem qk9{x1}(h:PA X es t):PE X (.Tuple es x1 pos) (X3 t):=by
 intro pins s σ H Q I hq
 refine wpAny_Tuple_spliced (thn (h pos pins s σ H _ I hq) fun us s1 ⟨xs,H1,I1,r,z,q⟩=>⟨by rw[<-r.length];exact z,?_⟩)
 have hf:H1 s1.heap.objs.size=none:=I1.hok.fresh #[11]
 refine⟨.ref s1.heap.objs.size,upd H1 s1.heap.objs.size (.tup xs),I1.laid (t':=s1.toks) (fun b u e=>Heap.get?_push_of_some _ e) #[11] ?_,rfl,q _ hf⟩
 exact⟨z,us,r,⟨_,Heap.get?_push_size _ rfl,rfl,_,rfl⟩⟩
theorem qy7(h:PA X es t):PE X (.List es pos) (T8 t):=by
 intro pins s σ H Q I hq
 refine wpAny_List_spliced (thn (h pos pins s σ H _ I hq) fun us s1 ⟨xs,H1,I1,r,z,q⟩=>⟨by rw[<-r.length];exact z,?_⟩)
 have hf:H1 s1.heap.objs.size=none:=I1.hok.fresh #[11]
 refine⟨.ref s1.heap.objs.size,upd H1 s1.heap.objs.size (.lst xs),I1.laid (t':=s1.toks) (fun b u e=>Heap.get?_push_of_some _ e) #[11] ?_,rfl,q _ hf⟩
 exact⟨z,us,0,r,Heap.get?_push_size _ rfl⟩
abbrev Sp:=List V->Hp->VK->XK->Prop
abbrev CXT:=List Env->Hp->Shared->XK->Value->Shared->Prop
structure yt0(P:Program)(w:World)(K:Fg)(mg:Str->Option Value)(base:Heap)(A:Around)(outer:List Env)(s:Shared)(H:Hp):Prop where
 frames:A.frames=some outer
 mod:Mod K mg base
 bs:∀ b o,base.get? b=some o->s.heap.get? b=some o/\H b=none
 bsz:base.objs.size<=s.heap.objs.size
 funs:s.heap.FunFrames base outer
 frf:∀ b∈frs outer,H b=none
 hok:HOk P w H s.heap
 bare:AllBare s.gens
 tk:0<s.toks
def CE(outer:List Env)(P:Program)(w:World)(H:Hp)(s:Shared)(Q:VK)(u:Value)(s':Shared):Prop :=
 ∃ v H',0<s'.toks/\s'.os=s.os/\AllBare s'.gens/\Un (frs outer) [] H H' s.heap s'.heap/\HOk P w H' s'.heap/\E9 v u/\Q v H'
def CR(CX:CXT)(outer:List Env)(P:Program)(w:World)(H:Hp)(s:Shared)(Q:VK)(E:XK)(r:Result)(s':Shared):Prop :=
 match r with
 | .ok (.ret u)=>CE outer P w H s Q u s'
 | .ok _=>False
 | .error e=>CX outer H s E e s'
structure E1(P:Program)(w:World)(K:Fg)(mg:Str->Option Value)(base:Heap)(CX:CXT)(k:Nat)(f:Addr)(fd:FuncData)(ps:List Str)(sp:Sp):Prop where
 len:∀ vs H Q E,sp vs H Q E->vs.length=ps.length
 run:∀ (A:Around) (outer:List Env) (s:Shared) (H:Hp) (args:Args) (us:List Value) (vs:List V) (Q:VK) (E:XK),qk8 k A->yt0 P w K mg base A outer s H->BindsTo s fd args (ps.zip us)->E6 vs us->sp vs H Q E ->
  codeAny (model P w) A (.call (.ref f) args) (CR CX outer P w H s Q E) s
variable{base:Heap}{mg:Str->Option Value}{outer:List Env}
theorem yt0.make(e:yt0 P w K mg base A outer s H)(C:Addr)(us:List Value)(kw:List (Str×Value)) :
 yt0 P w K mg base #[61] outer s H:=⟨by first|exact e.frames|(simpa [Around.under,Code.envs,Code.isFrame,pushEnvs] using e.frames),e.mod,e.bs,e.bsz,e.funs,e.frf,e.hok,e.bare,e.tk⟩
section
variable{s':Shared}
theorem Inv.env0(I:Inv X pins σ H s):yt0 X.prog X.w X.K X.mg X.base X.A X.stack s H :=
 ⟨I.ok.frames,I.ok.mod,I.bs,Nat.le_trans I.ok.bsz I.sz,I.stack,I.stkFree,I.hok,I.bare,I.tk⟩
theorem Inv.after{Q:VK}(I:Inv X pins σ H s)(h:CE X.stack X.prog X.w H s Q u s'):EP X pins σ Q u s':=by
 obtain⟨v,H',ht,os,bare,un,hok,r,q⟩:=h
 obtain⟨hh,g,d,t,os'⟩:=s'
 obtain rfl:os'=s.os:=os
 exact⟨v,H',I.call (h':=hh) (g':=g) (d':=d) (t':=t) (ch:=[]) un hok bare (fun b z=>absurd z (by simp)) ht,r,q⟩
end
def C3(sp:Sp)(dvs:List V)(E:XK)(t:TA):TE:=fun σ H Q=>t σ H fun vs H1=>sp (vs++dvs) H1 Q E
def N6(C:Addr)(m:Str)(sp:Sp)(dvs:List V)(E:XK)(ta:TE)(t:TA):TE:=fun σ H Q=>ta σ H fun x H1=>∃ a dx fs,x=.ref a/\H1 a=some (.ins C dx fs)/\fs.lookup m=none /\
 t σ H1 fun vs H2=>sp (x::(vs++dvs)) H2 Q E
def yk8(C:Addr)(sp:Sp)(dvs:List V)(E:XK)(t:TA):TE:=fun σ H Q=>t σ H fun vs H1=>∀ x dx,H1 x=none->H1 dx=none->dx≠x ->
 sp (.ref x::(vs++dvs)) (upd (upd H1 dx (.own x)) x (.ins C dx [])) (fun v H2=>v=.non/\Q (.ref x) H2) E
def T7(K:Fg)(fd:FuncData)(ps:List Str)(ds:List Value):Prop :=
 ∀ (s:Shared) (us:List Value),K.In s.heap->(us++ds).length=ps.length->BindsTo s fd ⟨us,[]⟩ (ps.zip (us++ds))
variable{fd:FuncData}{ps:List Str}
theorem T7.all(h:∀ us:List Value,us.length=ps.length->bindArgs fd ⟨us,[]⟩=pure (ps.zip us)):T7 K fd ps []:=fun s us _ hl=>by
 rw[append_nil] at hl ⊢
 exact .of_eq (h us hl)
def wk2(CX:CXT)(X:Cx)(E:XK):Prop:=∀ (pins:List (Addr×Obj)) (σ:St) (H:Hp) (s:Shared) (e:Value) (s':Shared),Inv X pins σ H s->CX X.stack H s E e s'->X.xe e s'
variable{CX:CXT}{apos:Pos}{dvs vs:List V}{sp:Sp}
section
variable{k:Nat}{f:Addr}{ds:List Value}{E:XK}{p:Pos}
theorem yt1{Q:VK}(F:E1 X.prog X.w X.K X.mg X.base CX k f fd ps sp)(hr:qk8 k X.A)(hb:T7 X.K fd ps ds)(hd:E6 dvs ds)(hx:wk2 CX X E)(I:Inv X pins σ H s)(r:E6 vs us)(h:sp (vs++dvs) H Q E):wpAny #[9] X.A (call (.ref f) us) (EP X pins σ Q) X.xe s:=by
 have r2:E6 (vs++dvs) (us++ds):=r.append hd
 have hl:(us++ds).length=ps.length:=by rw[<-r2.length];exact F.len _ _ _ _ h
 refine wpAny_call (codeAny_mono (F.run X.A X.stack s H ⟨us,[]⟩ (us++ds) (vs++dvs) Q E hr I.env0 (hb s us I.kIn hl) r2 h) fun r s' hq=>?_)
 cases r with
 | error e=>exact hx pins σ H s e s' I hq
 | ok fl =>
   cases fl with
   | ret u=>exact I.after hq
   | next=>exact False.elim hq
   | brk=>exact False.elim hq
   | cont=>exact False.elim hq
theorem zs6(F:E1 X.prog X.w X.K X.mg X.base CX k f fd ps sp)(hr:qk8 k X.A)(hg:Gl X x)(hm:X.mg x=some (.ref f))(hk:PySem.W.keepIn X.K (.ref f)=true)(hb:T7 X.K fd ps ds)(hd:E6 dvs ds)(hx:wk2 CX X E)(ha:PA X (e::es) t)(hdb:autoParam #[35] zAd)(he:autoParam #[16] zAr)(hpl:autoParam #[43,pos] zAr) :
 PE X (.Call (.Name x p) (e::es) [] pos) (C3 sp dvs E t):=by
 walk_at"18"
 refine wpAny_Call_Name_kw (yc1 I hg hm ?_ hdb)
 refine PySem.W.callWith_K (h₀:=X.base) I.ok.mod.kin hk (thn (ha pos pins s σ H _ I h) fun us s1 ⟨vs,H1,I1,r,q⟩=>⟨I1.kIn,?_⟩) he hpl
 exact yt1 F hr hb hd hx I1 r q
theorem Q6(he:PE X o ta)(c:Cls X.K C)(hm:wd4 X.K C m f)(F:E1 X.prog X.w X.K X.mg X.base CX k f fd ps sp)(hr:qk8 k X.A)(hb:T7 X.K fd ps ds)(hd:E6 dvs ds)(hx:wk2 CX X E)(ha:PA X (e::es) t)(hst:autoParam #[16] zAr)(hpl:autoParam #[43,pos] zAr) (ht:eval (.Call (.Attribute o m apos) (e::es) [] pos) X.env=(do
  let ov<-eval o X.env
  standAt apos.atName
  let (f,first)<-holding [ov] (getMethod ov m pl)
  callWith pos f first (backTo pos (starEach (e::es) X.env)) (backToKw pos (keywordEach [] X.env))):=by rfl) :
 PE X (.Call (.Attribute o m apos) (e::es) [] pos) (N6 C m sp dvs E ta t):=by
 walk_at"18"
 walk_at"37"
 refine PySem.W.callWith_K (first:=[.ref a]) (h₀:=X.base) I.ok.mod.kin hm.kp (thn (ha pos pins s1 σ H1 _ I1 q) fun us s2 ⟨vs,H2,I2,r,q2⟩=>⟨I2.kIn,?_⟩) hst hpl
 exact yt1 (us:=.ref a::us) (vs:=.ref a::vs) F hr hb hd hx I2 (.cons rfl r) q2
theorem S2(he:PE X o ta)(c:Cls X.K C)(hm:wd4 X.K C m f)(F:E1 X.prog X.w X.K X.mg X.base CX k f fd ps sp)(hr:qk8 k X.A)(hb:T7 X.K fd ps ds)(hd:E6 dvs ds)(hx:wk2 CX X E) (ht:eval (.Call (.Attribute o m apos) [] [] pos) X.env=(do
  let ov<-eval o X.env
  standAt apos.atName
  let (f,first)<-holding [ov] (getMethod ov m pl)
  callWith pos f first (backTo pos (starEach [] X.env)) (backToKw pos (keywordEach [] X.env))):=by rfl) :
 PE X (.Call (.Attribute o m apos) [] [] pos) (N6 C m sp dvs E ta B1):=by
 walk_at"18"
 walk_at"37"
 exact PySem.W.callWith_K0 (first:=[.ref a]) I1.kIn hm.kp (yt1 (us:=[.ref a]) (vs:=[.ref a]) F hr hb hd hx I1 (.cons rfl .nil) q)
structure Mk(K:Fg)(C f:Addr):Prop where
 makes:PySem.W.makesIn K C=true
 init:PySem.W.findIn K (.ref C) "__init__"=some #[5,f]
 fn:PySem.W.isFn K (.ref f)=true
 kp:PySem.W.keepIn K (.ref C)=true
theorem zi0{Q:VK}(M:Mk X.K C f)(F:E1 X.prog X.w X.K X.mg X.base CX k f fd ps sp)(hr:qk8 (k+1) X.A)(hb:T7 X.K fd ps ds)(hd:E6 dvs ds)(hx:wk2 CX X E)(I:Inv X pins σ H s)(r:E6 vs us)(h:∀ x dx,H x=none->H dx=none->dx≠x->sp (.ref x::(vs++dvs)) (upd (upd H dx (.own x)) x (.ins C dx [])) (fun v H2=>v=.non/\Q (.ref x) H2) E) :
 wpAny #[9] X.A (call (.ref C) us) (EP X pins σ Q) X.xe s:=by
 have hq:=h #[28] s.heap.objs.size (I.hok.fresh (Nat.le_succ _)) (I.hok.fresh #[11]) (Nat.ne_of_lt (Nat.lt_succ_self _))
 have I2:=Inv.made (C:=C) I
 have r2:E6 (V.ref #[28]::(vs++dvs)) (Value.ref #[28]::(us++ds)):=.cons rfl (r.append hd)
 have hl:(Value.ref #[28]::us++ds).length=ps.length:=by
  have e:=r2.length
  rw[F.len _ _ _ _ hq] at e
  exact e.symm
 refine wpAny_call (zh9 (f:=f) I.kIn M.makes M.init (beq_iff_eq.mp M.fn) (codeAny_mono (F.run _ X.stack _ _ ⟨Value.ref #[28]::us,[]⟩ (Value.ref #[28]::(us++ds)) _ _ E (hr.make C us [])
  (I2.env0.make C us []) (hb _ (Value.ref #[28]::us) I2.kIn hl) r2 hq) fun r s' hq'=>?_))
 cases r with
 | error e=>exact hx pins σ _ _ e s' I2 hq'
 | ok fl =>
   cases fl with
   | ret u =>
     obtain⟨v,H',I3,rv,ev,q3⟩:=I2.after hq'
     subst ev
     exact⟨rv,⟨V.ref #[28],H',I3,rfl,q3⟩⟩
   | next=>exact False.elim hq'
   | brk=>exact False.elim hq'
   | cont=>exact False.elim hq'
theorem yc6(M:Mk X.K C f)(F:E1 X.prog X.w X.K X.mg X.base CX k f fd ps sp)(hr:qk8 (k+1) X.A)(hg:Gl X x)(hm:X.mg x=some (.ref C))(hb:T7 X.K fd ps ds)(hd:E6 dvs ds)(hx:wk2 CX X E)(ha:PA X (e::es) t)(hdb:autoParam #[35] zAd)(he:autoParam #[16] zAr)(hpl:autoParam #[43,pos] zAr) :
 PE X (.Call (.Name x p) (e::es) [] pos) (yk8 C sp dvs E t):=by
 walk_at"18"
 refine wpAny_Call_Name_kw (yc1 I hg hm ?_ hdb)
 refine PySem.W.callWith_K (h₀:=X.base) I.ok.mod.kin M.kp (thn (ha pos pins s σ H _ I h) fun us s1 ⟨vs,H1,I1,r,q⟩=>⟨I1.kIn,?_⟩) he hpl
 exact zi0 M F hr hb hd hx I1 r q
end
section
variable{k:Nat}{f:Addr}{ks:List Str}{E:XK}{p kpos:Pos}{kws:List Keyword}{tk:TA}{nm:Option Str}
variable{g:List Value->List Value->List Value}{gV:List V->List V->List V}
end
structure C0(N P:List Str)(sc:Scope):Prop where
 kind:sc.kind=.function
 co:sc.isCoroutine=false
 gen:sc.isGenerator=false
 nd:N.Nodup
 pre:N.take P.length=P
 par:∀ x∈P,sc.names.lookup x=some .local\/sc.names.lookup x=some .cell
 nofree:∀ y∈sc.names,y.2≠.free
theorem xy5{kindOf:Str->Option NameKind}{x:Str}:∀ {binds:List (Str×Value)} {m:Str->Option Value},(∀ v,(x,v)∉binds)->bindL kindOf binds m x=m x
 | [],_,_=>rfl
 | (n,v)::r,m,h=>by
   unfold bindL
   rw[xy5 fun w hw=>h w (mem_cons_of_mem _ hw)]
   split
   ·have:x≠n:=by rintro rfl;exact h v mem_cons_self
    simp[this]
   ·rfl
theorem xy6{kindOf:Str->Option NameKind}{x:Str}:∀ {binds:List (Str×Value)} {m:Str->Option Value},(∀ v,(x,v)∉binds)->bindC kindOf binds m x=m x
 | [],_,_=>rfl
 | (n,v)::r,m,h=>by
   unfold bindC
   rw[xy6 fun w hw=>h w (mem_cons_of_mem _ hw)]
   split
   ·rfl
   ·have:x≠n:=by rintro rfl;exact h v mem_cons_self
    simp[this]
theorem xy7{kindOf:Str->Option NameKind}{x:Str}{v:Value}:∀ {P:List Str} {vs:List Value} {i:Nat} {m:Str->Option Value},P.Nodup->P[i]?=some x->vs[i]?=some v->kindOf x=some .local ->
 bindL kindOf (P.zip vs) m x=some v
 | [],_,_,_,_,h,_,_=>by simp at h
 | _::_,[],_,_,_,_,h,_=>by simp at h
 | p::P,w::vs,0,m,nd,h1,h2,hk=>by
   simp at h1 h2;subst h1;subst h2
   show bindL kindOf ((p,w)::P.zip vs) m p=_
   unfold bindL
   rw[xy5 fun v hv=>(nodup_cons.mp nd).1 (of_mem_zip hv).1,if_pos hk]
   simp
 | p::P,w::vs,i+1,m,nd,h1,h2,hk=>by
   show bindL kindOf ((p,w)::P.zip vs) m x=_
   unfold bindL
   exact xy7 (i:=i) (nodup_cons.mp nd).2 (by simpa using h1) (by simpa using h2) hk
theorem xy8{kindOf:Str->Option NameKind}{x:Str}{v:Value}:∀ {P:List Str} {vs:List Value} {i:Nat} {m:Str->Option Value},P.Nodup->P[i]?=some x->vs[i]?=some v->kindOf x≠some .local ->
 bindC kindOf (P.zip vs) m x=some v
 | [],_,_,_,_,h,_,_=>by simp at h
 | _::_,[],_,_,_,_,h,_=>by simp at h
 | p::P,w::vs,0,m,nd,h1,h2,hk=>by
   simp at h1 h2;subst h1;subst h2
   show bindC kindOf ((p,w)::P.zip vs) m p=_
   unfold bindC
   rw[xy6 fun v hv=>(nodup_cons.mp nd).1 (of_mem_zip hv).1,if_neg hk]
   simp
 | p::P,w::vs,i+1,m,nd,h1,h2,hk=>by
   show bindC kindOf ((p,w)::P.zip vs) m x=_
   unfold bindC
   exact xy8 (i:=i) (nodup_cons.mp nd).2 (by simpa using h1) (by simpa using h2) hk
def C9(N:List Str)(vs:List V):St:=vs.map some++List.replicate (N.length-vs.length) none
def zd0(CX:CXT)(P:Program)(w:World)(K:Fg)(mg:Str->Option Value)(base:Heap)(N:List Str)(qual:Str)(scope:Scope)(f:Addr)(cd:Value)(A:Around)(outer:List Env)(s:Shared)(H:Hp)(E:XK):Cx where
 prog:=P
 w:=w
 K:=K
 mg:=mg
 base:=base
 A:=A.deeper (envOfC qual scope s.heap.objs.size f cd)
 N:=N
 s₀:=s
 H₀:=H
 env:=envOfC qual scope s.heap.objs.size f cd
 outer:=outer
 stack:=envOfC qual scope s.heap.objs.size f cd::outer
 ex:=[]
 calm:=true
 fn:=fun _=>true
 pn:=[]
 xe:=fun e s'=>wpAny (model P w) (A.deeper (envOfC qual scope s.heap.objs.size f cd)) (leaving (envOfC qual scope s.heap.objs.size f cd) e) (fun _ s''=>CX outer H s E e s'') (fun e' s''=>CX outer H s E e' s'') s'
theorem yk9{sc:Scope}(h:sc.names.lookup x=some .cell):∃ c,(cellsFrom n sc.names []).lookup x=some c:=by
 have q:=PySem.W.cellsFrom_some sc.names n [] (.inl h)
 exact Option.isSome_iff_exists.mp q
variable{qual:Str}{scope:Scope}
theorem zd1{f:Addr}{cd:Value}{s1:Shared}{E:XK}(S:C0 N ps scope)(hd:A.handled=none)(e0:yt0 P w K mg base A outer s H)(hl:vs.length=ps.length)(r:E6 vs us)(x:InCallC s s.heap.objs.size (bindL (envOfC qual scope s.heap.objs.size f cd).kindOf (ps.zip us) fun _=>none) (cellsFrom #[28] scope.names []) (bindC (envOfC qual scope s.heap.objs.size f cd).kindOf (ps.zip us) fun _=>none) s1)(ht:0<s1.toks) :
 Inv #[75,cd] [] (C9 N vs) H s1:=by
 have hpl:ps.length<=N.length:=by have:=congrArg List.length S.pre;rw[length_take] at this;omega
 obtain⟨h1,tk,rfl,hk⟩:=x.done
 have noA:∀ b:Addr,b∉#[75,cd].ex:=fun b z=>absurd (show b∈([]:List Addr) from z) (by simp)
 refine⟨⟨e0.mod,S.kind,rfl,rfl,Nat.le_refl _,fun y z c h1 h2=>?_,fun y hy=>?_,fun y c _ h=>?_,fun _=>hd,Around.frames_deeper e0.frames,.inr ⟨rfl,rfl⟩,fun b z=>absurd z (noA b),e0.bs,e0.bsz,fun b _ _=>noA b,fun b z=>absurd z (noA b),e0.funs,e0.frf⟩,
  rfl,e0.bare,Un.kept hk,⟨_,x.toInCall.ns,fun i y v h1 h2 h3=>?_⟩,fun y c h=>⟨_,x.cell y c h⟩,e0.hok.fresh #[11],fun y c h=>?_,fun p hp=>absurd (show p∈([]:List (Addr×Obj)) from hp) (by simp),e0.hok.kept hk,?_,ht⟩
 ·exact name_of_addr x.apart (PySem.mem_of_lookup h1) (PySem.mem_of_lookup h2)
 ·have hy:scope.names.lookup y=some .cell\/scope.names.lookup y=some .free:=hy
  rcases hy with hy|hy
  ·exact yk9 hy
  ·exact absurd rfl (S.nofree _ (PySem.mem_of_lookup hy))
 ·exact Nat.le_of_lt (x.above y c (PySem.mem_of_lookup h))
 ·have hi:i<vs.length:=by
   unfold C9 at h2
   by_cases hi:i<vs.length
   ·exact hi
   ·rw[List.getElem?_append_right (by simpa using hi)] at h2
    rw[List.getElem?_replicate] at h2
    split at h2 <;> cases h2
  have ha:vs[i]?=some v:=by
   unfold C9 at h2
   rw[List.getElem?_append_left (by simpa using hi),List.getElem?_map] at h2
   cases e:vs[i]? with
   | none=>rw[e] at h2;cases h2
   | some a=>rw[e] at h2;cases h2;rfl
  obtain⟨u,hu,rv⟩:=r.get ha
  have hp:ps[i]?=some y:=by
   rw[<-S.pre,List.getElem?_take_of_lt #[0]];exact h1
  have ndP:ps.Nodup:=by rw[<-S.pre];exact S.nd.sublist (take_sublist _ _)
  refine⟨u,rv,?_⟩
  rcases S.par y (mem_of_getElem? hp) with k|k
  ·exact .inl ⟨k,xy7 ndP hp hu k⟩
  ·obtain⟨c,e⟩:=yk9 (n:=s.heap.objs.size+1) k
   refine .inr ⟨.inl k,c,e,?_⟩
   have q:=x.cell y c e
   rw[xy8 ndP hp hu (by show scope.names.lookup y≠_;rw[k];decide)] at q
   exact q
 ·exact e0.hok.fresh (Nat.le_of_lt (x.above y c (PySem.mem_of_lookup h)))
 ·unfold C9
  show _=N.length
  rw[length_append,length_map,length_replicate]
  omega
variable{an od:Option Addr}{cdv ct doc oc pm:Value}{osl:Array (Option Value)}
theorem Aj9{k:Nat}{f:Addr}{params:Arguments}{dV kV:Value}(lk:K.lookup f=some ⟨oc,od,.func (PySem.W.fnOf name qual params body scope dV kV doc pm an cdv ct),osl⟩)(hcd:PySem.W.codeIn K cdv qual=true)(S:C0 N ps scope)(len:∀ vs H Q E,sp vs H Q E->vs.length=ps.length) (hbody:∀ (A:Around) (outer:List Env) (s:Shared) (H:Hp) (vs:List V) (Q:VK) (E:XK),qk8 k (A.deeper (envOfC qual scope s.heap.objs.size f cdv))->sp vs H Q E ->
  ∃ t,PSs #[75,cdv] body t/\t {nx:=fun _ H'=>Q .non H',rt:=Q} (C9 N vs) H) :
 E1 P w K mg base CX (k+1) f (PySem.W.fnOf name qual params body scope dV kV doc pm an cdv ct) ps sp:=by
 refine⟨len,fun A outer s H args us vs Q E hr e0 hb r hsp=>?_⟩
 have hl:=len _ _ _ _ hsp
 have KX:K.In s.heap:=e0.mod.kin.keeps fun b o e=>(e0.bs b o e).1
 have lim:s.heap.NoLimit:=e0.mod.nolimit.keeps fun b o e=>(e0.bs b o e).1
 have hkind:∀ y∈ps.zip us,scope.names.lookup y.1=some .local\/(scope.names.lookup y.1=some .cell/\((cellsFrom #[28] scope.names []).lookup y.1).isSome=true):=fun⟨n,v⟩ hy=>by
  rcases S.par n (of_mem_zip hy).1 with q|q
  ·exact .inl q
  ·exact .inr ⟨q,PySem.W.cellsFrom_some _ _ _ (.inl q)⟩
 refine codeAny_call_function hr.depth (KX _ _ lk) rfl S.co S.gen rfl (PySem.W.codeRec_of KX hcd) (hb _ _ _ _ ?_)
 refine wpAny_with_toks (n:=1) e0.tk (wpAny_newFunctionEnv_cells S.kind hkind fun env he s1 x htk=>?_)
 subst he
 refine⟨lim.keeps x.toInCall.keep,codeAny_func ?_⟩
 obtain⟨t,ht,hq⟩:=hbody A outer s H vs Q E (hr.deeper _) hsp
 have I:Inv #[75,cdv] [] (C9 N vs) H s1:=zd1 S hr.hd e0 hl r x htk
 refine wpAny_mono (ht [] s1 (C9 N vs) H _ I hq) (fun fl s' hs=>?_) fun e s' hs=>hs
 have fin:∀ {σ':St} {H':Hp} {v:V} {u:Value},Inv #[75,cdv] [] σ' H' s'->E9 v u->Q v H'->CE outer P w H s Q u s' :=
  fun{σ' H' v u} J rv q=>⟨v,H',J.tk,J.os,J.bare,J.base,J.hok,rv,q⟩
 cases fl with
 | ret u =>
   obtain⟨v,σ',H',J,rv,q⟩:=hs
   exact fin J rv q
 | next =>
   obtain⟨σ',H',J,q⟩:=hs
   exact fin (v:=V.non) (u:=Value.none) J rfl q
 | brk =>
   obtain⟨_,_,_,q⟩:=hs
   exact False.elim q
 | cont =>
   obtain⟨_,_,_,q⟩:=hs
   exact False.elim q
variable{T:String}
section
variable{p:Pos}{id:String}{r:List V->Hp->VK->Prop}
def tCB(r:List V->Hp->VK->Prop)(t:TA):TE:=fun σ H Q=>t σ H fun vs H1=>r vs H1 Q
theorem L1(hc:qj3 X (.builtin id) r)(hg:Gl X x)(hm:X.mg x=none)(hv:bootBuiltins x=some (.builtin id))(ha:PA X (e::es) t)(hn:autoParam (x ≠ "__name__") zAd)(hdb:autoParam #[35] zAd)(he:autoParam #[16] zAr)(hpl:autoParam #[43,pos] zAr):PE X (.Call (.Name x p) (e::es) [] pos) (tCB r t):=by
 walk_at"18"
 refine wpAny_Call_Name_kw (wd0 I hg hm hv ?_ hn hdb)
 exact PyProof.Rows.callWith_builtin1 (thn (ha pos pins s σ H _ I h) fun us s1 ⟨vs,H1,I1,r1,q1⟩=>hc pins s1 σ H1 vs us Q I1 r1 q1) he hpl
theorem qa2(hc:qj3 X (.type T) r)(hg:Gl X x)(hm:X.mg x=none)(hv:bootBuiltins x=some (.type T))(ha:PA X (e::es) t)(hn:autoParam (x ≠ "__name__") zAd)(hdb:autoParam #[35] zAd)(he:autoParam #[16] zAr)(hpl:autoParam #[43,pos] zAr):PE X (.Call (.Name x p) (e::es) [] pos) (tCB r t):=by
 walk_at"18"
 refine wpAny_Call_Name_kw (wd0 I hg hm hv ?_ hn hdb)
 exact PyProof.Rows.callWith_type1 (thn (ha pos pins s σ H _ I h) fun us s1 ⟨vs,H1,I1,r1,q1⟩=>hc pins s1 σ H1 vs us Q I1 r1 q1) he hpl
end
namespace HT
open PySem PyProof.Rows
section
open PySem.SeqAt
open PySem.AutoSeq1 (wpAny_loadPart')
open PySem.MeetsSeq PySem.MeetsSeq2 PySem.MeetsSeq3
end
section
variable{prog:Program}{w:World}{A:Around}{E:Value->Shared->Prop}{s:Shared}
theorem zs7{t b:Addr}{vs ws:List Value}{Q:Value->Shared->Prop}(ht:IsTup s.heap t vs.toArray)(hb:IsTup s.heap b ws.toArray)(hv:vs≠[])
 (h1:ws=[]->Q (.ref t) s) (h2:ws≠[]->Q (.ref s.heap.objs.size) {s with heap:=s.heap.push {cls:=.type "tuple",data:=.seq (vs++ws).toArray}})
 (hsz:vs.length+ws.length<=sizeLine):wpAny #[31] A (binaryOp .Add (.ref t) (.ref b)) Q E s:=by
 obtain⟨⟨cls,dd,data,sl⟩,ho,hc,n,hd⟩:=id ht
 obtain⟨⟨cls2,dd2,data2,sl2⟩,ho2,hc2,n2,hd2⟩:=id hb
 simp only at hc hd hc2 hd2
 subst hc hd hc2 hd2
 have e:vs.toArray++ws.toArray=(vs++ws).toArray:=by simp
 by_cases hw:ws=[]
 ·exact concat_meets ⟨_,ho,rfl⟩ ⟨_,ho2,rfl⟩ noFill_tuple_add seq_tuple_add PySem.F.slot_tuple_add PySem.F.entry_tuple_add (PySem.F.args_tuple_add_2 _ _)
   (tuple_addW1 t b vs.toArray ws.toArray n n2 dd dd2 sl sl2 (by simpa using hv) (by simp[hw])) ⟨ho,ho2,h1 hw⟩
 ·refine concat_meets ⟨_,ho,rfl⟩ ⟨_,ho2,rfl⟩ noFill_tuple_add seq_tuple_add PySem.F.slot_tuple_add PySem.F.entry_tuple_add (PySem.F.args_tuple_add_2 _ _)
   (tuple_addW2 t b vs.toArray ws.toArray n n2 dd dd2 sl sl2 (by simpa using hv) (by simpa using hw) (by rw[size_toArray,size_toArray];exact hsz)) ⟨ho,ho2,?_⟩
  rw[e]
  exact h2 hw
def sIx(n d:Nat):Option Int->Nat
 | none=>d
 | some v=>if v<0 then(v+(n:Int)).toNat else min v.toNat n
theorem wd5(n d k:Nat):sIx n d (some (k:Int))=min k n:=by
 show(if(k:Int)<0 then((k:Int)+(n:Int)).toNat else min (k:Int).toNat n)=min k n
 rw[if_neg #[0],Int.toNat_natCast]
theorem yt2(n d:Nat)(hd:d<=n)(o:Option Int):sIx n d o<=n:=by
 cases o with
 | none=>exact hd
 | some v =>
   show(if v<0 then(v+(n:Int)).toNat else min v.toNat n)<=n
   by_cases hv:v<0
   ·rw[if_pos hv];omega
   ·rw[if_neg hv];exact Nat.min_le_right _ _
theorem yy4(v:Int)(n d:Nat):(if v<0 then max (v+(n:Int)) 0 else min v (n:Int))=((sIx n d (some v):Nat):Int):=by
 show(if v<0 then max (v+(n:Int)) 0 else min v (n:Int))=(((if v<0 then(v+(n:Int)).toNat else min v.toNat n):Nat):Int)
 by_cases hv:v<0
 ·simp only[if_pos hv];omega
 ·simp only[if_neg hv];omega
theorem yt3(lo hi:Option Int)(n:Nat):Builtin.Slice.sliceAdjust lo hi 1 (n:Int)=(((sIx n 0 lo:Nat):Int),((sIx n n hi:Nat):Int)):=by
 have h1:¬((1:Int)<0):=by omega
 unfold Builtin.Slice.sliceAdjust
 simp only[h1,if_false]
 refine Prod.ext ?_ ?_
 ·cases lo with
  | none=>rfl
  | some v=>exact yy4 v n 0
 ·cases hi with
  | none=>rfl
  | some v=>exact yy4 v n n
theorem yt4(i j:Nat):Builtin.Slice.slicePlaces (i:Int) (j:Int) 1=j-i:=by
 unfold Builtin.Slice.slicePlaces
 have h1:(1:Int) > 0:=by omega
 simp only[h1,if_true,Int.ediv_one]
 split <;> omega
theorem xn7{v:Value}{o:Option Int}{Q:Option Int->Shared->Prop}(p:IsPart v o)(h:Q o s):wpAny #[31] A (Builtin.Slice.slicePartIndex v) Q E s:=by
 cases p with
 | none=>exact slicePart_none h
 | int i t=>exact slicePart_int h
theorem wa0{sl:Addr}{vl vu:Value}{lo hi:Option Int}{n:Nat}{Q:Int×Int×Nat->Shared->Prop}(hs:s.heap.IsSliceOf sl vl vu .none)(pl:IsPart vl lo)(pu:IsPart vu hi)
 (h:Q (((sIx n 0 lo:Nat):Int),1,sIx n n hi-sIx n 0 lo) s):wpAny #[31] A (Builtin.Slice.sliceApplied (.ref sl) (pure (n:Int))) Q E s:=by
 obtain⟨os,hos,hcs,hds⟩:=id hs
 unfold Builtin.Slice.sliceApplied Builtin.Slice.sliceFields
 refine wpAny_bind (wpAny_bind (wpAny_field hos hds (x:=vl) rfl (wpAny_bind (wpAny_field hos hds (x:=vu) rfl (wpAny_bind (wpAny_field hos hds (x:=.none) rfl (wpAny_pure ?_)))))))
 refine wpAny_bind (slicePart_none ?_)
 show wpAny _ _ (if((1:Int) == 0)=true then _ else _) _ _ s
 rw[if_neg #[10]]
 refine wpAny_bind (xn7 pl (wpAny_bind (xn7 pu (wpAny_bind (wpAny_pure ?_)))))
 show wpAny _ _ (match Builtin.Slice.sliceAdjust lo hi 1 (n:Int) with|(lo,hi)=>pure (lo,(1:Int),Builtin.Slice.slicePlaces lo hi 1)) _ _ s
 rw[yt3 lo hi n]
 show wpAny _ _ (pure (((sIx n 0 lo:Nat):Int),(1:Int),Builtin.Slice.slicePlaces ((sIx n 0 lo:Nat):Int) ((sIx n n hi:Nat):Int) 1)) _ _ s
 rw[yt4]
 exact wpAny_pure h
theorem zi1(xs:Array Value)(i k:Nat):((List.range k).filterMap fun(m:Nat)=>xs[((i:Int)+(m:Int)*1).toNat]?).toArray=((xs.toList.drop i).take k).toArray:=by
 have e:(fun(m:Nat)=>xs[((i:Int)+(m:Int)*1).toNat]?)=fun m=>xs[i+m]?:=by
  funext m
  have:((i:Int)+(m:Int)*1).toNat=i+m:=by omega
  rw[this]
 rw[e]
 have:=pick_run xs i k
 rw[filterMap_map] at this
 have e2:((fun x=>xs[x]?)∘fun x=>i+x)=fun m=>xs[i+m]?:=rfl
 rw[e2] at this
 rw[this]
theorem wx2{t sl:Addr}{items:Array Value}{vl vu:Value}{lo hi:Option Int}{Q:Value->Shared->Prop}(ht:IsTup s.heap t items)(hs:s.heap.IsSliceOf sl vl vu .none)(pl:IsPart vl lo)(pu:IsPart vu hi)
 (hw:¬(sIx items.size 0 lo=0/\sIx items.size items.size hi=items.size))
 (h:Q (.ref s.heap.objs.size) {s with heap:=s.heap.push {cls:=.type "tuple",data:=.seq #[72].toArray}})
 (hsz:items.size<=sizeLine):wpAny #[31] A (getItem (.ref t) (.ref sl)) Q E s:=by
 have htake:sizeOk (.seq #[72].toArray):=by
  show#[72].toArray.size<=sizeLine
  rw[size_toArray,length_take,length_drop,Array.length_toList]
  omega
 have hj:sIx items.size items.size hi<=items.size:=yt2 _ _ #[11] hi
 obtain⟨os,hos,hcs,hds⟩:=id hs
 have hTs:s.TypeIs (.ref sl) "slice":=⟨os,hos,hcs⟩
 unfold getItem
 try with_reducible refine wpAny_holding ?_
 first|refine wpAny_bind (wpAny_pure ?_)|skip
 refine wpAny_bind (wpAny_sequenceKey ht.typeIs #[10] ?_)
 refine wpAny_bind (wpAny_callSpecial?_slot (name:=Str.ofString "__getitem__") ht.typeIs PyProof.Rows.slot_tuple_getitem
  (wpAny_call_entry PyProof.Rows.slot_tuple_getitem ht.typeIs entry_tuple_getitem ?_ (args_tuple_getitem _ _)))
 show wpAny _ _ (Builtin.Tuple.tupleItemsOf (.ref t) >>= _) _ _ s
 refine wpAny_bind (tupleItemsOf_ ht ?_)
 refine wpAny_bind (wpAny_typeOf hTs ?_)
 rw[if_pos #[10]]
 refine wpAny_bind (wa0 hs pl pu ?_)
 have hno:¬((((sIx items.size 0 lo:Nat):Int) == 0 && (1:Int) == 1 && (sIx items.size items.size hi-sIx items.size 0 lo) == items.size)=true):=by
  intro q
  rw[Bool.and_eq_true,Bool.and_eq_true] at q
  have q1:((sIx items.size 0 lo:Nat):Int)=0:=eq_of_beq q.1.1
  have q2:sIx items.size items.size hi-sIx items.size 0 lo=items.size:=eq_of_beq q.2
  exact hw ⟨by omega,by omega⟩
 show wpAny _ _ (if(((sIx items.size 0 lo:Nat):Int) == 0 && (1:Int) == 1 && (sIx items.size items.size hi-sIx items.size 0 lo) == items.size)=true then _ else _) _ _ s
 rw[if_neg hno,zi1]
 first
  | exact wpAny_bind (m:=Builtin.Tuple.tupleExact _) (wpAny_newObj_type #[68] htake)
  | exact wpAny_bind (m:=Builtin.Tuple.tupleExact _) (wpAny_newObj_type (wpAny_bind (wpAny_pure #[68])) htake)
  | exact wpAny_bind (wpAny_bind (m:=Builtin.Tuple.tupleExact _) (wpAny_newObj_type (wpAny_pure #[68]) htake))
  | exact wpAny_bind (wpAny_bind (m:=Builtin.Tuple.tupleExact _) (wpAny_newObj_type #[68] htake))
end
end HT
abbrev TO:=St->Hp->(Option Int->Hp->Prop)->Prop
def PO(X:Cx)(e:Option Expr)(t:TO):Prop :=
 ∀ (pins:List (Addr×Obj)) (s:Shared) (σ:St) (H:Hp) (Q:Option Int->Hp->Prop),Inv X pins σ H s->t σ H Q ->
  wpAny #[9] X.A (evalPart e X.env) (fun u s'=>∃ o H',Inv X pins σ H' s'/\IsPart u o/\Q o H') X.xe s
def qg8:TO:=fun _ H Q=>Q none H
def Y3(t:TE):TO:=fun σ H Q=>t σ H fun x H1=>∃ i,x=.int i/\Q (some i) H1
variable{p2:Pos}{th:TO}{r:V->Option Int->Option Int->Hp->VK->Prop}
section
variable{lo hi:Option Expr}{tl:TO}
theorem yc7:PO X none qg8:=by
 walk_at"18"
 rw[evalPart_none]
 exact wpAny_pure ⟨none,H,I,.none,h⟩
theorem wx3(h:PE X e te):PO X (some e) (Y3 te):=by
 intro pins s σ H Q I hw
 rw[evalPart_some]
 refine thn (h pins s σ H _ I hw) fun u s1 zq=>?_
 walk_at"33"
 obtain⟨i,rfl,q⟩:=q1
 obtain⟨t,rfl⟩:=r1
 exact⟨some i,H1,I1,.int i t,q⟩
def SlR(X:Cx)(r:V->Option Int->Option Int->Hp->VK->Prop):Prop :=
 ∀ (pins:List (Addr×Obj)) (s:Shared) (σ:St) (H:Hp) (x:V) (v vl vu:Value) (lo hi:Option Int) (sl:Addr) (Q:VK),Inv X pins σ H s->E9 x v->s.heap.IsSliceOf sl vl vu .none->IsPart vl lo->IsPart vu hi->r x lo hi H Q ->
  ∃ T id,typeLookup (.type T) "__getitem__"=pure (some (.builtin id))/\s.TypeIs v T/\wpAny #[9] X.A (getItem v (.ref sl)) (EP X pins σ Q) X.xe s
theorem SlR.or{r':V->Option Int->Option Int->Hp->VK->Prop}(h:SlR X r)(h':SlR X r'):SlR X (fun x lo hi H Q=>r x lo hi H Q\/r' x lo hi H Q):=by
 intro pins s σ H x v vl vu lo hi sl Q I rx hs pl pu q
 rcases q with q|q
 ·exact h pins s σ H x v vl vu lo hi sl Q I rx hs pl pu q
 ·exact h' pins s σ H x v vl vu lo hi sl Q I rx hs pl pu q
def tSl(r:V->Option Int->Option Int->Hp->VK->Prop)(te:TE)(tl th:TO):TE:=fun σ H Q=>te σ H fun x H1=>tl σ H1 fun l H2=>th σ H2 fun u H3=>r x l u H3 Q
theorem wk3(hr:SlR X r)(he:PE X e te)(hl:PO X lo tl)(hu:PO X hi th):PE X (.Subscript e (.Slice lo hi none p2) pos) (tSl r te tl th):=by
 walk_at"18"
 refine Subscript_ (thn (he pins s σ H _ I h) fun v s1 zq=>?_)
 walk_at"33"
 refine wpAny_Slice (thn (hl pins s1 σ H1 _ I1 q1) fun vl s2 ⟨l,H2,I2,pl,q2⟩=>thn (hu pins s2 σ H2 _ I2 q2) fun vu s3 zq=>?_)
 obtain⟨u,H3,I3,pu,q3⟩:=zq
 rw[evalPart_none]
 refine wpAny_pure ?_
 have I4:Inv X pins σ H3 {s3 with heap:=s3.heap.push {cls:=.type "slice",data:=.fields #[vl,vu,.none]}}:=I3.kept (t':=s3.toks) fun b ob q=>Heap.get?_push_of_some _ q
 obtain⟨T,id,hT,ht,hg⟩:=hr pins {s3 with heap:=s3.heap.push {cls:=.type "slice",data:=.fields #[vl,vu,.none]}} σ H3 x v vl vu l u s3.heap.objs.size Q I4 r1 (Heap.IsSliceOf.new ..) pl pu q3
 show wpAny #[9] X.A (subscriptTail e (.Slice lo hi none p2) v (.ref s3.heap.objs.size)) (EP X pins σ Q) X.xe {s3 with heap:=s3.heap.push {cls:=.type "slice",data:=.fields #[vl,vu,.none]}}
 exact tail_any (ops:=[.ref s3.heap.objs.size,v]) ht hT hg #[25]
def qg5(xs:List V)(lo hi:Option Int):List V:=(xs.drop (HT.sIx xs.length 0 lo)).take (HT.sIx xs.length xs.length hi-HT.sIx xs.length 0 lo)
theorem wk4(xs:List V)(lo hi:Option Int):(qg5 xs lo hi).length<=xs.length:=by
 unfold qg5
 rw[length_take,length_drop]
 omega
def Ak0(K:Fg):V->Option Int->Option Int->Hp->VK->Prop:=fun x lo hi H Q=>∃ a xs,x=.ref a/\SqT K H a xs /\
 ¬(HT.sIx xs.length 0 lo=0/\HT.sIx xs.length xs.length hi=xs.length)/\∀ p,H p=none->Q (.ref p) (upd H p (.tup (qg5 xs lo hi)))
theorem Ad1:SlR X (Ak0 X.K):=by
 walk_at"22"
 refine HT.wx2 ht hs pl pu (by rw[hlen];exact hw) ?_ (by rw[hlen];exact hz)
 rw[hlen]
 refine⟨.ref s.heap.objs.size,_,I.laid (t':=s.toks) (o:=.tup (qg5 xs lo hi)) (fun b ob q=>Heap.get?_push_of_some _ q) #[11] ?_,rfl,q _ (I.hok.fresh #[11])⟩
 exact⟨Nat.le_trans (wk4 xs lo hi) hz,_,(r.drop (HT.sIx xs.length 0 lo)).take (HT.sIx xs.length xs.length hi-HT.sIx xs.length 0 lo),IsTup.new _ _⟩
def zz2(K:Fg):R2:=fun x y H Q=>∃ a b xs ys,x=.ref a/\y=.ref b/\SqT K H a xs/\SqT K H b ys/\xs≠[]/\xs.length+ys.length<=sizeLine /\
 (ys=[]->Q (.ref a) H)/\(ys≠[]->∀ p,H p=none->Q (.ref p) (upd H p (.tup (xs++ys))))
theorem E6.nil_iff(r:E6 xs us):us=[]↔xs=[]:=by
 cases r with
 | nil=>simp
 | cons _ _=>simp
theorem zs8:OpR X (binaryOp .Add) (zz2 X.K):=by
 walk_at"7"
 obtain⟨a,b,xs,ys,rfl,rfl,ha,hb,hx,hz,q1,q2⟩:=h
 cases rx
 cases ry
 obtain⟨its,r1,p1,_⟩:=I.tuple ha
 obtain⟨its2,r2,p2,_⟩:=I.tuple hb
 refine HT.zs7 p1 p2 (fun z=>hx (r1.nil_iff.mp z)) (fun z=>⟨.ref a,H,I,rfl,q1 (r2.nil_iff.mp z)⟩) (fun z=>?_) (by rw[<-r1.length,<-r2.length];exact hz)
 refine⟨.ref s.heap.objs.size,_,I.laid (t':=s.toks) (o:=.tup (xs++ys)) (fun b ob q=>Heap.get?_push_of_some _ q) #[11] ?_,rfl,q2 (fun w=>z (r2.nil_iff.mpr w)) _ (I.hok.fresh #[11])⟩
 exact⟨by rw[length_append];exact hz,_,r1.append r2,IsTup.new _ _⟩
end
def ixN(n:Nat)(i:Int):Option Nat:=if 0<=i then(if i<n then some i.toNat else none) else if -(n:Int)<=i then some (i+n).toNat else none
def atI{α:Type}(xs:List α)(i:Int):Option α:=(ixN xs.length i).bind fun j=>xs[j]?
theorem yy5{j:Nat}(h:ixN n i=some j):seqIndex? i n=some j/\j<n/\-(n:Int)<=i/\i<n:=by
 unfold ixN at h
 by_cases h0:0<=i
 ·rw[if_pos h0] at h
  by_cases h1:i<n
  ·rw[if_pos h1] at h
   have e:i.toNat=j:=Option.some.inj h
   exact⟨by rw[seqIndex_of h0 h1,e],by omega,by omega,h1⟩
  ·rw[if_neg h1] at h;cases h
 ·rw[if_neg h0] at h
  by_cases h1:-(n:Int)<=i
  ·rw[if_pos h1] at h
   have e:(i+n).toNat=j:=Option.some.inj h
   exact⟨by rw[seqIndex_neg #[0] h1,e],by omega,h1,by omega⟩
  ·rw[if_neg h1] at h;cases h
theorem yc8{xs:List α}{v:α}(h:atI xs i=some v):∃ j,seqIndex? i xs.length=some j/\xs[j]?=some v/\j<xs.length/\-(xs.length:Int)<=i/\i<xs.length:=by
 unfold atI at h
 cases e:ixN xs.length i with
 | none=>rw[e] at h;cases h
 | some j =>
   rw[e] at h
   obtain⟨h1,h2,h3,h4⟩:=yy5 e
   exact⟨j,h1,h,h2,h3,h4⟩
theorem D3{xs:List α}{j:Nat}{v:α}(h:xs[j]?=some v):atI xs (j:Int)=some v:=by
 have hj:j<xs.length:=(List.getElem?_eq_some_iff.mp h).1
 have e:ixN xs.length (j:Int)=some j:=by
  unfold ixN
  rw[if_pos #[0],if_pos #[0]];simp
 unfold atI;rw[e];exact h
theorem zi2(xs:List α)(v:α):atI (xs++[v]) (-1)=some v:=by
 have hl:(xs++[v]).length=xs.length+1:=by simp
 have e:ixN (xs++[v]).length (-1)=some xs.length:=by
  unfold ixN
  rw[hl,if_neg #[10],if_pos #[0]]
  congr 1
  omega
 unfold atI
 rw[e]
 show(xs++[v])[xs.length]?=some v
 simp
def zs9(b:Expr):Prop:=∀ o i,subscripted b false o i=operate [o,i] (getItem o i)
def IxR(X:Cx)(r:R2):Prop :=
 ∀ (value slice:Expr) (pins:List (Addr×Obj)) (s:Shared) (σ:St) (H:Hp) (x y:V) (v u:Value) (Q:VK),Inv X pins σ H s->E9 x v->E9 y u->r x y H Q ->
  subscripted slice false v u=operate [v,u] (getItem v u)->wpAny #[9] X.A (subscriptTail value slice v u) (EP X pins σ Q) X.xe s
def MtR(X:Cx)(id:String)(r:V->List V->Hp->VK->Prop):Prop :=
 ∀ (pins:List (Addr×Obj)) (s:Shared) (σ:St) (H:Hp) (x:V) (xs:List V) (v:Value) (us:List Value) (Q:VK),Inv X pins σ H s->E9 x v->E6 xs us->r x xs H Q ->
  wpAny #[9] X.A (call (.builtin id) (v::us)) (EP X pins σ Q) X.xe s
variable{its its':List Value}{p:Addr}{cpos:Pos}
section
variable{a b:Expr}{tb:TE}
theorem IxR.or{r r':R2}(h:IxR X r)(h':IxR X r'):IxR X (fun x y H Q=>r x y H Q\/r' x y H Q):=by
 intro value slice pins s σ H x y v u Q I rx ry q hs
 rcases q with q|q
 ·exact h value slice pins s σ H x y v u Q I rx ry q hs
 ·exact h' value slice pins s σ H x y v u Q I rx ry q hs
theorem L3{r:R2}(hr:IxR X r)(ha:PE X a ta)(hb:PE X b tb)(hs:zs9 b):PE X (.Subscript a b pos) (tOp r ta tb):=by
 walk_at"18"
 exact Subscript_ (Ac5 ha hb I h fun v u s2 x y H2 I2 rx ry q=>hr a b pins s2 σ H2 x y v u Q I2 rx ry q (hs _ _))
def Ak1(K:Fg):R2:=fun x y H Q=>∃ p xs i v,x=.ref p/\y=.int i/\SqL K H p xs/\atI xs i=some v/\Q v H
def Ak2(K:Fg):R2:=fun x y H Q=>∃ p xs i v,x=.ref p/\y=.int i/\SqT K H p xs/\atI xs i=some v/\Q v H
def Ak3:R2:=fun x y H Q=>∃ z i c,x=.str z/\y=.int i/\z.length<=sizeLine/\atI z.cps.toList i=some c/\Q (.str ⟨#[c]⟩) H
theorem zt0:IxR X (Ak1 X.K):=by
 intro value slice pins s σ H x y v u Q I rx ry h hs
 obtain⟨p,xs,i,z,rfl,rfl,hq,he,q⟩:=h
 cases rx
 obtain⟨t,rfl⟩:=ry
 obtain⟨its,r,pl,hz⟩:=I.list hq
 obtain⟨j,h1,h2,h3,h4,h5⟩:=yc8 he
 obtain⟨w,ew,rw'⟩:=r.get h2
 have hl:=r.length
 have hn:=xd0
 have fin:EP X pins σ Q w s:=⟨z,H,I,rw',q⟩
 by_cases h0:0<=i
 ·have hj:i.toNat=j:=by
   rw[seqIndex_of h0 h5] at h1
   exact Option.some.inj h1
  exact item_listR pl.isList h0 #[0] (by rw[hj];simpa using ew) fin hs
 ·have hj:(i+(its.toArray.size:Int)).toNat=j:=by
   rw[seqIndex_neg #[0] h4] at h1
   rw[size_toArray,<-hl]
   exact Option.some.inj h1
  exact subscriptTail_builtinR (x:=w) pl.isList.typeIs slot_list_getitem.lookup
   (wpAny_getItem_list_neg (Q:=fun r s'=>r=w/\EP X pins σ Q r s') pl.isList #[0] (by rw[size_toArray] <;> omega) #[0] (by rw[hj];simpa using ew) ⟨rfl,fin⟩) hs
theorem Ad2:IxR X (Ak2 X.K):=by
 intro value slice pins s σ H x y v u Q I rx ry h hs
 obtain⟨p,xs,i,z,rfl,rfl,hq,he,q⟩:=h
 cases rx
 obtain⟨t,rfl⟩:=ry
 obtain⟨its,r,pl,hz⟩:=I.tuple hq
 obtain⟨j,h1,h2,h3,h4,h5⟩:=yc8 he
 obtain⟨w,ew,rw'⟩:=r.get h2
 have hl:=r.length
 have hn:=xd0
 have fin:EP X pins σ Q w s:=⟨z,H,I,rw',q⟩
 exact subscriptTail_builtinR (x:=w) pl.typeIs slot_tuple_getitem.lookup
  (getItem_tuple (j:=j) (Q:=fun r s'=>r=w/\EP X pins σ Q r s') pl #[0] #[0] (by rw[size_toArray,<-hl];exact h1) (by simpa using ew) ⟨rfl,fin⟩) hs
theorem Ad3:IxR X Ak3:=by
 intro value slice pins s σ H x y v u Q I rx ry h hs
 obtain⟨z,i,c,rfl,rfl,hz,he,q⟩:=h
 obtain⟨t,rfl⟩:=rx
 obtain⟨t',rfl⟩:=ry
 obtain⟨j,h1,h2,h3,h4,h5⟩:=yc8 he
 have hl:z.cps.toList.length=z.length:=by simp[Str.length]
 rw[hl] at h1 h4 h5
 have hn:=xd0
 exact tail_any (typeIs_str s z t) slot_str_getitem.lookup (getItem_str (c:=c) (by
  have e1:decide (i < -(2 ^ 63:Int))=false:=decide_eq_false #[0]
  have e2:decide (i>=2 ^ 63)=false:=decide_eq_false #[0]
  rw[e1,e2,Bool.or_false]) (by rw[h1];simpa using h2) ⟨.str ⟨#[c]⟩,H,I.tok _,⟨_,rfl⟩,q⟩) hs
def rIx(K:Fg):R2:=fun x y H Q=>Ak1 K x y H Q\/Ak2 K x y H Q\/Ak3 x y H Q
theorem Ad4:IxR X (rIx X.K):=zt0.or (Ad2.or Ad3)
theorem yt5(its:List Value)(n j:Nat)(u:Value):Obj.mapSeq (·.setIfInBounds j u) {cls:=.type "list",data:=.seq its.toArray n}={cls:=.type "list",data:=.seq (its.set j u).toArray n}:=by
 simp[Obj.mapSeq]
theorem Inv.lst{pins:List (Addr×Obj)}{σ:St}{H:Hp}{s:Shared}{p:Addr}{xs:List V}(I:Inv X pins σ H s)(h:H p=some (.lst xs)) :
 ∃ (its:List Value) (n:Nat),E6 xs its/\s.heap.get? p=some {cls:=.type "list",data:=.seq its.toArray n}/\xs.length<=sizeLine:=by
 obtain⟨z,its,n,r,e⟩:=I.hok p _ h
 exact⟨its,n,r,e,z⟩
theorem Inv.lstUpd{n':Nat}{f:Obj->Obj}(I:Inv X pins σ H s)(h:H p=some (.lst xs))(ho:s.heap.get? p=some {cls:=.type "list",data:=.seq its.toArray n})(hf:f {cls:=.type "list",data:=.seq its.toArray n}={cls:=.type "list",data:=.seq its'.toArray n'})(r:E6 ys its')(hz:ys.length<=sizeLine)(t':Nat)(ht:autoParam (0<t') zAt) :
 Inv X pins σ #[42,ys] {s with heap:=s.heap.update p f,toks:=t'}:=by
 have e:(s.heap.update p f).get? p=some {cls:=.type "list",data:=.seq its'.toArray n'}:=by
  rw[Heap.get?_update_self f ho (by rw[hf] <;> rfl),hf]
 refine I.write (x:=p) (e:=p) (by rw[h];trivial) (.inl rfl) (fun b u hb q=>(Heap.get?_update_other _ _ (Ne.symm hb)).trans q) ⟨_,e⟩ ?_
 exact⟨hz,its',n',r,e⟩
def zi3:V->V->V->Hp->(Hp->Prop)->Prop:=fun o i v H Q=>∃ p xs k j,o=.ref p/\i=.int k/\H p=some (.lst xs)/\ixN xs.length k=some j/\Q #[42,xs.set j v]
theorem zi4:Ac4 X zi3:=by
 intro pins s σ H o i v ov iv u Q I ro ri rv h
 obtain⟨p,xs,k,j,rfl,rfl,hp,hj,q⟩:=h
 cases ro
 obtain⟨t,rfl⟩:=ri
 obtain⟨its,n,r,ho,hz⟩:=I.lst hp
 obtain⟨h1,h2,h3,h4⟩:=yy5 hj
 have hl:=r.length
 have hn:=xd0
 have I':Inv X pins σ #[42,xs.set j v] {s with heap:=s.heap.update p (Obj.mapSeq (·.setIfInBounds j u))} :=
  I.lstUpd hp ho (yt5 its n j u) (r.set rv j) (by rw[length_set];exact hz) s.toks
 by_cases h0:0<=k
 ·have hk:k.toNat=j:=by
   rw[seqIndex_of h0 h4] at h1
   exact Option.some.inj h1
  exact PySem.W.ki_setAt ho h0 #[0] (by rw[size_toArray,<-hl];exact h4) (by rw[hk];exact⟨_,I',q⟩)
 ·have hk:(k+(its.toArray.size:Int)).toNat=j:=by
   rw[seqIndex_neg #[0] h3] at h1
   rw[size_toArray,<-hl]
   exact Option.some.inj h1
  exact PySem.W.ki_setBack ho #[0] (by rw[size_toArray,<-hl];exact h3) #[0] (by rw[hk];exact⟨_,I',q⟩)
theorem wd6(lo hi:Option Int)(n:Nat):(sliceBounds lo hi none n).1=((HT.sIx n 0 lo:Nat):Int)/\(sliceBounds lo hi none n).2.1=((HT.sIx n n hi:Nat):Int)/\(sliceBounds lo hi none n).2.2=1:=by
 refine⟨?_,?_,rfl⟩
 ·cases lo with
  | none=>simp[sliceBounds,HT.sIx]
  | some i =>
    simp only[sliceBounds,HT.sIx,Option.getD_none,show(1:Int) > 0 by decide,if_true]
    by_cases h:i<0
    ·simp only[h,if_true] <;> omega
    ·simp only[h,if_false] <;> omega
 ·cases hi with
  | none=>simp[sliceBounds,HT.sIx]
  | some i =>
    simp only[sliceBounds,HT.sIx,Option.getD_none,show(1:Int) > 0 by decide,if_true]
    by_cases h:i<0
    ·simp only[h,if_true] <;> omega
    ·simp only[h,if_false] <;> omega
theorem xu7(its:List Value)(lo hi:Option Int):slicePick its.toArray lo hi none=((its.drop (HT.sIx its.length 0 lo)).take (HT.sIx its.length its.length hi-HT.sIx its.length 0 lo)).toArray:=by
 obtain⟨h1,h2,h3⟩:=wd6 lo hi its.toArray.size
 unfold slicePick
 rw[h1,h2,h3]
 simp only[sliceRange_one,pick_run,size_toArray] <;> rfl
def Ak4(K:Fg):V->Option Int->Option Int->Hp->VK->Prop:=fun x lo hi H Q=>∃ a xs,x=.ref a/\SqL K H a xs/\∀ p,H p=none->Q (.ref p) #[42,qg5 xs lo hi]
theorem zt1:SlR X (Ak4 X.K):=by
 intro pins s σ H x v vl vu lo hi sl Q I rx hs pl pu h
 obtain⟨a,xs,rfl,hx,q⟩:=h
 cases rx
 obtain⟨its,r,ht,hz⟩:=I.list hx
 have hlen:=r.length
 refine⟨"list",_,slot_list_getitem.lookup,ht.isList.typeIs,?_⟩
 refine wpAny_getItem_list_slice ht.isList hs pl pu .none (by simp) ?_ (by rw[size_toArray] <;> omega)
 rw[xu7,<-hlen]
 refine⟨.ref s.heap.objs.size,_,I.laid (t':=s.toks) (o:=.lst (qg5 xs lo hi)) (fun b ob q=>Heap.get?_push_of_some _ q) #[11] ?_,rfl,q _ (I.hok.fresh #[11])⟩
 exact⟨Nat.le_trans (wk4 xs lo hi) hz,_,0,(r.drop (HT.sIx xs.length 0 lo)).take (HT.sIx xs.length xs.length hi-HT.sIx xs.length 0 lo),Heap.get?_push_size _ rfl⟩
def qw5:V->Bool
 | .non=>true
 | .bl _=>true
 | .int _=>true
 | .str _=>true
 | _=>false
def eqV:V->V->Bool
 | .non,.non=>true
 | .bl a,.bl b=>a == b
 | .bl a,.int b=>(if a then 1 else 0) == b
 | .int a,.bl b=>a == (if b then 1 else 0)
 | .int a,.int b=>a == b
 | .str a,.str b=>a == b
 | _,_=>false
theorem Ad5{x:V}{v:Value}(ry:E9 y u)(rx:E9 x v)(fy:qw5 y=true)(fx:qw5 x=true):SeqAt.EqAt A s u v (eqV y x):=by
 cases y with
 | non =>
   cases ry
   cases x with
   | non=>cases rx;exact SeqAt.EqAt.same _
   | bl b=>cases rx;exact SeqAt.EqAt.none_bool b
   | int b=>obtain⟨t,rfl⟩:=rx;exact SeqAt.EqAt.none_int b t
   | str b=>obtain⟨t,rfl⟩:=rx;exact SeqAt.EqAt.none_str b t
   | _=>exact absurd (show false=true from fx) Bool.false_ne_true
 | bl a =>
   cases ry
   cases x with
   | non=>cases rx;exact SeqAt.EqAt.bool_none a
   | bl b=>cases rx;exact SeqAt.EqAt.bool_bool a b
   | int b=>obtain⟨t,rfl⟩:=rx;exact SeqAt.EqAt.bool_int a b t
   | str b=>obtain⟨t,rfl⟩:=rx;exact SeqAt.EqAt.bool_str a b t
   | _=>exact absurd (show false=true from fx) Bool.false_ne_true
 | int a =>
   obtain⟨t',rfl⟩:=ry
   cases x with
   | non=>cases rx;exact SeqAt.EqAt.int_none a t'
   | bl b=>cases rx;exact SeqAt.EqAt.int_bool a t' b
   | int b=>obtain⟨t,rfl⟩:=rx;exact SeqAt.EqAt.int_int a t' b t
   | str b=>obtain⟨t,rfl⟩:=rx;exact SeqAt.EqAt.int_str a t' b t
   | _=>exact absurd (show false=true from fx) Bool.false_ne_true
 | str a =>
   obtain⟨t',rfl⟩:=ry
   cases x with
   | non=>cases rx;exact SeqAt.EqAt.str_none a t'
   | bl b=>cases rx;exact SeqAt.EqAt.str_bool a t' b
   | int b=>obtain⟨t,rfl⟩:=rx;exact SeqAt.EqAt.str_int a t' b t
   | str b=>obtain⟨t,rfl⟩:=rx;exact SeqAt.EqAt.str_str a t' b t
   | _=>exact absurd (show false=true from fx) Bool.false_ne_true
 | _=>exact absurd (show false=true from fy) Bool.false_ne_true
def eqU(x:V)(u:Value):Bool:=match u with
 | .none=>eqV .non x
 | .bool b=>eqV (.bl b) x
 | .int i _=>eqV (.int i) x
 | .str z _=>eqV (.str z) x
 | _=>false
theorem zi5{x:V}(r:E9 y u)(f:qw5 y=true):eqU x u=eqV y x:=by
 cases y with
 | non=>cases r;rfl
 | bl b=>cases r;rfl
 | int i=>obtain⟨t,rfl⟩:=r;rfl
 | str z=>obtain⟨t,rfl⟩:=r;rfl
 | _=>exact absurd (show false=true from f) Bool.false_ne_true
theorem wx4{x:V}:∀ {xs:List V} {us:List Value},E6 xs us->xs.all qw5=true->us.any (eqU x)=xs.any fun y=>eqV y x
 | _,_,.nil,_=>rfl
 | y::xs,u::us,.cons r t,f=>by
   rw[all_cons,Bool.and_eq_true] at f
   rw[any_cons,any_cons,zi5 r f.1,wx4 t f.2]
theorem wk5{A:Around}{s:Shared}{x:V}{v:Value}(rx:E9 x v)(fx:qw5 x=true):∀ {xs:List V} {us:List Value},E6 xs us->xs.all qw5=true->∀ u∈us,SeqAt.EqAt A s u v (eqU x u)
 | _,_,.nil,_=>fun u hu=>by cases hu
 | y::xs,u::us,.cons r t,f=>fun u' hu=>by
   rw[all_cons,Bool.and_eq_true] at f
   rcases mem_cons.mp hu with rfl|hu
   ·rw[zi5 r f.1];exact Ad5 r rx f.1 fx
   ·exact wk5 rx fx t f.2 u' hu
def inV(x:V)(xs:List V):Bool:=xs.any fun y=>eqV y x
def rIn(K:Fg)(neg:Bool):R2:=fun x y H Q=>∃ p xs,y=.ref p/\(SqL K H p xs\/SqT K H p xs)/\qw5 x=true/\xs.all qw5=true/\Q (.bl (if neg then !inV x xs else inV x xs)) H
theorem zd2:OpR X #[74,.In] (rIn X.K false):=by
 walk_at"7"
 obtain⟨p,xs,rfl,hq,fx,fs,q⟩:=h
 cases ry
 rcases hq with hq|hq
 ·obtain⟨its,r,pl,hz⟩:=I.list hq
  refine SeqAt.in_listAt (eqU x) pl.isList (fun w hw=>wk5 rx fx r fs w (by simpa using hw)) ⟨.bl _,H,I,rfl,?_⟩
  walk_at"36"
 ·obtain⟨its,r,pl,hz⟩:=I.tuple hq
  refine SeqAt.in_tupleAt (eqU x) pl (fun w hw=>wk5 rx fx r fs w (by simpa using hw)) ⟨.bl _,H,I,rfl,?_⟩
  walk_at"36"
theorem yc9:OpR X #[74,.NotIn] (rIn X.K true):=by
 walk_at"7"
 obtain⟨p,xs,rfl,hq,fx,fs,q⟩:=h
 cases ry
 rcases hq with hq|hq
 ·obtain⟨its,r,pl,hz⟩:=I.list hq
  refine SeqAt.notIn_listAt (eqU x) pl.isList (fun w hw=>wk5 rx fx r fs w (by simpa using hw)) ⟨.bl _,H,I,rfl,?_⟩
  walk_at"36"
 ·obtain⟨its,r,pl,hz⟩:=I.tuple hq
  refine SeqAt.notIn_tupleAt (eqU x) pl (fun w hw=>wk5 rx fx r fs w (by simpa using hw)) ⟨.bl _,H,I,rfl,?_⟩
  walk_at"36"
theorem yd0:OpR X #[74,.NotIn] (fun x y H Q=>∃ i j,x=.str i/\y=.str j/\Q (.bl (!(!(Builtin.Str.occurrences j i 0 j.length 1).isEmpty))) H):=by
 walk_at"1"
 exact notIn_str ⟨.bl _,H,I,rfl,q⟩
theorem yd1:qj3 X (.builtin "len") (fun xs H Q=>∃ p ys,xs=[.ref p]/\(SqL X.K H p ys\/SqT X.K H p ys)/\Q (.int ys.length) H):=by
 intro pins s σ H xs us Q I r h
 obtain⟨p,ys,rfl,hq,q⟩:=h
 obtain⟨u,rfl,rx⟩:=qz9 r
 cases rx
 have hn:=xd0
 rcases hq with hq|hq
 ·obtain⟨its,r',pl,hz⟩:=I.list hq
  have hlen:=r'.length
  exact Calls.call_len_list pl.isList (by simp only[size_toArray] <;> omega) ⟨.int ys.length,H,I.tok _,⟨s.toks+1,by rw[size_toArray,hlen]⟩,q⟩
 ·obtain⟨its,r',pl,hz⟩:=I.tuple hq
  have hlen:=r'.length
  exact len_tuple pl (by simp only[size_toArray] <;> omega) ⟨.int ys.length,H,I.tok _,⟨s.toks+1,by rw[size_toArray,hlen]⟩,q⟩
theorem yd2:qj3 X (.builtin "len") (fun xs H Q=>∃ z,xs=[.str z]/\z.length<=sizeLine/\Q (.int z.length) H):=by
 intro pins s σ H xs us Q I r h
 obtain⟨z,rfl,hz,q⟩:=h
 obtain⟨u,rfl,t,rfl⟩:=qz9 r
 have hn:=xd0
 exact len_str #[0] ⟨.int z.length,H,I.tok _,⟨_,rfl⟩,q⟩
theorem qj3.or{f:Value}{r r':List V->Hp->VK->Prop}(h:qj3 X f r)(h':qj3 X f r'):qj3 X f (fun xs H Q=>r xs H Q\/r' xs H Q):=by
 intro pins s σ H xs us Q I rs q
 rcases q with q|q
 ·exact h pins s σ H xs us Q I rs q
 ·exact h' pins s σ H xs us Q I rs q
theorem xu8:qj3 X (.type "tuple") (fun xs H Q=>∃ p ys,xs=[.ref p]/\((SqL X.K H p ys/\∀ l,H l=none->Q (.ref l) (upd H l (.tup ys)))\/(SqT X.K H p ys/\Q (.ref p) H))):=by
 intro pins s σ H xs us Q I r h
 obtain⟨p,ys,rfl,h⟩:=h
 obtain⟨u,rfl,rx⟩:=qz9 r
 cases rx
 rcases h with⟨hq,q⟩|⟨hq,q⟩
 ·obtain⟨its,r',pl,hz⟩:=I.list hq
  have hlen:=r'.length
  refine call_tuple_list pl.isList (fun h' kp=>?_) (by simp only[size_toArray] <;> omega)
  have I1:Inv X pins σ H {s with heap:=h'}:=I.kept (t':=s.toks) kp
  have I2:Inv X pins σ (upd H h'.objs.size (.tup ys)) {s with heap:=h'.push {cls:=.type "tuple",data:=.seq its.toArray}} :=
   I1.laid (t':=s.toks) (fun b o e=>Heap.get?_push_of_some _ e) #[11] (show U0 X.prog X.w _ _ _ (.tup ys) from ⟨hz,its,r',IsTup.new _ _⟩)
  exact⟨.ref h'.objs.size,_,I2,rfl,q _ (I1.hok.fresh #[11])⟩
 ·obtain⟨its,r',pl,hz⟩:=I.tuple hq
  exact call_tuple_same pl ⟨.ref p,H,I,rfl,q⟩
def tyV(K:Fg)(T:String)(x:V)(H:Hp):Prop:=match x with
 | .str _=>T = "str"
 | .int _=>T = "int"
 | .ref p=>(T = "list"/\∃ xs,SqL K H p xs)\/(T = "tuple"/\∃ o,K.lookup p=some o/\o.cls=.type "tuple"/\o.dict=none) \/
  (T = "dict"/\((∃ kvs,H p=some (.dK kvs))\/∃ kvs,H p=some (.dT kvs)))\/(T = "set"/\∃ S n,H p=some (.set S n))
 | _=>False
theorem yt6{x:V}{v:Value}(I:Inv X pins σ H s)(r:E9 x v)(ty:tyV X.K T x H) :
 s.TypeIs v T/\∀ a,v=.ref a->∃ ob,s.heap.get? a=some ob/\ob.dict=none:=by
 cases x with
 | str z =>
   obtain⟨t,rfl⟩:=r
   cases (show T = "str" from ty)
   exact⟨typeIs_str s z t,fun _ e=>nomatch e⟩
 | int i =>
   obtain⟨t,rfl⟩:=r
   cases (show T = "int" from ty)
   exact⟨typeIs_int s i t,fun _ e=>nomatch e⟩
 | ref p =>
   cases r
   rcases ty with⟨rfl,xs,hq⟩|⟨rfl,o,hk,hc,hd⟩|⟨rfl,hk⟩|⟨rfl,S,n,hk⟩
   ·obtain⟨its,_,pl,_⟩:=I.list hq
    refine⟨pl.isList.typeIs,fun a e=>?_⟩
    cases e
    obtain⟨o,n,e,c,hd,_⟩:=pl
    exact⟨o,e,hd⟩
   ·refine⟨⟨o,I.kIn p o hk,hc⟩,fun a e=>?_⟩
    cases e
    exact⟨o,I.kIn _ o hk,hd⟩
   ·have z:∃ o,s.heap.get? p=some o/\o.ExactDict:=by
     rcases hk with⟨kvs,hk⟩|⟨kvs,hk⟩
     ·obtain⟨_,_,_,_,o,_,_,e,ex,_⟩:=I.hok p _ hk
      exact⟨o,e,ex⟩
     ·obtain⟨_,_,_,_,o,_,_,e,ex,_⟩:=I.hok p _ hk
      exact⟨o,e,ex⟩
    obtain⟨o,e,ex⟩:=z
    refine⟨⟨o,e,ex.1⟩,fun a e2=>?_⟩
    cases e2
    exact⟨o,e,ex.2.1⟩
   ·obtain⟨o,_,_,_,e,ex,_⟩:=I.hok p _ hk
    refine⟨⟨o,e,ex.1⟩,fun a e2=>?_⟩
    cases e2
    exact⟨o,e,ex.2.1⟩
 | _=>exact False.elim ty
def yd3(K:Fg)(T:String)(r:V->List V->Hp->VK->Prop)(to:TE):TE:=fun σ H Q=>to σ H fun x H1=>tyV K T x H1/\r x [] H1 Q
def tBM(K:Fg)(T:String)(r:V->List V->Hp->VK->Prop)(to:TE)(t:TA):TE:=fun σ H Q=>to σ H fun x H1=>tyV K T x H1/\t σ H1 fun xs H2=>r x xs H2 Q
variable{id:String}{r:V->List V->Hp->VK->Prop}
theorem Ad6(pa:PlainAttrs T)(slot:Slot T name id)(hty:typeOf (.builtin id)=pure (.type "method_descriptor"))(hm:MtR X id r)(ho:PE X o to)(hbase:autoParam (attributeBase o name X.env (eval o X.env)=eval o X.env) zAr)(hline:autoParam ((apos.endLine == cpos.line)=true) zAr):PE X (.Call (.Attribute o name apos) [] [] cpos) (yd3 X.K T r to):=by
 walk_at"18"
 refine wpAny_Call_method0_late hbase hline (thn (ho pins s σ H _ I h) fun v s1 zq=>?_)
 obtain⟨x,H1,I1,r1,ty,q1⟩:=zq
 obtain⟨h1,h2⟩:=yt6 I1 r1 ty
 exact⟨T,id,pa,slot,hty,h1,h2,Calls.callWith_builtin rfl (PySem.evalArgs_none (hm pins s1 σ H1 x [] v [] Q I1 r1 .nil q1))⟩
theorem wg6(pa:PlainAttrs T)(slot:Slot T name id)(hty:typeOf (.builtin id)=pure (.type "method_descriptor"))(hm:MtR X id r)(ho:PE X o to)(ha:PA X (e::es) t)(hbase:autoParam (attributeBase o name X.env (eval o X.env)=eval o X.env) zAr) (hfew:((backTo cpos (starEach (e::es) X.env)).all (fun x=>!x.1) && (backToKw cpos (keywordEach [] X.env)).all (fun x=>x.1.isSome)
  && decide ((e::es).length+([]:List Keyword).length+(if([]:List Keyword).isEmpty then 0 else 1)<30))=true:=by rfl) (hline:autoParam ((apos.endLine == cpos.line)=true) zAr) (hs:autoParam #[16] zAr) (hplain:autoParam #[43,cpos] zAr) :
 PE X (.Call (.Attribute o name apos) (e::es) [] cpos) (tBM X.K T r to t):=by
 walk_at"18"
 refine wpAny_Call_method_late hbase hfew hline rfl (thn (ho pins s σ H _ I h) fun v s1 zq=>?_)
 obtain⟨x,H1,I1,r1,ty,q1⟩:=zq
 obtain⟨h1,h2⟩:=yt6 I1 r1 ty
 refine⟨T,id,pa,slot,hty,h1,h2,?_⟩
 have hA:=ha cpos pins s1 σ H1 _ I1 q1
 rw[hs] at hA ⊢
 refine Calls.callWith_builtin (by show(false || (backTo cpos (starEach es X.env)).any (·.1))=false;rw[hplain] <;> rfl) (Calls.evalArgs_plain ?_)
 exact thn hA fun us s2 ⟨vs,H2,I2,r2,q2⟩=>hm pins s2 σ H2 x vs v us Q I2 r1 r2 q2
end
def MtM(X:Cx)(id:String)(r:V->List V->Hp->VK->Prop):Prop :=
 ∀ (pins:List (Addr×Obj)) (s:Shared) (σ:St) (H:Hp) (x:V) (xs:List V) (v:Value) (us:List Value) (Q:VK),Inv X pins σ H s->E9 x v->E6 xs us->r x xs H Q ->
  wpAny #[9] X.A (call (.builtin id) (v::us)) (EP X pins σ Q) X.xe s
theorem E6.one{x:V}(r:E6 [x] us):∃ u,us=[u]/\E9 x u:=qz9 r
theorem E6.two{x:V}(r:E6 [x,y] us):∃ u v,us=[u,v]/\E9 x u/\E9 y v:=xy4 r
theorem E6.zero:∀ {us:List Value},E6 [] us->us=[]
 | _,.nil=>rfl
theorem E6.dropLast{xs:List V}{us:List Value}(h:E6 xs us):E6 xs.dropLast us.dropLast:=by
 induction h with
 | nil=>exact .nil
 | cons r t ih =>
   cases t with
   | nil=>exact .nil
   | cons q t'=>exact .cons r ih
theorem E6.rep{xs:List V}{us:List Value}(h:E6 xs us):∀ k:Nat,E6 (List.replicate k xs).flatten (List.replicate k us).flatten
 | 0=>.nil
 | k+1=>by
   rw[replicate_succ,replicate_succ,flatten_cons,flatten_cons]
   exact E6.append h (E6.rep h k)
theorem yt7(l:List α):l.eraseIdx (l.length-1)=l.dropLast:=by
 induction l with
 | nil=>rfl
 | cons a r ih =>
   cases r with
   | nil=>rfl
   | cons b r =>
     have e:(a::b::r).length-1=((b::r).length-1)+1:=by
      have h1:(a::b::r).length=r.length+2:=rfl
      have h2:(b::r).length=r.length+1:=rfl
      omega
     rw[e,eraseIdx_cons_succ,ih]
     all_goals rfl
theorem xy9(its:List Value):∀ (k:Nat) (acc:List Value),
 List.foldl (fun x1 x2=>x1++x2) acc.toArray (List.replicate k its.toArray)=(acc++(List.replicate k its).flatten).toArray
 | 0,acc=>by simp
 | k+1,acc=>by
   have e:acc.toArray++its.toArray=(acc++its).toArray:=by simp
   have e2:(acc++its)++(List.replicate k its).flatten=acc++(List.replicate (k+1) its).flatten:=by
    rw[replicate_succ,flatten_cons,append_assoc]
   rw[<-e2,<-xy9 its k (acc++its),<-e,replicate_succ,foldl_cons]
variable{l:Addr}{zs:List V}
theorem Inv.lset{f:Array Value->Array Value}(I:Inv X pins σ H s)(hH:H l=some (.lst xs))(e:s.heap.get? l=some {cls:=.type "list",data:=.seq its.toArray n})(hf:f its.toArray=its'.toArray)(hv:E6 ys its')(hz:ys.length<=sizeLine)(ht:autoParam (0<t') zAt) :
 Inv X pins σ (upd H l (.lst ys)) {s with heap:=s.heap.update l (Obj.mapSeq f),toks:=t'}:=by
 have q:=PySem.IsL.update e f
 rw[hf] at q
 refine I.write (x:=l) (e:=l) (by rw[hH];exact trivial) (.inl rfl) (fun b' u hb hu=>(Heap.get?_update_other s.heap (Obj.mapSeq f) (Ne.symm hb)).trans hu) ⟨_,q⟩ ?_
 exact⟨hz,its',_,hv,q⟩
theorem Inv.lnew(I:Inv X pins σ H s)(hv:E6 ys its)(hz:ys.length<=sizeLine)(ht:autoParam (0<t') zAt) :
 Inv X pins σ (upd H s.heap.objs.size (.lst ys)) {s with heap:=s.heap.push {cls:=.type "list",data:=.seq its.toArray},toks:=t'} :=
 I.laid (fun _ _ q=>Heap.get?_push_of_some _ q) #[11] ⟨hz,its,0,hv,Heap.get?_push_size _ rfl⟩
theorem Inv.fresh(I:Inv X pins σ H s):H s.heap.objs.size=none:=I.hok.fresh #[11]
theorem Inv.lstM(I:Inv X pins σ H s)(hH:H l=some (.lst xs)):xs.length<=sizeLine/\∃ (its:List Value) (n:Nat),E6 xs its/\xs.length=its.length/\s.heap.get? l=some {cls:=.type "list",data:=.seq its.toArray n}:=by
 obtain⟨z,its,n,r,e⟩:=I.hok l _ hH
 exact⟨z,its,n,r,r.length,e⟩
theorem yl0(h:n<=sizeLine):Builtin.List.listTooLong n=false:=by
 unfold Builtin.List.listTooLong
 exact decide_eq_false #[0]
def M3:V->List V->Hp->VK->Prop:=fun x vs H Q=>∃ l xs y,x=.ref l/\vs=[y]/\H l=some (.lst xs)/\xs.length<sizeLine/\Q .non (upd H l (.lst (xs++[y])))
theorem xd2:MtM X "list.append" M3:=by
 walk_at"28"
 obtain⟨l,xs,y,rfl,rfl,hH,hz,q⟩:=h
 cases rx
 obtain⟨u,rfl,ru⟩:=rv.one
 obtain⟨z,its,n,r,hl,e⟩:=I.lstM hH
 refine call_meets F.slot_list_append ⟨_,e,rfl⟩ F.entry_list_append (F.args_list_append_2 _ _) (PySem.list_append l its.toArray n u (by rw[size_toArray];omega)) ⟨e,?_⟩
 refine⟨.non,_,I.lset (its':=its++[u]) hH e (by simp) (r.append (.cons ru .nil)) ?_,rfl,q⟩
 rw[length_append,length_singleton]
 omega
def wx5:V->List V->Hp->VK->Prop:=fun x vs H Q=>∃ l b xs zs,x=.ref l/\vs=[.ref b]/\H l=some (.lst xs)/\H b=some (.lst zs)/\xs.length+zs.length<=sizeLine/\Q .non (upd H l (.lst (xs++zs)))
theorem zd3:MtM X "list.extend" wx5:=by
 walk_at"28"
 obtain⟨l,b,xs,zs,rfl,rfl,hH,hB,hz,q⟩:=h
 cases rx
 obtain⟨u,rfl,ru⟩:=rv.one
 cases ru
 obtain⟨z,its,n,r,hl,e⟩:=I.lstM hH
 obtain⟨z2,its2,n2,r2,hl2,e2⟩:=I.lstM hB
 have hsz:its.toArray.size+its2.toArray.size<=sizeLine:=by rw[size_toArray,size_toArray];omega
 have hlong:¬(!its.toArray.isEmpty && Builtin.List.listTooLong (its.toArray.size+its2.toArray.size))=true:=by
  rw[yl0 hsz,Bool.and_false]
  exact Bool.false_ne_true
 refine call_meets F.slot_list_extend ⟨_,e,rfl⟩ F.entry_list_extend (F.args_list_extend_2 _ _)
  (AutoSeq1.list_extend_list_list_0 l its.toArray n b its2.toArray n2 hlong (by rw[size_toArray];omega) #[0]) ⟨e,e2,?_⟩
 refine⟨.non,_,I.lset (its':=its++its2) hH e (by simp) (r.append r2) ?_,rfl,q⟩
 rw[length_append]
 omega
def yd4:V->List V->Hp->VK->Prop:=fun x vs H Q=>∃ l xs y,x=.ref l/\vs=[]/\H l=some (.lst xs)/\xs[xs.length-1]?=some y/\Q y (upd H l (.lst xs.dropLast))
theorem Ad7:MtM X "list.pop" yd4:=by
 walk_at"28"
 obtain⟨l,xs,y,rfl,rfl,hH,hy,q⟩:=h
 cases rx
 have hus:=rv.zero
 subst hus
 obtain⟨z,its,n,r,hl,e⟩:=I.lstM hH
 obtain⟨u,hu,ru⟩:=r.get hy
 have hy':its.toArray[its.toArray.size-1]?=some u:=by
  show its.toArray[its.length-1]?=some u
  rw[<-Array.getElem?_toList,<-hl]
  exact hu
 refine call_meets F.slot_list_pop ⟨_,e,rfl⟩ F.entry_list_pop (F.args_list_pop_1 _) (MeetsSeq.list_pop_last l its.toArray n u hy' (by rw[size_toArray];omega)) ⟨e,?_⟩
 refine⟨y,_,I.lset (its':=its.dropLast) hH e ?_ r.dropLast ?_,ru,q⟩
 ·show its.toArray.eraseIdxIfInBounds (its.toArray.size-1)=its.dropLast.toArray
  rw[size_toArray,eraseIdxIfInBounds_toArray,yt7]
 ·rw[length_dropLast]
  omega
def Ak5:R2:=fun x y H Q=>∃ l b xs zs,x=.ref l/\y=.ref b/\H l=some (.lst xs)/\H b=some (.lst zs)/\xs.length+zs.length<=sizeLine/\∀ p,H p=none->Q (.ref p) #[42,xs++zs]
theorem Ad8:OpR X (binaryOp .Add) Ak5:=by
 walk_at"7"
 obtain⟨l,b,xs,zs,rfl,rfl,hH,hB,hz,q⟩:=h
 cases rx
 cases ry
 obtain⟨z,its,n,r,hl,e⟩:=I.lstM hH
 obtain⟨z2,its2,n2,r2,hl2,e2⟩:=I.lstM hB
 refine PySem.P.add_list e e2 ?_ (by rw[size_toArray,size_toArray];omega)
 have ea:its.toArray++its2.toArray=(its++its2).toArray:=by simp
 rw[ea]
 exact⟨.ref _,_,I.lnew (t':=s.toks) (r.append r2) (by rw[length_append];omega),rfl,q _ I.fresh⟩
def Ak6:R2:=fun x y H Q=>∃ l k xs,x=.ref l/\y=.int k/\H l=some (.lst xs)/\-(2 ^ 63)<=k/\k<2 ^ 63/\xs.length*k.toNat<=sizeLine /\
 ∀ p,H p=none->Q (.ref p) (upd H p (.lst (List.replicate k.toNat xs).flatten))
theorem zt2(xs:List α)(k:Nat):(List.replicate k xs).flatten.length=k*xs.length:=by
 induction k with
 | zero=>simp
 | succ k ih=>rw[replicate_succ,flatten_cons,length_append,ih,Nat.succ_mul,Nat.add_comm]
theorem Ad9:OpR X (binaryOp .Mult) Ak6:=by
 walk_at"7"
 obtain⟨l,k,xs,rfl,rfl,hH,h1,h2,hz,q⟩:=h
 cases rx
 obtain⟨t,rfl⟩:=ry
 obtain⟨z,its,n,r,hl,e⟩:=I.lstM hH
 have hlen:its.toArray.size*k.toNat<=sizeLine:=by rw[size_toArray,<-hl];exact hz
 have hcap:¬its.toArray.size*k.toNat > (2 ^ 63-1) / 8:=by
  have:(sizeLine:Nat)<=(2 ^ 63-1) / 8:=by decide
  omega
 have hfit:¬(!Builtin.List.listFitsIndex k)=true:=by
  rw[fitsIndex_both h1 h2]
  exact Bool.false_ne_true
 have hlong:¬Builtin.List.listTooLong (its.toArray.size*k.toNat)=true:=by
  rw[yl0 hlen]
  exact Bool.false_ne_true
 have hnew:List.foldl (fun x1 x2=>x1++x2) #[] (List.replicate (if its.toArray.isEmpty=true then 0 else k.toNat) its.toArray)=(List.replicate k.toNat its).flatten.toArray:=by
  have f0:∀ m:Nat,List.foldl (fun x1 x2=>x1++x2) #[] (List.replicate m its.toArray)=(List.replicate m its).flatten.toArray:=fun m=>by
   have:=xy9 its m []
   rw[nil_append] at this
   exact this
  rw[f0]
  cases its with
  | nil=>simp
  | cons a r'=>rw[if_neg (by simp)]
 refine wpAny_binaryOp_repeat_ref (T := "list") (U := "int") #[10] ⟨_,e,rfl⟩ (fun s'=>typeIs_int s' k t) noFill_list_mul F.fills_int_mul F.slot_int_rmul repeat_list F.slot_int_index.lookup
  (call_meets F.slot_int_rmul (typeIs_int s k t) F.entry_int_rmul (F.args_int_rmul_2 _ _) (int___rmul___int_list k t l its.toArray n)
   ⟨e,rfl,⟨_,e,rfl⟩,call_meets F.slot_list_mul ⟨_,e,rfl⟩ F.entry_list_mul (F.args_list_mul_2 _ _) (AutoListH.list___mul___list_int_3 l its.toArray n k t hfit hcap hlong) ⟨e,?_⟩⟩)
 rw[hnew]
 exact⟨.ref _,_,I.lnew (t':=s.toks) (r.rep k.toNat) (by rw[zt2,Nat.mul_comm];exact hz),rfl,q _ I.fresh⟩
variable{κ:Type}
section
variable[DecidableEq κ]
def qs8(kvs:List (κ×V))(k:κ):Option V:=(kvs.find? fun kv=>decide (kv.1=k)).map (·.2)
def wj2(kvs:List (κ×V))(k:κ)(v:V):List (κ×V) :=
 if(kvs.any fun kv=>decide (kv.1=k))=true then kvs.map (fun kv=>if kv.1=k then(kv.1,v) else kv) else kvs++[(k,v)]
theorem Ak7{k:κ}:qs8 ([]:List (κ×V)) k=none:=rfl
theorem Y4{p:κ×V}{r:List (κ×V)}{k:κ}(e:p.1=k):qs8 (p::r) k=some p.2:=by simp[qs8,find?_cons,e]
theorem Y5{p:κ×V}{r:List (κ×V)}{k:κ}(e:¬p.1=k):qs8 (p::r) k=qs8 r k:=by simp[qs8,find?_cons,e]
theorem wx6(k:κ):∀ kvs:List (κ×V),(kvs.any fun kv=>decide (kv.1=k))=(qs8 kvs k).isSome
 | []=>rfl
 | p::r=>by
   rw[any_cons]
   by_cases e:p.1=k
   ·simp only[Y4 e,decide_eq_true e,Bool.true_or,Option.isSome_some]
   ·rw[Y5 e,decide_eq_false e,Bool.false_or];exact wx6 k r
theorem yl1(k j:κ)(y:V):∀ kvs:List (κ×V),qs8 (kvs.map fun kv=>if kv.1=k then(kv.1,y) else kv) j=(qs8 kvs j).map fun x=>if j=k then y else x
 | []=>rfl
 | p::r=>by
   have ih:=yl1 k j y r
   rw[map_cons]
   by_cases h:p.1=k
   ·rw[if_pos h]
    by_cases e:p.1=j
    ·rw[Y4 (p:=(p.1,y)) e,Y4 e,Option.map_some,if_pos (e.symm.trans h)]
    ·rw[Y5 (p:=(p.1,y)) e,Y5 e,ih]
   ·rw[if_neg h]
    by_cases e:p.1=j
    ·rw[Y4 (p:=p) e,Y4 e,Option.map_some,if_neg (fun z=>h (e.trans z))]
    ·rw[Y5 (p:=p) e,Y5 e,ih]
theorem xz0(k j:κ)(y:V):∀ kvs:List (κ×V),qs8 kvs k=none->qs8 (kvs++[(k,y)]) j=if j=k then some y else qs8 kvs j
 | [],_=>by
   by_cases e:k=j
   ·rw[if_pos e.symm];exact Y4 (p:=(k,y)) e
   ·rw[if_neg (fun z=>e z.symm)];exact Y5 (p:=(k,y)) e
 | p::r,hn=>by
   rw[cons_append]
   have hk:¬p.1=k:=fun z=>by rw[Y4 z] at hn;cases hn
   rw[Y5 hk] at hn
   have ih:=xz0 k j y r hn
   by_cases e:p.1=j
   ·rw[Y4 e,Y4 e,if_neg (fun z=>hk (e.trans z))]
   ·rw[Y5 e,Y5 e,ih]
theorem yl2(kvs:List (κ×V))(k j:κ)(y:V):qs8 (wj2 kvs k y) j=if j=k then some y else qs8 kvs j:=by
 unfold wj2
 by_cases a:(kvs.any fun kv=>decide (kv.1=k))=true
 ·rw[if_pos a,yl1]
  rw[wx6] at a
  by_cases e:j=k
  ·obtain⟨x,hx⟩:=Option.isSome_iff_exists.mp a
   rw[if_pos e,e,hx,Option.map_some,if_pos rfl]
  ·rw[if_neg e]
   cases qs8 kvs j with
   | none=>rfl
   | some x=>rw[Option.map_some,if_neg e]
 ·rw[if_neg a]
  refine xz0 k j y kvs ?_
  rw[wx6] at a
  cases q:qs8 kvs k with
  | none=>rfl
  | some x=>rw[q] at a;exact(a rfl).elim
theorem wk6(kvs:List (κ×V))(k:κ)(v:V):(wj2 kvs k v).length<=kvs.length+1:=by
 unfold wj2
 split
 ·rw[length_map];omega
 ·rw[length_append,length_cons,length_nil];omega
theorem wq8.isSome_eq{o:Option V}{u:Option Value}(r:wq8 o u):o.isSome=u.isSome:=by
 cases o with
 | none=>cases u with
   | none=>rfl
   | some _=>exact(show False from r).elim
 | some _=>cases u with
   | none=>exact(show False from r).elim
   | some _=>rfl
theorem wq8.getD{o:Option V}{u:Option Value}{d:V}{d':Value}(r:wq8 o u)(rd:E9 d d'):E9 (o.getD d) (u.getD d'):=by
 cases o with
 | none=>cases u with
   | none=>exact rd
   | some _=>exact(show False from r).elim
 | some _=>cases u with
   | none=>exact(show False from r).elim
   | some _=>exact r
theorem KV.val{kvs:List (κ×V)}{vs:List (κ×Value)}(r:KV kvs vs)(k:κ):wq8 (qs8 kvs k) (valueAt vs k):=by
 unfold KV at r
 induction r with
 | nil=>exact True.intro
 | @cons p q ps qs h t ih =>
   obtain⟨h1,h2⟩:=h
   by_cases e:p.1=k
   ·have e':q.1=k:=h1.symm.trans e
    have b:valueAt (q::qs) k=some q.2:=by simp[valueAt,find?_cons,e']
    rw[Y4 e,b];exact h2
   ·have e':¬q.1=k:=fun z=>e (h1.trans z)
    have b:valueAt (q::qs) k=valueAt qs k:=by simp[valueAt,find?_cons,e']
    rw[Y5 e,b];exact ih
theorem KV.any{kvs:List (κ×V)}{vs:List (κ×Value)}(r:KV kvs vs)(k:κ):(kvs.any fun kv=>decide (kv.1=k))=vs.any fun kv=>decide (kv.1=k):=by
 unfold KV at r
 induction r with
 | nil=>rfl
 | cons h t ih=>rw[any_cons,any_cons,ih,h.1]
theorem KV.repl{kvs:List (κ×V)}{vs:List (κ×Value)}(r:KV kvs vs)(k:κ)(ry:E9 y u) :
 KV (kvs.map fun kv=>if kv.1=k then(kv.1,y) else kv) (vs.map fun kv=>if kv.1=k then(kv.1,u) else kv):=by
 unfold KV at r ⊢
 induction r with
 | nil=>exact .nil
 | @cons p q ps qs h t ih =>
   rw[map_cons,map_cons]
   refine .cons ?_ ih
   obtain⟨h1,h2⟩:=h
   by_cases e:p.1=k
   ·rw[if_pos e,if_pos (h1.symm.trans e)];exact⟨h1,ry⟩
   ·rw[if_neg e,if_neg (fun z=>e (h1.trans z))];exact⟨h1,h2⟩
theorem KV.put{kvs:List (κ×V)}{vs:List (κ×Value)}(r:KV kvs vs)(k:κ)(ry:E9 y u):KV (wj2 kvs k y) (stored vs k u):=by
 unfold wj2 stored
 rw[r.any k]
 by_cases e:(vs.any fun kv=>decide (kv.1=k))=true
 ·rw[if_pos e,if_pos e];exact r.repl k ry
 ·rw[if_neg e,if_neg e];exact Paired.snoc r ⟨rfl,ry⟩
theorem KV.length{kvs:List (κ×V)}{vs:List (κ×Value)}(r:KV kvs vs):kvs.length=vs.length:=Paired.length r
end
theorem xz1{k:Key}(r:E9 (kV k) u):(S1 P w).is k u=true:=by
 cases k with
 | inl i=>obtain⟨t,e⟩:=(show ∃ t,u=Value.int i t from r);subst e;exact yj6 P w i t
 | inr x=>obtain⟨t,e⟩:=(show ∃ t,u=Value.str x t from r);subst e;exact yj7 P w x t
theorem xz2{P:Program}{w:World}:∀ {ks:List Key} {us:List Value},E6 (ks.map kV) us->ItemsAre (S1 P w) ks us
 | [],_,r=>by rw[map_nil] at r;cases r;exact .nil
 | k::ks,_,r=>by
   rw[map_cons] at r
   cases r with
   | cons h t=>exact .cons (xz1 h) (xz2 t)
abbrev KT(H:Hp):List (List Key×V)->List (List Key×Addr×Value)->Prop:=Paired fun p q=>p.1=q.1/\H q.2.1=some (.tup (p.1.map kV))/\E9 p.2 q.2.2
variable{kvs:List (List Key×V)}
theorem KT.val{xs:List (List Key×Addr×Value)}(r:KT H kvs xs)(k:List Key):wq8 (qs8 kvs k) ((atKey xs k).map (·.2)):=by
 induction r with
 | nil=>exact True.intro
 | @cons p q ps qs h t ih =>
   obtain⟨h1,_,h2⟩:=h
   by_cases e:p.1=k
   ·have e':q.1=k:=h1.symm.trans e
    have b:atKey (q::qs) k=some q.2:=by simp[atKey,find?_cons,e']
    rw[Y4 e,b];exact h2
   ·have e':¬q.1=k:=fun z=>e (h1.trans z)
    have b:atKey (q::qs) k=atKey qs k:=by simp[atKey,find?_cons,e']
    rw[Y5 e,b];exact ih
theorem KT.repl{xs:List (List Key×Addr×Value)}(r:KT H kvs xs)(k:List Key)(ry:E9 y u) :
 KT H (kvs.map fun kv=>if kv.1=k then(kv.1,y) else kv) (xs.map (putAt k u)):=by
 induction r with
 | nil=>exact .nil
 | @cons p q ps qs h t ih =>
   rw[map_cons,map_cons]
   refine .cons ?_ ih
   obtain⟨h1,h2,h3⟩:=h
   unfold putAt
   by_cases e:p.1=k
   ·rw[if_pos e,if_pos (h1.symm.trans e)];exact⟨h1,h2,ry⟩
   ·rw[if_neg e,if_neg (fun z=>e (h1.trans z))];exact⟨h1,h2,h3⟩
theorem KT.put{xs:List (List Key×Addr×Value)}(r:KT H kvs xs)(k:List Key)(hb:H b=some (.tup (k.map kV)))(ry:E9 y u) :
 KT H (wj2 kvs k y) (storedH xs k b u):=by
 have e:(kvs.any fun kv=>decide (kv.1=k))=(atKey xs k).isSome:=by
  rw[wx6,(r.val k).isSome_eq,Option.isSome_map]
 unfold wj2 storedH
 rw[e]
 by_cases q:(atKey xs k).isSome=true
 ·rw[if_pos q,if_pos q];exact r.repl k ry
 ·rw[if_neg q,if_neg q];exact Paired.snoc r ⟨rfl,hb,ry⟩
theorem KT.keeps{xs:List (List Key×Addr×Value)}(r:KT H kvs xs)(ht:∀ b ys,H b=some (.tup ys)->H' b=some (.tup ys)):KT H' kvs xs :=
 Paired.mapP r fun _ _ z=>⟨z.1,ht _ _ z.2.1,z.2.2⟩
theorem zz3{u:HO}(ok:HOk P w H h)(e:Rd H a u):U0 P w H h a u:=e.ok ok
theorem xz3{kvs:List (Key×V)}(ok:HOk P w H h)(e:Rd H a (.dK kvs)):kvs.length<=sizeLine/\(a == sysModules)=false/\∃ vs,KV kvs vs/\h.DictOf (S1 P w) a vs :=
 show U0 P w H h a (.dK kvs) from zz3 ok e
theorem zz4{kvs:List (Key×V)}(ok:HOk P w H h)(e:H a=some (.dK kvs)):kvs.length<=sizeLine/\(a == sysModules)=false/\∃ vs,KV kvs vs/\h.DictOf (S1 P w) a vs:=xz3 ok (.inl e)
theorem xn8{ks:List Key}(ok:HOk P w H h)(e:H a=some (.tup (ks.map kV))):(tupleKind (S1 P w)).is h ks a:=by
 obtain⟨_,its,r,o,h1,h2,n,h3⟩:=(show U0 P w H h a (.tup (ks.map kV)) from ok a _ e)
 exact⟨o,its.toArray,n,h1,h2,h3,by simpa using xz2 r⟩
theorem yl3(ok:HOk P w H h)(e:Rd H a (.dT kvs)):kvs.length<=sizeLine/\(a == sysModules)=false /\
 ∃ xs,KT H kvs xs/\h.DictOfH (tupleKind (S1 P w)) a xs:=by
 obtain⟨z,y,xs,r,o,es,ep,h1,h2,h3,h4,h5⟩:=(show U0 P w H h a (.dT kvs) from zz3 ok e)
 refine⟨z,y,xs,r,o,es,ep,h1,h2,h3,h4,fun x hx=>?_,h5⟩
 have all:∀ {l:List (List Key×V)} {m:List (List Key×Addr×Value)},KT H l m->∀ x∈m,(tupleKind (S1 P w)).is h x.1 x.2.1:=by
  intro l m q
  induction q with
  | nil=>intro x hx;exact nomatch hx
  | @cons p q ps qs hq t ih =>
    intro x hx
    rcases mem_cons.mp hx with e|hx
    ·subst e
     exact xn8 ok (by rw[<-hq.1];exact hq.2.1)
    ·exact ih x hx
 exact all r x hx
theorem Ak8(ok:HOk P w H h)(e:H a=some (.dT kvs)):kvs.length<=sizeLine/\(a == sysModules)=false /\
 ∃ xs,KT H kvs xs/\h.DictOfH (tupleKind (S1 P w)) a xs:=yl3 ok (.inl e)
def yl4(H:Hp)(a:Addr)(y:V)(r:Option V):Prop :=
 (∃ kvs k,Rd H a (.dK kvs)/\y=kV k/\r=qs8 kvs k)\/∃ kvs k b,Rd H a (.dT kvs)/\y=.ref b/\H b=some (.tup (k.map kV))/\r=qs8 kvs k
def Ak9(H:Hp)(a:Addr)(y v:V)(H':Hp):Prop :=
 (∃ kvs k,H a=some (.dK kvs)/\y=kV k/\kvs.length<sizeLine/\H'=upd H a (.dK (wj2 kvs k v))) \/
 ∃ kvs k b,H a=some (.dT kvs)/\y=.ref b/\H b=some (.tup (k.map kV))/\kvs.length<sizeLine/\H'=upd H a (.dT (wj2 kvs k v))
theorem yl4.k{kvs:List (Key×V)}{k:Key}(e:H a=some (.dK kvs)):yl4 H a (kV k) (qs8 kvs k):=.inl ⟨kvs,k,.inl e,rfl,rfl⟩
section
variable{r:Value}{o:Option V}
theorem Inv.big(I:Inv X pins σ H s):sysModules<s.heap.objs.size:=by
 have h:mainGlobals<s.heap.objs.size:=(I.mod.glob.keeps I.bk).lt
 exact Nat.lt_trans #[10] h
theorem Ao2(hu:A.units+1<cLine)(I:Inv X pins σ H s)(g:yl4 H a y o)(ry:E9 y u)(h:∀ s',Inv X pins σ H s'->Q (.bool o.isSome) s') :
 wpAny #[9] A (compareOp .In u (.ref a)) Q E s:=by
 rcases g with⟨kvs,k,e,ey,l⟩|⟨kvs,k,b,e,ey,eb,l⟩
 ·subst ey
  obtain⟨z,hd,vs,rel,dd⟩:=xz3 I.hok e
  refine wpAny_in_of (xz1 ry) hd dd.mapOf ?_
  rw[<-(rel.val k).isSome_eq,<-l]
  exact h _ (I.tok _)
 ·subst ey
  cases (show u=Value.ref b from ry)
  obtain⟨z,hd,xs,rel,dd⟩:=yl3 I.hok e
  refine wpAny_in_heap (tupleKind_room_in1 hu) (xn8 I.hok eb) hd dd ?_
  have q:=(rel.val k).isSome_eq
  rw[Option.isSome_map] at q
  rw[<-q,<-l]
  exact h _ (I.tok _)
theorem zt3(hu:A.units+1<cLine)(I:Inv X pins σ H s)(g:yl4 H a y o)(ry:E9 y u)(h:∀ s',Inv X pins σ H s'->Q (.bool (!o.isSome)) s') :
 wpAny #[9] A (compareOp .NotIn u (.ref a)) Q E s:=by
 rcases g with⟨kvs,k,e,ey,l⟩|⟨kvs,k,b,e,ey,eb,l⟩
 ·subst ey
  obtain⟨z,hd,vs,rel,dd⟩:=xz3 I.hok e
  refine wpAny_notIn_of (xz1 ry) hd dd.mapOf ?_
  rw[<-(rel.val k).isSome_eq,<-l]
  exact h _ (I.tok _)
 ·subst ey
  cases (show u=Value.ref b from ry)
  obtain⟨z,hd,xs,rel,dd⟩:=yl3 I.hok e
  refine wpAny_notIn_heap (tupleKind_room_in1 hu) (xn8 I.hok eb) hd dd ?_
  have q:=(rel.val k).isSome_eq
  rw[Option.isSome_map] at q
  rw[<-q,<-l]
  exact h _ (I.tok _)
theorem yd5{ob:HO}(I:Inv X pins σ H s)(mu:Mut (H a))(hs:Heap.SameBut a s.heap h')(he:∃ q,h'.get? a=some q)(new:U0 X.prog X.w (upd H a ob) h' a ob)(ht:autoParam (0<t') zAt) :
 Inv X pins σ (upd H a ob) {s with heap:=h',toks:=t'} :=
 I.write (x:=a) (e:=a) mu (.inl rfl) (fun b q hb z=>(hs.2 b hb).trans z) he new
theorem zi6{kvs:List (Key×V)}{vs:List (Key×Value)}(z:kvs.length<=sizeLine)(hd:(a == sysModules)=false)(rel:KV kvs vs)(dd:h'.DictOf (S1 P w) a vs) :
 U0 P w H' h' a (.dK kvs):=⟨z,hd,vs,rel,dd⟩
theorem zd4{Q:Unit->Shared->Prop}(hu:A.units+1<cLine)(I:Inv X pins σ H s)(g:Ak9 H a y v H')(ry:E9 y u)(rv:E9 v r)(h:∀ s',Inv X pins σ H' s'->Q () s') :
 wpAny #[9] A (setItem (.ref a) u r) Q E s:=by
 rcases g with⟨kvs,k,e,ey,l,eH⟩|⟨kvs,k,b,e,ey,eb,l,eH⟩
 ·subst ey eH
  obtain⟨z,hd,vs,rel,dd⟩:=zz4 I.hok e
  have hz:vs.length<=sizeLine:=by rw[<-rel.length];exact z
  have hl:(wj2 kvs k v).length<=sizeLine:=by have:=wk6 kvs k v;omega
  refine wpAny_setItem_pairs (hsz:=hz) (xz1 ry) dd fun h' dd' hs=>h _ ?_
  have he:∃ q,h'.get? a=some q:=let ⟨q,_,_,hq,_⟩:=dd';⟨q,hq⟩
  exact yd5 I (by rw[e];exact True.intro) hs he (zi6 hl hd (rel.put k rv) dd')
 ·subst ey eH
  cases (show u=Value.ref b from ry)
  obtain⟨z,hd,xs,rel,dd⟩:=Ak8 I.hok e
  have hz:xs.length<=sizeLine:=by rw[<-Paired.length rel];exact z
  have hl:(wj2 kvs k v).length<=sizeLine:=by have:=wk6 kvs k v;omega
  refine wpAny_setItem_heap (hsz:=hz) (tupleKind_room_in1 hu) (xn8 I.hok eb) dd fun h' dd' hs=>h _ ?_
  obtain⟨q,es,ep,hq,h2,h3,h4,_,h5⟩:=dd'
  refine yd5 I (by rw[e];exact True.intro) hs ⟨q,hq⟩ ⟨hl,hd,_,(rel.put k eb rv).keeps fun c ys ec=>?_,q,es,ep,hq,h2,h3,h4,h5⟩
  rw[B5 (Aj1 ec e (fun z=>nomatch z))]
  exact ec
end
section
variable{kvs:List (Key×V)}{k:Key}
theorem Al0(I:Inv X pins σ H s)(e:Rd H a (.dK kvs))(h:∀ t s',Inv X pins σ H s'->Q (.int kvs.length t) s'):wpAny #[9] A (call (.builtin "len") [.ref a]) Q E s:=by
 obtain⟨z,hd,vs,rel,dd⟩:=xz3 I.hok e
 refine call_len_dict hd dd (by rw[<-rel.length];rw[sizeLine_eq] at z;omega) ?_
 rw[<-rel.length]
 exact h _ _ (I.tok _)
end
theorem zi7(h:Heap)(hb:sysModules<h.objs.size):U0 P w H (h.push {cls:=.type "dict",data:=.dict #[]}) h.objs.size (.dK []) :=
 ⟨Nat.zero_le _,beq_eq_false_iff_ne.mpr (Ne.symm (Nat.ne_of_lt hb)),[],.nil,Heap.DictOf.new h⟩
def xd3:List (TE×TE)->St->Hp->(List (V×V)->Hp->Prop)->Prop
 | [],_,H,Q=>Q [] H
 | (tk,tv)::r,σ,H,Q=>tk σ H fun x H1=>tv σ H1 fun y H2=>xd3 r σ H2 fun ps H3=>Q ((x,y)::ps) H3
abbrev VV:List (V×V)->List (Value×Value)->Prop:=Paired fun p q=>E9 p.1 q.1/\E9 p.2 q.2
def PPs(X:Cx)(pos:Pos)(keys:List (Option Expr))(values:List Expr)(trs:List (TE×TE)):Prop :=
 ∀ (pins:List (Addr×Obj)) (s:Shared) (σ:St) (H:Hp) (Q:List (V×V)->Hp->Prop),Inv X pins σ H s->xd3 trs σ H Q ->
  wpAny #[9] X.A (evalPairs (pairTrees keys values X.env pos)) (fun vs s'=>∃ ps H',Inv X pins σ H' s'/\VV ps vs/\Q ps H') X.xe s
theorem zt4:PPs X pos [] [] []:=fun pins s σ H Q I h=>pairTrees_nil_walk ⟨[],H,I,.nil,h⟩
variable{trs:List (TE×TE)}
theorem yl5{k v:Expr}{ks:List (Option Expr)}{vs:List Expr}{tk:TE}(hk:PE X k tk)(hv:PE X v tv)(hr:PPs X pos ks vs trs) :
 PPs X pos (some k::ks) (v::vs) ((tk,tv)::trs):=fun pins s σ H Q I h =>
 pairTrees_cons_walk (thn (hk pins s σ H _ I h) fun u s1 ⟨x,H1,I1,rx,q1⟩=>thn (hv pins s1 σ H1 _ I1 q1) fun w2 s2 ⟨y,H2,I2,ry,q2⟩ =>
  thn (hr pins s2 σ H2 _ I2 q2) fun ws s3 ⟨ps,H3,I3,rel,q3⟩=>⟨(x,y)::ps,H3,I3,.cons ⟨rx,ry⟩ rel,q3⟩)
def wd7(kvs more:List (Key×V)):List (Key×V):=more.foldl (fun acc kv=>wj2 acc kv.1 kv.2) kvs
theorem KV.merge:∀ {more:List (Key×V)} {rs:List (Key×Value)} {kvs:List (Key×V)} {vs:List (Key×Value)},KV more rs->KV kvs vs->KV (wd7 kvs more) (merged vs rs):=by
 intro more rs kvs vs r
 unfold KV at r
 induction r generalizing kvs vs with
 | nil=>intro q;exact q
 | @cons p q ps qs h t ih =>
   intro r0
   have e:KV (wj2 kvs p.1 p.2) (stored vs q.1 q.2):=by
    have:=r0.put p.1 h.2
    rw[<-h.1];exact this
   exact ih e
theorem ws0:∀ (more kvs:List (Key×V)),(wd7 kvs more).length<=kvs.length+more.length
 | [],kvs=>by show kvs.length<=kvs.length+0;omega
 | p::r,kvs=>by
   have h1:=ws0 r (wj2 kvs p.1 p.2)
   have h2:=wk6 kvs p.1 p.2
   show(wd7 (wj2 kvs p.1 p.2) r).length<=_
   rw[length_cons];omega
theorem xn9{P:Program}{w:World}:∀ {kvs:List (Key×V)} {ws:List (Value×Value)},VV (kvs.map fun kv=>(kV kv.1,kv.2)) ws->∃ rs,Carries (S1 P w) ws rs/\KV kvs rs
 | [],_,r=>by rw[map_nil] at r;cases r;exact⟨[],True.intro,.nil⟩
 | p :: kvs,_,r=>by
   rw[map_cons] at r
   cases r with
   | @cons a b as bs h t =>
     obtain⟨rs,c,q⟩:=xn9 (P:=P) (w:=w) t
     obtain⟨b1,b2⟩:=b
     exact⟨(p.1,b2)::rs,⟨xz1 h.1,rfl,c⟩,.cons ⟨rfl,h.2⟩ q⟩
def zz5(trs:List (TE×TE)):TE:=fun σ H Q=>∀ p,H p=none->xd3 trs σ (upd H p (.dK [])) fun ps H2=>H2 p=some (.dK [])/\∃ kvs:List (Key×V),ps=kvs.map (fun kv=>(kV kv.1,kv.2))/\kvs.length<=15/\Q (.ref p) (upd H2 p (.dK (wd7 [] kvs)))
theorem zt5{keys:List (Option Expr)}{values:List Expr}(h:PPs X pos keys values trs)(hall:keys.all (·.isSome)=true)(hl:keys.length=values.length)(h0:keys≠[])(h15:keys.length<=15):PE X (.Dict keys values pos) (zz5 trs):=by
 intro pins s σ H Q I q
 have hn:=I.hok.fresh (Nat.le_refl s.heap.objs.size)
 have I1:=I.laid (a:=s.heap.objs.size) (o:=.dK []) (h':=s.heap.push {cls:=.type "dict",data:=.dict #[]}) (t':=s.toks) (fun _ _ q=>Heap.get?_push_of_some _ q) #[11] (zi7 s.heap I.big)
 refine wpAny_Dict_walk (knd:=S1 X.prog X.w) hall hl h0 h15 (thn (h pins _ σ _ _ I1 (q _ hn)) fun ws s2 zq=>?_)
 obtain⟨ps,H2,I2,rel,e,kvs,ep,lk,q2⟩:=zq
 subst ep
 obtain⟨rs,c,rk⟩:=xn9 (P:=X.prog) (w:=X.w) rel
 obtain⟨z,hd,vs0,r0,dd⟩:=zz4 I2.hok e
 cases r0
 refine⟨rs,c,dd,fun h' dd' hs=>⟨.ref s.heap.objs.size,_,?_,rfl,q2⟩⟩
 have hz:(wd7 [] kvs).length<=sizeLine:=by
  have h1:=ws0 kvs []
  rw[length_nil] at h1
  rw[sizeLine_eq];omega
 have he:∃ q,h'.get? s.heap.objs.size=some q:=let ⟨q,_,_,hq,_⟩:=dd';⟨q,hq⟩
 exact yd5 I2 (by rw[e];exact True.intro) hs he (zi6 hz hd (rk.merge .nil) dd') (Nat.lt_of_lt_of_le I2.tk (Nat.le_add_right _ _))
structure M2(X:Cx)(o:Expr)(m:Str)(apos:Pos)(e f:Expr)(cpos:Pos):Prop where
 base:attributeBase o m X.env (eval o X.env)=eval o X.env
 few:((backTo cpos (starEach [e,f] X.env)).all (fun x=>!x.1) && (backToKw cpos (keywordEach [] X.env)).all (fun x=>x.1.isSome)
  && decide (([e,f]:List Expr).length+([]:List Keyword).length+(if([]:List Keyword).isEmpty then 0 else 1)<30))=true
 line:(apos.endLine == cpos.line)=true
 trees:backTo cpos (starEach [e,f] X.env)=[(false,eval e X.env),(false,eval f X.env)]
def IsD(H:Hp)(a:Addr):Prop:=(∃ kvs,Rd H a (.dK kvs))\/∃ kvs,Rd H a (.dT kvs)
theorem Ae0(I:Inv X pins σ H s)(d:IsD H a) :
 s.TypeIs (.ref a) "dict"/\(∀ b,Value.ref a=.ref b->∃ ob,s.heap.get? b=some ob/\ob.dict=none)/\(a == sysModules)=false:=by
 rcases d with⟨kvs,e⟩|⟨kvs,e⟩
 ·obtain⟨_,hd,vs,_,dd⟩:=xz3 I.hok e
  refine⟨dd.typeIs,fun b q=>?_,hd⟩
  cases q
  obtain⟨ob,_,_,h1,h2,_⟩:=dd
  exact⟨ob,h1,h2.2.1⟩
 ·obtain⟨_,hd,xs,_,dd⟩:=yl3 I.hok e
  refine⟨dd.typeIs,fun b q=>?_,hd⟩
  cases q
  obtain⟨ob,_,_,h1,h2,_⟩:=dd
  exact⟨ob,h1,h2.2.1⟩
section
variable{d:V}{r:Value}{o:Option V}
theorem Ae1(hu:A.units+1<cLine)(I:Inv X pins σ H s)(g:yl4 H a y o)(ry:E9 y u)(rd:E9 d r)(h:∀ w' s',Inv X pins σ H s'->E9 (o.getD d) w'->Q w' s') :
 wpAny #[9] A (call (.builtin "dict.get") [.ref a,u,r]) Q E s:=by
 rcases g with⟨kvs,k,e,ey,l⟩|⟨kvs,k,b,e,ey,eb,l⟩
 ·subst ey
  obtain⟨z,hd,vs,rel,dd⟩:=xz3 I.hok e
  refine call_meetsIn PySem.F.slot_dict_get dd.typeIs PySem.F.entry_dict_get (PySem.F.args_dict_get_3 _ _ _) (meets_dict_get_default (S1 X.prog X.w) a (xz1 ry) hd r) ⟨_,dd.mapOf,h _ _ (I.tok _) ?_⟩
  rw[l]
  exact(rel.val k).getD rd
 ·subst ey
  cases (show u=Value.ref b from ry)
  obtain⟨z,hd,xs,rel,dd⟩:=yl3 I.hok e
  refine call_meetsIn PySem.F.slot_dict_get dd.typeIs PySem.F.entry_dict_get (PySem.F.args_dict_get_3 _ _ _) (meetsH_dict_get_default (tupleKind (S1 X.prog X.w)) a b hd r) ⟨tupleKind_room_in1 hu,k,xs,xn8 I.hok eb,dd,h _ _ (I.tok _) ?_⟩
  rw[l]
  exact(rel.val k).getD rd
end
def yt8(td ty tx:TE):TE:=fun σ H Q=>td σ H fun x H1=>∃ a,x=.ref a/\IsD H1 a/\ty σ H1 fun y H2=>tx σ H2 fun z H3=>∃ o,yl4 H3 a y o/\Q (o.getD z) H3
section
variable{f:Expr}{td ty tx:TE}
theorem zi8(hu:X.A.units+1<cLine)(ho:PE X o td)(he:PE X e ty)(hf:PE X f tx)(m:M2 X o "get" apos e f cpos):PE X (.Call (.Attribute o "get" apos) [e,f] [] cpos) (yt8 td ty tx):=by
 walk_at"18"
 refine wpAny_Call_method m.base m.few m.line PySem.F.plainAttrs_dict PySem.F.slot_dict_get PySem.F.type_dict_get (thn (ho pins s σ H _ I h) fun u s1 zq=>?_)
 obtain⟨x,H1,I1,rx,a,ex,d,q1⟩:=zq
 subst ex
 obtain rfl:u=Value.ref a:=rx
 obtain⟨t1,t2,_⟩:=Ae0 I1 d
 refine⟨t1,t2,?_⟩
 rw[m.trees]
 refine Calls.callWith_builtin rfl (Calls.evalArgs_plain (Calls.spliced_cons (thn (he pins s1 σ H1 _ I1 q1) fun iv s2 ⟨y,H2,I2,ry,q2⟩ =>
  Calls.spliced_cons (thn (hf pins s2 σ H2 _ I2 q2) fun fv s3 ⟨z,H3,I3,rz,ov,g,q3⟩=>Calls.spliced_nil ?_))))
 exact Ae1 hu I3 g ry rz fun w' s4 I4 rw'=>⟨_,H3,I4,rw',q3⟩
end
namespace Att
open PySem PySem.W PySem.Calls PyProof.Rows
theorem xj8{P:Params}{h:Heap}:∀ (ns:List Int) (vs:List Value),WellAll P h vs (ns.map WData.int)->IntsAre vs ns:=by
 intro ns
 induction ns with
 | nil =>
   intro vs w
   rw[map_nil] at w
   cases w
   exact .nil
 | cons n ns ih =>
   intro vs w
   rw[map_cons] at w
   cases w with
   | cons a b =>
     cases a
     exact .cons _ _ (ih _ b)
theorem script_of{l:OpenLaw}{n:Nat}(hn:l.most=some n){P:Params}{h:Heap}{args:List WData}{vals:List Value}
 (hpre:l.row.toRowW.claim.pre args=true) (hwl:WellAll P h vals args) :
 ∃ a vs ns,vals=[Value.ref a]/\args=[WData.list (ns.map WData.int)]/\h.get? a=some {cls:=.type "list",data:=.seq vs.toArray}/\IntsAre vs ns/\ns.length<=n:=by
 have hsh:WShape.hasAll [] args [.list .int]=true:=(pre_splitW hpre).1
 have hc:l.pre.holds [] {args:=args}=true:=(pre_splitW hpre).2
 obtain⟨d,r,rfl,h1,h2⟩:=hasAllW_cons hsh
 obtain rfl:=hasAllW_nil h2
 obtain⟨xs,rfl,h3⟩:=hasW_list h1
 obtain⟨ns,rfl⟩:=items_int h3
 have hlen:ns.length<=n:=by
  unfold OpenLaw.pre at hc
  have h4:(WTm.not (.lt (.lit (.int (n:Int))) (.len (.arg 0)))).holds [] {args:=[.list (ns.map .int)]}=true:=by
   have h4:=(holds_andW hc).1
   rw[hn] at h4
   exact h4
  have h5:=condW_of h4 (w_not (w_lt w_lit (w_len_list (w_arg rfl))))
  rw[length_map] at h5
  refine Nat.le_of_not_lt fun q=>?_
  have q':(n:Int)<((ns.length:Nat):Int):=by omega
  first
   | (rw[decide_eq_true q'] at h5;exact absurd h5 #[10])
   | (simp at h5;omega)
 cases hwl with
 | cons w1 w2 =>
   cases w2
   cases w1 with
   | list ho hall=>exact⟨_,_,ns,rfl,rfl,ho,xj8 ns _ hall,hlen⟩
theorem post_true(l:OpenLaw)(args:List WData):l.row.toRowW.claim.post args (.bool true) args=true :=
 postW_of (r:=l.row.toRowW) (X:=(true == true))
  (show WShape.has [] (.bool true) .bool=true by first|rfl|decide|simp[WShape.has,WShape.arms,WShape.armsAll])
  (show(WTm.eq .res (.lit (.bool true))).value [] {args:=args,res:=some (.bool true),after:=args}=some (.bool (true == true)) from w_eq_bool (w_res rfl) w_lit) rfl
end Att
theorem xz4:∀ {vs:List Value} {ns:List Int},IntsAre vs ns->E6 #[76] vs
 | _,_,.nil=>.nil
 | _,_,.cons n t h=>.cons ⟨t,rfl⟩ (xz4 h)
def Ae2(H:Hp):Prop:=∀ b,H b=none\/∃ o xs,H b=some (.frz o (.lst xs))
theorem zi9 {mb:Str->Option Value} {k:Nat} {fa:Addr} {s₁:Shared} {vs:List Value} {ns:List Int} (KX:K.In s₁.heap) (hns:s₁.heap.Ns mainGlobals mg) (hb:s₁.heap.Ns builtinsNs mb) (hbb:∀ x:Str,x ≠ "__name__"->mb x=bootBuiltins x) (hlim:s₁.heap.NoLimit) (hg:s₁.gens=#[]) (htk:0<s₁.toks) (ha:s₁.heap.get? a=some {cls:=.type "list",data:=.seq vs.toArray}) (hi:IntsAre vs ns) (hl:ns.length<=sizeLine) (hr:qk8 k callerA) (F:∀ base:Heap,K.In base->base.Ns mainGlobals mg->E1 P w K mg base CX k fa fd [x] sp) (hbind:∀ (s:Shared) (u:Value),BindsTo s fd ⟨[u],[]⟩ [(x,u)]) (hsp:∀ H:Hp,Ae2 H->SqL K H a #[76]->sp [.ref a] H (fun v _=>v=.bl true) fun _ _ _=>False) (hCX:∀ H e s',CX [] H s₁ (fun _ _ _=>False) e s'->False) :
 codeAny (model P w) callerA (.call (.ref fa) ⟨[.ref a],[]⟩) (fun r s'=>r=.ok (.ret (.bool true))/\OldK s₁.heap s'.heap/\s'.os=s₁.os/\AllBare s'.gens) s₁:=by
 have rv:=xz4 hi
 have lenV:=hi.length
 have core:∀ H:Hp,Ae2 H->SqL K H a #[76]->HOk P w H s₁.heap->(∀ b,H b≠none->b=a)->(H a≠none->K.lookup a=none) ->
  codeAny (model P w) callerA (.call (.ref fa) ⟨[.ref a],[]⟩) (fun r s'=>r=.ok (.ret (.bool true))/\OldK s₁.heap s'.heap/\s'.os=s₁.os/\AllBare s'.gens) s₁:=by
  intro H hO hS hok hA hK
  have base_of:∀ {b:Addr} {o:Obj},s₁.heap.get? b=some o->H b=none->(yc0 s₁.heap H).get? b=some o:=fun e n=>zg8 e n
  have noA:∀ {b:Addr} {o:Obj} {es:Array DictEntry} {ep:Nat},s₁.heap.get? b=some o->o.data=.dict es ep->H b=none:=fun{b o es ep} e d=>by
   cases q:H b with
   | none=>rfl
   | some u =>
     have e':b=a:=hA b (by rw[q];simp)
     subst e'
     rw[ha] at e;cases e
     have d':Data.seq vs.toArray _=Data.dict es ep:=d
     cases d'
  have nsK:∀ {b:Addr} {m:Str->Option Value},s₁.heap.Ns b m->(yc0 s₁.heap H).Ns b m:=fun{b m} ⟨o,es,ep,e,d,r⟩=>⟨o,es,ep,base_of e (noA e d),d,r⟩
  have hKb:K.In (yc0 s₁.heap H):=fun b o e=>base_of (KX b o e) (by
   cases q:H b with
   | none=>rfl
   | some u =>
     have e':b=a:=hA b (by rw[q];simp)
     subst e'
     rw[hK (by rw[q];simp)] at e;cases e)
  have hM:Mod K mg (yc0 s₁.heap H):=⟨hKb,nsK hns,⟨mb,nsK hb,hbb⟩,let ⟨mc,h1,h2⟩:=hlim;⟨mc,nsK h1,h2⟩⟩
  have e0:yt0 P w K mg (yc0 s₁.heap H) callerA [] s₁ H:=⟨rfl,hM,fun b o e=>zr6 e,Nat.le_of_eq (zc0 _ _),trivial,fun b hb=>absurd (show b∈([]:List Addr) from hb) (by simp),hok,.of_eq hg,htk⟩
  refine codeAny_mono ((F _ hKb (nsK hns)).run callerA [] s₁ H ⟨[.ref a],[]⟩ [.ref a] [.ref a] _ _ hr e0 (hbind s₁ (.ref a)) (.cons rfl .nil) (hsp H hO hS)) fun r s' h=>?_
  cases r with
  | error e=>exact(hCX H e s' h).elim
  | ok fl =>
    cases fl with
    | next=>exact False.elim h
    | brk=>exact False.elim h
    | cont=>exact False.elim h
    | ret u =>
      obtain⟨v,H',_,os,bare,un,hok',r',q⟩:=h
      have q':v=.bl true:=q
      subst q'
      obtain rfl:u=Value.bool true:=r'
      refine⟨rfl,OldK.of_keep fun b o e=>?_,os,bare⟩
      cases q:H b with
      | none=>exact un.keep b o e q (by intro z;exact absurd (show b∈([]:List Addr) from z) (by simp)) (by simp)
      | some u =>
        rcases hO b with z|⟨ob,xs,z⟩
        ·rw[q] at z;cases z
        ·have z2:=un.frzs b ob _ z
         obtain⟨e1,_⟩:=hok b _ z
         obtain⟨e2,_⟩:=hok' b _ z2
         rw[e] at e1;cases e1
         exact e2
 cases hk:K.lookup a with
 | some o =>
   have e:=KX a o hk
   rw[ha] at e
   cases e
   refine core (fun _=>none) (fun _=>.inl rfl) (.inr ⟨_,vs.toArray,_,hk,rfl,rfl,rfl,by rw[size_toArray,lenV];exact hl,by simpa using rv⟩) (fun b u z=>by have z':(none:Option HO)=some u:=z;cases z') (fun b z=>absurd rfl z) fun z=>absurd rfl z
 | none =>
   refine core (fun b=>if b=a then some (.frz {cls:=.type "list",data:=.seq vs.toArray} (.lst #[76])) else none) (fun b=>?_) (.inl (.inr ⟨{cls:=.type "list",data:=.seq vs.toArray},if_pos rfl⟩)) (fun b u z=>?_) (fun b z=>?_) fun _=>hk
   ·by_cases hb:b=a
    ·exact .inr ⟨_,_,if_pos hb⟩
    ·exact .inl (if_neg hb)
   ·by_cases hb:b=a
    ·have z':=(if_pos hb).symm.trans z
     cases z'
     subst hb
     exact⟨ha,by rw[length_map];exact hl,vs,_,rv,ha⟩
    ·have z':=(if_neg hb).symm.trans z
     cases z'
   ·by_cases hb:b=a
    ·exact hb
    ·exact absurd (if_neg hb) z
theorem xo0:∀ ns:List Int,PySem.W.ofPys (ns.map PyData.int)=ns.map PySem.W.WData.int
 | []=>by simp[PySem.W.ofPys]
 | n::ns=>by simp only[map_cons,PySem.W.ofPys,PySem.W.ofPy];rw[xo0 ns]
variable{as:List Addr}{q:Program}
theorem zt6{l:PySem.W.OpenLaw}{k:Nat}{loose:List Str}{XP:(Str->Option Value)->Heap->Prop}{z t:Nat}{d:DefRec}{K:Params->Fg}{CX:World->CXT}{sp:World->Sp}(hn:l.most=some n)(hn2:n<=sizeLine)(hdf:d.params.defaults=[])(hr:qk8 k callerA)(hk:∀ P,as=(K P).map (·.1))(h0:0<t) (F:∀ (w:World) (mg:Str->Option Value) (fa:Addr) (h:Heap),(K w.params).In h->h.Ns mainGlobals mg->mg d.name=some (.ref fa) ->
  ∃ fd:FuncData,(∀ (s:Shared) (u:Value),BindsTo s fd ⟨[u],[]⟩ [(x,u)]) /\
   ∀ base:Heap,(K w.params).In base->base.Ns mainGlobals mg->E1 l.prog w (K w.params) mg base (CX w) k fa fd [x] (sp w)) (hsp:∀ (w:World) (H:Hp) (a:Addr) (ns:List Int),ns.length<=n->Ae2 H->SqL (K w.params) H a #[76]->sp w [.ref a] H (fun v _=>v=.bl true) fun _ _ _=>False) (hCX:∀ (w:World) (H:Hp) (s:Shared) (e:Value) (s':Shared),CX w [] H s (fun _ _ _=>False) e s'->False) :
 PySem.W.WalkX q loose XP (PySem.W.X.obsZ as) (PySem.W.X.valZ K z t) l.row.toRowW d [] (fun f vs=>PySem.call f vs):=by
 intro w s₀ s₁ mg mb G y fa o pm cd doc dV kV ho hd hcd hD hmg hg args vals aa L hpre hlay hrd hwl hlo
 obtain rfl:dV=.none:=PySem.W.Dflts.none hD hdf
 obtain rfl:kV=.none:=PySem.W.Dflts.noKw hD
 obtain⟨a,vs,ns,rfl,rfl,hobj,hints,hlen⟩:=Att.script_of hn hpre hwl
 obtain⟨_,KI,_,htk⟩:=PySem.W.X.z_facts hk y
 have KX:=PySem.W.InK.keeps w _ _ KI L.keeps
 have tk:0<s₁.toks:=Nat.lt_of_lt_of_le h0 (PySem.W.X.script_toks (ns:=ns) (a:=a) (by rw[PySem.W.ofPy,xo0];exact L) htk)
 obtain⟨fd,hb,hF⟩:=F w mg fa _ KX G.T.g hmg
 refine PySem.W.enter_call (codeAny_mono (zi9 KX G.T.g G.T.b G.T.builtins G.T.nolimit hg tk hobj hints (Nat.le_trans hlen hn2) hr hF hb (fun H hO hS=>hsp w H a ns hlen hO hS) fun H e s'=>hCX w H s₁ e s') fun r s' hq=>?_)
 obtain⟨rfl,h2,h3,h4⟩:=hq
 exact⟨.inl ⟨.bool true,.bool true,[],rfl,fun _=>rfl,.bool true,Att.post_true l _,fun _=>⟨List.Pairwise.nil,fun _ hm=>(nomatch hm)⟩⟩,h2,h3,h4⟩
def wx7(s:Stmt):Arguments:=match s with
 | .FunctionDef _ a _ _ _ _ _ _ _ _=>a
 | _=>{posonlyargs:=[],args:=[],vararg:=none,kwonlyargs:=[],kw_defaults:=[],kwarg:=none,defaults:=[]}
def wo7(s:Stmt):List Stmt:=match s with
 | .FunctionDef _ _ b _ _ _ _ _ _ _=>b
 | _=>[]
def B2(s:Stmt):Scope:=match s with
 | .FunctionDef _ _ _ _ _ _ sc _ _ _=>sc
 | _=>{kind:=.function,names:=[],isGenerator:=false,isCoroutine:=false}
abbrev CX0:CXT:=fun _ _ _ _ _ _=>False
abbrev E0:XK:=fun _ _ _=>False
theorem B6:wk2 CX0 X E0:=fun _ _ _ _ _ _ _ h=>h.elim
structure Fun(K:Fg)(x qual:Str)(st:Stmt)(f:Addr)(fd:FuncData):Prop where
 ex:∃ (oc:Value) (od:Option Addr) (kV doc pm:Value) (an:Option Addr) (cdv ct:Value) (osl:Array (Option Value)),
  fd=PySem.W.fnOf x qual (wx7 st) (wo7 st) (B2 st) .none kV doc pm an cdv ct/\K.lookup f=some ⟨oc,od,.func fd,osl⟩/\PySem.W.codeIn K cdv qual=true
 kp:PySem.W.keepIn K (.ref f)=true
theorem Fun.ok{f:Addr}{k:Nat}(F:Fun K x qual st f fd)(S:C0 N ps (B2 st))(len:∀ vs H Q E,sp vs H Q E->vs.length=ps.length) (hbody:∀ (cdv:Value) (A:Around) (outer:List Env) (s:Shared) (H:Hp) (vs:List V) (Q:VK) (E:XK),qk8 k (A.deeper (envOfC qual (B2 st) s.heap.objs.size f cdv))->sp vs H Q E ->
  ∃ t,PSs (zd0 CX0 P w K mg base N qual (B2 st) f cdv A outer s H E).nox (wo7 st) t/\t {nx:=fun _ H'=>Q .non H',rt:=Q} (C9 N vs) H):E1 P w K mg base CX0 (k+1) f fd ps sp:=by
 obtain⟨oc,od,kV,doc,pm,an,cdv,ct,osl,rfl,lk,hcd⟩:=F.ex
 refine Aj9 lk hcd S len fun A outer s H vs Q E hr hsp=>?_
 obtain⟨t,h,q⟩:=hbody cdv A outer s H vs Q E hr hsp
 exact⟨t,h.nox,q⟩
theorem Fun.binds{f:Addr}(F:Fun K x qual st f fd)(h:∀ (kV doc pm:Value) (an:Option Addr) (cdv ct:Value) (us:List Value),us.length=ps.length->bindArgs (PySem.W.fnOf x qual (wx7 st) (wo7 st) (B2 st) .none kV doc pm an cdv ct) ⟨us,[]⟩=pure (ps.zip us)):T7 K fd ps []:=by
 obtain⟨oc,od,kV,doc,pm,an,cdv,ct,osl,rfl,lk,hcd⟩:=F.ex
 exact .all (h kV doc pm an cdv ct)
theorem Ae3{f:Addr}{kV:Value}(l:K.lookup f=some ⟨oc,od,.func (PySem.W.fnOf x qual (wx7 st) (wo7 st) (B2 st) .none kV doc pm an cdv ct),osl⟩)(c:PySem.W.codeIn K cdv qual=true)(k:PySem.W.keepIn K (.ref f)=true):Fun K x qual st f (PySem.W.fnOf x qual (wx7 st) (wo7 st) (B2 st) .none kV doc pm an cdv ct):=⟨⟨oc,od,kV,doc,pm,an,cdv,ct,osl,rfl,l,c⟩,k⟩
theorem D7{k:Nat}(hr:qk8 k A):A.units+1<cLine:=Nat.lt_of_le_of_lt (Nat.add_le_add_left (by decide:1<=64) _) hr.units
theorem pv(i:Nat)(hN:autoParam (X.N[i]?=some x) zAr)(hv:Vis X.env.scope x:=by first|exact Or.inl rfl|exact Or.inr #[49]|exact Or.inr (Or.inr rfl))(hd:autoParam #[35] zAd)(hcd:autoParam ((x == ("__classdict__":Str))=false) zAd):PE X (.Name x pos) (A7 i):=Ac2 hN hv hd hcd
variable{B:Prop}
theorem qg6{A:Prop}(h:B):if false=true then A else B:=by
 rw[if_neg Bool.false_ne_true]
 exact h
theorem qm9{A:Prop}(h:A):if true=true then A else B:=by
 rw[if_pos rfl]
 exact h
def A9(H H':Hp):Prop:=∀ b o,H b=some o->H' b=some o
theorem A9.refl(H:Hp):A9 H H:=fun _ _ h=>h
theorem A9.free(e:A9 H H')(h:H' l=Option.none):H l=Option.none:=by
 cases q:H l with
 | none=>rfl
 | some o =>
   rw[e l o q] at h
   cases h
theorem A9.seq(e:A9 H H')(h:SqL K H a xs):SqL K H' a xs:=by
 rcases h with(h|⟨o,h⟩)|h
 ·exact .inl (.inl (e _ _ h))
 ·exact .inl (.inr ⟨o,e _ _ h⟩)
 ·exact .inr h
theorem zd5:qj3 X (.builtin "len") (fun xs H Q=>∃ a kvs,xs=[V.ref a]/\H a=some (.dK kvs)/\Q (.int kvs.length) H):=by
 intro pins s σ H xs us Q I r h
 obtain⟨a,kvs,rfl,ha,q⟩:=h
 obtain⟨u,rfl,ru⟩:=qz9 r
 cases ru
 exact Al0 I (.inl ha) fun t s' I'=>⟨.int kvs.length,H,I',⟨t,rfl⟩,q⟩
theorem noE{t:Sem α}{Q:α->Shared->Prop}(h:wpAny M A t Q (fun _ _=>False) s):wpAny M A t Q E s :=
 wpAny_mono h (fun _ _ q=>q) fun _ _ z=>False.elim z
theorem wu5{env:Env}:∀ (names:List (Str×NameKind)) (acc:List (Str×Addr)),(∀ y∈names,y.2=.free->∃ c,env.cells.lookup y.1=some c)->(∀ x c,acc.lookup x=some c->env.cells.lookup x=some c) ->
 ∃ cl,(forIn names acc fun(x:Str×NameKind) (r:List (Str×Addr)) =>
  (if(x.2 == .free)=true then(do let a<-cellOf env x.1;pure (ForInStep.yield ((x.1,a)::r))) else pure (ForInStep.yield r):Sem (ForInStep (List (Str×Addr)))))=(pure cl:Sem (List (Str×Addr))) /\
  (∀ x c,cl.lookup x=some c->env.cells.lookup x=some c)/\(∀ x,(∃ c,acc.lookup x=some c)->∃ c,cl.lookup x=some c)/\∀ y∈names,y.2=.free->∃ c,cl.lookup y.1=some c
 | [],acc,_,h2=>⟨acc,by rw[forIn_nil],h2,fun _ h=>h,fun _ h=>by cases h⟩
 | (n,k)::r,acc,h1,h2=>by
   by_cases hk:k=.free
   ·subst hk
    obtain⟨c,hc⟩:=h1 (n,.free) mem_cons_self rfl
    obtain⟨cl,e,q1,q2,q3⟩:=wu5 r ((n,c)::acc) (fun y hy=>h1 y (mem_cons_of_mem _ hy)) (fun x d hd=>by
     rw[lookup_cons] at hd
     cases hx:x == n with
     | true=>rw[hx] at hd;cases hd;rw[beq_iff_eq.mp hx];exact hc
     | false=>rw[hx] at hd;exact h2 x d hd)
    refine⟨cl,?_,q1,fun x hx=>q2 x ?_,fun y hy hf=>?_⟩
    ·rw[forIn_cons]
     have e0:cellOf env n=pure c:=by unfold cellOf;rw[hc]
     simp only[beq_self_eq_true,if_true,e0]
     exact e
    ·rw[lookup_cons]
     cases x == n with
     | true=>exact⟨c,rfl⟩
     | false=>exact hx
    ·rcases mem_cons.mp hy with rfl|hy
     ·exact q2 n ⟨c,by rw[lookup_cons];simp⟩
     ·exact q3 y hy hf
   ·obtain⟨cl,e,q1,q2,q3⟩:=wu5 r acc (fun y hy=>h1 y (mem_cons_of_mem _ hy)) h2
    refine⟨cl,?_,q1,q2,fun y hy hf=>?_⟩
    ·rw[forIn_cons]
     have hb:(k == NameKind.free)=false:=by simpa using hk
     simp only[hb,Bool.false_eq_true,if_false]
     exact e
    ·rcases mem_cons.mp hy with rfl|hy
     ·exact absurd hf hk
     ·exact q3 y hy hf
theorem ws1(h:∀ y∈scope.names,y.2=.free->∃ c,env.cells.lookup y.1=some c) :
 ∃ cl,closureFor scope env=pure cl/\(∀ x c,cl.lookup x=some c->env.cells.lookup x=some c)/\∀ y∈scope.names,y.2=.free->∃ c,cl.lookup y.1=some c:=by
 obtain⟨cl,e,q1,_,q3⟩:=wu5 (env:=env) scope.names [] h (fun x c hc=>by simp at hc)
 refine⟨cl,?_,q1,q3⟩
 unfold closureFor
 simp only[]
 rw[show(forIn scope.names ([]:List (Str×Addr)) fun(x:Str×NameKind) (r:List (Str×Addr)) =>
  (match x with|(name,kind)=>if(kind == .free)=true then(do let a<-cellOf env name;pure (ForInStep.yield ((name,a)::r))) else pure (ForInStep.yield r):Sem (ForInStep (List (Str×Addr)))))=(pure cl:Sem (List (Str×Addr))) from e]
 rfl
theorem qq0{env:Env}:∀ {names:List (Str×NameKind)} {x:Str},names.lookup x=some .free ->
 (names.map fun(n,k)=>if#[18] then(n,NameKind.cell) else(n,k)).lookup x=some .cell \/
 (names.map fun(n,k)=>if#[18] then(n,NameKind.cell) else(n,k)).lookup x=some .free
 | [],_,h=>by simp at h
 | (n,k)::r,x,h=>by
   have ih:=@qq0 env r x
   show List.lookup x ((if#[18]=true then(n,NameKind.cell) else(n,k))::_)=_\/List.lookup x ((if#[18]=true then(n,NameKind.cell) else(n,k))::_)=_
   cases hx:x == n with
   | true =>
     simp only[lookup_cons,hx] at h
     cases h
     by_cases hc:(NameKind.free == NameKind.free && env.scope.kind == .function && env.kindOf n == some .cell)=true
     ·rw[if_pos hc];exact .inl (by simp only[lookup_cons,hx])
     ·rw[if_neg hc];exact .inr (by simp only[lookup_cons,hx])
   | false =>
     simp only[lookup_cons,hx] at h
     by_cases hc:#[18]=true
     ·rw[if_pos hc];simp only[lookup_cons,hx];exact ih h
     ·rw[if_neg hc];simp only[lookup_cons,hx];exact ih h
theorem qd1{env:Env}:∀ {names:List (Str×NameKind)} {x:Str} {k:NameKind},
 (names.map fun(n,k)=>if#[18] then(n,NameKind.cell) else(n,k)).lookup x=some k ->
 names.lookup x=some k\/(k=.cell/\names.lookup x=some .free)
 | [],_,_,h=>by simp at h
 | (n, j)::r,x,k,h=>by
   have ih:=@qd1 env r x k
   have h:List.lookup x ((if(j == NameKind.free && env.scope.kind == .function && env.kindOf n == some .cell)=true then(n,NameKind.cell) else(n,j))::_)=some k:=h
   by_cases hc:(j == NameKind.free && env.scope.kind == .function && env.kindOf n == some .cell)=true
   ·rw [if_pos hc] at h
    cases hx:x == n with
    | true =>
      simp only[lookup_cons,hx] at h ⊢
      cases h
      have:j=.free:=by
       cases j <;> simp at hc ⊢
      exact .inr ⟨rfl,by rw[this]⟩
    | false=>simp only[lookup_cons,hx] at h ⊢;exact ih h
   ·rw[if_neg hc] at h
    cases hx:x == n with
    | true=>simp only[lookup_cons,hx] at h ⊢;exact .inl h
    | false=>simp only[lookup_cons,hx] at h ⊢;exact ih h
variable{elt:Expr}{ifs:List Expr}
theorem wk7{R:Result->Shared->Prop}{target:Expr}{it acc:Value}(I:Nat->Shared->Prop) (turn:∀ n s,I n s->wpAny #[31] A (pyNext it) (fun r s₁=>match r with
  | none=>R (.ok .next) s₁
  | some v=>wpAny #[31] A (letOwnedTupleGo target it v) (fun _ s₁'=>wpAny #[31] A (assign target env v) (fun _ s₂ =>
   wpAny #[31] A (forIn ifs true fun c r=>if r=true then do let ok<-isTrue c env (eval c env);pure (ForInStep.yield ok) else pure (ForInStep.yield r)) (fun ok s₃ =>
    if ok=true then wpAny #[31] A (eval elt env) (fun x s₄ =>
     wpAny #[31] A (call (.builtin "list.append") [acc,x]) (fun _ s₅=>∃ m,m<n/\I m s₅) #[55] s₄) #[55] s₃
    else ∃ m,m<n/\I m s₃) #[55] s₂) #[55] s₁') #[55] s₁)
  #[55] s) (n:Nat) (h:I n s) :
 codeAny #[31] A (.compLoop (.ListComp elt [⟨target,iter,ifs,0⟩] scope pos) 0 it acc env) R s:=by
 refine codeAny_loop rfl I (fun n s hI=>?_) n h
 show wpAny _ A ((compTurn (.ListComp elt [⟨target,iter,ifs,0⟩] scope pos) 0 it acc env).onRaise (fun x=>do noteFrame x env;theTreesLotGoes x)) _ _ s
 refine wpAny_noted ?_
 rw[compTurn_list]
 refine wpAny_bind (wpAny_standAt (wpAny_bind (wpAny_mono (turn n s hI) (fun r s₁ h₁=>?_) fun _ _ h'=>h')))
 cases r with
 | none=>exact wpAny_pure h₁
 | some v =>
   refine wpAny_bind (wpAny_mono h₁ (fun _ s₁' h₁'=>?_) fun _ _ h'=>h')
   refine wpAny_bind (wpAny_mono h₁' (fun _ s₂ h₂=>wpAny_bind (wpAny_mono h₂ (fun ok s₃ h₃=>?_) fun _ _ h'=>h')) fun _ _ h'=>h')
   cases ok with
   | false=>exact wpAny_pure ⟨rfl,h₃⟩
   | true =>
     exact wpAny_bind (wpAny_bind (wpAny_mono h₃ (fun x s₄ h₄=>wpAny_bind (wpAny_mono h₄ (fun _ s₅ h₅=>wpAny_pure (wpAny_pure ⟨rfl,h₅⟩)) fun _ _ h'=>h')) fun _ _ h'=>h'))
def blk(X:Cx)(N:List Str)(scope:Scope)(cl:List (Str×Addr))(C:Addr)(s₂:Shared)(H₂:Hp)(fp:List Addr)(pn:List (Addr×Obj)):Cx :=
 {X with N:=N,s₀:=s₂,H₀:=H₂,env:=compEnvC scope cl C X.env,outer:=X.stack,stack:=X.stack,ex:=fp,fn:=fun _=>false,pn:=pn,xe:=fun _ _=>False}
def wk8(fr:List (Option Nat))(σ:St):St:=fr.map fun o=>match o with|some i=>(σ[i]?).join|none=>none
variable{fr:List (Option Nat)}
theorem yl6{j:Nat}(h:(wk8 fr σ)[j]?=some (some v)):∃ i,fr[j]?=some (some i)/\σ[i]?=some (some v):=by
 unfold wk8 at h
 rw[List.getElem?_map] at h
 cases e:fr[j]? with
 | none=>rw[e] at h;cases h
 | some o =>
   rw[e] at h
   cases o with
   | none=>cases h
   | some i =>
     refine⟨i,rfl,?_⟩
     have h':(σ[i]?).join=some v:=Option.some.inj h
     cases e2:σ[i]? with
     | none=>rw[e2] at h';cases h'
     | some x=>rw[e2] at h';cases x with
       | none=>cases h'
       | some y=>cases h';rfl
def zj0(fr:List (Option Nat))(g:TG):Prop:=∀ (x:V) (σ:St) (H:Hp) (Q:St->Hp->Prop),g x σ H Q->g x σ H fun σ2 H2=>Q σ2 H2/\∀ (j i:Nat),fr[j]?=some (some i)->σ2[j]?=σ[j]?
def yy6(fr:List (Option Nat))(g:TGs):Prop:=∀ (xs:List V) (σ:St) (H:Hp) (Q:St->Hp->Prop),g xs σ H Q->g xs σ H fun σ2 H2=>Q σ2 H2/\∀ (j i:Nat),fr[j]?=some (some i)->σ2[j]?=σ[j]?
theorem qe7{i:Nat}(h:autoParam (fr[i]?=some none) zAr):zj0 fr (B3 i):=fun x σ H Q q=>⟨q,fun j k hj=>by
 have:i≠j:=by rintro rfl;rw[h] at hj;cases hj
 rw[List.getElem?_set_ne this]⟩
theorem Ae4:yy6 fr yr8:=fun xs σ H Q ⟨e,q⟩=>⟨e,q,fun _ _ _=>rfl⟩
theorem yy7{i:Nat}{u:TGs}(h:fr[i]?=some none)(hu:yy6 fr u):yy6 fr (qs7 (B3 i) u):=fun xs σ H Q ⟨v,r,e,q⟩=>by
 refine⟨v,r,e,?_⟩
 have q:u r (σ.set i (some v)) H Q:=q
 have e2:=hu _ _ _ _ q
 have k:∀ j k,fr[j]?=some (some k)->(σ.set i (some v))[j]?=σ[j]?:=fun j k hj=>by
  have:i≠j:=by rintro rfl;rw[h] at hj;cases hj
  rw[List.getElem?_set_ne this]
 have e3:(fun(σ2:St) (H2:Hp)=>Q σ2 H2/\∀ (j k:Nat),fr[j]?=some (some k)->σ2[j]?=σ[j]?)=(fun(σ2:St) (H2:Hp)=>Q σ2 H2/\∀ (j k:Nat),fr[j]?=some (some k)->σ2[j]?=(σ.set i (some v))[j]?):=by
  funext σ2 H2
  refine propext ⟨fun⟨a,b⟩=>⟨a,fun j m hj=>(b j m hj).trans (k j m hj).symm⟩,fun⟨a,b⟩=>⟨a,fun j m hj=>(b j m hj).trans (k j m hj)⟩⟩
 show u r (σ.set i (some v)) H _
 rw[e3]
 exact e2
theorem Ae5{u:TGs}(hu:yy6 fr u):zj0 fr (yk3 K n u):=fun x σ H Q ⟨a,xs,e1,e2,e3,q⟩=>⟨a,xs,e1,e2,e3,hu _ _ _ _ q⟩
def PTs(X:Cx)(ifs:List Expr)(t:TT):Prop :=
 ∀ (pins:List (Addr×Obj)) (s:Shared) (σ:St) (H:Hp) (Q:Bool->Hp->Prop),Inv X pins σ H s->t σ H Q ->
  wpAny #[9] X.A (forIn ifs true fun c r=>if r=true then do let ok<-isTrue c X.env (eval c X.env);pure (ForInStep.yield ok) else pure (ForInStep.yield r)) (TP X pins σ Q) X.xe s
def tTT:TT:=fun _ H Q=>Q true H
theorem wo8:PTs X [] tTT:=fun _ _ _ H _ I h=>wpAny_tests_nil ⟨H,I,h⟩
theorem wd8{t:TT}(h:PT X c t):PTs X [c] t:=fun pins s σ H Q I hq=>wpAny_tests_one (h pins s σ H Q I hq)
structure wo9(X:Cx)(scope:Scope)(N:List Str)(fr:List (Option Nat)):Prop where
 kind:scope.kind=.function
 nocell:∀ y∈scope.names,y.2≠.cell
 names:∀ y∈scope.names,y.2=.local->scope.names.lookup y.1=some .local
 free:∀ y∈scope.names,y.2=.free->X.env.scope.names.lookup y.1=some .cell\/X.env.scope.names.lookup y.1=some .free
 len:N.length=fr.length
 at_:∀ (j i:Nat) (x:Str),fr[j]?=some (some i)->N[j]?=some x->X.N[i]?=some x/\scope.names.lookup x=some .free
def yy8(osc:Scope)(ON:List Str)(scope:Scope)(N:List Str)(fr:List (Option Nat)):Bool :=
 decide (scope.kind=.function) && scope.names.all (fun y=>decide (y.2≠.cell)) && scope.names.all (fun y=>decide (y.2≠.local) || decide (scope.names.lookup y.1=some .local)) &&
 scope.names.all (fun y=>decide (y.2≠.free) || decide (osc.names.lookup y.1=some .cell) || decide (osc.names.lookup y.1=some .free)) && decide (N.length=fr.length) &&
 (fr.zip N).all (fun p=>match p.1 with|some i=>decide (ON[i]?=some p.2) && decide (scope.names.lookup p.2=some .free)|none=>true)
theorem O1{osc:Scope}{ON:List Str}(h:yy8 osc ON scope N fr=true)(e1:X.env.scope=osc)(e2:X.N=ON):wo9 X scope N fr:=by
 subst e1 e2
 unfold yy8 at h
 simp only[Bool.and_eq_true,all_eq_true,Bool.or_eq_true,decide_eq_true_eq] at h
 obtain⟨⟨⟨⟨⟨h1,h2⟩,h3⟩,h4⟩,h5⟩,h6⟩:=h
 refine⟨h1,h2,fun y hy e=>(h3 y hy).resolve_left fun z=>z e,fun y hy e=>?_,h5,fun j i x e1 e2=>?_⟩
 ·rcases h4 y hy with(z|z)|z
  ·exact absurd e z
  ·exact .inl z
  ·exact .inr z
 ·have hm:(some i,x)∈fr.zip N:=by
   apply mem_of_getElem? (i:=j)
   rw[List.getElem?_zip_eq_some]
   exact⟨e1,e2⟩
  have:=h6 _ hm
  simpa using this
def qq1 (fr:List (Option Nat)) (wi:TI) (g:TG) (tt:TT) (te:TE):TE:=fun σ H Q=>wi σ H fun J H1 =>
 ∃ W:Nat->Nat->List V->Hp->Prop,(∃ m,W 0 m [] H1)/\∀ i m ys H,W i m ys H->ys.length<=sizeLine /\
  ((J.stop i H/\∀ p,H p=none->Q (.ref p) #[42,ys]) \/
   (J.go i H/\∃ NN:List V->Hp->Prop,(∀ ys' H',NN ys' H'->∃ m',m'<m/\W (i+1) m' ys' H')/\∀ x H',J.yld i H x H'->g x (wk8 fr σ) H' fun σ2 H2=>tt σ2 H2 fun b H3 =>
    if b=true then te σ2 H3 fun y H4=>NN (ys++[y]) H4 else NN ys H3))
structure Ae6(X:Cx)(pins:List (Addr×Obj))(σ:St)(Q:VK)(C D:Addr)(s':Shared):Prop where
 ex:∃ (ys:List V) (H:Hp),H D=none/\(∃ m,s'.heap.Ns C m)/\D≠C/\C≠X.env.locals/\(∀ x c,X.env.cells.lookup x=some c->c≠C)/\(∀ p∈X.pn++pins,p.1≠C)/\X.s₀.heap.objs.size<=C/\C∉X.fs /\
  (upd H D (.lst ys)) C=none /\
  (∀ h',Heap.SameBut C s'.heap h'->Inv X pins σ (upd H D (.lst ys)) {s' with heap:=h'})/\Q (.ref D) (upd H D (.lst ys))
variable{J:It}{tt:TT}
theorem xo1 {tg:Expr} {cl:List (Str×Addr)} (hcalm:X.calm=true) (S:wo9 X scope N fr) (hclS:∀ x c,cl.lookup x=some c->X.env.cells.lookup x=some c) (hclH:∀ y∈scope.names,y.2=.free->∃ c,cl.lookup y.1=some c) (hg:∀ C s₂ H₂ fp pn,PG #[41] tg g) (hgo:zj0 fr g) (ht:∀ C s₂ H₂ fp pn,PTs #[41] ifs tt) (he:∀ C s₂ H₂ fp pn,PE #[41] elt te) {s2:Shared} {Q:VK} {fp:List Addr} {tn:Nat->Heap->Prop} (I2:Inv X pins σ H2 s2) (T:xn3 X.prog X.w X.K tg J fp it tn) (st2:tn 0 s2.heap) (f2:∀ b∈fp,xu6 X pins H2 b) (W:Nat->Nat->List V->Hp->Prop) (w0:∃ m,W 0 m [] H2) (turn:∀ i m ys H,W i m ys H->ys.length<=sizeLine /\
 ((J.stop i H/\∀ p,H p=none->Q (.ref p) #[42,ys]) \/
  (J.go i H/\∃ NN:List V->Hp->Prop,(∀ ys' H',NN ys' H'->∃ m',m'<m/\W (i+1) m' ys' H')/\∀ x H',J.yld i H x H'->g x (wk8 fr σ) H' fun σ2 H2=>tt σ2 H2 fun b H3 =>
   if b=true then te σ2 H3 fun y H4=>NN (ys++[y]) H4 else NN ys H3))) {RR:Value->Addr->Result->Shared->Prop} (hRR:∀ C D s',Ae6 X pins σ Q C D s'->RR (.ref D) C (.ok .next) s') :
 wpAny #[9] X.A (newList []) (fun acc s₃=>wpAny #[9] X.A (newFunctionEnv scope X.env.globals cl [] X.env.qual none .none (some X.env)) (fun cenv s₄ =>
  codeAny #[9] X.A (.compStart #[56] 0 (.ref it) acc {cenv with scope:=relabel scope X.env}) (RR acc cenv.locals) s₄) E s₃) E s2:=by
 obtain⟨m0,w0⟩:=w0
 refine wpAny_newObj_type (wpAny_newFunctionEnv S.nocell (by intro y hy;simp at hy) (fun h₁ hns₁ hsb₁=>?_) S.kind)
 dsimp only at hns₁ hsb₁ ⊢
 generalize hHH:s2.heap.push {cls:=.type "list",dict:=none,data:=.seq ([]:List Value).toArray}=HH at hns₁ hsb₁ ⊢
 have hC:HH.objs.size=s2.heap.objs.size+1:=by rw[<-hHH,Heap.size_push]
 generalize hDD:s2.heap.objs.size=D at *
 generalize hCC:HH.objs.size=C at *
 have hDlt:Nat.lt D C:=by show D<C;rw[hC];exact Nat.lt_succ_self _
 have hDC:D≠C:=Nat.ne_of_lt hDlt
 have neD:∀ {b:Addr},Nat.lt b D->b≠D:=fun h=>Nat.ne_of_lt h
 have neC:∀ {b:Addr},Nat.lt b D->b≠C:=fun h=>Nat.ne_of_lt (Nat.lt_trans h hDlt)
 have below:∀ (b:Addr) (o:Obj),s2.heap.get? b=some o->Nat.lt b D:=fun b o e=>by rw[<-hDD];exact Heap.lt_size e
 have old:∀ b o,s2.heap.get? b=some o->h₁.get? b=some o:=fun b o e=>hsb₁.extBut b o (neC (below b o e)) (Heap.get?_push_of_some _ (hHH▸Heap.get?_push_of_some _ e))
 have hacc:h₁.get? D=some {cls:=.type "list",data:=.seq ([]:List Value).toArray}:=hsb₁.extBut _ _ hDC (Heap.get?_push_of_some _ (by rw[<-hHH,<-hDD];exact Heap.get?_push_size _ rfl))
 have Lt:Nat.lt X.env.locals D:=by rw[<-hDD];exact I2.lt
 have cellLt:∀ x c,X.env.cells.lookup x=some c->Nat.lt c D:=fun x c e=>by
  obtain⟨v,q⟩:=I2.cell x c e
  rw[<-hDD];exact q.lt
 have pinLt:∀ p∈X.pn++pins,Nat.lt p.1 D:=fun p hp=>below p.1 p.2 (I2.pin p hp).1
 have freshH:∀ b:Addr,Nat.le D b->H2 b=none:=fun b hb=>I2.hok.fresh (by rw[hDD];exact hb)
 let X':Cx:=blk X N scope cl C s2 H2 fp (X.pn++pins)
 have okX:X'.Ok:=by
  refine⟨I2.ok.mod,S.kind,I2.ok.glob,I2.ok.blt,by show s2.heap.objs.size<=C;rw[hDD];exact Nat.le_of_lt hDlt,fun x y c e1 e2=>I2.ok.inj x y c (hclS _ _ e1) (hclS _ _ e2),fun x hx=>?_,fun x c hf _=>(by cases hf),I2.ok.hd,I2.ok.frames,.inl rfl,fun b hb=>⟨?_,fun x c e=>(f2 b hb).2.2.2.2.1 x c (hclS _ _ e)⟩,I2.bs,Nat.le_trans I2.ok.bsz I2.sz,fun b o e hb=>?_,fun b hb hm=>?_,I2.stack,I2.stkFree⟩
  ·have hx:(relabel scope X.env).names.lookup x=some .cell\/(relabel scope X.env).names.lookup x=some .free:=hx
   have hf:scope.names.lookup x=some .free:=by
    rcases hx with hx|hx
    ·rcases qd1 hx with h|⟨_,h⟩
     ·exact absurd rfl (S.nocell _ (PySem.mem_of_lookup h))
     ·exact h
    ·rcases qd1 hx with h|⟨h,_⟩
     ·exact h
     ·cases h
   exact hclH _ (PySem.mem_of_lookup hf) rfl
  ·obtain⟨o,e,_⟩:=T.obj 0 _ st2 b hb
   exact neC (below b o e)
  ·obtain⟨_,_,_,h,_⟩:=f2 b hb
   rcases h with h|h
   ·exact I2.ok.noex b o e h
   ·have:=Heap.lt_size (I2.ok.bs b o e).1
    exact absurd (Nat.lt_of_lt_of_le this h) (Nat.lt_irrefl _)
  ·rcases mem_cons.mp (I2.stkSub b hm) with h|h
   ·exact(f2 b hb).2.1 h
   ·exact(f2 b hb).2.2.1 h
 have I4:∀ tk,0<tk->Inv X' [(D,{cls:=.type "list",data:=.seq ([]:List Value).toArray})] (wk8 fr σ) H2 {s2 with heap:=h₁,toks:=tk}:=fun tk htk=>by
  refine⟨okX,rfl,I2.bare,Un.kept old,⟨_,hns₁,fun j x v e1 e2 e3=>?_⟩,fun x c e=>?_,freshH C (Nat.le_of_lt hDlt),fun x c e=>I2.freeC x c (hclS _ _ e),fun p hp=>?_,I2.hok.kept old,?_,htk⟩
  ·obtain⟨i,q1,q2⟩:=yl6 e2
   obtain⟨a1,a2⟩:=S.at_ j i x q1 e1
   obtain⟨m,hn,hl⟩:=I2.loc
   have vis:Vis X.env.scope x:=by
    rcases S.free _ (PySem.mem_of_lookup a2) rfl with h|h
    ·exact .inr (.inl h)
    ·exact .inr (.inr h)
   obtain⟨u,r,l⟩:=hl i x v a1 q2 vis
   refine⟨u,r,.inr ⟨?_,?_⟩⟩
   ·exact qq0 (env:=X.env) a2
   ·rcases l with⟨hk,_⟩|⟨_,c,hc,hcell⟩
    ·have hk:X.env.scope.names.lookup x=some .local:=hk
     rcases S.free _ (PySem.mem_of_lookup a2) rfl with h|h
     ·have h:X.env.scope.names.lookup x=some .cell:=h
      rw[hk] at h;cases h
     ·have h:X.env.scope.names.lookup x=some .free:=h
      rw[hk] at h;cases h
    ·obtain⟨c',hc'⟩:=hclH _ (PySem.mem_of_lookup a2) rfl
     have:c=c':=by
      have:=hclS _ _ hc'
      rw[hc] at this
      exact Option.some.inj this
     subst this
     obtain⟨o,ho,hd⟩:=hcell
     exact⟨c,hc',o,old c o ho,hd⟩
  ·obtain⟨v,o,ho,hd⟩:=I2.cell x c (hclS _ _ e)
   exact⟨v,o,old c o ho,hd⟩
  ·rcases mem_append.mp hp with hp|hp
   ·obtain⟨e,n,ne,nf,d⟩:=I2.pin p hp
    refine⟨old _ _ e,n,?_,fun hm=>?_,d⟩
    ·exact neC (pinLt p hp)
    ·rcases mem_cons.mp (I2.stkSub _ hm) with h|h
     ·exact ne h
     ·exact nf h
   ·have hp:p=(D,{cls:=.type "list",data:=.seq ([]:List Value).toArray}):=by simpa using hp
    subst hp
    refine⟨hacc,freshH D #[11],hDC,fun hm=>?_,fun v z=>by cases z⟩
    rcases mem_cons.mp (I2.stkSub _ hm) with h|h
    ·exact neD Lt h.symm
    ·exact I2.nofs (by rw[hDD];exact Nat.le_refl _) h
  ·show(wk8 fr σ).length=N.length
   unfold wk8
   rw[length_map,S.len]
 have fpLt:∀ b∈fp,Nat.lt b D:=fun b hb=>by
  obtain⟨o,e,_⟩:=T.obj 0 _ st2 b hb
  exact below b o e
 have fpk:∀ {H:Hp} {oD:Obj},(∀ b∈fp,H b=none)->∀ b∈fp,xu6 X' [(D,oD)] H b:=fun{H oD} hn b hb=>by
  refine⟨hn b hb,?_,fun hm=>?_,.inl hb,fun x c e=>(f2 b hb).2.2.2.2.1 x c (hclS _ _ e),fun p hp=>?_⟩
  ·exact neC (fpLt b hb)
  ·rcases mem_cons.mp (I2.stkSub b hm) with h|h
   ·exact(f2 b hb).2.1 h
   ·exact(f2 b hb).2.2.1 h
  ·rcases mem_append.mp hp with hp|hp
   ·exact(f2 b hb).2.2.2.2.2 p hp
   ·have hp:p=(D,oD):=by simpa using hp
    subst hp
    exact(neD (fpLt b hb)).symm
 have loop:∀ s₃:Shared,s₃={s2 with heap:=h₁,toks:=s2.toks+([]:List (Str×Value)).length} ->
  codeAny #[9] X.A (.compLoop #[56] 0 (.ref it) (.ref D) (compEnvC scope cl C X.env)) (RR (.ref D) C) s₃:=by
  rintro s₃ rfl
  refine wk7 (fun n s'=>∃ i ys its k H',Inv X' [(D,({cls:=.type "list",data:=.seq its k}:Obj))] (wk8 fr σ) H' s'/\tn i s'.heap/\(∀ b∈fp,H' b=none)/\E6 ys its.toList/\W i n ys H') ?_ m0
   ⟨0,[],#[],_,H2,I4 _ (by first|exact I2.tk|exact Nat.succ_pos _),T.keep 0 _ _ st2 (fun b _ o e=>old b o e),fun b hb=>(f2 b hb).1,.nil,w0⟩
  rintro n s3 ⟨i,ys,its,k,H3,I3,st3,fr3,vy,w3⟩
  obtain⟨hsz,h⟩:=turn i n ys H3 w3
  rcases h with⟨stop,qn⟩|⟨go,NN,hNN,step⟩
  ·refine noE (thn (T.done X' rfl rfl rfl hcalm i [(D,_)] s3 (wk8 fr σ) H3 _ I3 (fpk fr3) st3 stop) fun r s4 zq=>?_)
   obtain⟨hr,I4⟩:=zq
   subst hr
   refine hRR C D s4 ⟨ys,H3,?_⟩
   obtain⟨pD,nD,_,_,_⟩:=I4.pin (D,_) #[52,mem_singleton.mpr rfl]
   have pD:s4.heap.get? D=some {cls:=.type "list",data:=.seq its k}:=pD
   have nD:H3 D=none:=nD
   have nC:H3 C=none:=I4.free
   obtain⟨mC,hnC,_⟩:=I4.loc
   refine⟨nD,⟨mC,hnC⟩,hDC,(neC Lt).symm,fun x c e z=>?_,fun p hp z=>?_,?_,fun hm=>?_,?_,fun h' hsb=>?_,qn D nD⟩
   ·exact neC (cellLt x c e) z
   ·exact neC (pinLt p hp) z
   ·have:=I2.sz;rw[hDD] at this;exact Nat.le_trans this (Nat.le_of_lt hDlt)
   ·exact I2.nofs (by rw[hDD];exact Nat.le_of_lt hDlt) hm
   ·rw[B5 (Ne.symm hDC)];exact nC
   ·have un:Un (frs X.stack) fp H2 (upd H3 D (.lst ys)) s2.heap h':=by
     have u:=I4.base
     have neC:∀ (b:Addr) (o:Obj),s2.heap.get? b=some o->b≠C:=fun b o e=>neC (below b o e)
     have neD:∀ (b:Addr) (o:Obj),s2.heap.get? b=some o->b≠D:=fun b o e=>neD (below b o e)
     have trkNe:∀ b (o:HO),H3 b=some o->b≠D:=fun b o e z=>by rw[z,nD] at e;cases e
     refine⟨fun b o e n hb hx=>hsb.extBut b o (neC b o e) (u.keep b o e n hb hx),fun b o e n hb hx=>?_,fun b o e n hx=>by rw[B5 (neD b o e)];exact u.free b o e n hx,fun b o e hx=>?_,fun b xs e=>?_,fun b o xs e=>?_,fun b ps e=>?_⟩
     ·obtain⟨sl,q⟩:=u.slot b o e n hb hx
      exact⟨sl,hsb.extBut b _ (neC b o e) q⟩
     ·obtain⟨o',q⟩:=u.there b o e hx
      exact⟨o',hsb.extBut b _ (neC b o e) q⟩
     ·have q:=u.tups b xs e
      rw[B5 (trkNe b _ q)];exact q
     ·have q:=u.frzs b o xs e
      rw[B5 (trkNe b _ q)];exact q
     ·obtain⟨more,q⟩:=u.tbls b ps e
      exact⟨more,by rw[B5 (trkNe b _ q)];exact q⟩
    have hok:HOk X.prog X.w (upd H3 D (.lst ys)) h':=fun b u e=>by
     by_cases hb:b=D
     ·rw[hb,A8] at e
      cases e
      rw[hb]
      exact⟨hsz,its.toList,k,vy,by simpa using hsb.extBut D _ hDC pD⟩
     ·rw[B5 hb] at e
      refine(I4.hok b u e).stay (fun c v hc q=>hsb.extBut c v ?_ q) (fun c q=>?_) fun c xs q=>?_
      ·rcases hc with rfl|hc
       ·rintro rfl;rw[nC] at e;cases e
       ·rintro rfl;rw[nC] at hc;cases hc
      ·rw[B5 (V4 q nD)];exact q
      ·rw[B5 (V4 q nD)];exact q
    obtain⟨hh,gg,dd,tt',os'⟩:=s4
    obtain rfl:os'=s2.os:=I4.os
    refine(show Inv X pins σ (upd H3 D (.lst ys)) {s2 with heap:=h',gens:=gg,drawn:=dd,toks:=tt'} from I2.call (h':=h') (g':=gg) (d':=dd) (t':=tt') (ch:=fp) un hok I4.bare fun b hb=>?_)
    obtain⟨_,f1,_,f3,f4,f5⟩:=f2 b hb
    exact⟨f3,f1,f4,f5⟩
  ·refine noE (thn (T.item X' rfl rfl rfl hcalm i [(D,_)] s3 (wk8 fr σ) H3 _ I3 (fpk fr3) st3 go) fun r s4 zq=>?_)
   obtain⟨u,hr,h4⟩:=zq
   subst hr
   refine noE (thn h4 fun _ s5 zq=>?_)
   obtain⟨x,H5,I5,r5,y5,st5,fr5⟩:=zq
   have I5':=I5.pinned (fpk fr5) (T.obj _ _ st5)
   refine noE (thn (hg C s2 H2 fp (X.pn++pins) _ s5 (wk8 fr σ) H5 x u _ I5' r5 (hgo _ _ _ _ (step x H5 y5))) fun _ s6 zq=>?_)
   obtain⟨σ6,H6,I6,q6,k6⟩:=zq
   refine noE (thn (ht C s2 H2 fp (X.pn++pins) _ s6 σ6 H6 _ I6 q6) fun b s7 zq=>?_)
   obtain⟨H7,I7,q7⟩:=zq
   have back:∀ {s8:Shared} {H8:Hp},Inv X' ([(D,({cls:=.type "list",data:=.seq its k}:Obj))]++xn4 fp s5.heap) σ6 H8 s8->Inv X' [(D,({cls:=.type "list",data:=.seq its k}:Obj))] (wk8 fr σ) H8 s8/\tn (i+1) s8.heap/\∀ b∈fp,H8 b=none:=fun{s8 H8} I8=>by
    refine⟨(I8.unpinned).weak ?_ fun j v e=>?_,T.keep _ _ _ st5 fun b hb o e=>(I8.pin (b,o) #[52,mem_append_right _ (wd2 hb e)]).1,fun b hb=>?_⟩
    ·rw[I8.len];show(wk8 fr σ).length=N.length;unfold wk8;rw[length_map,S.len]
    ·obtain⟨i',q1,_⟩:=yl6 e
     rw[k6 j i' q1];exact e
    ·obtain⟨o,e,d⟩:=T.obj _ _ st5 b hb
     exact(I8.pin (b,o) #[52,mem_append_right _ (wd2 hb e)]).2.1
   cases b with
   | false =>
     rw[if_neg Bool.false_ne_true] at q7 ⊢
     obtain⟨m',hm,w7⟩:=hNN _ _ q7
     obtain⟨J1,J2,J3⟩:=back I7
     exact⟨m',hm,i+1,ys,its,k,H7,J1,J2,J3,vy,w7⟩
   | true =>
     rw[if_pos rfl] at q7 ⊢
     refine noE (thn (he C s2 H2 fp (X.pn++pins) _ s7 σ6 H7 _ I7 q7) fun y s8 zq=>?_)
     obtain⟨yv,H8,I8,r8,n8⟩:=zq
     obtain⟨m',hm,w8⟩:=hNN _ _ n8
     obtain⟨J1,J2,J3⟩:=back I8
     obtain⟨pD,nD,_,_,_⟩:=J1.pin (D,_) #[52,mem_singleton.mpr rfl]
     have pD:s8.heap.get? D=some {cls:=.type "list",data:=.seq its k}:=pD
     have nD:H8 D=none:=nD
     have hz':its.size<=sizeLine:=by
      have e1:its.size=ys.length:=by rw[vy.length];simp
      rw[e1];exact hsz
     refine wpAny_list_append_plain (hsz:=hz') ⟨k,pD⟩ fun h' ⟨k',hl'⟩ hsb=>?_
     ·refine⟨m',hm,i+1,ys++[yv],its.push y,k',H8,?_,T.keep _ _ _ J2 fun b hb o e=>?_,J3,?_,w8⟩
      ·have K0:Inv X' [] (wk8 fr σ) H8 s8:=J1.pins_of fun p hp=>by cases hp
       have K1:Inv X' [] (wk8 fr σ) H8 {s8 with heap:=h'}:=by
        refine K0.turned (it:=D) (t':=s8.toks) (fun b o hb e=>hsb.extBut b o hb e) nD hDC (.inr (by show s2.heap.objs.size<=D;rw[hDD];exact Nat.le_refl _)) (fun x c e z=>?_) fun p hp z=>?_
        ·exact neD (cellLt x c (hclS _ _ e)) z
        ·have hp:p∈X.pn++pins:=by
          rcases mem_append.mp hp with hp|hp
          ·exact hp
          ·cases hp
         exact neD (pinLt p hp) z
       refine K1.pins_of fun p hp=>?_
       have hp:p=(D,({cls:=.type "list",data:=.seq (its.push y) k'}:Obj)):=by simpa using hp
       subst hp
       refine⟨hl',nD,hDC,fun hm=>?_,fun v z=>by cases z⟩
       rcases mem_cons.mp (I2.stkSub _ hm) with h|h
       ·exact neD Lt h.symm
       ·exact I2.nofs (by rw[hDD];exact Nat.le_refl _) h
      ·exact hsb.extBut b o (neD (fpLt b hb)) e
      ·rw[Array.toList_push]
       exact E6.append vy (.cons r8 .nil)
 exact codeAny_compStart_list (loop _ rfl) (T.self _ 0 _ _ _ (T.keep 0 _ _ st2 fun b _ o e=>old b o e) (loop _ rfl))
theorem wp0{tg:Expr}(hcalm:X.calm=true)(S:wo9 X scope N fr)(hi:PI X tg iter wi)(hg:∀ cl C s₂ H₂ fp pn,PG #[41] tg g)(hgo:zj0 fr g)(ht:∀ cl C s₂ H₂ fp pn,PTs #[41] ifs tt)(he:∀ cl C s₂ H₂ fp pn,PE #[41] elt te)(hs:autoParam (∀ x,foldedSetIterable iter X.env x=pure x) zAi):PE X #[56] (qq1 fr wi g tt te):=by
 walk_at"18"
 obtain⟨cl,hclos,hclS,hclH⟩:=ws1 (env:=X.env) (scope:=scope) fun y hy hf=>I.ok.has y.1 (S.free y hy hf)
 rw[eval_ListComp]
 refine wpAny_comprehension_free (use:=none) rfl hs hclos S.kind S.names (thn (hi pins s σ H _ I h) fun v s1 h1=>thn h1 fun itv s2 h2=>?_)
 obtain⟨it,fp,tn,J,H2,e,I2,T,st2,f2,W,w0,turn⟩:=h2
 subst e
 refine xo1 (RR:=fun acc C=>compPost #[9] X.A X.xe none (EP X pins σ Q) acc C) hcalm S hclS hclH (hg cl) hgo (ht cl) (he cl) I2 T st2 f2 W w0 turn fun C D s' B=>?_
 obtain⟨ys,H',nD,hC,_,_,_,_,_,_,_,hI,q⟩:=B.ex
 obtain⟨m,hn⟩:=hC
 exact⟨m,hn,fun h' hs'=>⟨.ref D,_,hI h' hs',rfl,q⟩⟩
theorem wd9{tg:Expr}{spos py:Pos}{i:Nat}{y:Str}(hN:X.N.Nodup)(hy:X.N[i]?=some y)(hly:X.env.scope.names.lookup y=some .local)(hcalm:X.calm=true)(S:wo9 X scope N fr)(hi:PI X tg iter wi)(hg:∀ cl C s₂ H₂ fp pn,PG #[41] tg g)(hgo:zj0 fr g)(ht:∀ cl C s₂ H₂ fp pn,PTs #[41] ifs tt)(he:∀ cl C s₂ H₂ fp pn,PE #[41] elt te)(hsw:autoParam (swapsWith #[56] (some (.Name y py)) spos.line X.env=pure true) zAr)(hs:autoParam (∀ x,foldedSetIterable iter X.env x=pure x) zAi):PS X (.Assign [.Name y py] #[56] spos) (C8 (qq1 fr wi g tt te) (B3 i)):=by
 intro pins s σ H D I h
 obtain⟨cl,hclos,hclS,hclH⟩:=ws1 (env:=X.env) (scope:=scope) fun y hy hf=>I.ok.has y.1 (S.free y hy hf)
 rw[exec_Assign_Name_used _ _ _ _ hsw]
 refine wpAny_bind (wpAny_standAt (wpAny_bind ?_))
 show wpAny _ X.A (do let _<-comprehension #[56] scope X.env _ (newList []) false (eval iter X.env) (some (assign (.Name y py) X.env))) _ _ s
 refine wpAny_bind (wpAny_mono (wpAny_comprehension_free (use:=some (assign (.Name y py) X.env)) (Q:=fun _ s'=>SP X pins D .next s') rfl hs hclos S.kind S.names
  (thn (hi pins s σ H _ I h) fun v s1 h1=>thn h1 fun itv s2 h2=>?_)) (fun _ s' hq=>wpAny_pure (wpAny_pure hq)) fun _ _ e=>e)
 obtain⟨it,fp,tn,J,H2,e,I2,T,st2,f2,W,w0,turn⟩:=h2
 subst e
 refine xo1 (Q:=fun x H1=>B3 i x σ H1 D.nx) (RR:=fun acc C=>compPost #[9] X.A X.xe (some (assign (.Name y py) X.env)) (fun _ s'=>SP X pins D .next s') acc C) hcalm S hclS hclH (hg cl) hgo (ht cl) (he cl) I2 T st2 f2 W w0 turn fun C D' s' B=>?_
 obtain⟨ys,H',nD,hC,hDC,hCL,hCc,hCp,hCs,hCf,hCn,hI,q⟩:=B.ex
 obtain⟨m,hn⟩:=hC
 have I1:Inv X pins σ (upd H' D' (.lst ys)) s':=by
  have:=hI s'.heap (.refl ..)
  obtain⟨hh,gg,dd,tt',os'⟩:=s'
  exact this
 show wpAny _ X.A (assign (.Name y py) X.env (.ref D')) _ _ _
 refine wpAny_assign_Name (xy0 I1 hN hy (.inl hly) (v:=.ref D') rfl (fun s2 I3 zq=>?_) (.inr hly))
 obtain⟨a,sb,ha⟩:=zq
 have hCa:C≠a:=by
  rcases ha with rfl|ha
  ·exact hCL
  ·exact fun z=>hCc y a ha z.symm
 refine⟨m,hn.sameBut sb hCa,fun h3 hs3=>?_⟩
 exact⟨_,_,I3.turned (it:=C) (t':=s2.toks) (fun b o hb e=>hs3.extBut b o hb e) hCn hCL (.inr hCs) hCc hCp,q⟩
mutual
def Dv(K:Fg)(H:Hp):PyData->V->Prop
 | .none,v=>v=.non
 | .bool b,v=>v=.bl b
 | .int i,v=>v=.int i
 | .str x,v=>v=.str x
 | .list ds,v=>∃ a vs,v=.ref a/\SqL K H a vs/\Dvs K H ds vs
 | .tuple ds,v=>∃ a vs,v=.ref a/\SqT K H a vs/\Dvs K H ds vs
 | .dict _,_=>False
def Dvs(K:Fg)(H:Hp):List PyData->List V->Prop
 | [],vs=>vs=[]
 | d::ds,vs=>∃ v r,vs=v::r/\Dv K H d v/\Dvs K H ds r
end
theorem Dvs.length:∀ {ds:List PyData} {vs:List V},Dvs K H ds vs->vs.length=ds.length
 | [],_,h=>by rw[Dvs] at h;subst h;rfl
 | d::ds,_,h=>by
   rw[Dvs] at h
   obtain⟨v,r,rfl,_,h⟩:=h
   rw[length_cons,length_cons,Dvs.length h]
theorem Dvs.get:∀ {ds:List PyData} {vs:List V} {i:Nat} {d:PyData},Dvs K H ds vs->ds[i]?=some d->∃ v,vs[i]?=some v/\Dv K H d v
 | [],_,_,_,_,e=>by simp at e
 | d::ds,_,0,_,h,e=>by
   rw[Dvs] at h
   obtain⟨v,r,rfl,h,_⟩:=h
   cases e
   exact⟨v,rfl,h⟩
 | d::ds,_,i+1,_,h,e=>by
   rw[Dvs] at h
   obtain⟨v,r,rfl,_,h⟩:=h
   exact Dvs.get (i:=i) h (by simpa using e)
theorem Dvs.get':∀ {ds:List PyData} {vs:List V} {i:Nat} {v:V},Dvs K H ds vs->vs[i]?=some v->∃ d,ds[i]?=some d/\Dv K H d v
 | [],_,_,_,h,e=>by rw[Dvs] at h;subst h;simp at e
 | d::ds,_,0,_,h,e=>by
   rw[Dvs] at h
   obtain⟨v,r,rfl,h,_⟩:=h
   cases e
   exact⟨d,rfl,h⟩
 | d::ds,_,i+1,_,h,e=>by
   rw[Dvs] at h
   obtain⟨v,r,rfl,_,h⟩:=h
   exact Dvs.get' (i:=i) h (by simpa using e)
theorem Dvs.append:∀ {ds es:List PyData} {vs ws:List V},Dvs K H ds vs->Dvs K H es ws->Dvs K H (ds++es) (vs++ws)
 | [],_,_,_,h,g=>by rw[Dvs] at h;subst h;exact g
 | d::ds,es,_,_,h,g=>by
   rw[Dvs] at h
   obtain⟨v,r,rfl,h1,h⟩:=h
   show Dvs K H (d::(ds++es)) _
   rw[Dvs]
   exact⟨v,r++_,rfl,h1,Dvs.append h g⟩
theorem G9:Dvs K H [] []:=by rw[Dvs]
variable{d:PyData}{ds:List PyData}
theorem C7(h:Dv K H d v)(t:Dvs K H ds vs):Dvs K H (d::ds) (v::vs):=by rw[Dvs];exact⟨v,vs,rfl,h,t⟩
theorem wx8:Dv K H .none v↔v=.non:=by rw[Dv]
theorem wx9{b:Bool}:Dv K H (.bool b) v↔v=.bl b:=by rw[Dv]
theorem P1:Dv K H (.int i) v↔v=.int i:=by rw[Dv]
theorem G7:Dv K H (.str x) v↔v=.str x:=by rw[Dv]
theorem qg9:Dv K H (.list ds) v↔∃ a vs,v=.ref a/\SqL K H a vs/\Dvs K H ds vs:=by rw[Dv]
theorem D9:Dv K H (.tuple ds) v↔∃ a vs,v=.ref a/\SqT K H a vs/\Dvs K H ds vs:=by rw[Dv]
def sDa(xs:List Str):List PyData:=xs.map .str
def B4(xs:List Str):List V:=xs.map .str
theorem qq4:∀ {xs:List Str} {vs:List V},Dvs K H (sDa xs) vs↔vs=B4 xs
 | [],_=>by show Dvs K H [] _↔_=[];rw[Dvs]
 | x::xs,vs=>by
   show Dvs K H (.str x::sDa xs) vs↔vs=V.str x::B4 xs
   rw[Dvs]
   constructor
   ·rintro⟨v,r,rfl,h1,h2⟩
    rw[G7.mp h1,qq4.mp h2]
   ·rintro rfl
    exact⟨_,_,rfl,G7.mpr rfl,qq4.mpr rfl⟩
def U1(H H':Hp):Prop:=(∀ b xs,H b=some (.tup xs)->H' b=some (.tup xs))/\∀ b o xs,H b=some (.frz o (.tup xs))->H' b=some (.frz o (.tup xs))
theorem A9.tupK(h:A9 H H'):U1 H H':=⟨fun b xs e=>h b _ e,fun b o xs e=>h b _ e⟩
theorem U1.refl(H:Hp):U1 H H:=⟨fun _ _ e=>e,fun _ _ _ e=>e⟩
theorem U1.trans(a:U1 H H1)(b:U1 H1 H2):U1 H H2:=⟨fun c xs e=>b.1 c xs (a.1 c xs e),fun c o xs e=>b.2 c o xs (a.2 c o xs e)⟩
theorem U1.sqT(e:U1 H H')(h:SqT K H a xs):SqT K H' a xs:=by
 rcases h with(h|⟨o,h⟩)|h
 ·exact .inl (.inl (e.1 _ _ h))
 ·exact .inl (.inr ⟨o,e.2 _ _ _ h⟩)
 ·exact .inr h
theorem A9.sqT(e:A9 H H')(h:SqT K H a xs):SqT K H' a xs:=e.tupK.sqT h
theorem A9.sqL(e:A9 H H')(h:SqL K H a xs):SqL K H' a xs:=e.seq h
theorem A9.new(h:H p=none)(o:HO):A9 H (upd H p o):=fun b u q=>by rw[B5 (V4 q h)];exact q
def But(ps:List Addr)(H H':Hp):Prop:=∀ b o,H b=some o->b∉ps->H' b=some o
theorem But.refl(ps:List Addr)(H:Hp):But ps H H:=fun _ _ e _=>e
mutual
/-- data without lists -/
def fix:PyData->Bool
 | .none=>true | .bool _=>true | .int _=>true | .str _=>true
 | .list _=>false
 | .tuple ds=>O0 ds
 | .dict _=>false
def O0:List PyData->Bool
 | []=>true
 | d::ds=>fix d && O0 ds
end
mutual
theorem Dv.tupK{K:Fg}{H H':Hp}(k:U1 H H'):∀ (d:PyData) (v:V),fix d=true->Dv K H d v->Dv K H' d v
 | .none,_,_,h=>wx8.mpr (wx8.mp h)
 | .bool _,_,_,h=>wx9.mpr (wx9.mp h)
 | .int _,_,_,h=>P1.mpr (P1.mp h)
 | .str _,_,_,h=>G7.mpr (G7.mp h)
 | .list _,_,f,_=>by rw[fix] at f;cases f
 | .tuple ds,v,f,h=>by
   rw[fix] at f
   obtain⟨a,vs,rfl,hq,h⟩:=D9.mp h
   exact D9.mpr ⟨a,vs,rfl,k.sqT hq,Dvs.tupK k ds vs f h⟩
 | .dict _,_,f,_=>by rw[fix] at f;cases f
theorem Dvs.tupK{K:Fg}{H H':Hp}(k:U1 H H'):∀ (ds:List PyData) (vs:List V),O0 ds=true->Dvs K H ds vs->Dvs K H' ds vs
 | [],_,_,h=>by rw[Dvs] at h ⊢;exact h
 | d::ds,vs,f,h=>by
   rw[O0,Bool.and_eq_true] at f
   rw[Dvs] at h ⊢
   obtain⟨v,r,e,h1,h2⟩:=h
   exact⟨v,r,e,Dv.tupK k d v f.1 h1,Dvs.tupK k ds r f.2 h2⟩
end
mutual
theorem Dv.same{K:Fg}{H H':Hp}(k:A9 H H'):∀ (d:PyData) (v:V),Dv K H d v->Dv K H' d v
 | .none,_,h=>wx8.mpr (wx8.mp h)
 | .bool _,_,h=>wx9.mpr (wx9.mp h)
 | .int _,_,h=>P1.mpr (P1.mp h)
 | .str _,_,h=>G7.mpr (G7.mp h)
 | .list ds,v,h=>by
   obtain⟨a,vs,rfl,hq,h⟩:=qg9.mp h
   exact qg9.mpr ⟨a,vs,rfl,k.sqL hq,Dvs.same k ds vs h⟩
 | .tuple ds,v,h=>by
   obtain⟨a,vs,rfl,hq,h⟩:=D9.mp h
   exact D9.mpr ⟨a,vs,rfl,k.sqT hq,Dvs.same k ds vs h⟩
 | .dict _,_,h=>by rw[Dv] at h;exact h.elim
theorem Dvs.same{K:Fg}{H H':Hp}(k:A9 H H'):∀ (ds:List PyData) (vs:List V),Dvs K H ds vs->Dvs K H' ds vs
 | [],_,h=>by rw[Dvs] at h ⊢;exact h
 | d::ds,vs,h=>by
   rw[Dvs] at h ⊢
   obtain⟨v,r,e,h1,h2⟩:=h
   exact⟨v,r,e,Dv.same k d v h1,Dvs.same k ds r h2⟩
end
mutual
theorem Dv.reads{X:Cx}{pins:List (Addr×Obj)}{σ:St}{H:Hp}{s:Shared}(I:Inv X pins σ H s):∀ (d:PyData) (v:V) (u:Value),Dv X.K H d v->E9 v u->∃ as,Reads s.heap u d as
 | .none,_,_,h,r=>by rw[wx8.mp h] at r;cases r;exact⟨_,.none⟩
 | .bool b,_,_,h,r=>by rw[wx9.mp h] at r;cases r;exact⟨_,.bool b⟩
 | .int i,_,_,h,r=>by rw[P1.mp h] at r;obtain⟨t,rfl⟩:=r;exact⟨_,.int i t⟩
 | .str x,_,_,h,r=>by rw[G7.mp h] at r;obtain⟨t,rfl⟩:=r;exact⟨_,.str x t⟩
 | .list ds,_,_,h,r=>by
   obtain⟨a,vs,rfl,hq,h⟩:=qg9.mp h
   cases r
   obtain⟨its,rv,pl,_⟩:=I.list hq
   obtain⟨o,e,c,n,d⟩:=pl.isList
   obtain⟨as,ra⟩:=Dvs.reads I ds vs its h rv
   exact⟨_,.list e c d (by simpa using ra)⟩
 | .tuple ds,_,_,h,r=>by
   obtain⟨a,vs,rfl,hq,h⟩:=D9.mp h
   cases r
   obtain⟨its,rv,pl,_⟩:=I.tuple hq
   obtain⟨o,e,c,n,d⟩:=pl
   obtain⟨as,ra⟩:=Dvs.reads I ds vs its h rv
   exact⟨_,.tuple e c d (by simpa using ra)⟩
 | .dict _,_,_,h,_=>by rw[Dv] at h;exact h.elim
theorem Dvs.reads{X:Cx}{pins:List (Addr×Obj)}{σ:St}{H:Hp}{s:Shared}(I:Inv X pins σ H s):∀ (ds:List PyData) (vs:List V) (us:List Value),Dvs X.K H ds vs->E6 vs us->∃ as,ReadsAll s.heap us ds as
 | [],_,_,h,r=>by rw[Dvs] at h;subst h;cases r;exact⟨_,.nil⟩
 | d :: ds,_,_,h,r=>by
   rw[Dvs] at h
   obtain⟨v,r',rfl,h1,h2⟩:=h
   cases r with
   | cons r1 r2 =>
     obtain⟨as,a1⟩:=Dv.reads I d v _ h1 r1
     obtain⟨bs,a2⟩:=Dvs.reads I ds r' _ h2 r2
     exact⟨_,.cons a1 a2⟩
end
open PySem.SeqAt
mutual
def nd:PyData->Bool
 | .none=>true | .bool _=>true | .int _=>true | .str _=>true
 | .list ds=>nds ds
 | .tuple ds=>nds ds
 | .dict _=>false
def nds:List PyData->Bool
 | []=>true
 | d::ds=>nd d && nds ds
end
mutual
theorem Dv.nd{K:Fg}{H:Hp}:∀ (d:PyData) (v:V),Dv K H d v->nd d=true
 | .none,_,_=>by rw[L2.nd]
 | .bool _,_,_=>by rw[L2.nd]
 | .int _,_,_=>by rw[L2.nd]
 | .str _,_,_=>by rw[L2.nd]
 | .list ds,_,h=>by
   obtain⟨a,vs,_,_,h⟩:=qg9.mp h
   rw[L2.nd];exact Dvs.nd ds vs h
 | .tuple ds,_,h=>by
   obtain⟨a,vs,_,_,h⟩:=D9.mp h
   rw[L2.nd];exact Dvs.nd ds vs h
 | .dict _,_,h=>by rw[Dv] at h;exact h.elim
theorem Dvs.nd{K:Fg}{H:Hp}:∀ (ds:List PyData) (vs:List V),Dvs K H ds vs->nds ds=true
 | [],_,_=>by rw[nds]
 | d::ds,vs,h=>by
   rw[Dvs] at h
   obtain⟨v,r,_,h1,h2⟩:=h
   rw[nds,Dv.nd d v h1,Dvs.nd ds r h2];rfl
end
mutual
theorem xo2{h:Heap}:∀ (d d':PyData) (v:Value) (as as':List Addr),nd d=true->Reads h v d as->Reads h v d' as'->d=d'
 | .none,_,_,_,_,_,r,q=>by cases r;cases q;rfl
 | .bool _,_,_,_,_,_,r,q=>by cases r;cases q;rfl
 | .int _,_,_,_,_,_,r,q=>by cases r;cases q;rfl
 | .str _,_,_,_,_,_,r,q=>by cases r;cases q;rfl
 | .dict _,_,_,_,_,n,_,_=>by rw[L2.nd] at n;cases n
 | .list xs,d',_,_,_,n,r,q=>by
   rw[L2.nd] at n
   cases r with
   | list a1 a2 a3 a4 =>
     cases q with
     | list b1 b2 b3 b4=>rw[a1] at b1;cases b1;rw[a3] at b3;cases b3;rw[xd4 xs _ _ _ _ n a4 b4]
     | tuple b1 b2 b3 b4=>rw[a1] at b1;cases b1;rw[a2] at b2;exact absurd b2 (by simp)
     | dict b1 b2=>rw[a1] at b1;cases b1;rw[a2] at b2;exact absurd b2 (by simp)
 | .tuple xs,d',_,_,_,n,r,q=>by
   rw[L2.nd] at n
   cases r with
   | tuple a1 a2 a3 a4 =>
     cases q with
     | tuple b1 b2 b3 b4=>rw[a1] at b1;cases b1;rw[a3] at b3;cases b3;rw[xd4 xs _ _ _ _ n a4 b4]
     | list b1 b2 b3 b4=>rw[a1] at b1;cases b1;rw[a2] at b2;exact absurd b2 (by simp)
     | dict b1 b2=>rw[a1] at b1;cases b1;rw[a2] at b2;exact absurd b2 (by simp)
theorem xd4{h:Heap}:∀ (xs ys:List PyData) (vs:List Value) (as as':List Addr),nds xs=true->ReadsAll h vs xs as->ReadsAll h vs ys as'->xs=ys
 | [],_,_,_,_,_,r,q=>by cases r;cases q;rfl
 | x :: xs,_,_,_,_,n,r,q=>by
   rw[nds,Bool.and_eq_true] at n
   cases r with
   | cons r1 r2 =>
     cases q with
     | cons q1 q2=>rw[xo2 x _ _ _ _ n.1 r1 q1,xd4 xs _ _ _ _ n.2 r2 q2]
end
mutual
theorem wy0:∀ d:PyData,nd d=true->PyData.eqv d d=true
 | .none,_=>rfl
 | .bool b,_=>by simp[PyData.eqv]
 | .int i,_=>by simp[PyData.eqv]
 | .str x,_=>by simp[PyData.eqv]
 | .list xs,h=>by rw[PyData.eqv];rw[L2.nd] at h;exact xd5 xs h
 | .tuple xs,h=>by rw[PyData.eqv];rw[L2.nd] at h;exact xd5 xs h
 | .dict _,h=>by rw[L2.nd] at h;cases h
theorem xd5:∀ xs:List PyData,nds xs=true->PyData.eqvAll xs xs=true
 | [],_=>rfl
 | x::xs,h=>by
   rw[nds,Bool.and_eq_true] at h
   rw[PyData.eqvAll,wy0 x h.1,xd5 xs h.2];rfl
end
theorem J8{h:Heap}:∀ {xs:List PyData} {vs:List Value} {as:List Addr},ReadsAll h vs xs as->vs.length=xs.length
 | [],_,_,r=>by cases r;rfl
 | _::xs,_,_,r=>by
   cases r with
   | cons _ r'=>rw[length_cons,length_cons,J8 r']
mutual
theorem zj1:∀ (da db:PyData) (A:Around) (s:Shared) (a b:Value) (as bs:List Addr),Reads s.heap a da as->Reads s.heap b db bs->nd da=true->nd db=true->A.units+min da.depth db.depth<cLine->EqAt A s a b (PyData.eqv da db)
 | .none,db,A,s,_,_,_,_,ra,rb,_,hb,hu=>by
   cases ra
   cases rb with
   | none=>exact EqAt.same _
   | bool y=>exact EqAt.none_bool y
   | int y u=>exact EqAt.none_int y u
   | str y u=>exact EqAt.none_str y u
   | list k1 k2 k3 k4=>exact EqAt.none_list ⟨_,k1,k2,_,k3⟩ #[13]
   | tuple k1 k2 k3 k4=>exact EqAt.none_tuple ⟨_,k1,k2,_,k3⟩ #[13]
   | dict=>rw[L2.nd] at hb;cases hb
 | .bool x,db,A,s,_,_,_,_,ra,rb,_,hb,hu=>by
   cases ra
   cases rb with
   | none=>exact EqAt.bool_none x
   | bool y=>exact EqAt.bool_bool x y
   | int y u=>exact EqAt.bool_int x y u
   | str y u=>exact EqAt.bool_str x y u
   | list k1 k2 k3 k4=>exact EqAt.bool_list x ⟨_,k1,k2,_,k3⟩ #[13]
   | tuple k1 k2 k3 k4=>exact EqAt.bool_tuple x ⟨_,k1,k2,_,k3⟩ #[13]
   | dict=>rw[L2.nd] at hb;cases hb
 | .int x,db,A,s,_,_,_,_,ra,rb,_,hb,hu=>by
   cases ra
   cases rb with
   | none=>exact EqAt.int_none x _
   | bool y=>exact EqAt.int_bool x _ y
   | int y u=>exact EqAt.int_int x _ y u
   | str y u=>exact EqAt.int_str x _ y u
   | list k1 k2 k3 k4=>exact EqAt.int_list x _ ⟨_,k1,k2,_,k3⟩ #[13]
   | tuple k1 k2 k3 k4=>exact EqAt.int_tuple x _ ⟨_,k1,k2,_,k3⟩ #[13]
   | dict=>rw[L2.nd] at hb;cases hb
 | .str x,db,A,s,_,_,_,_,ra,rb,_,hb,hu=>by
   cases ra
   cases rb with
   | none=>exact EqAt.str_none x _
   | bool y=>exact EqAt.str_bool x _ y
   | int y u=>exact EqAt.str_int x _ y u
   | str y u=>exact EqAt.str_str x _ y u
   | list k1 k2 k3 k4=>exact EqAt.str_list x _ ⟨_,k1,k2,_,k3⟩ #[13]
   | tuple k1 k2 k3 k4=>exact EqAt.str_tuple x _ ⟨_,k1,k2,_,k3⟩ #[13]
   | dict=>rw[L2.nd] at hb;cases hb
 | .list xs,db,A,s,_,_,_,_,ra,rb,ha,hb,hu=>by
   have ra0:=ra
   have rb0:=rb
   cases ra with
   | @list l o1 vs1 n1 xs as h1 h2 h3 h4 =>
     cases rb with
     | none=>exact EqAt.list_none ⟨_,h1,h2,_,h3⟩ #[13]
     | bool y=>exact EqAt.list_bool y ⟨_,h1,h2,_,h3⟩ #[13]
     | int y u=>exact EqAt.list_int y u ⟨_,h1,h2,_,h3⟩ #[13]
     | str y u=>exact EqAt.list_str y u ⟨_,h1,h2,_,h3⟩ #[13]
     | tuple k1 k2 k3 k4=>exact EqAt.list_tuple ⟨_,h1,h2,_,h3⟩ ⟨_,k1,k2,_,k3⟩ #[13]
     | @list b o vs2 n2 ys bs k1 k2 k3 k4 =>
       by_cases e:l=b
       ·subst e
        rw[xo2 _ _ _ _ _ ha ra0 rb0,wy0 _ hb]
        exact EqAt.same _
       ·refine EqAt.of_refs e ?_
        have l1:=J8 h4
        have l2:=J8 k4
        rw[L2.nd] at ha hb
        by_cases hz:xs.length=ys.length
        ·have:=RcAt.lists (A:=A) (s:=s) (e:=pairEq xs ys) ⟨_,h1,h2,_,h3⟩ ⟨_,k1,k2,_,k3⟩ (by simp at l1 l2;omega) #[13] #[51]
         rw[show PyData.eqv (.list xs) (.list ys)=PyData.eqvAll xs ys by rw[PyData.eqv],<-eqvAll_same_length hz]
         have e1:vs1.size=xs.length:=by simpa using l1
         rw[e1] at this
         exact this
        ·rw[show PyData.eqv (.list xs) (.list ys)=PyData.eqvAll xs ys by rw[PyData.eqv],eqvAll_other_length hz]
         exact RcAt.lists_lengths ⟨_,h1,h2,_,h3⟩ ⟨_,k1,k2,_,k3⟩ (by simp at l1 l2;simp;omega) #[13]
     | dict=>rw[L2.nd] at hb;cases hb
 | .tuple xs,db,A,s,_,_,_,_,ra,rb,ha,hb,hu=>by
   have ra0:=ra
   have rb0:=rb
   cases ra with
   | @tuple l o1 vs1 n1 xs as h1 h2 h3 h4 =>
     cases rb with
     | none=>exact EqAt.tuple_none ⟨_,h1,h2,_,h3⟩ #[13]
     | bool y=>exact EqAt.tuple_bool y ⟨_,h1,h2,_,h3⟩ #[13]
     | int y u=>exact EqAt.tuple_int y u ⟨_,h1,h2,_,h3⟩ #[13]
     | str y u=>exact EqAt.tuple_str y u ⟨_,h1,h2,_,h3⟩ #[13]
     | list k1 k2 k3 k4=>exact EqAt.tuple_list ⟨_,h1,h2,_,h3⟩ ⟨_,k1,k2,_,k3⟩ #[13]
     | @tuple b o vs2 n2 ys bs k1 k2 k3 k4 =>
       by_cases e:l=b
       ·subst e
        rw[xo2 _ _ _ _ _ ha ra0 rb0,wy0 _ hb]
        exact EqAt.same _
       ·refine EqAt.of_refs e ?_
        have l1:=J8 h4
        have l2:=J8 k4
        rw[L2.nd] at ha hb
        have:=RcAt.tuples (A:=A) (s:=s) (e:=pairEq xs ys) ⟨_,h1,h2,_,h3⟩ ⟨_,k1,k2,_,k3⟩ #[13] #[51]
        rw[show PyData.eqv (.tuple xs) (.tuple ys)=PyData.eqvAll xs ys by rw[PyData.eqv],<-eqvAll_eq xs ys]
        have e1:vs1.size=xs.length:=by simpa using l1
        have e2:vs2.size=ys.length:=by simpa using l2
        rw[e1,e2] at this
        exact this
     | dict=>rw[L2.nd] at hb;cases hb
 | .dict _,_,_,_,_,_,_,_,_,_,ha,_,_=>by rw[L2.nd] at ha;cases ha
theorem qf5:∀ (xs ys:List PyData) (A:Around) (s:Shared) (us ws:List Value) (as bs:List Addr),ReadsAll s.heap us xs as->ReadsAll s.heap ws ys bs->nds xs=true->nds ys=true->A.units+min (PyData.depthAll xs) (PyData.depthAll ys)<cLine ->
 ∀ j (h1:j<us.length) (h2:j<ws.length),EqAt A s us[j] ws[j] (pairEq xs ys j)
 | [],_,_,_,_,_,_,_,r,_,_,_,_=>by cases r;intro j h1;simp at h1
 | x :: xs,ys,A,s,_,ws,_,_,r,q,ha,hb,hu=>by
   cases r with
   | @cons u us d ds as1 as2 r1 r2 =>
     cases q with
     | nil=>intro j h1 h2;simp at h2
     | @cons w ws y ys bs1 bs2 q1 q2 =>
       rw[nds,Bool.and_eq_true] at ha hb
       rw[PyData.depthAll,PyData.depthAll] at hu
       intro j h1 h2
       cases j with
       | zero=>exact zj1 x y A s u w _ _ r1 q1 ha.1 hb.1 (room_head hu)
       | succ j =>
         exact qf5 xs ys A s us ws _ _ r2 q2 ha.2 hb.2 (room_tail hu) j (by simpa using h1) (by simpa using h2)
end
variable{db:PyData}
theorem Ae7{da:PyData}{a b:Value}{bs:List Addr}(ra:Reads s.heap a da as)(rb:Reads s.heap b db bs)(ha:nd da=true)(hb:nd db=true)(hu:A.units+min da.depth db.depth<cLine):RcAt A s a b (PyData.eqv da db):=by
 cases ra with
 | none =>
   cases rb with
   | none=>exact RcAt.none_none
   | bool y=>exact RcAt.none_bool y
   | int y u=>exact RcAt.none_int y u
   | str y u=>exact RcAt.none_str y u
   | @list l2 o2 ws n2 ys bs k1 k2 k3 k4=>exact RcAt.none_list ⟨_,k1,k2,_,k3⟩ #[13]
   | @tuple l2 o2 ws n2 ys bs k1 k2 k3 k4=>exact RcAt.none_tuple ⟨_,k1,k2,_,k3⟩ #[13]
   | dict=>rw[L2.nd] at hb;cases hb
 | bool x =>
   cases rb with
   | none=>exact RcAt.bool_none x
   | bool y=>exact RcAt.bool_bool x y
   | int y u=>exact RcAt.bool_int x y u
   | str y u=>exact RcAt.bool_str x y u
   | @list l2 o2 ws n2 ys bs k1 k2 k3 k4=>exact RcAt.bool_list x ⟨_,k1,k2,_,k3⟩ #[13]
   | @tuple l2 o2 ws n2 ys bs k1 k2 k3 k4=>exact RcAt.bool_tuple x ⟨_,k1,k2,_,k3⟩ #[13]
   | dict=>rw[L2.nd] at hb;cases hb
 | int x t =>
   cases rb with
   | none=>exact RcAt.int_none x t
   | bool y=>exact RcAt.int_bool x t y
   | int y u=>exact RcAt.int_int x t y u
   | str y u=>exact RcAt.int_str x t y u
   | @list l2 o2 ws n2 ys bs k1 k2 k3 k4=>exact RcAt.int_list x t ⟨_,k1,k2,_,k3⟩ #[13]
   | @tuple l2 o2 ws n2 ys bs k1 k2 k3 k4=>exact RcAt.int_tuple x t ⟨_,k1,k2,_,k3⟩ #[13]
   | dict=>rw[L2.nd] at hb;cases hb
 | str x t =>
   cases rb with
   | none=>exact RcAt.str_none x t
   | bool y=>exact RcAt.str_bool x t y
   | int y u=>exact RcAt.str_int x t y u
   | str y u=>exact RcAt.str_str x t y u
   | @list l2 o2 ws n2 ys bs k1 k2 k3 k4=>exact RcAt.str_list x t ⟨_,k1,k2,_,k3⟩ #[13]
   | @tuple l2 o2 ws n2 ys bs k1 k2 k3 k4=>exact RcAt.str_tuple x t ⟨_,k1,k2,_,k3⟩ #[13]
   | dict=>rw[L2.nd] at hb;cases hb
 | @list l o vs n xs as h1 h2 h3 h4 =>
   cases rb with
   | none=>exact RcAt.list_none ⟨_,h1,h2,_,h3⟩ #[13]
   | bool y=>exact RcAt.list_bool y ⟨_,h1,h2,_,h3⟩ #[13]
   | int y u=>exact RcAt.list_int y u ⟨_,h1,h2,_,h3⟩ #[13]
   | str y u=>exact RcAt.list_str y u ⟨_,h1,h2,_,h3⟩ #[13]
   | @list l2 o2 ws n2 ys bs k1 k2 k3 k4 =>
     walk_at"8"
     have hi:∀ j (h1:j<vs.size) (h2:j<ws.size),EqAt A.in1 s vs[j] ws[j] (pairEq xs ys j):=fun j h1 h2=>by
      walk_at"5"
     have hu':A.units<cLine:=room_here hu
     rw[show PyData.eqv (.list xs) (.list ys)=PyData.eqvAll xs ys by rw[PyData.eqv]]
     by_cases hz:xs.length=ys.length
     ·have q:=RcAt.lists (A:=A) (s:=s) (e:=pairEq xs ys) ⟨_,h1,h2,_,h3⟩ ⟨_,k1,k2,_,k3⟩ #[0] hu' hi
      rw[l1,eqvAll_same_length hz] at q
      exact q
     ·rw[eqvAll_other_length hz]
      exact RcAt.lists_lengths ⟨_,h1,h2,_,h3⟩ ⟨_,k1,k2,_,k3⟩ (by simp;omega) hu'
   | @tuple l2 o2 ws n2 ys bs k1 k2 k3 k4=>exact RcAt.list_tuple ⟨_,h1,h2,_,h3⟩ ⟨_,k1,k2,_,k3⟩ #[13]
   | dict=>rw[L2.nd] at hb;cases hb
 | @tuple l o vs n xs as h1 h2 h3 h4 =>
   cases rb with
   | none=>exact RcAt.tuple_none ⟨_,h1,h2,_,h3⟩ #[13]
   | bool y=>exact RcAt.tuple_bool y ⟨_,h1,h2,_,h3⟩ #[13]
   | int y u=>exact RcAt.tuple_int y u ⟨_,h1,h2,_,h3⟩ #[13]
   | str y u=>exact RcAt.tuple_str y u ⟨_,h1,h2,_,h3⟩ #[13]
   | @list l2 o2 ws n2 ys bs k1 k2 k3 k4=>exact RcAt.tuple_list ⟨_,h1,h2,_,h3⟩ ⟨_,k1,k2,_,k3⟩ #[13]
   | @tuple l2 o2 ws n2 ys bs k1 k2 k3 k4 =>
     walk_at"8"
     have hi:∀ j (h1:j<vs.size) (h2:j<ws.size),EqAt A.in1 s vs[j] ws[j] (pairEq xs ys j):=fun j h1 h2=>by
      walk_at"5"
     have hu':A.units<cLine:=room_here hu
     rw[show PyData.eqv (.tuple xs) (.tuple ys)=PyData.eqvAll xs ys by rw[PyData.eqv]]
     have q:=RcAt.tuples (A:=A) (s:=s) (e:=pairEq xs ys) ⟨_,h1,h2,_,h3⟩ ⟨_,k1,k2,_,k3⟩ hu' hi
     rw[l1,l2,eqvAll_eq xs ys] at q
     exact q
   | dict=>rw[L2.nd] at hb;cases hb
 | dict=>rw[L2.nd] at ha;cases ha
theorem zj2{da:PyData}{a b:Value}{bs:List Addr}(ra:Reads s.heap a da as)(rb:Reads s.heap b db bs)(ha:nd da=true)(hb:nd db=true)(hu:A.units+min da.depth db.depth<cLine):RcNeAt A s a b (!PyData.eqv da db):=by
 cases ra with
 | none =>
   cases rb with
   | none=>exact RcNeAt.none_none
   | bool y=>exact RcNeAt.none_bool y
   | int y u=>exact RcNeAt.none_int y u
   | str y u=>exact RcNeAt.none_str y u
   | @list l2 o2 ws n2 ys bs k1 k2 k3 k4=>exact RcNeAt.none_list ⟨_,k1,k2,_,k3⟩ #[13]
   | @tuple l2 o2 ws n2 ys bs k1 k2 k3 k4=>exact RcNeAt.none_tuple ⟨_,k1,k2,_,k3⟩ #[13]
   | dict=>rw[L2.nd] at hb;cases hb
 | bool x =>
   cases rb with
   | none=>exact RcNeAt.bool_none x
   | bool y=>exact RcNeAt.bool_bool x y
   | int y u=>exact RcNeAt.bool_int x y u
   | str y u=>exact RcNeAt.bool_str x y u
   | @list l2 o2 ws n2 ys bs k1 k2 k3 k4=>exact RcNeAt.bool_list x ⟨_,k1,k2,_,k3⟩ #[13]
   | @tuple l2 o2 ws n2 ys bs k1 k2 k3 k4=>exact RcNeAt.bool_tuple x ⟨_,k1,k2,_,k3⟩ #[13]
   | dict=>rw[L2.nd] at hb;cases hb
 | int x t =>
   cases rb with
   | none=>exact RcNeAt.int_none x t
   | bool y=>exact RcNeAt.int_bool x t y
   | int y u=>exact RcNeAt.int_int x t y u
   | str y u=>exact RcNeAt.int_str x t y u
   | @list l2 o2 ws n2 ys bs k1 k2 k3 k4=>exact RcNeAt.int_list x t ⟨_,k1,k2,_,k3⟩ #[13]
   | @tuple l2 o2 ws n2 ys bs k1 k2 k3 k4=>exact RcNeAt.int_tuple x t ⟨_,k1,k2,_,k3⟩ #[13]
   | dict=>rw[L2.nd] at hb;cases hb
 | str x t =>
   cases rb with
   | none=>exact RcNeAt.str_none x t
   | bool y=>exact RcNeAt.str_bool x t y
   | int y u=>exact RcNeAt.str_int x t y u
   | str y u=>exact RcNeAt.str_str x t y u
   | @list l2 o2 ws n2 ys bs k1 k2 k3 k4=>exact RcNeAt.str_list x t ⟨_,k1,k2,_,k3⟩ #[13]
   | @tuple l2 o2 ws n2 ys bs k1 k2 k3 k4=>exact RcNeAt.str_tuple x t ⟨_,k1,k2,_,k3⟩ #[13]
   | dict=>rw[L2.nd] at hb;cases hb
 | @list l o vs n xs as h1 h2 h3 h4 =>
   cases rb with
   | none=>exact RcNeAt.list_none ⟨_,h1,h2,_,h3⟩ #[13]
   | bool y=>exact RcNeAt.list_bool y ⟨_,h1,h2,_,h3⟩ #[13]
   | int y u=>exact RcNeAt.list_int y u ⟨_,h1,h2,_,h3⟩ #[13]
   | str y u=>exact RcNeAt.list_str y u ⟨_,h1,h2,_,h3⟩ #[13]
   | @list l2 o2 ws n2 ys bs k1 k2 k3 k4 =>
     walk_at"8"
     have hi:∀ j (h1:j<vs.size) (h2:j<ws.size),EqAt A.in1 s vs[j] ws[j] (pairEq xs ys j):=fun j h1 h2=>by
      walk_at"5"
     have hu':A.units<cLine:=room_here hu
     rw[show PyData.eqv (.list xs) (.list ys)=PyData.eqvAll xs ys by rw[PyData.eqv]]
     by_cases hz:xs.length=ys.length
     ·have q:=RcNeAt.lists (A:=A) (s:=s) (e:=pairEq xs ys) ⟨_,h1,h2,_,h3⟩ ⟨_,k1,k2,_,k3⟩ #[0] hu' hi
      rw[l1,eqvAll_same_length hz] at q
      exact q
     ·rw[eqvAll_other_length hz]
      exact RcNeAt.lists_lengths ⟨_,h1,h2,_,h3⟩ ⟨_,k1,k2,_,k3⟩ (by simp;omega) hu'
   | @tuple l2 o2 ws n2 ys bs k1 k2 k3 k4=>exact RcNeAt.list_tuple ⟨_,h1,h2,_,h3⟩ ⟨_,k1,k2,_,k3⟩ #[13]
   | dict=>rw[L2.nd] at hb;cases hb
 | @tuple l o vs n xs as h1 h2 h3 h4 =>
   cases rb with
   | none=>exact RcNeAt.tuple_none ⟨_,h1,h2,_,h3⟩ #[13]
   | bool y=>exact RcNeAt.tuple_bool y ⟨_,h1,h2,_,h3⟩ #[13]
   | int y u=>exact RcNeAt.tuple_int y u ⟨_,h1,h2,_,h3⟩ #[13]
   | str y u=>exact RcNeAt.tuple_str y u ⟨_,h1,h2,_,h3⟩ #[13]
   | @list l2 o2 ws n2 ys bs k1 k2 k3 k4=>exact RcNeAt.tuple_list ⟨_,h1,h2,_,h3⟩ ⟨_,k1,k2,_,k3⟩ #[13]
   | @tuple l2 o2 ws n2 ys bs k1 k2 k3 k4 =>
     walk_at"8"
     have hi:∀ j (h1:j<vs.size) (h2:j<ws.size),EqAt A.in1 s vs[j] ws[j] (pairEq xs ys j):=fun j h1 h2=>by
      walk_at"5"
     have hu':A.units<cLine:=room_here hu
     rw[show PyData.eqv (.tuple xs) (.tuple ys)=PyData.eqvAll xs ys by rw[PyData.eqv]]
     have q:=RcNeAt.tuples (A:=A) (s:=s) (e:=pairEq xs ys) ⟨_,h1,h2,_,h3⟩ ⟨_,k1,k2,_,k3⟩ hu' hi
     rw[l1,l2,eqvAll_eq xs ys] at q
     exact q
   | dict=>rw[L2.nd] at hb;cases hb
 | dict=>rw[L2.nd] at ha;cases ha
theorem wk9{k:Nat}(r:qk8 k A):A.units+190<cLine:=by have:=r.un;omega
def P9(K:Fg):R2:=fun x y H Q=>rEq x y H Q\/∃ d e,Dv K H d x/\Dv K H e y/\min d.depth e.depth<=190/\Q (.bl (PyData.eqv d e)) H
def qq5(K:Fg):R2:=fun x y H Q=>rNe x y H Q\/∃ d e,Dv K H d x/\Dv K H e y/\min d.depth e.depth<=190/\Q (.bl (!PyData.eqv d e)) H
theorem qo7(hu:X.A.units+190<cLine):OpR X #[74,.Eq] (P9 X.K):=by
 refine Aj3.or ?_
 walk_at"7"
 walk_at"32"
 exact Ae7 ra rb (Dv.nd d x hx) (Dv.nd e y hy) hroom X.prog X.w X.xe _ ⟨.bl _,H,I,rfl,q⟩
theorem xo3(hu:X.A.units+190<cLine):OpR X #[74,.NotEq] (qq5 X.K):=by
 refine Aj4.or ?_
 walk_at"7"
 walk_at"32"
 exact zj2 ra rb (Dv.nd d x hx) (Dv.nd e y hy) hroom X.prog X.w X.xe _ ⟨.bl _,H,I,rfl,q⟩
def E7(K:Fg):R2:=fun x y H Q=>rI0 (fun i j=>.int (i+j)) x y H Q\/(∃ i j,x=.str i/\y=.str j/\i.length+j.length<=sizeLine/\Q (.str (i++j)) H)\/Ak5 x y H Q\/zz2 K x y H Q
theorem D4:OpR X (binaryOp .Add) (E7 X.K):=Ac6.or (ys4.or (Ad8.or zs8))
def zz6:R2:=fun x y H Q=>∃ z n,x=.str z/\y=.int n/\0<=n/\n<=1000/\z.length<=1000/\Q (.str (PySem.Txt.mul z n)) H
theorem yt9:OpR X (binaryOp .Mult) zz6:=by
 walk_at"7"
 obtain⟨z,n,rfl,rfl,h0,h1,h2,q⟩:=h
 obtain⟨t,rfl⟩:=rx
 obtain⟨t',rfl⟩:=ry
 refine wpAny_with_toks (n:=1) I.tk (SB.mul ⟨?_,fun hn _=>?_,fun hn _=>?_⟩ fun t' k ht=>⟨.str _,H,I.tok _ ht,⟨_,rfl⟩,q⟩)
 ·rw[decide_eq_false #[0],decide_eq_false #[0]];rfl
 ·have e1:(2 ^ 63-1:Int) / n>=(2 ^ 63-1) / 1000:=by
   have hp:(0:Int)<n:=by omega
   apply Int.le_ediv_of_mul_le hp
   have:(2 ^ 63-1:Int) / 1000*n<=(2 ^ 63-1) / 1000*1000:=Int.mul_le_mul_of_nonneg_left h1 #[10]
   have e:(2 ^ 63-1:Int) / 1000*1000<=2 ^ 63-1:=by decide
   omega
  have e2:(2 ^ 63-1:Int) / 1000>=1000:=by decide
  omega
 ·have:z.length*n.toNat<=1000*1000:=Nat.mul_le_mul h2 #[0]
  have hs:sizeLine=16777216:=sizeLine_eq
  unfold Builtin.Str.tooLong
  exact decide_eq_false #[0]
def qw6:R2:=fun x y H Q=>rI zh4 (fun i j=>.int (i*j)) x y H Q\/zz6 x y H Q\/Ak6 x y H Q
theorem wy1:OpR X (binaryOp .Mult) qw6:=Ac8.or (yt9.or Ad9)
def Ao3:R2:=fun x y H Q=>∃ i j:Str,x=.str i/\y=.str j/\Q (.bl (decide (i.cps.toList<j.cps.toList))) H
def Al1:R2:=fun x y H Q=>∃ i j:Str,x=.str i/\y=.str j/\Q (.bl (!decide (j.cps.toList<i.cps.toList))) H
def Al2:R2:=fun x y H Q=>∃ i j:Str,x=.str i/\y=.str j/\Q (.bl (decide (j.cps.toList<i.cps.toList))) H
def Al3:R2:=fun x y H Q=>∃ i j:Str,x=.str i/\y=.str j/\Q (.bl (!decide (i.cps.toList<j.cps.toList))) H
theorem zd6:OpR X #[74,.LtE] Al1:=by
 walk_at"1"
 exact PySem.P.le_str ⟨.bl _,H,I,rfl,q⟩
theorem zd7:OpR X #[74,.Gt] Al2:=by
 walk_at"1"
 exact PySem.P.gt_str ⟨.bl _,H,I,rfl,q⟩
theorem zd8:OpR X #[74,.GtE] Al3:=by
 walk_at"1"
 exact PySem.P.ge_str ⟨.bl _,H,I,rfl,q⟩
def xo4:R2:=fun x y H Q=>rI0 (fun i j=>.bl (decide (i<j))) x y H Q\/Ao3 x y H Q
def yu0:R2:=fun x y H Q=>rI0 (fun i j=>.bl (decide (i<=j))) x y H Q\/Al1 x y H Q
def wq9:R2:=fun x y H Q=>rI0 (fun i j=>.bl (decide (j<i))) x y H Q\/Al2 x y H Q
def zd9:R2:=fun x y H Q=>rI0 (fun i j=>.bl (decide (j<=i))) x y H Q\/Al3 x y H Q
theorem zj3:OpR X #[74,.Lt] xo4:=Aj5.or zc4
theorem yd6:OpR X #[74,.LtE] yu0:=Aj6.or zd6
theorem yd7:OpR X #[74,.Gt] wq9:=Aj7.or zd7
theorem zj4:OpR X #[74,.GtE] zd9:=Aj8.or zd8
def Ao4(neg:Bool):R2:=fun x y H Q=>∃ i j:Str,x=.str i/\y=.str j/\Q (.bl (if neg then !(!(Builtin.Str.occurrences j i 0 j.length 1).isEmpty) else !(Builtin.Str.occurrences j i 0 j.length 1).isEmpty)) H
def zj5(K:Fg)(neg:Bool):R2:=fun x y H Q=>rIn K neg x y H Q\/Ao4 neg x y H Q
theorem Ae8:OpR X #[74,.In] (zj5 X.K false):=zd2.or zc5
theorem ze0:OpR X #[74,.NotIn] (zj5 X.K true):=yc9.or yd0
def xo5:R2:=fun x y H Q=>y=.non/\Q (.bl (decide (x=.non))) H
def qq6:R2:=fun x y H Q=>y=.non/\Q (.bl (!decide (x=.non))) H
theorem yd8:OpR X #[74,.Is] xo5:=Ac9
theorem wp1:OpR X #[74,.IsNot] qq6:=zs0
def O3(K:Fg):List V->Hp->VK->Prop:=fun xs H Q=>(∃ p ys,xs=[.ref p]/\(SqL K H p ys\/SqT K H p ys)/\Q (.int ys.length) H)\/(∃ z,xs=[.str z]/\z.length<=sizeLine/\Q (.int z.length) H) \/
 ∃ a kvs,xs=[V.ref a]/\H a=some (.dK kvs)/\Q (.int kvs.length) H
theorem qs4:qj3 X (.builtin "len") (O3 X.K):=yd1.or (yd2.or zd5)
def qa3(K:Fg):List V->Hp->VK->Prop:=fun xs H Q=>∃ p ys,xs=[.ref p]/\((SqL K H p ys/\∀ l,H l=none->Q (.ref l) (upd H l (.tup ys)))\/(SqT K H p ys/\Q (.ref p) H))
theorem qn0:qj3 X (.type "tuple") (qa3 X.K):=xu8
def xz5:List V->Hp->VK->Prop:=fun xs H Q=>(∃ i,xs=[.int i]/\Q (.int i) H)\/∃ k,xs=[.bl k]/\Q (.int (if k then 1 else 0)) H
theorem wp2:qj3 X (.type "int") xz5:=zc6
theorem wy2:∀ {xs:List Str} {us:List Value},E6 (B4 xs) us->StrsAre us xs
 | [],_,h=>by cases h;exact .nil
 | x :: xs,_,h=>by
   have h:E6 (V.str x::B4 xs) _:=h
   cases h with
   | cons r t =>
     obtain⟨t',rfl⟩:=r
     exact .cons x t' (wy2 t)
theorem xz6:∀ {xs:List Str} {us:List Value},StrsAre us xs->E6 (B4 xs) us
 | _,_,.nil=>.nil
 | _,_,.cons y t h=>.cons ⟨t,rfl⟩ (xz6 h)
def wy3(K:Fg):List V->Hp->VK->Prop:=fun xs H Q=>∃ p ys,xs=[.ref p]/\SqL K H p (B4 ys)/\ys.length<64 /\
 ∀ l ys',ys'.Perm ys->sortedS ys'=true->H l=none->Q (.ref l) (upd H l #[24,ys'])
theorem we0:qj3 X (.builtin "sorted") (wy3 X.K):=by
 intro pins s σ H xs us Q I r h
 obtain⟨p,ys,rfl,hq,hl,q⟩:=h
 obtain⟨u,rfl,rx⟩:=qz9 r
 cases rx
 obtain⟨its,rv,pl,hz⟩:=I.list hq
 have hlen:=rv.length
 have hn:(B4 ys).length=ys.length:=length_map _
 refine sorted_strs pl.isList (wy2 rv) #[0] fun out ss' h1 h2 h3=>?_
 have kp:∀ b o,s.heap.get? b=some o->(sortedAll s.heap its out).get? b=some o:=fun b o e=>sortedAll_old e
 obtain⟨e,he⟩:=sortedAll_at s.heap its out
 have hf:H #[28]=none:=I.hok.fresh (Nat.le_succ _)
 have hz':(B4 ss').length<=sizeLine:=by
  have:=h2.length_eq
  show(ss'.map V.str).length<=_
  rw[length_map];rw[hn] at hz;omega
 refine⟨.ref #[28],_,I.laid (t':=s.toks) (o:=.lst (B4 ss')) kp (Nat.le_succ _) ?_,rfl,q _ _ h2 h3 hf⟩
 exact⟨hz',out.toList,e,xz6 h1,by simpa [seqObj] using he⟩
def zj6(K:Fg):V->List V->Hp->VK->Prop:=fun x vs H Q=>∃ z p ys,x=.str z/\vs=[.ref p]/\(SqL K H p (B4 ys)\/SqT K H p (B4 ys))/\(ys.map (·.length)).sum+ys.length*z.length<=16777216/\Q (.str (PySem.Txt.join z ys)) H
theorem yy9:MtR X "str.join" (zj6 X.K):=by
 walk_at"28"
 obtain⟨z,p,ys,rfl,rfl,hq,hs,q⟩:=h
 obtain⟨t,rfl⟩:=rx
 obtain⟨u,rfl,ru⟩:=rv.one
 cases ru
 rcases hq with hq|hq
 ·obtain⟨its,r,pl,hz⟩:=I.list hq
  exact wpAny_with_toks (n:=1) I.tk (join_list pl.isList (by simpa using wy2 r) hs fun t' k ht=>⟨.str _,H,I.tok _ ht,⟨_,rfl⟩,q⟩)
 ·obtain⟨its,r,pl,hz⟩:=I.tuple hq
  exact wpAny_with_toks (n:=1) I.tk (join_tuple pl (by simpa using wy2 r) hs fun t' k ht=>⟨.str _,H,I.tok _ ht,⟨_,rfl⟩,q⟩)
def qn1{α:Type}(xs:List α)(k:Nat)(y:α):List α:=xs.take k++y::xs.drop k
def xm2:V->List V->Hp->VK->Prop:=fun x vs H Q=>∃ (l:Addr) (xs:List V) (i:Int) (y:V),x=.ref l/\vs=[.int i,y]/\H l=some (.lst xs)/\0<=i/\i<=xs.length/\xs.length<sizeLine/\Q .non (upd H l (.lst (qn1 xs i.toNat y)))
theorem xz7:MtR X "list.insert" xm2:=by
 walk_at"28"
 obtain⟨l,xs,i,y,rfl,rfl,hH,h0,h1,hz,q⟩:=h
 cases rx
 obtain⟨u,w',rfl,ru,rw'⟩:=rv.two
 obtain⟨t,rfl⟩:=ru
 obtain⟨z,its,n,r,hl,e⟩:=I.lstM hH
 have hs:sizeLine=16777216:=sizeLine_eq
 refine call_meets F.slot_list_insert ⟨_,e,rfl⟩ F.entry_list_insert (F.args_list_insert_3 _ _ _) (AutoListH.list_insert_list_int_val_1 l its.toArray n i t w' (by rw[fitsIndex_both #[0] #[0]];exact Bool.false_ne_true) (by rw[size_toArray];omega)) ⟨e,?_⟩
 refine⟨.non,_,I.lset (its':=qn1 its i.toNat w') (t':=s.toks) hH e ?_ ?_ ?_,rfl,q⟩
 ·have hi:¬i<0:=by omega
  have hm:min i.toNat its.length=i.toNat:=by omega
  simp only[hi,if_false,size_toArray,hm]
  unfold qn1
  apply Array.toList_inj.mp
  simp
  exact take_of_length_le (by rw[length_drop];exact Nat.le_refl _)
 ·exact E6.append (r.take i.toNat) (.cons rw' (r.drop i.toNat))
 ·unfold qn1
  rw[length_append,length_cons,length_take,length_drop]
  omega
def qq7(K:Fg)(tl:TE):TI:=fun σ H R=>tl σ H fun x H1=>∃ a,x=.ref a/\(((∃ xs,SqL K H1 a xs)/\R (Itl K a) H1)\/((∃ xs,SqT K H1 a xs)/\R (Itt K a) H1))
variable{tl:TE}
theorem qs9{tg l:Expr}(hl:PE X l tl):PI X tg l (qq7 X.K tl):=by
 intro pins s σ H R I h
 refine thn (hl pins s σ H _ I h) fun v s1 zq=>?_
 walk_at"33"
 obtain⟨a,e,q⟩:=q1
 subst e
 cases r1
 rcases q with⟨⟨xs,hq⟩,q⟩|⟨⟨xs,hq⟩,q⟩
 ·obtain⟨its,rv,p,hz⟩:=I1.list hq
  refine wpAny_pyIter_list p.isList ?_
  refine⟨s1.heap.objs.size,[s1.heap.objs.size],_,_,H1,rfl,I1.kept (t':=s1.toks) fun b o e=>Heap.get?_push_of_some _ e,zc1 a _,⟨_,Heap.get?_push_size _ rfl,rfl,rfl⟩,fun b hb=>?_,q⟩
  walk_at"16"
 ·obtain⟨its,rv,p,hz⟩:=I1.tuple hq
  refine wpAny_pyIter_tuple (show s1.heap.IsTuple a its.toArray from p) ?_
  refine⟨s1.heap.objs.size,[s1.heap.objs.size],_,_,H1,rfl,I1.kept (t':=s1.toks) fun b o e=>Heap.get?_push_of_some _ e,ys1 a _,⟨_,Heap.get?_push_size _ rfl,rfl,rfl⟩,fun b hb=>?_,q⟩
  walk_at"16"
theorem zj7 (h:wi σ H fun J H1=>∃ W:Nat->Nat->St->Hp->Prop,(∃ m,W 0 m σ H1)/\∀ i m σ H,W i m σ H ->
 (J.stop i H/\D.nx σ H)\/#[23]):qf4 wi g tb D σ H:=h
abbrev wu6(g:TG)(tb:TS)(D:V5)(σ:St)(J:It)(H1:Hp):Prop:=∃ W:Nat->Nat->St->Hp->Prop,(∃ m,W 0 m σ H1)/\∀ i m σ H,W i m σ H ->
 (J.stop i H/\D.nx σ H)\/#[23]
theorem yd9(hq:SqL K H a xs\/SqT K H a xs)(Pv:Nat->St->Hp->Prop)(h0:Pv 0 σ H)(hl:SqL K H a xs->∀ i σ H,i<=xs.length->Pv i σ H->SqL K H a xs)(ht:SqT K H a xs->∀ i σ H,i<=xs.length->Pv i σ H->SqT K H a xs)(hs:∀ i x σ H,xs[i]?=some x->Pv i σ H->g x σ H fun σ2 H2=>tb {D with nx:=PAt Pv (i+1),ct:=PAt Pv (i+1),bk:=D.nx} σ2 H2)(hd:∀ σ H,Pv xs.length σ H->D.nx σ H) :
 ∃ b,V.ref a=.ref b/\#[30]:=by
 refine⟨a,rfl,?_⟩
 rcases hq with hq|hq
 ·exact .inl ⟨⟨xs,hq⟩,xn5 Pv h0 (hl hq) hs hd⟩
 ·exact .inr ⟨⟨xs,hq⟩,yc3 Pv h0 (ht hq) hs hd⟩
theorem wa1{n:Int}(h0:0<=n)(hn:n<2 ^ 62)(Pv:Nat->St->Hp->Prop)(p0:Pv 0 σ H)(hs:∀ (i:Nat) σ H,(i:Int)<n->Pv i σ H->g (.int i) σ H fun σ2 H2=>tb {D with nx:=PAt Pv (i+1),ct:=PAt Pv (i+1),bk:=D.nx} σ2 H2)(hd:∀ σ H,Pv n.toNat σ H->D.nx σ H) :
 ∃ j:Int,[V.int n]=[.int j]/\-(2 ^ 62)<=j/\j<2 ^ 62/\wu6 g tb D σ (Itr 0 j.toNat) H :=
 ⟨n,rfl,by omega,hn,xy3 (lo:=0) (n:=n.toNat) Pv p0 (fun i σ H hi p=>by rw[Int.zero_add];exact hs i σ H #[0] p) hd⟩
theorem zj8{lo hi:Int}(h1:-(2 ^ 62)<=lo)(h2:lo<=hi)(h3:hi<2 ^ 62)(Pv:Nat->St->Hp->Prop)(p0:Pv 0 σ H)(hs:∀ (i:Nat) σ H,lo+i<hi->Pv i σ H->g (.int (lo+i)) σ H fun σ2 H2=>tb {D with nx:=PAt Pv (i+1),ct:=PAt Pv (i+1),bk:=D.nx} σ2 H2)(hd:∀ σ H,Pv (hi-lo).toNat σ H->D.nx σ H) :
 ∃ i j:Int,[V.int lo,V.int hi]=[.int i,.int j]/\(-(2 ^ 62)<=i/\i<2 ^ 62/\-(2 ^ 62)<=j/\j<2 ^ 62)/\wu6 g tb D σ (Itr i (j-i).toNat) H :=
 ⟨lo,hi,rfl,⟨h1,by omega,by omega,h3⟩,xy3 (lo:=lo) (n:=(hi-lo).toNat) Pv p0 (fun i σ H hi p=>hs i σ H #[0] p) hd⟩
abbrev wg7(g:TG)(tt:TT)(te:TE)(σ':St)(Q:VK)(J:It)(H1:Hp):Prop:=∃ W:Nat->Nat->List V->Hp->Prop,(∃ m,W 0 m [] H1)/\∀ i m ys H,W i m ys H->ys.length<=sizeLine /\
 ((J.stop i H/\∀ p,H p=none->Q (.ref p) #[42,ys]) \/
  (J.go i H/\∃ NN:List V->Hp->Prop,(∀ ys' H',NN ys' H'->∃ m',m'<m/\W (i+1) m' ys' H')/\∀ x H',J.yld i H x H'->g x σ' H' fun σ2 H2=>tt σ2 H2 fun b H3 =>
   if b=true then te σ2 H3 fun y H4=>NN (ys++[y]) H4 else NN ys H3))
theorem zt7{Q:VK}(h:wi σ H (wg7 g tt te (wk8 fr σ) Q)):qq1 fr wi g tt te σ H Q:=h
variable{σ':St}
theorem wp3{Q:VK}(item:Nat->V->Prop)(Pv:Nat->List V->Hp->Prop)(h0:Pv 0 [] H)(hlen:∀ i ys H,i<=n->Pv i ys H->ys.length<=sizeLine)(hgo:∀ i ys H,i<n->Pv i ys H->J.go i H)(hy:∀ i ys H x H',i<n->Pv i ys H->J.yld i H x H'->H'=H/\item i x)(hst:∀ ys H,Pv n ys H->J.stop n H)(hs:∀ i x ys H,i<n->item i x->Pv i ys H->g x σ' H fun σ2 H2=>tt σ2 H2 fun b H3=>if b=true then te σ2 H3 fun y H4=>PAt Pv (i+1) (ys++[y]) H4 else PAt Pv (i+1) ys H3)(hd:∀ ys H,Pv n ys H->∀ p,H p=none->Q (.ref p) #[42,ys]):wg7 g tt te σ' Q J H:=by
 refine⟨fun i m ys H=>m=n-i/\i<=n/\Pv i ys H,⟨n,by simp,Nat.zero_le _,h0⟩,?_⟩
 rintro i m ys H ⟨rfl,hi,p⟩
 refine⟨hlen i ys H hi p,?_⟩
 by_cases hlt:i<n
 ·refine .inr ⟨hgo i ys H hlt p,Pv (i+1),fun ys' H' q=>⟨n-(i+1),by omega,rfl,hlt,q⟩,fun x H' y=>?_⟩
  obtain⟨rfl,hx⟩:=hy i ys H x H' hlt p y
  exact hs i x ys _ hlt hx p
 ·have e:i=n:=by omega
  subst e
  exact .inl ⟨hst ys H p,hd ys H p⟩
theorem yl7{Q:VK}(hq:SqL K H a xs\/SqT K H a xs)(Pv:Nat->List V->Hp->Prop)(h0:Pv 0 [] H)(hlen:∀ i ys H,i<=xs.length->Pv i ys H->ys.length<=sizeLine)(hl:SqL K H a xs->∀ i ys H,i<=xs.length->Pv i ys H->SqL K H a xs)(ht:SqT K H a xs->∀ i ys H,i<=xs.length->Pv i ys H->SqT K H a xs)(hs:∀ i x ys H,xs[i]?=some x->Pv i ys H->g x σ' H fun σ2 H2=>tt σ2 H2 fun b H3=>if b=true then te σ2 H3 fun y H4=>PAt Pv (i+1) (ys++[y]) H4 else PAt Pv (i+1) ys H3)(hd:∀ ys H,Pv xs.length ys H->∀ p,H p=none->Q (.ref p) #[42,ys]) :
 ∃ b,V.ref a=.ref b/\#[54]:=by
 refine⟨a,rfl,?_⟩
 have get:∀ i,i<xs.length->∃ x,xs[i]?=some x:=fun i hi=>⟨xs[i],by simp[hi]⟩
 rcases hq with hq|hq
 ·refine .inl ⟨⟨xs,hq⟩,wp3 (n:=xs.length) (fun i x=>xs[i]?=some x) Pv h0 hlen (fun i ys H hi p=>?_) (fun i ys H x H' hi p y=>?_) (fun ys H p=>?_) (fun i x ys H _ hx p=>hs i x ys H hx p) hd⟩
  ·obtain⟨x,hx⟩:=get i hi
   exact⟨xs,x,hl hq i ys H (Nat.le_of_lt hi) p,hx⟩
  ·exact⟨y.1,y.2 xs (hl hq i ys H (Nat.le_of_lt hi) p)⟩
  ·exact⟨xs,hl hq _ ys H #[11] p,Nat.le_refl _⟩
 ·refine .inr ⟨⟨xs,hq⟩,wp3 (n:=xs.length) (fun i x=>xs[i]?=some x) Pv h0 hlen (fun i ys H hi p=>?_) (fun i ys H x H' hi p y=>?_) (fun ys H p=>?_) (fun i x ys H _ hx p=>hs i x ys H hx p) hd⟩
  ·obtain⟨x,hx⟩:=get i hi
   exact⟨xs,x,ht hq i ys H (Nat.le_of_lt hi) p,hx⟩
  ·exact⟨y.1,y.2 xs (ht hq i ys H (Nat.le_of_lt hi) p)⟩
  ·exact⟨xs,ht hq _ ys H #[11] p,Nat.le_refl _⟩
theorem wp4{Q:VK}(hq:SqL K H a xs)(Pv:Nat->List V->Hp->Prop)(h0:Pv 0 [] H)(hlen:∀ i ys H,i<=xs.length->Pv i ys H->ys.length<=sizeLine)(hl:∀ i ys H,i<=xs.length->Pv i ys H->SqL K H a xs)(hs:∀ i x ys H,xs[i]?=some x->Pv i ys H->g x σ' H fun σ2 H2=>tt σ2 H2 fun b H3=>if b=true then te σ2 H3 fun y H4=>PAt Pv (i+1) (ys++[y]) H4 else PAt Pv (i+1) ys H3)(hd:∀ ys H,Pv xs.length ys H->∀ p,H p=none->Q (.ref p) #[42,ys]) :
 ∃ b,V.ref a=.ref b/\#[54]:=by
 refine⟨a,rfl,.inl ⟨⟨xs,hq⟩,wp3 (n:=xs.length) (fun i x=>xs[i]?=some x) Pv h0 hlen (fun i ys H hi p=>?_) (fun i ys H x H' hi p y=>?_) (fun ys H p=>?_) (fun i x ys H _ hx p=>hs i x ys H hx p) hd⟩⟩
 ·exact⟨xs,xs[i],hl i ys H (Nat.le_of_lt hi) p,by simp[hi]⟩
 ·exact⟨y.1,y.2 xs (hl i ys H (Nat.le_of_lt hi) p)⟩
 ·exact⟨xs,hl _ ys H #[11] p,Nat.le_refl _⟩
theorem wy4(hq:SqL K H a xs)(Pv:Nat->St->Hp->Prop)(h0:Pv 0 σ H)(hl:∀ i σ H,i<=xs.length->Pv i σ H->SqL K H a xs)(hs:∀ i x σ H,xs[i]?=some x->Pv i σ H->g x σ H fun σ2 H2=>tb {D with nx:=PAt Pv (i+1),ct:=PAt Pv (i+1),bk:=D.nx} σ2 H2)(hd:∀ σ H,Pv xs.length σ H->D.nx σ H) :
 ∃ b,V.ref a=.ref b/\#[30] :=
 ⟨a,rfl,.inl ⟨⟨xs,hq⟩,xn5 Pv h0 hl hs hd⟩⟩
theorem xd6{Q:VK}{n:Int}(h0:0<=n)(hn:n<2 ^ 62)(Pv:Nat->List V->Hp->Prop)(p0:Pv 0 [] H)(hlen:∀ (i:Nat) ys H,(i:Int)<=n->Pv i ys H->ys.length<=sizeLine)(hs:∀ (i:Nat) ys H,(i:Int)<n->Pv i ys H->g (.int i) σ' H fun σ2 H2=>tt σ2 H2 fun b H3=>if b=true then te σ2 H3 fun y H4=>PAt Pv (i+1) (ys++[y]) H4 else PAt Pv (i+1) ys H3)(hd:∀ ys H,Pv n.toNat ys H->∀ p,H p=none->Q (.ref p) #[42,ys]) :
 ∃ j:Int,[V.int n]=[.int j]/\-(2 ^ 62)<=j/\j<2 ^ 62/\wg7 g tt te σ' Q (Itr 0 j.toNat) H :=
 ⟨n,rfl,by omega,hn,wp3 (n:=n.toNat) (fun i x=>x=.int i) Pv p0 (fun i ys H hi p=>hlen i ys H #[0] p) (fun i ys H hi _=>hi) (fun i ys H x H' hi _ y=>⟨y.1,by rw[y.2,Int.zero_add]⟩) (fun ys H _=>Nat.le_refl _)
  (fun i x ys H hi hx p=>by subst hx;exact hs i ys H #[0] p) hd⟩
theorem ze1{Q:VK}{lo hi:Int}(h1:-(2 ^ 62)<=lo)(h2:lo<=hi)(h3:hi<2 ^ 62)(Pv:Nat->List V->Hp->Prop)(p0:Pv 0 [] H)(hlen:∀ (i:Nat) ys H,lo+i<=hi->Pv i ys H->ys.length<=sizeLine)(hs:∀ (i:Nat) ys H,lo+i<hi->Pv i ys H->g (.int (lo+i)) σ' H fun σ2 H2=>tt σ2 H2 fun b H3=>if b=true then te σ2 H3 fun y H4=>PAt Pv (i+1) (ys++[y]) H4 else PAt Pv (i+1) ys H3)(hd:∀ ys H,Pv (hi-lo).toNat ys H->∀ p,H p=none->Q (.ref p) #[42,ys]) :
 ∃ i j:Int,[V.int lo,V.int hi]=[.int i,.int j]/\(-(2 ^ 62)<=i/\i<2 ^ 62/\-(2 ^ 62)<=j/\j<2 ^ 62)/\wg7 g tt te σ' Q (Itr i (j-i).toNat) H :=
 ⟨lo,hi,rfl,⟨h1,by omega,by omega,h3⟩,wp3 (n:=(hi-lo).toNat) (fun i x=>x=.int (lo+i)) Pv p0 (fun i ys H hi' p=>hlen i ys H #[0] p) (fun i ys H hi' _=>hi') (fun i ys H x H' hi' _ y=>y) (fun ys H _=>Nat.le_refl _)
  (fun i x ys H hi' hx p=>by subst hx;exact hs i ys H #[0] p) hd⟩
section
variable{Q:VK}
theorem qf6{t u:TS}(h:t {D with nx:=u D} σ H):B9 t u D σ H:=h
theorem yz0(h:D.nx σ H):J5 D σ H:=h
theorem zj9(h:te σ H fun x H1=>g x σ H1 D.nx):C8 te g D σ H:=h
theorem D6{i:Nat}{R:St->Hp->Prop}(h:R (σ.set i (some v)) H):B3 i v σ H R:=h
theorem we1{i:Nat}(e:σ[i]?=some (some v))(h:Q v H):A7 i σ H Q:=⟨v,e,h⟩
theorem Ae9(h:Q v H):tC v σ H Q:=h
theorem zk0{r:R2}{tb:TE}(h:ta σ H fun x H1=>tb σ H1 fun y H2=>r x y H2 Q):tOp r ta tb σ H Q:=h
theorem Al4{r:V->Hp->VK->Prop}(h:ta σ H fun x H1=>r x H1 Q):tUn r ta σ H Q:=h
theorem Af0(h:te σ H D.rt):E3 te D σ H:=h
theorem zt8(h:D.rt .non H):yk2 D σ H:=h
theorem zt9(h:te σ H fun _ H1=>D.nx σ H1):G5 te D σ H:=h
theorem wg8{c:TT}{t u:TS}(h:c σ H fun b H1=>if b=true then t D σ H1 else u D σ H1):N1 c t u D σ H:=h
theorem Af1{c:TT}{tb:TE}(h:c σ H fun b H1=>if b=true then ta σ H1 Q else tb σ H1 Q):tIf c ta tb σ H Q:=h
theorem yz1{t:TE}{R:Bool->Hp->Prop}(h:t σ H fun x H'=>∃ k,x=.bl k/\R k H'):C5 t σ H R:=h
theorem ze2{t:TE}{R:Bool->Hp->Prop}(h:t σ H fun x H'=>∃ k,x=.bl k/\R k H'):tB t σ H R:=h
theorem zz7{b:Bool}{R:Bool->Prop}(h:R b):∃ k,V.bl b=.bl k/\R k:=⟨b,rfl,h⟩
theorem qo8{t u:TT}{R:Bool->Hp->Prop}(h:t σ H fun c H1=>if c=true then u σ H1 R else R false H1):qm7 t u σ H R:=h
theorem zz8{t u:TT}{R:Bool->Hp->Prop}(h:t σ H fun c H1=>if c=true then R true H1 else u σ H1 R):tOr t u σ H R:=h
theorem yu1{t:TT}{R:Bool->Hp->Prop}(h:t σ H fun c H1=>R (!c) H1):ww9 t σ H R:=h
theorem yz2{tb:TE}(h:ta σ H fun x H1=>∃ c,x=.bl c/\if c=true then tb σ H1 Q else Q (.bl false) H1):wr9 ta tb σ H Q:=h
theorem zu0(h:ta σ H fun x H1=>∃ c,x=.bl c/\Q (.bl (!c)) H1):yx8 ta σ H Q:=h
theorem zk1{R:List V->Hp->Prop}(h:R [] H):B1 σ H R:=h
theorem zu1{tr:TA}{R:List V->Hp->Prop}(h:ta σ H fun x H1=>tr σ H1 fun xs H2=>R (x::xs) H2):A3 ta tr σ H R:=h
theorem Af2(h:t σ H fun xs H1=>xs.length<=sizeLine/\∀ p,H1 p=none->Q (.ref p) (upd H1 p (.tup xs))):X3 t σ H Q:=h
theorem Af3(h:t σ H fun xs H1=>xs.length<=sizeLine/\∀ p,H1 p=none->Q (.ref p) (upd H1 p (.lst xs))):T8 t σ H Q:=h
theorem zu2{E:XK}(h:t σ H fun vs H1=>sp (vs++dvs) H1 Q E):C3 sp dvs E t σ H Q:=h
theorem Al5{r:List V->Hp->VK->Prop}(h:t σ H fun vs H1=>r vs H1 Q):tCB r t σ H Q:=h
theorem Al6{R:Bool->Hp->Prop}(h:R true H):tTT σ H R:=h
theorem zk2(h:D.bk σ H):yr7 D σ H:=h
theorem zk3(h:tl σ H fun x H1=>∃ a,x=.ref a/\(((∃ xs,SqL K H1 a xs)/\R (Itl K a) H1)\/((∃ xs,SqT K H1 a xs)/\R (Itt K a) H1))):qq7 K tl σ H R:=h
theorem zu3{ta:TA}(h:ta σ H fun vs H1=>∃ j:Int,vs=[.int j]/\-(2 ^ 62)<=j/\j<2 ^ 62/\R (Itr 0 j.toNat) H1):wj9 ta σ H R:=h
theorem zu4{ta:TA}(h:ta σ H fun vs H1=>∃ i j:Int,vs=[.int i,.int j]/\(-(2 ^ 62)<=i/\i<2 ^ 62/\-(2 ^ 62)<=j/\j<2 ^ 62)/\R (Itr i (j-i).toNat) H1):yx9 ta σ H R:=h
theorem Af4{t:zh2}{R:St->Hp->Prop}(h:to σ H fun o H1=>ti σ H1 fun i H2=>t o i v H2 fun H3=>R σ H3):ys0 to ti t v σ H R:=h
theorem Al7{r:V->List V->Hp->VK->Prop}(h:to σ H fun x H1=>tyV K T x H1/\t σ H1 fun xs H2=>r x xs H2 Q):tBM K T r to t σ H Q:=h
theorem zk4{r r':R2}{tb:TE}(h:ta σ H fun x H1=>tb σ H1 fun y H2=>r x y H2 fun z H3=>∃ k,z=.bl k/\(if k=true then tc σ H3 fun w' H4=>r' y w' H4 Q else Q (.bl false) H3)):yc5 r r' ta tb tc σ H Q:=h
end
variable{z:Str}
section
variable{Q:VK}
theorem xd7(h:Q (.int (i+j)) H):E7 K (.int i) (.int j) H Q:=.inl ⟨i,j,rfl,rfl,h⟩
theorem xd8{i j:Str}(hz:i.length+j.length<=sizeLine)(h:Q (.str (i++j)) H):E7 K (.str i) (.str j) H Q:=.inr (.inl ⟨i,j,rfl,rfl,hz,h⟩)
theorem zk5(h1:H a=some (.lst xs))(h2:H b=some (.lst ys))(hz:xs.length+ys.length<=sizeLine)(h:∀ p,H p=none->Q (.ref p) #[42,xs++ys]):E7 K (.ref a) (.ref b) H Q:=.inr (.inr (.inl ⟨a,b,xs,ys,rfl,rfl,h1,h2,hz,h⟩))
theorem Af5(h:Q (.int (i-j)) H):rI0 (fun i j=>.int (i-j)) (.int i) (.int j) H Q:=⟨i,j,rfl,rfl,h⟩
theorem wl0(c:zh4 i j)(h:Q (.int (i*j)) H):qw6 (.int i) (.int j) H Q:=.inl ⟨i,j,rfl,rfl,c,h⟩
theorem zk6{n:Int}(h0:0<=n)(h1:n<=1000)(h2:z.length<=1000)(h:Q (.str (PySem.Txt.mul z n)) H):qw6 (.str z) (.int n) H Q:=.inr (.inl ⟨z,n,rfl,rfl,h0,h1,h2,h⟩)
theorem Af6(c:wx0 i j)(h:Q (.int (i / j)) H):rI wx0 (fun i j=>.int (i / j)) (.int i) (.int j) H Q:=⟨i,j,rfl,rfl,c,h⟩
theorem yl8(c:0<j)(h:Q (.int (i % j)) H):rI (fun _ j=>0<j) (fun i j=>.int (i % j)) (.int i) (.int j) H Q:=⟨i,j,rfl,rfl,c,h⟩
theorem Al8(h:Q (.bl (decide (i<j))) H):xo4 (.int i) (.int j) H Q:=.inl ⟨i,j,rfl,rfl,h⟩
theorem Al9(h:Q (.bl (decide (i<=j))) H):yu0 (.int i) (.int j) H Q:=.inl ⟨i,j,rfl,rfl,h⟩
theorem Am0(h:Q (.bl (decide (j<i))) H):wq9 (.int i) (.int j) H Q:=.inl ⟨i,j,rfl,rfl,h⟩
theorem zz9(h:Q (.bl (decide (j<=i))) H):zd9 (.int i) (.int j) H Q:=.inl ⟨i,j,rfl,rfl,h⟩
theorem Aa0{i j:Str}(h:Q (.bl (!decide (j.cps.toList<i.cps.toList))) H):yu0 (.str i) (.str j) H Q:=.inr ⟨i,j,rfl,rfl,h⟩
theorem yl9{x:V}(c:zr9 x y=true)(h:Q (.bl (decide (x=y))) H):P9 K x y H Q:=.inl ⟨c,h⟩
theorem Af7{x:V}(c:zr9 x y=true)(h:Q (.bl (!decide (x=y))) H):qq5 K x y H Q:=.inl ⟨c,h⟩
theorem Am1{x:V}{e:PyData}(h1:Dv K H d x)(h2:Dv K H e y)(hz:d.depth<=64)(h:Q (.bl (PyData.eqv d e)) H):P9 K x y H Q:=.inr ⟨d,e,h1,h2,by omega,h⟩
theorem Aa1{x:V}{e:PyData}(h1:Dv K H d x)(h2:Dv K H e y)(hz:min d.depth e.depth<=190)(h:Q (.bl (PyData.eqv d e)) H):P9 K x y H Q:=.inr ⟨d,e,h1,h2,hz,h⟩
theorem Am2{x:V}{e:PyData}(h1:Dv K H d x)(h2:Dv K H e y)(hz:min d.depth e.depth<=190)(h:Q (.bl (!PyData.eqv d e)) H):qq5 K x y H Q:=.inr ⟨d,e,h1,h2,hz,h⟩
theorem Ao5{x:V}(h:Q (.bl (decide (x=.non))) H):xo5 x .non H Q:=⟨rfl,h⟩
theorem zu5{x:V}(h:Q (.bl (!decide (x=.non))) H):qq6 x .non H Q:=⟨rfl,h⟩
theorem L7(h1:SqL K H p xs)(e:atI xs i=some v)(h:Q v H):rIx K (.ref p) (.int i) H Q:=.inl ⟨p,xs,i,v,rfl,rfl,h1,e,h⟩
theorem G1(h1:SqT K H p xs)(e:atI xs i=some v)(h:Q v H):rIx K (.ref p) (.int i) H Q:=.inr (.inl ⟨p,xs,i,v,rfl,rfl,h1,e,h⟩)
theorem zk7{c:Nat}(hz:z.length<=sizeLine)(e:atI z.cps.toList i=some c)(h:Q (.str ⟨#[c]⟩) H):rIx K (.str z) (.int i) H Q:=.inr (.inr ⟨z,i,c,rfl,rfl,hz,e,h⟩)
theorem xj9{x:V}(h1:SqL K H p xs\/SqT K H p xs)(fx:qw5 x=true)(fs:xs.all qw5=true)(h:Q (.bl (inV x xs)) H):zj5 K false x (.ref p) H Q:=.inl ⟨p,xs,rfl,h1,fx,fs,h⟩
theorem wy5{x:V}(h1:SqL K H p xs\/SqT K H p xs)(fx:qw5 x=true)(fs:xs.all qw5=true)(h:Q (.bl (!inV x xs)) H):zj5 K true x (.ref p) H Q:=.inl ⟨p,xs,rfl,h1,fx,fs,h⟩
theorem N8(h1:SqL K H p xs\/SqT K H p xs)(h:Q (.int xs.length) H):O3 K [.ref p] H Q:=.inl ⟨p,xs,rfl,h1,h⟩
theorem zk8(hz:z.length<=sizeLine)(h:Q (.int z.length) H):O3 K [.str z] H Q:=.inr (.inl ⟨z,rfl,hz,h⟩)
theorem ye0{k:Int}{j:Nat}{R:Hp->Prop}(h1:H p=some (.lst xs))(e:ixN xs.length k=some j)(h:R #[42,xs.set j v]):zi3 (.ref p) (.int k) v H R:=⟨p,xs,k,j,rfl,rfl,h1,e,h⟩
theorem M1(h1:H p=some (.lst xs))(hz:xs.length<sizeLine)(h:Q .non #[42,xs++[y]]):M3 (.ref p) [y] H Q:=⟨p,xs,y,rfl,rfl,h1,hz,h⟩
theorem zk9(h1:H p=some (.lst xs))(h0:0<=i)(hi:i<=xs.length)(hz:xs.length<sizeLine)(h:Q .non #[42,qn1 xs i.toNat y]):xm2 (.ref p) [.int i,y] H Q:=⟨p,xs,i,y,rfl,rfl,h1,h0,hi,hz,h⟩
end
def Itv(n:Nat):It:=⟨fun i _=>i<n,fun i H x H'=>H'=H/\x=.int ((n:Int)-1-i),fun i _=>n<=i⟩
theorem zl0{tg:Expr}(it:Addr)(n:Nat):xn3 P w K tg (Itv n) [it] it (fun i h=>IsRangeIter h it ((n:Int)-1+(i:Nat)*(-1)) ((n:Int)-(i:Nat)) (-1)) where
 mem:=by simp
 obj:=fun i h st b hb=>by
  have e:b=it:=by simpa using hb
  subst e
  exact⟨_,st,fun v z=>by
   have z':Data.fields _=Data.cell v:=z
   cases z'⟩
 keep:=fun i h h' st k=>k it (by simp) _ st
 item:=by
  walk_at"0"
  walk_at"11"
  have W:=Walks.range (prog:=X.prog) (w:=X.w) (I.ok.hd hc) it ((n:Int)-1) (-1) n
  walk_at"27"
  refine⟨_,rfl,xy1 (s:={s with heap:=h',toks:=tk}) (n := "range_iterator") st' rfl rfl #[10] ⟨.int ((n:Int)-1-i),H,I1,⟨t,?_⟩,⟨rfl,rfl⟩,st',fun b hb=>(hf b hb).1⟩⟩
  have e:(n:Int)-1+(i:Int)*(-1)=(n:Int)-1-i:=by omega
  rw[e]
 done:=by
  walk_at"0"
  walk_at"11"
  exact wpAny_pyNext_range_end (I.ok.hd hc) st (by have:n<=i:=hg;omega) fun h' eb=>⟨rfl,I.turned (t':=s.toks) (fun b o hb e=>eb b o hb e) f0 f1 f3 f4 f5⟩
 self:=fun _ _ _ _ _ st h=>wpAny_pyIter_rangeiter st h
theorem zu6(hn:(n:Int)<2 ^ 62)(Pv:Nat->St->Hp->Prop)(p0:Pv 0 σ H)(hs:∀ (i:Nat) σ H,i<n->Pv i σ H->g (.int ((n:Int)-1-i)) σ H fun σ2 H2=>tb {D with nx:=PAt Pv (i+1),ct:=PAt Pv (i+1),bk:=D.nx} σ2 H2)(hd:∀ σ H,Pv n σ H->D.nx σ H) :
 ∃ m:Nat,[V.int n]=[.int m]/\(m:Int)<2 ^ 62/\wu6 g tb D σ (Itv m) H:=by
 refine⟨n,rfl,hn,fun i m σ H=>m=n-i/\i<=n/\Pv i σ H,⟨n,by simp,Nat.zero_le _,p0⟩,?_⟩
 rintro i m σ H ⟨rfl,hi,p⟩
 by_cases hlt:i<n
 ·refine .inr ⟨hlt,Pv (i+1),fun σ' H' p'=>⟨n-(i+1),by omega,rfl,hlt,p'⟩,fun x H' y=>?_⟩
  obtain⟨e,y⟩:=y
  subst e y
  exact hs i σ _ hlt p
 ·have e:i=n:=by omega
  subst e
  exact .inl ⟨Nat.le_refl _,hd σ H p⟩
def xz8:zh2:=fun o i v H Q=>zi3 o i v H Q\/∃ a H',o=.ref a/\Ak9 H a i v H'/\Q H'
theorem wl1(hu:X.A.units+1<cLine):Ac4 X xz8:=by
 intro pins s σ H o i v ov iv u Q I ro ri rv h
 rcases h with h|⟨a,H',rfl,g,q⟩
 ·exact zi4 pins s σ H o i v ov iv u Q I ro ri rv h
 ·cases ro
  exact zd4 hu I g ri rv fun s' I'=>⟨H',I',q⟩
def D2(K:Fg):R2:=rIx K
theorem D0(hu:X.A.units+1<cLine):IxR X (D2 X.K):=Ad4
def Ao6(neg:Bool):R2:=fun x y H Q=>∃ a o,y=.ref a/\yl4 H a x o/\Q (.bl (if neg then !o.isSome else o.isSome)) H
def qt0(K:Fg)(neg:Bool):R2:=fun x y H Q=>zj5 K neg x y H Q\/Ao6 neg x y H Q
theorem wl2(hu:X.A.units+1<cLine):OpR X #[74,.In] (qt0 X.K false):=by
 refine Ae8.or ?_
 walk_at"7"
 obtain⟨a,o,rfl,g,q⟩:=h
 cases ry
 exact Ao2 hu I g rx fun s' I'=>⟨.bl o.isSome,H,I',rfl,q⟩
theorem ql0(hu:X.A.units+1<cLine):OpR X #[74,.NotIn] (qt0 X.K true):=by
 refine ze0.or ?_
 walk_at"7"
 obtain⟨a,o,rfl,g,q⟩:=h
 cases ry
 exact zt3 hu I g rx fun s' I'=>⟨.bl (!o.isSome),H,I',rfl,q⟩
def wy6(K:Fg):List V->Hp->VK->Prop:=fun xs H Q=>(∃ (x:V) (T:String) (t:Value) (b:Bool),xs=[x,.ty T]/\wx1 K H x t/\PySem.W.kitOne K t (.type T)=some b/\Q (.bl b) H) \/
 ∃ (a:Addr) (ys:List V) (T:String) (b:Bool),xs=[.ref a,.ty T]/\SqT K H a ys/\PySem.W.kitOne K (.type "tuple") (.type T)=some b/\Q (.bl b) H
theorem G2:qj3 X (.builtin "isinstance") (wy6 X.K):=by
 intro pins s σ H xs us Q I r h
 rcases h with⟨x,T,t,b,rfl,ty,e,q⟩|⟨a,ys,T,b,rfl,hq,e,q⟩
 ·obtain⟨u,w',rfl,r1,r2⟩:=xy4 r
  cases r2
  exact wpAny_with_toks (n:=1) I.tk (zc9 I r1 ty e fun tk ht=>⟨.bl b,H,I.tok _ ht,rfl,q⟩)
 ·obtain⟨u,w',rfl,r1,r2⟩:=xy4 r
  cases r2
  cases r1
  obtain⟨its,rv,pl,hz⟩:=I.tuple hq
  obtain⟨o,h1,h2,_⟩:=pl
  exact wpAny_with_toks (n:=1) I.tk (PySem.W.kia_one PySem.W.kitx_tuple I.kIn ⟨o,h1,h2⟩ e (fun z=>nomatch z) fun tk ht=>⟨.bl b,H,I.tok _ ht,rfl,q⟩)
theorem zl1{Q:VK}{x:V}{t:Value}{b:Bool}(ty:wx1 K H x t)(e:PySem.W.kitOne K t (.type T)=some b)(h:Q (.bl b) H):wy6 K [x,.ty T] H Q:=.inl ⟨x,T,t,b,rfl,ty,e,h⟩
theorem ye1{Q:VK}{b:Bool}(hq:SqT K H a ys)(e:PySem.W.kitOne K (.type "tuple") (.type T)=some b)(h:Q (.bl b) H):wy6 K [.ref a,.ty T] H Q:=.inr ⟨a,ys,T,b,rfl,hq,e,h⟩
example (K:Fg):PySem.W.kitOne K (.type "str") (.type "str")=some true:=by rfl
example (K:Fg):PySem.W.kitOne K (.type "bool") (.type "int")=some true:=by rfl
example (K:Fg):PySem.W.kitOne K (.type "int") (.type "bool")=some false:=by rfl
example (K:Fg):PySem.W.kitOne K (.type "list") (.type "list")=some true:=by rfl
section
variable{σ:List (Option V)}
theorem Inv.turnLaid{o:HO}{ch:List Addr}(I:Inv X pins σ H s)(hf:∀ b∈ch,xu6 X pins H b)(k:∀ b u,b∉ch->s.heap.get? b=some u->h'.get? b=some u)(hp:s.heap.objs.size<=a)(new:U0 X.prog X.w (upd H a o) h' a o)(ht:0<t') :
 Inv X pins σ (upd H a o) {s with heap:=h',toks:=t'}:=by
 have hn:H a=none:=I.hok.fresh hp
 have nit:∀ b u,H b=some u->b∉ch:=fun b u e z=>by rw[(hf b z).1] at e;cases e
 have up:∀ {b:Addr} {u:HO},H b=some u->upd H a o b=some u:=fun{b u} e=>by rw[B5 (V4 e hn)];exact e
 have neA:∀ b u,s.heap.get? b=some u->b≠a:=fun b u e=>Nat.ne_of_lt (Nat.lt_of_lt_of_le (Heap.lt_size e) hp)
 refine I.step (g':=s.gens) (d':=s.drawn) (ch:=ch) (fun b hb=>?_) (fun b u _ _ hc e _=>k b u hc e) (fun b u _ _ hc e _=>⟨u.slots,k b u hc e⟩) (fun b u _ e n=>by rw[B5 (neA b u e)];exact n)
  (fun b u hc e=>⟨u,k b u hc e⟩) (fun _ _ e=>up e) (fun _ _ _ e=>up e) (fun b ps e=>⟨#[],by rw[up e];simp⟩) (fun m hm=>?_) (fun b u e=>?_) I.bare ht
 ·obtain⟨f0,f1,f2,f3,f4,f5⟩:=hf b hb
  exact⟨f3,f1,f4,f5⟩
 ·obtain⟨ob,es,ep,ho,r⟩:=hm
  exact⟨ob,es,ep,k _ ob (fun z=>(hf _ z).2.1 rfl) ho,r⟩
 ·by_cases hb:b=a
  ·subst hb;rw[A8] at e;cases e;exact new
  ·rw[B5 hb] at e
   refine(I.hok b u e).stay (fun c v hc q=>k c v ?_ q) (fun _ q=>up q) fun _ _ q=>up q
   rcases hc with z|z
   ·rw[z];exact nit b u e
   ·exact nit c _ z
end
def Itx(n:Nat)(V':Nat->V->Prop):It:=⟨fun i _=>i<n,fun i H x H'=>H'=H/\V' i x,fun i _=>n<=i⟩
theorem yu2{tg:Expr}{Pv:Nat->Value->Prop}{St:Nat->Heap->Prop}{V':Nat->V->Prop}{vs:Nat->Array Value}(W:∀ A:Around,A.handled=none->Walks P w A it [it] [it] n Pv St)(hV:∀ i v,Pv i v->∃ x,E9 x v/\V' i x)(hO:∀ i h,St i h->∃ o,h.get? it=some o/\o.cls=.type T/\o.data=.fields (vs i))(hT:["enumerate","zip","dict_itemiterator","dict_reverseitemiterator","odict_iterator","itertools.zip_longest","itertools.pairwise"].contains T=false)(hS:∀ (A:Around) (i:Nat) (s:Shared) (Q:Value->Shared->Prop) (E:Value->Shared->Prop),St i s.heap->Q (.ref it) s->wpAny (model P w) A (pyIter (.ref it)) Q E s) :
 xn3 P w K tg (Itx n V') [it] it (fun i h=>i<=n/\St i h) where
 mem:=by simp
 obj:=fun i h st b hb=>by
  have e:b=it:=by simpa using hb
  subst e
  obtain⟨o,e,_,d⟩:=hO i h st.2
  exact⟨o,e,fun v z=>by rw[d] at z;cases z⟩
 keep:=fun i h h' st k=>⟨st.1,(W {} rfl).frame i h h' st.2 k⟩
 item:=by
  walk_at"0"
  walk_at"11"
  refine wpAny_with_toks (n:=1) I.tk ((W X.A (I.ok.hd hc)).item i s _ _ hg st.2 fun v h' tk hv st' kk ht=>?_)
  have ht:0<tk:=ht
  obtain⟨x,rx,vx⟩:=hV i v hv
  have I1:Inv X pins σ H {s with heap:=h',toks:=tk}:=I.turned (fun b o hb e=>kk b o (by simpa using hb) e) f0 f1 f3 f4 f5
  obtain⟨o,e,c,d⟩:=hO _ _ st'
  exact⟨v,rfl,xy1 (s:={s with heap:=h',toks:=tk}) e c d hT ⟨x,H,I1,rx,⟨rfl,vx⟩,⟨hg,st'⟩,fun b hb=>(hf b hb).1⟩⟩
 done:=by
  walk_at"0"
  walk_at"11"
  have hi:i=n:=Nat.le_antisymm st.1 hg
  subst hi
  exact wpAny_with_toks (n:=1) I.tk ((W X.A (I.ok.hd hc)).done s _ _ st.2 fun h' tk eb ht=>⟨rfl,I.turned (fun b o hb e=>eb b o (by simpa using hb) e) f0 f1 f3 f4 f5 ht⟩)
 self:=fun A i s Q E st h=>hS A i s Q E st.2 h
section
variable{σ:List (Option V)}
theorem Inv.turnedL{ch:List Addr}(I:Inv X pins σ H s)(hf:∀ b∈ch,xu6 X pins H b)(k:∀ b u,b∉ch->s.heap.get? b=some u->h'.get? b=some u)(ht:0<t') :
 Inv X pins σ H {s with heap:=h',toks:=t'}:=by
 have nit:∀ b u,H b=some u->b∉ch:=fun b u e z=>by rw[(hf b z).1] at e;cases e
 refine I.step (g':=s.gens) (d':=s.drawn) (ch:=ch) (fun b hb=>?_) (fun b u _ _ hc e _=>k b u hc e) (fun b u _ _ hc e _=>⟨u.slots,k b u hc e⟩) (fun _ _ _ _ n=>n)
  (fun b u hc e=>⟨u,k b u hc e⟩) (fun _ _ e=>e) (fun _ _ _ e=>e) (fun b ps e=>⟨#[],by rw[e];simp⟩) (fun m hm=>?_) (fun b u e=>?_) I.bare ht
 ·obtain⟨f0,f1,f2,f3,f4,f5⟩:=hf b hb
  exact⟨f3,f1,f4,f5⟩
 ·obtain⟨ob,es,ep,ho,r⟩:=hm
  exact⟨ob,es,ep,k _ ob (fun z=>(hf _ z).2.1 rfl) ho,r⟩
 ·refine(I.hok b u e).stay (fun c v hc q=>k c v ?_ q) (fun _ q=>q) fun _ _ q=>q
  rcases hc with z|z
  ·rw[z];exact nit b u e
  ·exact nit c _ z
end
def Itp(n:Nat)(V':Nat->List V->Prop):It:=⟨fun i _=>i<n,fun i H x H'=>∃ p xs,x=.ref p/\H p=none/\V' i xs/\H'=upd H p (.tup xs),fun i _=>n<=i⟩
variable{elts:List Expr}
theorem ym0{k:Nat}{fp wr:List Addr}{Pt:Nat->Array Value->Prop}{St:Nat->Heap->Prop}{Mid:Nat->Addr->Heap->Prop}{V':Nat->List V->Prop}(W:∀ A:Around,A.handled=none->WalksT P w A it fp wr n Pt St Mid)(hmem:it∈fp)(hV:∀ i vs,Pt i vs->∃ xs,E6 xs vs.toList/\V' i xs/\xs.length<=64)(hO:∀ i h,St i h->∀ b∈fp,∃ o,h.get? b=some o/\∀ v,o.data≠.cell v)(hS:∀ (A:Around) (i:Nat) (s:Shared) (Q:Value->Shared->Prop) (E:Value->Shared->Prop),St i s.heap->Q (.ref it) s->wpAny (model P w) A (pyIter (.ref it)) Q E s) :
 xn3 P w K (.Tuple elts k pos) (Itp n V') fp it (fun i h=>i<=n/\St i h) where
 mem:=hmem
 obj:=fun i h st b hb=>hO i h st.2 b hb
 keep:=fun i h h' st kk=>⟨st.1,(W {} rfl).frame i h h' st.2 kk⟩
 item:=by
  walk_at"0"
  have W:=W X.A (I.ok.hd hc)
  refine wpAny_with_toks (n:=1) I.tk (W.item i s _ _ hg st.2 fun T vs h' tk hv hT htup hmid kk ht=>?_)
  have ht:0<tk:=ht
  obtain⟨xs,rx,vx,hz⟩:=hV i vs hv
  have hap:=W.apart i T h' hmid
  refine⟨_,rfl,W.go elts k pos i T {s with heap:=h',toks:=tk} _ _ hmid fun h2 st2 k2=>?_⟩
  have htup2:IsTup h2 T vs.toList.toArray:=by
   obtain⟨o,e,c⟩:=htup
   exact⟨o,k2 T o hap e,by simpa using c⟩
  have I1:Inv X pins σ (upd H T (.tup xs)) {s with heap:=h2,toks:=tk}:=I.turnLaid (ch:=wr) (fun b hb=>hf b (W.sub b hb)) (fun b u hb e=>k2 b u hb (kk b u hb e)) hT ⟨by rw[sizeLine_eq];omega,vs.toList,rx,htup2⟩ ht
  refine⟨.ref T,_,I1,rfl,⟨T,xs,rfl,I.hok.fresh hT,vx,rfl⟩,⟨hg,st2⟩,fun b hb=>?_⟩
  obtain⟨o,e,_⟩:=hO i _ st.2 b hb
  rw[B5 #[27,hT]]
  exact(hf b hb).1
 done:=by
  walk_at"0"
  have W:=W X.A (I.ok.hd hc)
  have hi:i=n:=Nat.le_antisymm st.1 hg
  subst hi
  exact wpAny_with_toks (n:=1) I.tk (W.done s _ _ st.2 fun h' tk eb ht=>⟨rfl,I.turnedL (ch:=wr) (fun b hb=>hf b (W.sub b hb)) eb ht⟩)
 self:=fun A i s Q E st h=>hS A i s Q E st.2 h
theorem ze3(hh:A.handled=none)(it:Addr)(x:Str)(t:Tok) :
 Draws P w A it [it] x.cps.size (fun i v=>∃ c u,x.cps[i]?=some c/\v=.str ⟨#[c]⟩ u) (fun i h=>h.IsStrIter it (strIterType x) x t i):=by
 unfold strIterType
 split
 ·exact Draws.strAscii hh it x t
 ·exact Draws.strWide hh it x t
theorem ze4(hh:A.handled=none)(it:Addr)(x:Str)(t:Tok):Walks P w A it [it] [it] x.cps.size (SignAt x) (fun i h=>h.IsStrIter it (strIterType x) x t i):=by
 unfold strIterType
 split
 ·exact Walks.strAscii hh it x t
 ·exact Walks.strWide hh it x t
theorem ym1{t:Tok}{i:Nat}(hit:s.heap.IsStrIter it (strIterType x) x t i)(h:Q (.ref it) s) :
 wpAny (model P w) A (pyIter (.ref it)) Q E s:=by
 unfold strIterType at hit
 split at hit
 ·exact wpAny_pyIter_striter_ascii hit h
 ·exact wpAny_pyIter_striter_wide hit h
def xz9(z:Str)(i:Nat)(x:V):Prop:=∃ c,z.cps.toList[i]?=some c/\x=.str ⟨#[c]⟩
theorem zl2(i:Nat)(v:Value)(h:SignAt z i v):∃ x,E9 x v/\xz9 z i x:=by
 obtain⟨c,u,e,rfl⟩:=h
 exact⟨.str ⟨#[c]⟩,⟨u,rfl⟩,c,by simpa using e,rfl⟩
theorem zl3{tg:Expr}(it:Addr)(z:Str)(t:Tok):xn3 P w K tg (Itx z.cps.size (xz9 z)) [it] it (fun i h=>i<=z.cps.size/\h.IsStrIter it (strIterType z) z t i):=by
 refine yu2 (T:=strIterType z) (vs:=fun i=>#[.str z t,.int i 0]) (fun A hA=>ze4 hA it z t) zl2 (fun i h st=>?_) ?_ (fun A i s Q E st h=>ym1 st h)
 ·obtain⟨o,e,c,d⟩:=st
  exact⟨o,e,c,d⟩
 ·unfold strIterType
  split <;> decide
def zl4(tl:TE):TI:=fun σ H R=>tl σ H fun x H1=>∃ z,x=.str z/\R (Itx z.cps.size (xz9 z)) H1
theorem xm3{tg l:Expr}(hl:PE X l tl):PI X tg l (zl4 tl):=by
 intro pins s σ H R I h
 refine thn (hl pins s σ H _ I h) fun v s1 zq=>?_
 walk_at"33"
 obtain⟨z,e,q⟩:=q1
 subst e
 obtain⟨t,rfl⟩:=r1
 refine wpAny_pyIter_strU ?_
 refine⟨s1.heap.objs.size,[s1.heap.objs.size],_,_,H1,rfl,I1.kept (t':=s1.toks) fun b o e=>Heap.get?_push_of_some _ e,zl3 _ z t,⟨Nat.zero_le _,_,Heap.get?_push_size _ rfl,rfl,rfl⟩,fun b hb=>?_,q⟩
 walk_at"16"
def yu3(ta:TA):TI:=fun σ H R=>ta σ H fun vs H1=>∃ z,vs=[.str z]/\R (Itp z.cps.size fun i xs=>∃ c,z.cps.toList[i]?=some c/\xs=[.int i,.str ⟨#[c]⟩]) H1
theorem ym2{k:Nat}{p:Pos}{l:Expr}{ta:TA}(hg:Gl X "enumerate")(hm:X.mg "enumerate"=none)(ha:PA X [l] ta)(hs:autoParam (starEach [l] X.env=[(false,eval l X.env)]) zAr) :
 PI X (.Tuple elts k tpos) (.Call (.Name "enumerate" p) [l] [] pos) (yu3 ta):=by
 intro pins s σ H R I h
 refine Call_ (wd0 I hg hm boot_enumerate #[29,rfl])
 obtain⟨vs,H1,I1,r1,q1⟩:=zq
 obtain⟨z,e,q⟩:=q1
 subst e
 obtain⟨v,rfl,rv⟩:=qz9 r1
 obtain⟨t,rfl⟩:=rv
 refine call_enumerate_str fun h' he hit hz hk=>?_
 have I2:Inv X pins σ H1 {s1 with heap:=h'}:=I1.kept (t':=s1.toks) hk
 refine wpAny_pyIter_enum he ?_
 have ne:s1.heap.objs.size+1≠s1.heap.objs.size:=by omega
 refine⟨s1.heap.objs.size+1,_,_,_,H1,rfl,I2,ym0 (V':=fun i xs=>∃ c,z.cps.toList[i]?=some c/\xs=[.int i,.str ⟨#[c]⟩]) (fun A hA=>WalksT.enumerateD (ze3 (show A.in1.handled=none from hA) s1.heap.objs.size z t) (s1.heap.objs.size+1) ne (by simpa using ne) (by simp)) (by simp) ?_ ?_ ?_,⟨Nat.zero_le _,⟨_,he⟩,hit⟩,fun b hb=>?_,q⟩
 ·rintro i vs ⟨t1,v,⟨c,u,e,rfl⟩,rfl⟩
  exact⟨[.int i,.str ⟨#[c]⟩],.cons ⟨t1,rfl⟩ (.cons ⟨u,rfl⟩ .nil),⟨c,by simpa using e,rfl⟩,by simp⟩
 ·rintro i h ⟨⟨old,e1⟩,o2,e2,_,d2⟩ b hb
  have hb:b=s1.heap.objs.size+1\/b=s1.heap.objs.size:=by simpa using hb
  rcases hb with rfl|rfl
  ·exact⟨_,e1,fun v z=>by cases (show Data.fields _=Data.cell v from z)⟩
  ·exact⟨_,e2,fun v z=>by rw[d2] at z;cases z⟩
 ·rintro A i s Q E ⟨⟨old,e1⟩,_⟩ h
  exact wpAny_pyIter_enum e1 h
 ·have hb:b=s1.heap.objs.size+1\/b=s1.heap.objs.size:=by simpa using hb
  rcases hb with rfl|rfl
  ·exact I1.fpOk (Nat.le_succ _) (I1.hok.fresh (Nat.le_succ _))
  ·exact I1.fpOk #[11] (I1.hok.fresh #[11])
def ya0(te:TE)(y z:Str):TE:=fun σ H Q=>te σ H fun x H1=>∃ a,x=.str a/\a.length<=1048576/\Q (.str (PySem.Txt.replace a y z)) H1
variable{j1 j2:Nat}{p1:Pos}
theorem xm4{y:Str}(ho:PE X o te)(hz:autoParam (z.length<=14) zAd)(hyz:autoParam ((y == z)=false) zAd)(hbase:autoParam (attributeBase o "replace" X.env (eval o X.env)=eval o X.env) zAr) (hfew:((backTo cpos (starEach [.Constant (.str y) j1 p1,.Constant (.str z) j2 p2] X.env)).all (fun x=>!x.1) && (backToKw cpos (keywordEach [] X.env)).all (fun x=>x.1.isSome)
  && decide (([.Constant (.str y) j1 p1,.Constant (.str z) j2 p2]:List Expr).length+([]:List Keyword).length+(if([]:List Keyword).isEmpty then 0 else 1)<30))=true:=by rfl) (hline:autoParam ((apos.endLine == cpos.line)=true) zAr) (hs:autoParam (starEach [.Constant (.str y) j1 p1,.Constant (.str z) j2 p2] X.env=[(false,eval (.Constant (.str y) j1 p1) X.env),(false,eval (.Constant (.str z) j2 p2) X.env)]) zAr) :
 PE X (.Call (.Attribute o "replace" apos) [.Constant (.str y) j1 p1,.Constant (.str z) j2 p2] [] cpos) (ya0 te y z):=by
 walk_at"18"
 refine wpAny_Call_method_late hbase hfew hline rfl (thn (ho pins s σ H _ I h) fun v s1 zq=>?_)
 walk_at"33"
 obtain⟨a,rfl,hl,q⟩:=q1
 obtain⟨h1,h2⟩:=yt6 (T := "str") I1 r1 (show tyV X.K "str" (.str a) H1 from rfl)
 refine⟨"str","str.replace",PySem.F.plainAttrs_str,PySem.F.slot_str_replace,PySem.F.type_str_replace,h1,h2,?_⟩
 obtain⟨t,rfl⟩:=r1
 rw[hs]
 refine Calls.callWith_builtin rfl (Calls.evalArgs_plain ?_)
 refine Calls.spliced_cons (Calls.Constant_str (k:=j1) (pos:=p1) (Calls.spliced_cons (Calls.Constant_str (k:=j2) (pos:=p2) (Calls.spliced_nil ?_))))
 exact wpAny_with_toks (n:=1) (s:={s1 with toks:=s1.toks+1+1}) (Nat.succ_pos _) (PySem.SC.replaceW (Nat.ne_of_gt I1.tk) (Nat.succ_ne_zero _) (by show s1.toks≠s1.toks+1;omega) hyz hl hz fun t' k ht=>⟨.str _,H1,I1.tok _ ht,⟨_,rfl⟩,q⟩)
def qh0(x:Str)(lo hi:Option Int):Str:=⟨((x.cps.toList.drop (HT.sIx x.cps.toList.length 0 lo)).take (HT.sIx x.cps.toList.length x.cps.toList.length hi-HT.sIx x.cps.toList.length 0 lo)).toArray⟩
def Am3:V->Option Int->Option Int->Hp->VK->Prop:=fun x lo hi H Q=>∃ z,x=.str z/\z.length<=sizeLine/\Q (.str (qh0 z lo hi)) H
theorem ze5(x:Str)(lo hi:Option Int):(⟨((Builtin.Str.strSliceIndices lo hi 1 x.length).filterMap (x.cps[·]?)).toArray⟩:Str)=qh0 x lo hi:=by
 obtain⟨h1,h2,h3⟩:=wd6 lo hi x.length
 have e:Builtin.Str.strSliceIndices lo hi 1 x.length=sliceRange (sliceBounds lo hi none x.length).1 (sliceBounds lo hi none x.length).2.1 (sliceBounds lo hi none x.length).2.2:=rfl
 rw[e,h1,h2,h3]
 unfold qh0
 rw[sliceRange_one,pick_run]
 rfl
theorem yt2(n d:Nat)(o:Option Int)(h:d<=n):HT.sIx n d o<=n:=by
 cases o with
 | none=>exact h
 | some v =>
   show(if v<0 then(v+(n:Int)).toNat else min v.toNat n)<=n
   split <;> omega
theorem Af8:SlR X Am3:=by
 intro pins s σ H x v vl vu lo hi sl Q I rx hs pl pu h
 obtain⟨z,rfl,hz,q⟩:=h
 obtain⟨t,rfl⟩:=rx
 refine⟨"str",_,PySem.F.slot_str_getitem.lookup,typeIs_str _ _ _,?_⟩
 have part:∀ {v:Value} {k:Option Int},IsPart v k->∃ l:Option (Int×Tok),v=partValue l/\l.map (·.1)=k:=fun{v k} h=>by
  cases h with
  | none=>exact⟨none,rfl,rfl⟩
  | int i t=>exact⟨some (i,t),rfl,rfl⟩
 obtain⟨l,rfl,el⟩:=part pl
 obtain⟨u,rfl,eu⟩:=part pu
 refine wpAny_getItem_str_slice (l:=l) (u:=u) (st:=none) hs rfl ?_
 have ep:slicePicked z l u none=Builtin.Str.strSliceIndices lo hi 1 z.length:=by unfold slicePicked;rw[el,eu];rfl
 have ec:=ze5 z lo hi
 unfold sliceMade
 rw[ep]
 split
 ·rename_i hc
  have hlen:(Builtin.Str.strSliceIndices lo hi 1 z.length).length=z.length:=by simpa using hc
  have:qh0 z lo hi=z:=by
   obtain⟨h1,h2,h3⟩:=wd6 lo hi z.length
   have e:Builtin.Str.strSliceIndices lo hi 1 z.length=sliceRange (sliceBounds lo hi none z.length).1 (sliceBounds lo hi none z.length).2.1 (sliceBounds lo hi none z.length).2.2:=rfl
   rw[e,h1,h2,h3,sliceRange_one,length_map,length_range] at hlen
   have hb:=yt2 z.length z.length hi #[11]
   have el:z.cps.toList.length=z.length:=Array.length_toList
   obtain⟨⟨l⟩⟩:=z
   unfold qh0
   rw[el,hlen]
   by_cases h0:HT.sIx (Str.length ⟨⟨l⟩⟩) 0 lo=0
   ·rw[h0,drop_zero,take_of_length_le (Nat.le_of_eq el)]
   ·have:Str.length ⟨⟨l⟩⟩=0:=by omega
    rw[this,take_zero]
    have:l=[]:=eq_nil_of_length_eq_zero (by rw[<-this];exact el.symm▸rfl)
    rw[this]
  rw[this] at q
  exact⟨.str z,H,I,⟨_,rfl⟩,q⟩
 ·rw[ec]
  refine⟨?_,.str _,H,I.tok _,⟨_,rfl⟩,q⟩
  have:(qh0 z lo hi).length<=z.length:=by
   unfold qh0 Str.length
   simp only[size_toArray,length_take,length_drop,Array.length_toList]
   omega
  omega
def wu7(K:Fg):V->Option Int->Option Int->Hp->VK->Prop:=fun x lo hi H Q=>Am3 x lo hi H Q\/Ak0 K x lo hi H Q\/Ak4 K x lo hi H Q
theorem xo6:SlR X (wu7 X.K):=Af8.or (Ad1.or zt1)
variable{hi lo:Option Int}
section
variable{Q:VK}
theorem ya1(hz:z.length<=sizeLine)(h:Q (.str (qh0 z lo hi)) H):wu7 K (.str z) lo hi H Q:=.inl ⟨z,rfl,hz,h⟩
theorem yz3(hx:SqL K H a xs)(h:∀ p,H p=none->Q (.ref p) #[42,qg5 xs lo hi]):wu7 K (.ref a) lo hi H Q:=.inr (.inr ⟨a,xs,rfl,hx,h⟩)
theorem Am4{tl:TO}(h:te σ H fun x H1=>tl σ H1 fun l H2=>th σ H2 fun u H3=>r x l u H3 Q):tSl r te tl th σ H Q:=h
theorem zu7{t:TE}{R:Option Int->Hp->Prop}(h:t σ H fun x H1=>∃ i,x=.int i/\R (some i) H1):Y3 t σ H R:=h
theorem ze6{R:Option Int->Hp->Prop}(h:R none H):qg8 σ H R:=h
theorem Af9{R:Int->Prop}(h:R i):∃ j,V.int i=.int j/\R j:=⟨i,rfl,h⟩
theorem zu8{y:Str}(h:te σ H fun x H1=>∃ a,x=.str a/\a.length<=1048576/\Q (.str (PySem.Txt.replace a y z)) H1):ya0 te y z σ H Q:=h
theorem zl5{ta:TA}(h:ta σ H fun vs H1=>∃ z,vs=[.str z]/\R (Itp z.cps.size fun i xs=>∃ c,z.cps.toList[i]?=some c/\xs=[.int i,.str ⟨#[c]⟩]) H1):yu3 ta σ H R:=h
theorem zu9(h:tl σ H fun x H1=>∃ z,x=.str z/\R (Itx z.cps.size (xz9 z)) H1):zl4 tl σ H R:=h
theorem zv0(Pv:Nat->St->Hp->Prop)(p0:Pv 0 σ H)(hs:∀ (i c:Nat) σ H,z.cps.toList[i]?=some c->Pv i σ H->g (.str ⟨#[c]⟩) σ H fun σ2 H2=>tb {D with nx:=PAt Pv (i+1),ct:=PAt Pv (i+1),bk:=D.nx} σ2 H2)(hd:∀ σ H,Pv z.cps.size σ H->D.nx σ H) :
 ∃ z',V.str z=.str z'/\wu6 g tb D σ (Itx z'.cps.size (xz9 z')) H:=by
 refine⟨z,rfl,fun i m σ H=>m=z.cps.size-i/\i<=z.cps.size/\Pv i σ H,⟨z.cps.size,by simp,Nat.zero_le _,p0⟩,?_⟩
 rintro i m σ H ⟨rfl,hi,p⟩
 by_cases hlt:i<z.cps.size
 ·refine .inr ⟨hlt,Pv (i+1),fun σ' H' p'=>⟨z.cps.size-(i+1),by omega,rfl,hlt,p'⟩,fun x H' y=>?_⟩
  obtain⟨rfl,c,ec,rfl⟩:=y
  exact hs i c σ _ ec p
 ·have e:i=z.cps.size:=by omega
  subst e
  exact .inl ⟨Nat.le_refl _,hd σ H p⟩
theorem yu4(Pv:Nat->List V->Hp->Prop)(h0:Pv 0 [] H)(hlen:∀ i ys H,i<=z.cps.size->Pv i ys H->ys.length<=sizeLine)(hs:∀ (i c:Nat) (p:Addr) ys H,z.cps.toList[i]?=some c->H p=none->Pv i ys H->g (.ref p) σ' (upd H p (.tup [.int i,.str ⟨#[c]⟩])) fun σ2 H2=>tt σ2 H2 fun b H3=>if b=true then te σ2 H3 fun y H4=>PAt Pv (i+1) (ys++[y]) H4 else PAt Pv (i+1) ys H3)(hd:∀ ys H,Pv z.cps.size ys H->∀ p,H p=none->Q (.ref p) #[42,ys]) :
 ∃ z',[V.str z]=[.str z']/\wg7 g tt te σ' Q (Itp z'.cps.size fun i xs=>∃ c,z'.cps.toList[i]?=some c/\xs=[.int i,.str ⟨#[c]⟩]) H:=by
 refine⟨z,rfl,fun i m ys H=>m=z.cps.size-i/\i<=z.cps.size/\Pv i ys H,⟨z.cps.size,by simp,Nat.zero_le _,h0⟩,?_⟩
 rintro i m ys H ⟨rfl,hi,p⟩
 refine⟨hlen i ys H hi p,?_⟩
 by_cases hlt:i<z.cps.size
 ·refine .inr ⟨hlt,Pv (i+1),fun ys' H' p'=>⟨z.cps.size-(i+1),by omega,rfl,hlt,p'⟩,fun x H' y=>?_⟩
  obtain⟨a,xs,rfl,ha,⟨c,ec,rfl⟩,rfl⟩:=y
  exact hs i c a ys H ec ha p
 ·have e:i=z.cps.size:=by omega
  subst e
  exact .inl ⟨Nat.le_refl _,hd ys H p⟩
theorem ym3{y:Str}(h:Q (.bl (decide (x=y))) H):P9 K (.str x) (.str y) H Q:=by
 refine yl9 rfl ?_
 walk_at"38"
theorem zl6{y:Str}(h:Q (.bl (!decide (x=y))) H):qq5 K (.str x) (.str y) H Q:=by
 refine Af7 rfl ?_
 walk_at"38"
theorem Aa2{x y:Int}(h:Q (.bl (decide (x=y))) H):P9 K (.int x) (.int y) H Q:=by
 refine yl9 rfl ?_
 have e:(decide ((V.int x)=V.int y))=decide (x=y):=by simp
 rw[e];exact h
theorem Am5{x y:Int}(h:Q (.bl (!decide (x=y))) H):qq5 K (.int x) (.int y) H Q:=by
 refine Af7 rfl ?_
 have e:(decide ((V.int x)=V.int y))=decide (x=y):=by simp
 rw[e];exact h
end
def ya2(xs:List Str):TA:=fun _ H R=>R (B4 xs) H
theorem zl7:PA X [] (ya2 []):=B8
theorem Y6{xs:List Str}{j:Nat}{p:Pos}(h:PA X es (ya2 xs)):PA X (.Constant (.str x) j p::es) (ya2 (x::xs)):=B0 (te:=tC (.str x)) G3 h
theorem zv1{xs:List Str}{R:List V->Hp->Prop}(h:R (B4 xs) H):ya2 xs σ H R:=h
section
open PySem.Builtin PySem.Builtin.Str
def ya3(x y:Str)(i j:Int):Int:=match occurrences x y (fromIndex x.length i) (min (fromIndex x.length j) x.length) 1 with|k::_=>(k:Int) | []=>-1
theorem ym4(x y:Str)(i j:Int)(t u v v':Tok):Gives («str.find» ⟨[.str x t,.str y u,.int i v,.int j v'],[]⟩) (.int (ya3 x y i j)):=by
 unfold ya3
 show Gives (match occurrences x y (fromIndex x.length i) (min (fromIndex x.length j) x.length) 1 with|k::_=>retInt k | []=>(do rule "str.find.not-found";retInt (-1))) _
 cases occurrences x y (fromIndex x.length i) (min (fromIndex x.length j) x.length) 1 with
 | nil=>exact .rule (.of_eq rfl)
 | cons k _=>exact .of_eq rfl
theorem E6.three{x z:V}(r:E6 [x,y,z] us):∃ u v w',us=[u,v,w']/\E9 x u/\E9 y v/\E9 z w':=by
 cases r with
 | cons r1 r2=>obtain⟨v,w',rfl,a,b⟩:=xy4 r2;exact⟨_,_,_,rfl,r1,a,b⟩
def xo7:V->List V->Hp->VK->Prop:=fun x vs H Q=>∃ (z y:Str) (i:Int),x=.str z/\vs=[.str y,.int i]/\Q (.int (PySem.Txt.find3 z y i)) H
theorem zl8:MtR X "str.find" xo7:=by
 walk_at"28"
 obtain⟨z,y,i,rfl,rfl,q⟩:=h
 obtain⟨t,rfl⟩:=rx
 obtain⟨u,w',rfl,⟨t1,rfl⟩,⟨t2,rfl⟩⟩:=xy4 rv
 exact SC.find3 ⟨.int _,H,I.tok _,⟨_,rfl⟩,q⟩
def yu5:V->List V->Hp->VK->Prop:=fun x vs H Q=>∃ (z y:Str) (i j:Int),x=.str z/\vs=[.str y,.int i,.int j]/\Q (.int (ya3 z y i j)) H
theorem zl9:MtR X "str.find" yu5:=by
 walk_at"28"
 obtain⟨z,y,i,j,rfl,rfl,q⟩:=h
 obtain⟨t,rfl⟩:=rx
 obtain⟨u,w',w2,rfl,⟨t1,rfl⟩,⟨t2,rfl⟩,⟨t3,rfl⟩⟩:=E6.three rv
 exact call_gives F.slot_str_find (typeIs_str _ _ _) F.entry_str_find (F.args_str_find_4 _ _ _ _) (ym4 z y i j t t1 t2 t3) ⟨.int _,H,I.tok _,⟨_,rfl⟩,q⟩
def ye2:V->List V->Hp->VK->Prop:=fun x vs H Q=>∃ (z y:Str) (i:Int),x=.str z/\vs=[.str y,.int i]/\Q (.bl (PySem.Txt.startswith3 z y i)) H
theorem ze7:MtR X "str.startswith" ye2:=by
 walk_at"28"
 obtain⟨z,y,i,rfl,rfl,q⟩:=h
 obtain⟨t,rfl⟩:=rx
 obtain⟨u,w',rfl,⟨t1,rfl⟩,⟨t2,rfl⟩⟩:=xy4 rv
 exact SC.startswith3 ⟨.bl _,H,I,rfl,q⟩
theorem yu6:∀ {bs:List Bool} {us:List Value},E6 (bs.map V.bl) us->us=bs.map Value.bool
 | [],_,h=>by cases h;rfl
 | b::bs,_,h=>by
   have h:E6 (V.bl b::bs.map V.bl) _:=h
   cases h with
   | cons r t=>rw[yu6 t];cases (show _=Value.bool b from r);rfl
theorem ze8(bs:List Bool):(List.range bs.length).all (fun i=>(bs[i]?).getD false)=bs.all id:=by
 rw[Bool.eq_iff_iff,all_eq_true,all_eq_true]
 constructor
 ·intro h b hb
  obtain⟨i,hi,e⟩:=List.getElem_of_mem hb
  have:=h i (mem_range.mpr hi)
  rw[List.getElem?_eq_getElem hi,e] at this
  exact this
 ·intro h i hi
  have hi:=mem_range.mp hi
  rw[List.getElem?_eq_getElem hi]
  exact h _ (List.getElem_mem hi)
theorem ze9(bs:List Bool):(List.range bs.length).any (fun i=>(bs[i]?).getD false)=bs.any id:=by
 rw[Bool.eq_iff_iff,any_eq_true,any_eq_true]
 constructor
 ·rintro⟨i,hi,h⟩
  have hi:=mem_range.mp hi
  rw[List.getElem?_eq_getElem hi] at h
  exact⟨_,List.getElem_mem hi,h⟩
 ·rintro⟨b,hb,h⟩
  obtain⟨i,hi,e⟩:=List.getElem_of_mem hb
  exact⟨i,mem_range.mpr hi,by rw[List.getElem?_eq_getElem hi,e];exact h⟩
def zm0(K:Fg):List V->Hp->VK->Prop:=fun xs H Q=>∃ (p:Addr) (bs:List Bool),xs=[.ref p]/\SqL K H p (bs.map V.bl)/\Q (.bl (bs.all id)) H
def zm1(K:Fg):List V->Hp->VK->Prop:=fun xs H Q=>∃ (p:Addr) (bs:List Bool),xs=[.ref p]/\SqL K H p (bs.map V.bl)/\Q (.bl (bs.any id)) H
theorem zf0(hc:X.calm=true):qj3 X (.builtin "all") (zm0 X.K):=by
 intro pins s σ H xs us Q I r h
 obtain⟨p,bs,rfl,hq,q⟩:=h
 obtain⟨u,rfl,ru⟩:=qz9 r
 cases ru
 obtain⟨its,rv,pl,hz⟩:=I.list hq
 have ei:=yu6 rv
 subst ei
 refine wpAny_with_toks (n:=1) I.tk (call_all_walk (wpAny_pyIter_list pl.isList ?_))
 walk_at"13"
 ·intro i v s Q E hP hQ
  walk_at"34"
 ·refine⟨.bl (bs.all id),H,I.kept (fun b o e=>hk b o ?_ (Heap.get?_push_of_some _ e)) ht,?_,q⟩
  ·intro z
   have:b=s.heap.objs.size:=by simpa using z
   exact absurd (Heap.lt_size e) (by rw[this];exact Nat.lt_irrefl _)
  ·show Value.bool _=Value.bool _
   rw[<-ze8 bs]
   congr 2
   simp
theorem zf1(hc:X.calm=true):qj3 X (.builtin "any") (zm1 X.K):=by
 intro pins s σ H xs us Q I r h
 obtain⟨p,bs,rfl,hq,q⟩:=h
 obtain⟨u,rfl,ru⟩:=qz9 r
 cases ru
 obtain⟨its,rv,pl,hz⟩:=I.list hq
 have ei:=yu6 rv
 subst ei
 refine wpAny_with_toks (n:=1) I.tk (call_any_walk (wpAny_pyIter_list pl.isList ?_))
 walk_at"13"
 ·intro i v s Q E hP hQ
  walk_at"34"
 ·refine⟨.bl (bs.any id),H,I.kept (fun b o e=>hk b o ?_ (Heap.get?_push_of_some _ e)) ht,?_,q⟩
  ·intro z
   have:b=s.heap.objs.size:=by simpa using z
   exact absurd (Heap.lt_size e) (by rw[this];exact Nat.lt_irrefl _)
  ·show Value.bool _=Value.bool _
   rw[<-ze9 bs]
   congr 2
   simp
section
variable{Q:VK}
theorem Am6{bs:List Bool}(h:SqL K H p (bs.map V.bl))(q:Q (.bl (bs.all id)) H):zm0 K [.ref p] H Q:=⟨p,bs,rfl,h,q⟩
theorem Am7{bs:List Bool}(h:SqL K H p (bs.map V.bl))(q:Q (.bl (bs.any id)) H):zm1 K [.ref p] H Q:=⟨p,bs,rfl,h,q⟩
theorem ym5(Pv:Nat->List V->Hp->Prop)(h0:Pv 0 [] H)(hlen:∀ i ys H,i<=z.cps.size->Pv i ys H->ys.length<=sizeLine)(hs:∀ (i c:Nat) ys H,z.cps.toList[i]?=some c->Pv i ys H->g (.str ⟨#[c]⟩) σ' H fun σ2 H2=>tt σ2 H2 fun b H3=>if b=true then te σ2 H3 fun y H4=>PAt Pv (i+1) (ys++[y]) H4 else PAt Pv (i+1) ys H3)(hd:∀ ys H,Pv z.cps.size ys H->∀ p,H p=none->Q (.ref p) #[42,ys]) :
 ∃ z',V.str z=.str z'/\wg7 g tt te σ' Q (Itx z'.cps.size (xz9 z')) H:=by
 refine⟨z,rfl,fun i m ys H=>m=z.cps.size-i/\i<=z.cps.size/\Pv i ys H,⟨z.cps.size,by simp,Nat.zero_le _,h0⟩,?_⟩
 rintro i m ys H ⟨rfl,hi,p⟩
 refine⟨hlen i ys H hi p,?_⟩
 by_cases hlt:i<z.cps.size
 ·refine .inr ⟨hlt,Pv (i+1),fun ys' H' p'=>⟨z.cps.size-(i+1),by omega,rfl,hlt,p'⟩,fun x H' y=>?_⟩
  obtain⟨rfl,c,ec,rfl⟩:=y
  exact hs i c ys _ ec p
 ·have e:i=z.cps.size:=by omega
  subst e
  exact .inl ⟨Nat.le_refl _,hd ys H p⟩
end
end
section
variable{Q:VK}
theorem Ag0{r:V->List V->Hp->VK->Prop}(h:to σ H fun x H1=>tyV K T x H1/\r x [] H1 Q):yd3 K T r to σ H Q:=h
theorem yz4(h1:H p=some (.lst (xs++[y])))(h:Q y #[42,xs]):yd4 (.ref p) [] H Q :=
 ⟨p,xs++[y],y,rfl,rfl,h1,by simp,by rw[dropLast_concat];exact h⟩
end
variable{items:Array Value}
theorem wr0{t sl:Addr}{vl vu:Value}(ht:IsTup s.heap t items)(hs:s.heap.IsSliceOf sl vl vu .none)(pl:IsPart vl lo)(pu:IsPart vu hi)(hw:HT.sIx items.size 0 lo=0/\HT.sIx items.size items.size hi=items.size)(h:Q (.ref t) s):wpAny #[31] A (getItem (.ref t) (.ref sl)) Q E s:=by
 obtain⟨os,hos,hcs,hds⟩:=id hs
 have hTs:s.TypeIs (.ref sl) "slice":=⟨os,hos,hcs⟩
 unfold getItem
 try with_reducible refine wpAny_holding ?_
 first|refine wpAny_bind (wpAny_pure ?_)|skip
 refine wpAny_bind (wpAny_sequenceKey ht.typeIs #[10] ?_)
 refine wpAny_bind (wpAny_callSpecial?_slot (name:=Str.ofString "__getitem__") ht.typeIs PyProof.Rows.slot_tuple_getitem
  (wpAny_call_entry PyProof.Rows.slot_tuple_getitem ht.typeIs entry_tuple_getitem ?_ (args_tuple_getitem _ _)))
 show wpAny _ _ (Builtin.Tuple.tupleItemsOf (.ref t) >>= _) _ _ s
 refine wpAny_bind (tupleItemsOf_ ht ?_)
 refine wpAny_bind (wpAny_typeOf hTs ?_)
 rw[if_pos #[10]]
 refine wpAny_bind (HT.wa0 hs pl pu ?_)
 have hyes:((((HT.sIx items.size 0 lo:Nat):Int) == 0 && (1:Int) == 1 && (HT.sIx items.size items.size hi-HT.sIx items.size 0 lo) == items.size)=true):=by
  rw[hw.1,hw.2];simp
 show wpAny _ _ (if(((HT.sIx items.size 0 lo:Nat):Int) == 0 && (1:Int) == 1 && (HT.sIx items.size items.size hi-HT.sIx items.size 0 lo) == items.size)=true then _ else _) _ _ s
 rw[if_pos hyes]
 refine wpAny_bind (m:=Builtin.Tuple.tupleIsExact (.ref t)) ?_
 unfold Builtin.Tuple.tupleIsExact
 refine wpAny_bind (wpAny_typeOf ht.typeIs (wpAny_pure ?_))
 rw[if_pos #[10]]
 first
  | exact wpAny_bind (wpAny_rule (wpAny_bind #[68]))
  | exact wpAny_bind (wpAny_rule #[68])
  | exact wpAny_bind (wpAny_rule (wpAny_pure #[68]))
def Am8(K:Fg):V->Option Int->Option Int->Hp->VK->Prop:=fun x lo hi H Q=>∃ a xs,x=.ref a/\SqT K H a xs/\(HT.sIx xs.length 0 lo=0/\HT.sIx xs.length xs.length hi=xs.length)/\Q (.ref a) H
theorem zv2:SlR X (Am8 X.K):=by
 walk_at"22"
 exact wr0 ht hs pl pu (by rw[hlen];exact hw) ⟨.ref a,H,I,rfl,q⟩
def ym6(K:Fg):V->Option Int->Option Int->Hp->VK->Prop:=fun x lo hi H Q=>wu7 K x lo hi H Q\/Am8 K x lo hi H Q
theorem zv3:SlR X (ym6 X.K):=xo6.or zv2
def Aa3(K:Fg):R2:=fun x y H Q=>∃ a b ys,x=.ref a/\y=.ref b/\SqT K H a []/\SqT K H b ys/\Q (.ref b) H
theorem zv4:OpR X (binaryOp .Add) (Aa3 X.K):=by
 walk_at"7"
 obtain⟨a,b,ys,rfl,rfl,ha,hb,q⟩:=h
 cases rx
 cases ry
 obtain⟨its,r1,p1,_⟩:=I.tuple ha
 obtain⟨its2,r2,p2,_⟩:=I.tuple hb
 cases r1
 obtain⟨⟨cls,dd,data,sl⟩,ho,hc,n,hd⟩:=id p1
 obtain⟨⟨cls2,dd2,data2,sl2⟩,ho2,hc2,n2,hd2⟩:=id p2
 simp only at hc hd hc2 hd2
 subst hc hd hc2 hd2
 exact concat_meets ⟨_,ho,rfl⟩ ⟨_,ho2,rfl⟩ noFill_tuple_add seq_tuple_add PySem.F.slot_tuple_add PySem.F.entry_tuple_add (PySem.F.args_tuple_add_2 _ _)
  (tuple_addW0 a b _ its2.toArray n n2 dd dd2 sl sl2 (by simp)) ⟨ho,ho2,⟨.ref b,H,I,rfl,q⟩⟩
def qw7(K:Fg):R2:=fun x y H Q=>E7 K x y H Q\/Aa3 K x y H Q
theorem wy7:OpR X (binaryOp .Add) (qw7 X.K):=D4.or zv4
section
variable{Q:VK}
theorem wu8(h1:SqT K H a xs)(h2:SqT K H b ys)(hz:xs.length+ys.length<=sizeLine)(h:∀ p H',A9 H H'->SqT K H' p (xs++ys)->Q (.ref p) H'):qw7 K (.ref a) (.ref b) H Q:=by
 by_cases hx:xs=[]
 ·subst hx
  exact .inr ⟨a,b,ys,rfl,rfl,h1,h2,h b H (fun _ _ e=>e) h2⟩
 ·refine .inl (.inr (.inr (.inr ⟨a,b,xs,ys,rfl,rfl,h1,h2,hx,hz,fun hy=>?_,fun hy p hp=>h p _ #[36,hp] (SqT.of A8)⟩)))
  subst hy
  exact h a H (fun _ _ e=>e) (by rw[append_nil];exact h1)
theorem ym7(h1:SqT K H a xs)(h:∀ p H',A9 H H'->SqT K H' p (qg5 xs lo hi)->Q (.ref p) H'):ym6 K (.ref a) lo hi H Q:=by
 by_cases hw:HT.sIx xs.length 0 lo=0/\HT.sIx xs.length xs.length hi=xs.length
 ·refine .inr ⟨a,xs,rfl,h1,hw,h a H (fun _ _ e=>e) ?_⟩
  unfold qg5
  rw[hw.1,hw.2,drop_zero,Nat.sub_zero,take_length];exact h1
 ·exact .inl (.inr (.inl ⟨a,xs,rfl,h1,hw,fun p hp=>h p _ #[36,hp] (SqT.of A8)⟩))
theorem Aa4(c:0<=j)(h:Q (.int (i / 2 ^ j.toNat)) H):rI (fun _ j=>0<=j) (fun i j=>.int (i / 2 ^ j.toNat)) (.int i) (.int j) H Q:=⟨i,j,rfl,rfl,c,h⟩
theorem Aa5(c:zc3 i j)(h:Q (.int (i*2 ^ j.toNat)) H):rI zc3 (fun i j=>.int (i*2 ^ j.toNat)) (.int i) (.int j) H Q:=⟨i,j,rfl,rfl,c,h⟩
end
def zm2(ta:TA):TI:=fun σ H R=>ta σ H fun vs H1=>∃ n:Nat,vs=[.int ((n:Int)-1),.int (-1),.int (-1)]/\(n:Int)<2 ^ 62/\R (Itv n) H1
theorem ya4(n:Nat):Builtin.Range.rangeSize ((n:Int)-1) (-1) (-1)=n:=by
 unfold Builtin.Range.rangeSize
 rw[if_neg #[10]]
 have e:(- (-1):Int)=1:=by decide
 rw[e,Int.ediv_one]
 split <;> omega
theorem zf2 {tg:Expr} {a b:Expr} {ta:TA} {p:Pos} (hg:Gl X "range") (hm:X.mg "range"=none) (ha:PA X [a,b,c] ta) (hs:autoParam (starEach [a,b,c] X.env=(false,eval a X.env)::starEach [b,c] X.env) zAr) (hs2:autoParam (starEach [b,c] X.env=[(false,eval b X.env),(false,eval c X.env)]) zAr) :
 PI X tg (.Call (.Name "range" p) [a,b,c] [] pos) (zm2 ta):=by
 intro pins s σ H R I h
 refine Call_ (wd0 I hg hm boot_range #[29,by rw[hs2];rfl])
 obtain⟨vs,H1,I1,r1,q1⟩:=zq
 obtain⟨n,e,q1,q⟩:=q1
 subst e
 cases r1 with
 | cons r rr =>
   cases rr with
   | cons r' rr =>
     cases rr with
     | cons r'' rr =>
       cases rr
       obtain⟨t,rfl⟩:=r
       obtain⟨t',rfl⟩:=r'
       obtain⟨t'',rfl⟩:=r''
       refine call_range_3 #[10] ?_ (Or.inl (PyProof.noPylong_small #[10]))
       have I2:Inv X pins σ H1 {s1 with heap:=s1.heap.push {cls:=.type "range",data:=.fields #[.int ((n:Int)-1) t,.int (-1) t',.int (-1) t'']},toks:=s1.toks}:=I1.kept (t':=s1.toks) fun b o e=>Heap.get?_push_of_some _ e
       refine wpAny_pyIter_range (IsRange.new ..) ?_ ?_
       ·unfold Builtin.Range.small
        rw[ya4]
        simp only[Builtin.Range.rangeFitsLong,Bool.and_eq_true,Bool.or_eq_true,decide_eq_true_eq,beq_iff_eq,show ¬((-1:Int) > 0) by decide,if_false]
        omega
       refine⟨_,[_],_,_,H1,rfl,I2.kept (t':=s1.toks) fun b o e=>Heap.get?_push_of_some _ e,zl0 _ n,?_,fun b hb=>?_,q⟩
       ·have e1:(n:Int)-1+((0:Nat):Int)*(-1)=(n:Int)-1:=by simp
        have e2:(n:Int)-((0:Nat):Int)=n:=by simp
        rw[e1,e2]
        have:=Heap.get?_push_size (s1.heap.push {cls:=.type "range",data:=.fields #[.int ((n:Int)-1) t,.int (-1) t',.int (-1) t'']}) (o:={cls:=.type "range_iterator",data:=.fields #[rawInt ((n:Int)-1),rawInt (Builtin.Range.rangeSize ((n:Int)-1) (-1) (-1)),rawInt (-1)]}) rfl
        rw[ya4] at this ⊢
        exact this
       ·have e:b=(s1.heap.push {cls:=.type "range",data:=.fields #[.int ((n:Int)-1) t,.int (-1) t',.int (-1) t'']}).objs.size:=by simpa using hb
        subst e
        exact I2.fpOk #[11] (I2.hok.fresh #[11])
theorem zv5{ta:TA}(h:ta σ H fun vs H1=>∃ n:Nat,vs=[.int ((n:Int)-1),.int (-1),.int (-1)]/\(n:Int)<2 ^ 62/\R (Itv n) H1):zm2 ta σ H R:=h
theorem wy8{i:Nat}{items}{x:Value}(hit:s.heap.IsTupleIter it l i)(hl:s.heap.IsTuple l items)(hx:items[i]?=some x)(hQ:∀ h',h'.IsTupleIter it l (i+1)->Heap.SameBut it s.heap h'->Q x {s with heap:=h'}) :
 wpAny #[31] A (Builtin.SmallTypes.nextOf (.ref it)) Q E s:=by
 obtain⟨o,ho,hc,hd⟩:=id hit
 obtain⟨ol,hol,_,nl,hdl⟩:=hl
 unfold Builtin.SmallTypes.nextOf
 refine wpAny_bind (wpAny_callSpecial?_slot (name:=Str.ofString "__next__") hit.typeIs F.slot_tuple_iterator_next
  (wpAny_call_entry F.slot_tuple_iterator_next hit.typeIs F.entry_tuple_iterator_next ?_ (F.args_tuple_iterator_next_1 _)))
 walk_at"6"
 simp only[Int.toNat_natCast,hx]
 refine wpAny_bind (wpAny_setField ho hd (by simp) (wpAny_pure ⟨x,rfl,wpAny_pure (hQ _ ?_ (Heap.SameBut.update ..))⟩))
 exact⟨_,Heap.get?_update_self _ ho (Obj.isFreed_of_fields (Obj.data_mapFields hd _)),(Obj.cls_mapFields ..).trans hc,by
  rw[Obj.data_mapFields hd];simp[rawInt]⟩
theorem wa2{i:Nat}{items}(hh:A.handled=none)(hit:s.heap.IsTupleIter it l i)(hl:s.heap.IsTuple l items)(hx:items[i]?=none)(hE:∀ h' e,Heap.ExtBut it s.heap h'->(∃ o,h'.get? e=some o/\o.cls=.type "StopIteration")->E (.ref e) {s with heap:=h'}) :
 wpAny #[31] A (Builtin.SmallTypes.nextOf (.ref it)) Q E s:=by
 obtain⟨o,ho,hc,hd⟩:=id hit
 obtain⟨ol,hol,_,nl,hdl⟩:=hl
 unfold Builtin.SmallTypes.nextOf
 refine wpAny_bind (wpAny_callSpecial?_slot (name:=Str.ofString "__next__") hit.typeIs F.slot_tuple_iterator_next
  (wpAny_call_entry F.slot_tuple_iterator_next hit.typeIs F.entry_tuple_iterator_next ?_ (F.args_tuple_iterator_next_1 _)))
 walk_at"6"
 simp only[Int.toNat_natCast,hx]
 refine wpAny_bind (wpAny_rule (wpAny_bind (wpAny_setField ho hd (by simp) ?_)))
 show wpAny _ _ (newExc (.type "StopIteration") [] >>= _) _ _ _
 walk_at"17"
 first|rw[show A.in1.handled=none from hh]|rw[hh]
 refine wpAny_bind (wpAny_pure (wpAny_throw ?_))
 exact hE _ _ (((Heap.SameBut.update ..).extBut.push _).push _) ⟨_,Heap.get?_push_size _ rfl,rfl⟩
theorem ym8(hh:A.handled=none)(it l:Addr)(hne:l≠it)(items:Array Value) :
 Draws prog w A it [it,l] items.size (fun i v=>items[i]?=some v) (fun i h=>h.IsTupleIter it l i/\h.IsTuple l items) where
 live:=fun _ _ st=>let ⟨o,ho,_⟩:=st.1;⟨o,ho⟩
 frame:=fun _ _ _ st hk=>⟨st.1.at fun o e=>hk it (by simp) o e,st.2.at fun o e=>hk l (by simp) o e⟩
 item:=fun i s Q E hi st hQ=>by
  refine wy8 st.1 st.2 (x:=items[i]) (by simp[hi]) fun h' hit' hs'=>?_
  exact hQ _ h' s.toks (by simp[hi]) ⟨hit',st.2.extBut hs'.extBut hne⟩ hs'
 done:=fun s Q E st hE=>wa2 hh st.1 st.2 (by simp) hE
set_option maxHeartbeats 1000000 in
theorem wl3(l:Addr)(items:Array Value)(n:Nat)(dct:Option Addr)(sl:Array (Option Value)) :
 Meets (Builtin.«enumerate.__new__» ⟨[.type "enumerate",.ref l],[]⟩) (fun _ R s=>s.heap.get? l=some {cls:=.type "tuple",dict:=dct,data:=.seq items n,slots:=sl} /\
  R (.ok (.ret (.ref #[32].objs.size)))
   {s with heap:=#[32].push {cls:=.type "enumerate",data:=.fields #[.none,.bool false,.ref s.heap.objs.size,rawInt 0,.none,.none]}}) :=
 .of_wp fun prog w A R s h=>by
  obtain⟨hp,g,d,tk,os⟩:=s;obtain⟨hl,h⟩:=h
  have hsub:=sub_enumerate
  have hL:Heap.IsTuple (Shared.heap ⟨hp,g,d,tk,os⟩) l items:=⟨_,hl,rfl,n,rfl⟩
  wp_walk using AutoSeq1.wpAny_loadPart' hl
  refine wpAny_stack_any fun st=>wpAny_pure ?_
  split
  ·rename_i c _ _ _ _ _
   cases (c == Value.type "enumerate")
   ·wp_walk using AutoSeq1.wpAny_loadPart' hl,wpAny_pyIter_tuple hL
    exact⟨_,rfl,h⟩
   ·wp_walk using AutoSeq1.wpAny_loadPart' hl,wpAny_pyIter_tuple hL
    exact⟨_,rfl,h⟩
  ·wp_walk using AutoSeq1.wpAny_loadPart' hl,wpAny_pyIter_tuple hL
   exact⟨_,rfl,h⟩
theorem wl4(hL:s.heap.IsTuple l items) (h:∀ h',IsEnum h' #[28] s.heap.objs.size 0 .none->h'.IsTupleIter s.heap.objs.size l 0->h'.objs.size=s.heap.objs.size+2 ->
  (∀ b o,s.heap.get? b=some o->h'.get? b=some o)->Q (.ref #[28]) {s with heap:=h'}) :
 wpAny #[31] A (call (.type "enumerate") [.ref l]) Q E s:=by
 obtain⟨⟨c,dct,dt,sl⟩,hl,hc,n,hd⟩:=hL
 replace hc:c=.type "tuple":=hc
 replace hd:dt=.seq items n:=hd
 subst hc hd
 refine callType_new F.called_enumerate #[10] (F.typeCall_enumerate_1 _) (F.newCall_enumerate_1 _) (fun obj=>F.args_object_init_2 obj _) F.entry_enumerate_new
  (wl3 l items n dct sl) ⟨hl,?_⟩
 have hz:#[32].objs.size=s.heap.objs.size+1:=Heap.size_push ..
 show _/\_
 rw[hz]
 have he:IsEnum (#[32].push
  {cls:=.type "enumerate",data:=.fields #[.none,.bool false,.ref s.heap.objs.size,rawInt 0,.none,.none]}) #[28] s.heap.objs.size 0 .none:=by
  have:=Heap.get?_push_size #[32]
   (o:={cls:=.type "enumerate",data:=.fields #[.none,.bool false,.ref s.heap.objs.size,rawInt 0,.none,.none]}) rfl
  rw[hz] at this;exact this
 refine⟨⟨_,he,rfl⟩,h _ he ⟨_,Heap.get?_push_of_some _ (Heap.get?_push_size _ rfl),rfl,rfl⟩ (by rw[Heap.size_push,hz]) fun b o y=>Heap.get?_push_of_some _ (Heap.get?_push_of_some _ y)⟩
def Ite(K:Fg)(a:Addr):It:=⟨fun i H=>∃ xs x,SqT K H a xs/\xs[i]?=some x,fun i H x H'=>∃ p y,x=.ref p/\H p=none/\(∀ xs,SqT K H a xs->xs[i]?=some y)/\H'=upd H p (.tup [.int i,y]),fun i H=>∃ xs,SqT K H a xs/\xs.length<=i⟩
theorem yu7{k:Nat}(a e it:Addr)(hei:e≠it) :
 xn3 P w K (.Tuple elts k pos) (Ite K a) [e,it] e (fun i h=>(∃ old,IsEnum h e it i old)/\h.IsTupleIter it a i) where
 mem:=by simp
 obj:=by
  rintro i h ⟨⟨old,e1⟩,o2,e2,_,d2⟩ b hb
  have hb:b=e\/b=it:=by simpa using hb
  rcases hb with rfl|rfl
  ·exact⟨_,e1,fun v z=>by cases (show Data.fields _=Data.cell v from z)⟩
  ·exact⟨_,e2,fun v z=>by rw[d2] at z;cases z⟩
 keep:=fun i h h' st kk=>⟨let ⟨old,e1⟩:=st.1;⟨old,kk e (by simp) _ e1⟩,st.2.at fun o q=>kk it (by simp) o q⟩
 item:=by
  walk_at"0"
  obtain⟨xs,x,hq,hx⟩:=hg
  obtain⟨its,rv,p,hz⟩:=I.tuple hq
  obtain⟨u,hu,ru⟩:=rv.get hx
  have hil:i<its.toArray.size:=by rw[size_toArray];exact(List.getElem?_eq_some_iff.mp hu).1
  have pT:s.heap.IsTuple a its.toArray:=p
  have nea:a≠it:=fun z=>by
   obtain⟨o1,h1,c1,_⟩:=pT
   obtain⟨o2,h2,c2,_⟩:=st.2
   rw[z,h2] at h1
   cases h1
   rw[c1] at c2
   exact absurd c2 #[10]
  have nee:e≠a:=fun z=>by
   obtain⟨o1,h1,c1,_⟩:=pT
   obtain⟨old,h2⟩:=st.1
   rw[<-z] at h1
   have h2:s.heap.get? e=some _:=h2
   rw[h2] at h1
   cases h1
   exact absurd c1 (show ¬(Value.type "enumerate"=Value.type "tuple") by decide)
  have W:=WalksT.enumerateD (prog:=X.prog) (w:=X.w) (A:=X.A) (ym8 (A:=X.A.in1) (show X.A.in1.handled=none from I.ok.hd hc) it a nea its.toArray) e hei (by simp[hei,nee]) (by simp)
  refine wpAny_with_toks (n:=1) I.tk (W.item i s _ _ hil ⟨st.1,st.2,pT⟩ fun T vs h' tk hv hT htup hmid kk ht=>?_)
  have ht:0<tk:=ht
  obtain⟨tk1,y,hy,rfl⟩:=hv
  have hy:its[i]?=some y:=by simpa using hy
  rw[hu] at hy
  injection hy with hy
  subst hy
  have hap:=W.apart i T h' hmid
  refine⟨_,rfl,W.go elts k pos i T {s with heap:=h',toks:=tk} _ _ hmid fun h2 st2 k2=>?_⟩
  have htup2:IsTup h2 T [Value.int i tk1,u].toArray:=by
   obtain⟨o,e,c⟩:=htup
   exact⟨o,k2 T o hap e,by simpa using c⟩
  have I1:Inv X pins σ (upd H T (.tup [.int i,x])) {s with heap:=h2,toks:=tk}:=I.turnLaid (ch:=[e,it]) (fun b hb=>hf b hb) (fun b u hb e=>k2 b u hb (kk b u hb e)) hT ⟨by rw[sizeLine_eq];simp,[Value.int i tk1,u],.cons ⟨tk1,rfl⟩ (.cons ru .nil),htup2⟩ ht
  refine⟨.ref T,_,I1,rfl,⟨T,x,rfl,I.hok.fresh hT,fun ys hy=>by rw[I.tuple_inj hy hq];exact hx,rfl⟩,⟨st2.1,st2.2.1⟩,fun b hb=>?_⟩
  have hb2:∃ o,s.heap.get? b=some o:=by
   have hb:b=e\/b=it:=by simpa using hb
   rcases hb with rfl|rfl
   ·obtain⟨old,e1⟩:=st.1;exact⟨_,e1⟩
   ·obtain⟨o,e1,_⟩:=st.2;exact⟨_,e1⟩
  obtain⟨o,e⟩:=hb2
  rw[B5 #[27,hT]]
  exact(hf b hb).1
 done:=by
  walk_at"0"
  obtain⟨xs,hq,hx⟩:=hg
  obtain⟨its,rv,p,hz⟩:=I.tuple hq
  have pT:s.heap.IsTuple a its.toArray:=p
  have hno:its.toArray[i]?=none:=by
   have:=rv.length
   simp;omega
  obtain⟨old,he⟩:=st.1
  have D:Draws X.prog X.w X.A.in1 it [it,a] 0 (fun _ _=>True) (fun _ h=>h.IsTupleIter it a i/\h.IsTuple a its.toArray) :=
   { live:=fun _ _ st=>let ⟨o,ho,_⟩:=st.1;⟨o,ho⟩
     frame:=fun _ _ _ st hk=>⟨st.1.at fun o e=>hk it (by simp) o e,st.2.at fun o e=>hk a (by simp) o e⟩
     item:=fun j s Q E hj=>absurd hj (Nat.not_lt_zero _)
     done:=fun s Q E st hE=>wa2 (show X.A.in1.handled=none from I.ok.hd hc) st.1 st.2 hno hE}
  exact wpAny_pyNext_enum_endD D he ⟨st.2,pT⟩ fun h' hx=>⟨rfl,I.turnedL (ch:=[e,it]) (t':=s.toks) (fun b hb=>hf b hb) (fun b o hb y=>hx b o (fun z=>hb (by simp[z])) y) I.tk⟩
 self:=fun A i s Q E st h=>let ⟨old,e1⟩:=st.1;wpAny_pyIter_enum e1 h
def ye3(K:Fg)(ta:TA):TI:=fun σ H R=>ta σ H fun vs H1=>∃ a xs,vs=[.ref a]/\SqT K H1 a xs/\R (Ite K a) H1
theorem zm3{k:Nat}{p:Pos}{l:Expr}{ta:TA}(hg:Gl X "enumerate")(hm:X.mg "enumerate"=none)(ha:PA X [l] ta)(hs:autoParam (starEach [l] X.env=[(false,eval l X.env)]) zAr) :
 PI X (.Tuple elts k tpos) (.Call (.Name "enumerate" p) [l] [] pos) (ye3 X.K ta):=by
 intro pins s σ H R I h
 refine Call_ (wd0 I hg hm boot_enumerate #[29,rfl])
 obtain⟨vs,H1,I1,r1,q1⟩:=zq
 obtain⟨a,xs,e,hq,q⟩:=q1
 subst e
 obtain⟨v,rfl,rv⟩:=qz9 r1
 cases rv
 obtain⟨its,rv,pT,hz⟩:=I1.tuple hq
 refine wl4 (show s1.heap.IsTuple a its.toArray from pT) fun h' he hit hz hk=>?_
 have I2:Inv X pins σ H1 {s1 with heap:=h'}:=I1.kept (t':=s1.toks) hk
 refine wpAny_pyIter_enum he ?_
 have ne:s1.heap.objs.size+1≠s1.heap.objs.size:=by omega
 refine⟨s1.heap.objs.size+1,_,_,_,H1,rfl,I2,yu7 a (s1.heap.objs.size+1) s1.heap.objs.size ne,⟨⟨_,he⟩,hit⟩,fun b hb=>?_,q⟩
 have hb:b=s1.heap.objs.size+1\/b=s1.heap.objs.size:=by simpa using hb
 rcases hb with rfl|rfl
 ·exact I1.fpOk (Nat.le_succ _) (I1.hok.fresh (Nat.le_succ _))
 ·exact I1.fpOk #[11] (I1.hok.fresh #[11])
theorem zm4{ta:TA}(h:ta σ H fun vs H1=>∃ a xs,vs=[.ref a]/\SqT K H1 a xs/\R (Ite K a) H1):ye3 K ta σ H R:=h
theorem ya5(hq:SqT K H a xs)(Pv:Nat->St->Hp->Prop)(h0:Pv 0 σ H)(hk:∀ i σ H',Pv i σ H'->SqT K H' a xs)(hs:∀ i x σ H p,xs[i]?=some x->Pv i σ H->H p=none->g (.ref p) σ (upd H p (.tup [.int i,x])) fun σ2 H2=>tb {D with nx:=PAt Pv (i+1),ct:=PAt Pv (i+1),bk:=D.nx} σ2 H2)(hd:∀ σ H,Pv xs.length σ H->D.nx σ H) :
 ∃ b ys,[V.ref a]=[.ref b]/\SqT K H b ys/\wu6 g tb D σ (Ite K b) H:=by
 refine⟨a,xs,rfl,hq,fun i m σ H=>m=xs.length-i/\i<=xs.length/\Pv i σ H,⟨xs.length,by simp,Nat.zero_le _,h0⟩,?_⟩
 rintro i m σ H ⟨rfl,hi,p⟩
 have sq:=hk i σ H p
 by_cases hlt:i<xs.length
 ·refine .inr ⟨⟨xs,xs[i],sq,by simp[hlt]⟩,Pv (i+1),fun σ' H' p'=>⟨xs.length-(i+1),by omega,rfl,hlt,p'⟩,fun x H' y=>?_⟩
  obtain⟨t,z,rfl,ht,hz,rfl⟩:=y
  exact hs i z σ H t (hz xs sq) p ht
 ·have e:i=xs.length:=by omega
  subst e
  exact .inl ⟨⟨xs,sq,Nat.le_refl _⟩,hd σ H p⟩
theorem zm5(hn:(n:Int)<2 ^ 62)(Pv:Nat->St->Hp->Prop)(p0:Pv 0 σ H)(hs:∀ (i:Nat) σ H,i<n->Pv i σ H->g (.int ((n:Int)-1-i)) σ H fun σ2 H2=>tb {D with nx:=PAt Pv (i+1),ct:=PAt Pv (i+1),bk:=D.nx} σ2 H2)(hd:∀ σ H,Pv n σ H->D.nx σ H) :
 ∃ m:Nat,[V.int ((n:Int)-1),V.int (-1),V.int (-1)]=[.int ((m:Int)-1),.int (-1),.int (-1)]/\(m:Int)<2 ^ 62/\wu6 g tb D σ (Itv m) H:=by
 obtain⟨m,e,h1,h2⟩:=zu6 hn Pv p0 hs hd
 injection e with e
 injection e with e
 have:n=m:=by omega
 subst this
 exact⟨n,rfl,h1,h2⟩
section
variable{Q:VK}
theorem zm6(h1:H p=some (.lst xs))(h2:H b=some (.lst zs))(hz:xs.length+zs.length<=sizeLine)(h:Q .non #[42,xs++zs]):wx5 (.ref p) [.ref b] H Q:=⟨p,b,xs,zs,rfl,rfl,h1,h2,hz,h⟩
end
section
variable{t:TE}
def tFs(c1 c2:Str)(t:TE):TE:=fun σ H Q=>t σ H fun x H1=>∃ z,x=.str z/\z.length<=4096/\Q (.str (c1++z++c2)) H1
theorem Aa6{c1 c2:Str}{p3:Pos}(he:PE X e t)(h1:autoParam (c1.length<=4096) zAd)(h2:autoParam (c2.length<=4096) zAd) :
 PE X (.JoinedStr [.Constant (.str c1) j1 p1,.FormattedValue e (-1) none p2,.Constant (.str c2) j2 p3] pos) (tFs c1 c2 t):=by
 walk_at"18"
 have e0:Str.empty++c1=c1:=Str.empty_append c1
 have hs:sizeLine=16777216:=sizeLine_eq
 refine JoinedStr_many (joinParts_cons (Calls.Constant_str ?_))
 refine⟨by rw[e0,hs];omega,?_⟩
 rw[e0]
 refine joinParts_cons (FormattedValue_plain (thn (he pins _ σ H _ (I.tok _) h) fun u s1 zq=>?_))
 obtain⟨x,H1,I1,r1,z,e1,hz,q⟩:=zq
 subst e1
 obtain⟨tk,rfl⟩:=r1
 refine wpAny_with_toks (n:=1) I1.tk (formatField_str (fun t' tk'=>?_) (by rw[hs];omega))
 intro htk
 refine⟨by rw[strLen_append,hs];omega,?_⟩
 refine joinParts_consE (joinParts_cons (Calls.Constant_str ?_))
 refine⟨by rw[strLen_append,strLen_append,hs];omega,joinParts_nilE (joinParts_nil ?_ (by rw[strLen_append,strLen_append,hs];omega))⟩
 exact⟨.str (c1++z++c2),H1,I1.tok _,⟨_,rfl⟩,q⟩
end
theorem ya6:Manifest.owners.lookup (String.ofList ['d','e','s','r','e','v','e','r'].reverse)=some Manifest.sig_reversed:=by kernel_rfl
theorem qd4:Slot "reversed" "__next__" "reversed.__next__" :=
 .of (owner := "reversed") (n := "__next__") (by rw[typeLookup_type,builtinLookup_eq_fast];kernel_rfl) #[17] #[17] #[17]
  (by first|exact .inl #[17]|exact .inr #[17]) (by rw[isSubtype_type];kernel_rfl)
theorem wl5:entryFor table "reversed.__next__"=some Builtin.«reversed.__next__»:=entryFor_of_tree (by kernel_rfl)
theorem wg9(a:Value):argsOk "reversed.__next__" ⟨[a],[]⟩:=by
 unfold argsOk;rw[signature?_of (id := "reversed.__next__") (n:=['_','_','t','x','e','n','_','_']) (o:=['d','e','s','r','e','v','e','r']) (by kernel_rfl) ya6];kernel_rfl
theorem ws3:Slot "reversed" "__iter__" "reversed.__iter__" :=
 .of (owner := "reversed") (n := "__iter__") (by rw[typeLookup_type,builtinLookup_eq_fast];kernel_rfl) #[17] #[17] #[17]
  (by first|exact .inl #[17]|exact .inr #[17]) (by rw[isSubtype_type];kernel_rfl)
theorem xk0(a:Value):argsOk "reversed.__iter__" ⟨[a],[]⟩:=by
 unfold argsOk;rw[signature?_of (id := "reversed.__iter__") (n:=['_','_','r','e','t','i','_','_']) (o:=['d','e','s','r','e','v','e','r']) (by kernel_rfl) ya6];kernel_rfl
theorem xo8:entryFor table "reversed.__iter__"=some Builtin.«dict_keyiterator.__iter__» :=
 entryFor_alias (id' := "dict_keyiterator.__iter__") (by kernel_rfl) (by first | rfl | decide +kernel | (unfold String.splitOn; simp +decide [String.splitOnAux])) #[17] (by kernel_rfl)
theorem xu9:Slot "reversed" "__init__" "object.__init__" :=
 .of (owner := "object") (n := "__init__") (by rw[typeLookup_type,builtinLookup_eq_fast];kernel_rfl) #[17] #[17] #[17]
  (by first|exact .inl #[17]|exact .inr #[17]) (by rw[isSubtype_type];kernel_rfl)
theorem xk1:TypeCalled "reversed" "reversed.__new__" "object.__init__" :=
 ⟨by decide +kernel,by decide +kernel,⟨_,_,F.mro_reversed⟩,F.made_reversed,by decide +kernel,by rw[isSubtype_type];kernel_rfl,xu9⟩
theorem xk2:typeLookup (.type "tuple") "__reversed__"=pure none:=by rw[typeLookup_type,builtinLookup_eq_fast];kernel_rfl
theorem wl6:typeLookup (.type "tuple") "__getitem__"=pure (some (.builtin "tuple.__getitem__")):=by rw[typeLookup_type,builtinLookup_eq_fast];kernel_rfl
def yu8(l:Addr)(i:Int):Obj:={cls:=.type "reversed",data:=.fields #[.ref l,rawInt i]}
def wl7(h:Heap)(a l:Addr)(i:Int):Prop:=∃ o,h.get? a=some o/\o.cls=.type "reversed"/\o.data=.fields #[.ref l,rawInt i]
theorem wl7.typeIs(x:wl7 s.heap a l i):s.TypeIs (.ref a) "reversed":=let ⟨o,ho,hc,_⟩:=x;⟨o,ho,hc⟩
theorem wl7.at(x:wl7 h a l i)(e:∀ o,h.get? a=some o->h'.get? a=some o):wl7 h' a l i:=let ⟨o,ho,r⟩:=x;⟨o,e _ ho,r⟩
theorem wr1(l:Addr)(items:Array Value)(hz:(items.size:Int)<2 ^ 63) :
 Meets (Builtin.«reversed.__new__» ⟨[.type "reversed",.ref l],[]⟩) (fun _ R s=>IsTup s.heap l items /\
  R (.ok (.ret (.ref s.heap.objs.size))) {s with heap:=s.heap.push (yu8 l ((items.size:Int)-1)),toks:=s.toks+1+1}) :=
 .of_wp fun prog w A R s h=>by
  obtain⟨ht,h⟩:=h
  unfold Builtin.«reversed.__new__»
  refine wpAny_bind (wpAny_of_eq (newClass_reversed _) ?_)
  try dsimp only
  refine wpAny_bind (wpAny_of_eq (a:=()) (by first|rfl|kernel_rfl) ?_)
  refine wpAny_bind (wpAny_of_eq (a:=()) (by first|rfl|kernel_rfl) ?_)
  try dsimp only
  refine wpAny_bind (wpAny_specialOf ht.typeIs xk2 ?_)
  try dsimp only
  refine wpAny_bind ?_
  show wpAny _ _ (isInstance (.ref l) (.type "dict") >>= _) _ _ _
  refine wpAny_bind (wpAny_isInstance ht.typeIs sub_tuple_dict ?_)
  try dsimp only
  rw[if_neg #[10]]
  refine wpAny_bind (wpAny_specialOf ht.typeIs wl6 ?_)
  try dsimp only
  rw[if_pos #[10]]
  refine wpAny_pure ?_
  try dsimp only
  rw[if_neg #[10]]
  refine wpAny_bind (len_tuple ht hz ?_)
  refine wpAny_bind (m:=asInt? _) (wpAny_of_eq (a:=some (items.size:Int)) rfl ?_)
  try dsimp only
  refine wpAny_bind ?_
  show wpAny _ _ (newObj (.type "reversed") (.fields #[.ref l,rawInt ((items.size:Int)-1)]) none) _ _ _
  refine wpAny_newObj_type ?_ (by size_fits)
  exact wpAny_pure ⟨_,rfl,h⟩
theorem wy9(hl:IsTup s.heap l items)(hz:(items.size:Int)<2 ^ 63)(h:Q (.ref s.heap.objs.size) {s with heap:=s.heap.push (yu8 l ((items.size:Int)-1)),toks:=s.toks+1+1}):wpAny #[31] A (call (.type "reversed") [.ref l]) Q E s :=
 callType_new xk1 #[10] (F.typeCall_reversed_1 _) (F.newCall_reversed_1 _) (fun obj=>F.args_object_init_2 obj _) F.entry_reversed_new (wr1 l items hz)
  ⟨hl,⟨_,Heap.get?_push_size _ rfl,rfl⟩,h⟩
theorem xk3{i:Nat}{x:Value}{Q:Option Value->Shared->Prop}(hit:wl7 s.heap it l (i:Int))(hl:IsTup s.heap l items)(hi:(i:Int)<2 ^ 63)(hx:items[i]?=some x)(hQ:∀ h' tk,wl7 h' it l ((i:Int)-1)->Heap.SameBut it s.heap h'->Q (some x) {s with heap:=h',toks:=tk}):wpAny #[31] A (pyNext (.ref it)) Q E s:=by
 obtain⟨o,ho,hc,hd⟩:=id hit
 unfold pyNext
 refine wpAny_bind (wpAny_attempt (wpAny_callSpecial?_slot (name:=Str.ofString "__next__") hit.typeIs qd4
  (wpAny_call_entry qd4 hit.typeIs wl5 ?_ (wg9 _))))
 unfold Builtin.«reversed.__next__»
 refine wpAny_bind (wpAny_of_eq (a:=(Value.ref it,[])) rfl ?_)
 try dsimp only
 refine wpAny_bind (wpAny_field ho hd (x:=.ref l) rfl ?_)
 refine wpAny_bind (wpAny_field ho hd (x:=rawInt (i:Int)) rfl ?_)
 show wpAny _ _ (if(i:Int)<0 then _ else _) _ _ s
 rw[if_neg #[0]]
 refine wpAny_bind (wpAny_specialOf hl.typeIs wl6 ?_)
 try dsimp only
 rw[if_neg #[10]]
 have hil:i<items.size:=(Array.getElem?_eq_some_iff.mp hx).1
 refine wpAny_bind (wpAny_mkInt ?_)
 refine wpAny_bind (wpAny_attempt (getItem_tuple (j:=i) hl #[0] hi (by unfold seqIndex?;simp;omega) hx ?_))
 try dsimp only
 refine wpAny_bind (wpAny_field (s:={s with toks:=s.toks+1}) ho hd (x:=rawInt (i:Int)) rfl ?_)
 show wpAny _ _ (setField (.ref it) 1 (rawInt ((i:Int)-1)) >>= _) _ _ _
 refine wpAny_bind (wpAny_setField (s:={s with toks:=s.toks+1}) ho hd (by simp) ?_)
 refine wpAny_pure ⟨x,rfl,wpAny_pure (hQ _ _ ?_ (Heap.SameBut.update ..))⟩
 exact⟨_,Heap.get?_update_self _ ho (Obj.isFreed_of_fields (Obj.data_mapFields hd _)),(Obj.cls_mapFields ..).trans hc,by
  rw[Obj.data_mapFields hd];simp⟩
theorem xo9{Q:Option Value->Shared->Prop}(hh:A.handled=none)(hit:wl7 s.heap it l (-1))(hQ:∀ h',Heap.ExtBut it s.heap h'->Q none {s with heap:=h'}):wpAny #[31] A (pyNext (.ref it)) Q E s:=by
 obtain⟨o,ho,hc,hd⟩:=id hit
 unfold pyNext
 refine wpAny_bind (wpAny_attempt (wpAny_callSpecial?_slot (name:=Str.ofString "__next__") hit.typeIs qd4
  (wpAny_call_entry qd4 hit.typeIs wl5 ?_ (wg9 _))))
 unfold Builtin.«reversed.__next__»
 refine wpAny_bind (wpAny_of_eq (a:=(Value.ref it,[])) rfl ?_)
 try dsimp only
 refine wpAny_bind (wpAny_field ho hd (x:=.ref l) rfl ?_)
 refine wpAny_bind (wpAny_field ho hd (x:=rawInt (-1)) rfl ?_)
 show wpAny _ _ (if(-1:Int)<0 then _ else _) _ _ s
 rw[if_pos #[10]]
 refine wpAny_bind (wpAny_rule ?_)
 refine wpAny_bind ?_
 show wpAny _ _ (setField (.ref it) 1 (rawInt (-1)) >>= _) _ _ _
 refine wpAny_bind (wpAny_setField ho hd (by simp) ?_)
 have h1:=Heap.get?_update_self (Obj.mapFields (·.setIfInBounds 1 (rawInt (-1)))) ho (Obj.isFreed_of_fields (Obj.data_mapFields hd _))
 have d1:=Obj.data_mapFields hd (·.setIfInBounds 1 (rawInt (-1)))
 refine wpAny_setField (s:={s with heap:=_}) h1 d1 (by simp) ?_
 have eb:Heap.ExtBut it s.heap ((s.heap.update it (Obj.mapFields (·.setIfInBounds 1 (rawInt (-1))))).update it (Obj.mapFields (·.setIfInBounds 0 Value.none))):=by
  intro b u hb e
  exact((Heap.SameBut.update _ _ _).2 b hb).trans (((Heap.SameBut.update _ _ _).2 b hb).trans e)
 first
 | show wpAny _ _ (newExc (.type "StopIteration") [] >>= _) _ _ _
 | (refine wpAny_bind ?_;show wpAny _ _ (newExc (.type "StopIteration") [] >>= _) _ _ _)
 walk_at"17"
 first|rw[show A.in1.handled=none from hh]|rw[hh]
 refine wpAny_bind (wpAny_pure (wpAny_throw ?_))
 refine wpAny_bind (wpAny_isInstance (T := "StopIteration") (b:=true) ⟨_,Heap.get?_push_size _ rfl,rfl⟩ isSubtype_stop ?_)
 exact wpAny_pure (hQ _ ((eb.push _).push _))
theorem xp0(hit:wl7 s.heap it l i)(h:Q (.ref it) s):wpAny #[31] A (pyIter (.ref it)) Q E s:=by
 refine wpAny_pyIter_slot hit.typeIs ws3 (wpAny_call_entry ws3 hit.typeIs xo8 ?_ (xk0 _))
 show wpAny _ _ (ret (.ref it)) _ _ s
 exact wpAny_pure ⟨_,rfl, "reversed",_,hit.typeIs,qd4.lookup,h⟩
def zv6(K:Fg)(a:Addr)(n:Nat):It :=
 ⟨fun i H=>i<n/\∃ xs x,SqT K H a xs/\xs[n-1-i]?=some x,fun i H x H'=>H'=H/\∀ xs,SqT K H a xs->xs[n-1-i]?=some x,fun i _=>i=n⟩
theorem zf3{tg:Expr}(a it:Addr)(n:Nat):xn3 P w K tg (zv6 K a n) [it] it (fun i h=>wl7 h it a ((n:Int)-1-(i:Int))) where
 mem:=by simp
 obj:=fun i h st b hb=>by
  walk_at"31"
 keep:=fun i h h' st k=>st.at fun o e=>k it (by simp) o e
 item:=by
  walk_at"0"
  obtain⟨hi,xs,x,hq,hx⟩:=hg
  obtain⟨its,rv,p,hz⟩:=I.tuple hq
  obtain⟨u,hu,ru⟩:=rv.get hx
  walk_at"11"
  have e:(n:Int)-1-(i:Int)=((n-1-i:Nat):Int):=by omega
  have st1:=st
  rw[e] at st1
  have hlt:=(List.getElem?_eq_some_iff.mp hx).1
  have hs:sizeLine=16777216:=sizeLine_eq
  refine wpAny_with_toks (n:=1) I.tk (xk3 st1 p #[0] (x:=u) (by simpa using hu) fun h' tk st' sb=>?_)
  intro htk
  have I1:Inv X pins σ H {s with heap:=h',toks:=tk}:=I.turned (t':=tk) (fun b o hb e=>(sb.2 b hb).trans e) f0 f1 f3 f4 f5
  obtain⟨o,e',c,d⟩:=id st'
  have e2:((n-1-i:Nat):Int)-1=(n:Int)-1-((i+1:Nat):Int):=by omega
  rw[e2] at st'
  exact⟨u,rfl,xy1 (s:={s with heap:=h',toks:=tk}) e' c d #[10] ⟨x,H,I1,ru,⟨rfl,fun ys hy=>by rw[I.tuple_inj hy hq];exact hx⟩,st',fun b hb=>(hf b hb).1⟩⟩
 done:=by
  walk_at"0"
  have hg:i=n:=hg
  subst hg
  walk_at"11"
  have e:(i:Int)-1-(i:Int)=-1:=by omega
  have st1:=st
  rw[e] at st1
  exact xo9 (I.ok.hd hc) st1 fun h' eb=>⟨rfl,I.turned (t':=s.toks) (fun b o hb e=>eb b o hb e) f0 f1 f3 f4 f5⟩
 self:=fun _ _ _ _ _ st h=>xp0 st h
def zm7(K:Fg)(ta:TA):TI:=fun σ H R=>ta σ H fun vs H1=>∃ a xs,vs=[.ref a]/\SqT K H1 a xs/\R (zv6 K a xs.length) H1
theorem zv7{tg:Expr}{l:Expr}{ta:TA}{p:Pos}(hg:Gl X "reversed")(hm:X.mg "reversed"=none)(ha:PA X [l] ta)(hs:autoParam (starEach [l] X.env=[(false,eval l X.env)]) zAr) :
 PI X tg (.Call (.Name "reversed" p) [l] [] pos) (zm7 X.K ta):=by
 intro pins s σ H R I h
 refine Call_ (wd0 I hg hm boot_reversed #[29,rfl])
 obtain⟨vs,H1,I1,r1,q1⟩:=zq
 obtain⟨a,xs,e,hq,q⟩:=q1
 subst e
 obtain⟨v,rfl,rv⟩:=qz9 r1
 cases rv
 obtain⟨its,rv,p,hz⟩:=I1.tuple hq
 have hsz:sizeLine=16777216:=sizeLine_eq
 have hlen:=rv.length
 refine wy9 p (by simp only[size_toArray];omega) ?_
 have e:((its.toArray.size:Nat):Int)-1=(xs.length:Int)-1-((0:Nat):Int):=by rw[rv.length];simp
 rw[e]
 have hit:wl7 (s1.heap.push (yu8 a ((xs.length:Int)-1-((0:Nat):Int)))) s1.heap.objs.size a ((xs.length:Int)-1-((0:Nat):Int)):=⟨_,Heap.get?_push_size _ rfl,rfl,rfl⟩
 refine xp0 hit ?_
 refine⟨s1.heap.objs.size,[s1.heap.objs.size],_,_,H1,rfl,I1.kept (t':=s1.toks+1+1) fun b o e=>Heap.get?_push_of_some _ e,zf3 a _ xs.length,hit,fun b hb=>?_,q⟩
 walk_at"16"
section
variable{Q:VK}
theorem zv8{ta:TA}(h:ta σ H fun vs H1=>∃ a xs,vs=[.ref a]/\SqT K H1 a xs/\R (zv6 K a xs.length) H1):zm7 K ta σ H R:=h
end
theorem m2{f:Expr}(base:autoParam (attributeBase o m X.env (eval o X.env)=eval o X.env) zAr) (few:((backTo cpos (starEach [e,f] X.env)).all (fun x=>!x.1) && (backToKw cpos (keywordEach [] X.env)).all (fun x=>x.1.isSome)
 && decide (([e,f]:List Expr).length+([]:List Keyword).length+(if([]:List Keyword).isEmpty then 0 else 1)<30))=true:=by rfl) (line:autoParam ((apos.endLine == cpos.line)=true) zAr) (trees:autoParam (backTo cpos (starEach [e,f] X.env)=[(false,eval e X.env),(false,eval f X.env)]) zAr):M2 X o m apos e f cpos:=⟨base,few,line,trees⟩
section
variable{Q:VK}
theorem zm8(hq:SqT K H a xs)(Pv:Nat->St->Hp->Prop)(h0:Pv 0 σ H)(hk:∀ i σ H',Pv i σ H'->SqT K H' a xs)(hs:∀ i x σ H,xs[xs.length-1-i]?=some x->i<xs.length->Pv i σ H->g x σ H fun σ2 H2=>tb {D with nx:=PAt Pv (i+1),ct:=PAt Pv (i+1),bk:=D.nx} σ2 H2)(hd:∀ σ H,Pv xs.length σ H->D.nx σ H) :
 ∃ b ys,[V.ref a]=[.ref b]/\SqT K H b ys/\wu6 g tb D σ (zv6 K b ys.length) H:=by
 refine⟨a,xs,rfl,hq,fun i m σ H=>m=xs.length-i/\i<=xs.length/\Pv i σ H,⟨xs.length,by simp,Nat.zero_le _,h0⟩,?_⟩
 rintro i m σ H ⟨rfl,hi,p⟩
 have sq:=hk i σ H p
 by_cases hlt:i<xs.length
 ·refine .inr ⟨⟨hlt,xs,xs[xs.length-1-i],sq,List.getElem?_eq_getElem #[0]⟩,Pv (i+1),fun σ' H' p'=>⟨xs.length-(i+1),by omega,rfl,hlt,p'⟩,fun x H' y=>?_⟩
  obtain⟨rfl,hz⟩:=y
  exact hs i x σ _ (hz xs sq) hlt p
 ·have e:i=xs.length:=by omega
  subst e
  exact .inl ⟨rfl,hd σ H p⟩
end
def ye4:V->List V->Hp->VK->Prop:=fun x xs H Q=>∃ z c:Str,x=.str z/\xs=[.str c]/\z.length<=1000000/\Q (.str (PySem.Txt.stripChars z c)) H
theorem zf4:MtR X "str.strip" ye4:=by
 walk_at"28"
 obtain⟨z,c,rfl,rfl,hz,q⟩:=h
 obtain⟨t,rfl⟩:=rx
 obtain⟨u,rfl,ru⟩:=rv.one
 obtain⟨t',rfl⟩:=ru
 refine wpAny_with_toks (n:=1) I.tk (call_gives F.slot_str_strip (typeIs_str _ _ _) F.entry_str_strip (F.args_str_strip_2 _ _) (gives_str_strip_chars z c t t') (post_val_or_made (fun _=>fits_stripped _ _ _ #[71]) fun t2 k=>?_))
 intro hk
 exact⟨.str (PySem.Txt.stripChars z c),H,I.tok _ hk,⟨_,rfl⟩,q⟩
section
variable{Q:VK}{f:Str}{E:XK}
theorem G0(h:ta σ H fun x H1=>∃ a C dx fs v,x=.ref a/\H1 a=some (.ins C dx fs)/\Cls K C/\wk0 K C f/\fs.lookup f=some v/\Q v H1):R4 K ta f σ H Q:=h
theorem ql9(h:tv σ H fun y H1=>ta σ H1 fun x H2=>∃ a C dx fs,x=.ref a/\H2 a=some (.ins C dx fs)/\Cls K C/\wk0 K C f/\fs.length<1000/\D.nx σ (upd H2 a (.ins C dx (qm8 f y fs)))):wk1 K ta tv f D σ H:=h
theorem E5(h:ta σ H fun x H1=>∃ a dx fs,x=.ref a/\H1 a=some (.ins C dx fs)/\fs.lookup m=none/\t σ H1 fun vs H2=>sp (x::(vs++dvs)) H2 Q E):N6 C m sp dvs E ta t σ H Q:=h
theorem ye5(h:t σ H fun vs H1=>∀ x dx,H1 x=none->H1 dx=none->dx≠x->sp (.ref x::(vs++dvs)) (upd (upd H1 dx (.own x)) x (.ins C dx [])) (fun v H2=>v=.non/\Q (.ref x) H2) E):yk8 C sp dvs E t σ H Q:=h
end
end L2
local macro_rules | `(tactic| lk) => do
 let a <- ("qf6 qm9 qg6 zj9 D6 Ae9 zk0 Al4 Af0 zt8 zt9 wg8 Af1 yz1 ze2 zz7 qo8 zz8 yu1 yz2 zu0 zk1 zu1 Af2 Af3 zu2 Al5 Al6 zk2 yz0 Af4 Al7 zk4 zj7 zt7 zk3 zu3 zu4 Am4 zu7 ze6 Af9 zu8 zl5 zu9 Ag0 zv5 zm4 zv1 xd7 Af5 Al8 Al9 Am0 zz9 Aa2 ym3 zl6 Am5 Ao5 zu5".splitOn " ").toArray.mapM fun n => `(Lean.Parser.Tactic.tacticSeq| refine $(Lean.mkIdent (.str `L2 n)) ?_)
 `(tactic| (repeat (first | (with_reducible first $[| $a]*) | ((with_reducible refine' L2.we1 ?ev ?_); (case ev => exact rfl)) | ((with_reducible refine L2.yl8 ?ec ?_); (case ec => first | decide | omega | assumption)) | ((with_reducible refine L2.Af6 ?ec ?_); (case ec => first | exact ⟨by decide, by decide⟩ | exact ⟨by omega, by omega⟩)))))
local macro_rules | `(tactic| x_go) => `(tactic| refine L2.qm9 ?_)
local macro_rules | `(tactic| k_go) => `(tactic| refine L2.qg6 ?_)
namespace My
open PySem L2
variable{H H':Hp}{K:Fg}{Q:VK}{v:V}{x y:Str}{α:Type}{E:XK}{vs:List V}
section
open PyProof.Rows
set_option genInjectivity false in
structure Row where
 name:Str
 sort:Str
 host:Str
 shuts:List Str
 bars:List Str
def Row.da(r:Row):PyData:=.tuple [.str r.name,.str r.sort,.str r.host,.tuple (sDa r.shuts),.tuple (sDa r.bars)]
def oV:Option Str->V
 | some s=>.str s
 | none=>.non
variable{r:Row}
theorem R7(h:Dv K H r.da v):∃ b sv bv,v=.ref b/\SqT K H b [.str r.name,.str r.sort,.str r.host,sv,bv]/\Dv K H (.tuple (sDa r.shuts)) sv/\Dv K H (.tuple (sDa r.bars)) bv:=by
 obtain⟨b,ys,rfl,hb,h⟩:=D9.mp h
 rw[Dvs] at h;obtain⟨v1,r1,rfl,e1,h⟩:=h
 rw[Dvs] at h;obtain⟨v2,r2,rfl,e2,h⟩:=h
 rw[Dvs] at h;obtain⟨v3,r3,rfl,e3,h⟩:=h
 rw[Dvs] at h;obtain⟨v4,r4,rfl,e4,h⟩:=h
 rw[Dvs] at h;obtain⟨v5,r5,rfl,e5,h⟩:=h
 rw[Dvs] at h;subst h
 rw[G7.mp e1,G7.mp e2,G7.mp e3] at hb
 exact⟨b,v4,v5,rfl,hb,e4,e5⟩
def Rws(K:Fg)(H:Hp)(v:V)(rs:List Row):Prop:=∃ a vs,v=.ref a/\(SqL K H a vs\/SqT K H a vs)/\Dvs K H (rs.map Row.da) vs
theorem Aa7 {n:Option Str} (h:Q (.bl (decide (some x=n))) H):P9 K (.str x) (oV n) H Q:=by
 cases n with
 | none => refine yl9 rfl ?_;have e:(decide ((V.str x)=oV none))=decide (some x=none):=by simp[oV]
           rw[e];exact h
 | some y => refine yl9 rfl ?_;have e:(decide ((V.str x)=oV (some y)))=decide (some x=some y):=by simp[oV]
             rw[e];exact h
theorem ym3(h:Q (.bl (decide (x=y))) H):P9 K (.str x) (.str y) H Q:=by
 refine yl9 rfl ?_
 walk_at"38"
theorem zl6(h:Q (.bl (!decide (x=y))) H):qq5 K (.str x) (.str y) H Q:=by
 refine Af7 rfl ?_
 walk_at"38"
theorem Aa2{x y:Int}(h:Q (.bl (decide (x=y))) H):P9 K (.int x) (.int y) H Q:=by
 refine yl9 rfl ?_
 have e:(decide ((V.int x)=V.int y))=decide (x=y):=by simp
 rw[e];exact h
def N0(rs:List Row)(n:Option Str):Option Row:=rs.find? fun r=>decide (some r.name=n)
def E8(rs:List Row)(n:Option Str):Option Str:=(N0 rs n).map (·.sort)
def Q0(rs:List Row)(n:Option Str):Option Str:=(N0 rs n).bind fun r=>if r.sort=#[15] then some r.host else none
def I9(rs:List Row)(n:Option Str):Option Str:=(rs.find? fun r=>decide (r.sort=#[15]) && decide (some r.host=n)).map (·.name)
def qa4(K:Fg):Sp:=fun vs H Q _=>∃ v n rs,vs=[v,oV n]/\Rws K H v rs/\(N0 rs n=none->Q .non H)/\∀ r u,N0 rs n=some r->Dv K H r.da u->Q u H
theorem yu9(K:Fg):∀ vs H Q E,qa4 K vs H Q E->vs.length=["rows","name"].length:=by
 rintro vs H Q E ⟨v,n,rs,rfl,_⟩;rfl
def wl8(K:Fg):TS :=
 (B9 (qf4 (qq7 K (A7 0)) (B3 2)
 (N1 (C5 (tOp (P9 K) #[20,2] (A7 1)))
 (E3 (A7 2)) J5))
 (E3 (tC .non)))
theorem qh1{α:Type}{p:α->Bool}:∀ {l:List α} {i:Nat} {x:α},l[i]?=some x->(∀ y∈l.take i,p y=false)->p x=true->l.find? p=some x
 | y::l,0,x,e,_,hp=>by cases e;rw[find?_cons,hp]
 | y::l,i+1,x,e,h,hp=>by
   have hy:p y=false:=h y (by simp)
   rw[find?_cons,hy]
   exact qh1 (i:=i) (by simpa using e) (fun z hz=>h z (by simp[hz])) hp
theorem wl9{P:α->Prop}{l:List α}{i:Nat}{x:α}(e:l[i]?=some x)(h:∀ y∈l.take i,P y)(hx:P x):∀ y∈l.take (i+1),P y:=by
 intro y hy
 rw[take_add_one,e] at hy
 rcases mem_append.mp hy with z|z
 ·exact h y z
 ·have:y=x:=by simpa using z
  subst this;exact hx
theorem ya7(h:qa4 K vs H Q E):wl8 K {nx:=fun _ H'=>Q .non H',rt:=Q} (C9 ["rows","name","row"] vs) H:=by
 obtain⟨v,n,rs,rfl,⟨a,xs,rfl,hq,hd⟩,h1,h2⟩:=h
 show wl8 K _ [some (.ref a),some (oV n),none] H
 have hlen:xs.length=rs.length:=by have:=hd.length;simpa using this
 unfold wl8
 refine qf6 (zj7 (zk3 (we1 rfl ?_)))
 refine yd9 hq (fun i σ H'=>H'=H/\(∃ w,σ=[some (.ref a),some (oV n),w])/\∀ r∈rs.take i,decide (some r.name=n)=false) ⟨rfl,⟨_,rfl⟩,by simp⟩ (fun hl i σ H' _ p=>p.1▸hl) (fun ht i σ H' _ p=>p.1▸ht) ?_ ?_
 ·rintro i x σ H' hx ⟨rfl,⟨w,rfl⟩,hn⟩
  walk_at"30"
  obtain⟨b,sv,bv,rfl,hb,hsv,hbv⟩:=R7 hd2
  refine D6 (wg8 (yz1 (zk0 (zk0 (we1 rfl (Ae9 (G1 hb rfl (we1 rfl (Aa7 ⟨_,rfl,?_⟩)))))))))
  by_cases e:some r.name=n
  ·rw[decide_eq_true e,if_pos rfl]
   refine⟨_,rfl,?_⟩
   exact h2 r _ (qh1 hr hn (decide_eq_true e)) hd2
  ·rw[decide_eq_false e,if_neg Bool.false_ne_true]
   exact yz0 ⟨rfl,⟨_,rfl⟩,wl9 hr hn (decide_eq_false e)⟩
 ·rintro σ H' ⟨rfl,⟨w,rfl⟩,hn⟩
  show Q .non H'
  refine h1 ?_
  unfold N0
  rw[find?_eq_none]
  intro r hr
  rw[hlen,take_length] at hn
  simp[hn r hr]
end
variable{rk:Str->Nat}{rs:List Row}
section
open PyProof.Rows
def Y7(K:Fg):Sp:=fun vs H Q _=>∃ v n rs,vs=[v,oV n]/\Rws K H v rs/\Q (oV (E8 rs n)) H
def wp5(K:Fg):TS :=
 (B9 (C8 (C3 (qa4 K) [] E0 (A3 (A7 0) #[3,1])) (B3 2))
 (E3 (tIf (C5 (tOp xo5 (A7 2) (tC .non))) (tC .non) #[39,2])))
theorem yv0(h:Y7 K vs H Q E):wp5 K {nx:=fun _ H'=>Q .non H',rt:=Q} (C9 ["book","name","row"] vs) H:=by
 obtain⟨v,n,rs,rfl,hR,q⟩:=h
 show wp5 K _ [some v,some (oV n),none] H
 refine⟨_,rfl,_,rfl,v,n,rs,rfl,hR,fun e=>?_,fun r u e hu=>?_⟩
 ·refine⟨_,rfl,rfl,_,rfl,?_⟩
  show Q .non H
  have:E8 rs n=none:=by unfold E8;rw[e];rfl
  rw[this] at q;exact q
 ·obtain⟨b,sv,bv,rfl,hb,_,_⟩:=R7 hu
  refine⟨_,rfl,rfl,_,rfl,?_⟩
  show(if decide (V.ref b=V.non)=true then _ else _)
  rw[decide_eq_false (by simp)];refine qg6 ?_
  refine⟨_,rfl,G1 hb rfl ?_⟩
  have:E8 rs n=some r.sort:=by unfold E8;rw[e];rfl
  rw[this] at q;exact q
def qt1(K:Fg):Sp:=fun vs H Q _=>∃ v n rs,vs=[v,oV n]/\Rws K H v rs/\Q (oV (Q0 rs n)) H
def wp6(K:Fg):TS :=
 (B9 (C8 (C3 (qa4 K) [] E0 (A3 (A7 0) #[3,1])) (B3 2))
 (B9 (N1 (tOr (C5 (tOp xo5 (A7 2) (tC .non))) (C5 (tOp (qq5 K) #[39,2] (tC (.str "frame")))))
 (E3 (tC .non)) J5)
 (E3 (tOp (D2 K) (A7 2) #[1,2]))))
theorem yv1(h:qt1 K vs H Q E):wp6 K {nx:=fun _ H'=>Q .non H',rt:=Q} (C9 ["book","name","row"] vs) H:=by
 obtain⟨v,n,rs,rfl,hR,q⟩:=h
 show wp6 K _ [some v,some (oV n),none] H
 refine⟨_,rfl,_,rfl,v,n,rs,rfl,hR,fun e=>?_,fun r u e hu=>?_⟩
 ·refine⟨_,rfl,rfl,_,rfl,?_⟩
  show Q .non H
  have:Q0 rs n=none:=by unfold Q0;rw[e];rfl
  rw[this] at q;exact q
 ·obtain⟨b,sv,bv,rfl,hb,_,_⟩:=R7 hu
  refine⟨_,rfl,rfl,_,rfl,?_⟩
  show(if decide (V.ref b=V.non)=true then _ else _)
  rw[decide_eq_false (by simp)];refine qg6 ?_
  refine⟨_,rfl,G1 hb rfl (zl6 ⟨_,rfl,?_⟩)⟩
  by_cases hs:r.sort=#[15]
  ·rw[decide_eq_true hs,Bool.not_true];refine qg6 ?_
   refine⟨_,rfl,G1 hb rfl ?_⟩
   have:Q0 rs n=some r.host:=by unfold Q0;rw[e];show(if r.sort=#[15] then some r.host else none)=_;rw[if_pos hs]
   rw[this] at q;exact q
  ·rw[decide_eq_false hs,Bool.not_false];refine qm9 ?_
   show Q .non H
   have:Q0 rs n=none:=by unfold Q0;rw[e];show(if r.sort=#[15] then some r.host else none)=_;rw[if_neg hs]
   rw[this] at q;exact q
def qg1(K:Fg):Sp:=fun vs H Q _=>∃ v n rs,vs=[v,oV n]/\Rws K H v rs/\Q (oV (I9 rs n)) H
def we2(K:Fg):TS :=
 (B9 (qf4 (qq7 K (A7 0)) (B3 2)
 (N1 (qm7 (C5 (tOp (P9 K) #[39,2] (tC (.str "frame")))) (C5 (tOp (P9 K) (tOp (D2 K) (A7 2) #[1,2]) (A7 1))))
 (E3 #[20,2]) J5))
 (E3 (tC .non)))
theorem yn1(h:qg1 K vs H Q E):we2 K {nx:=fun _ H'=>Q .non H',rt:=Q} (C9 ["book","name","row"] vs) H:=by
 obtain⟨v,n,rs,rfl,⟨a,xs,rfl,hq,hd⟩,q⟩:=h
 show we2 K _ [some (.ref a),some (oV n),none] H
 have hlen:xs.length=rs.length:=by have:=hd.length;simpa using this
 refine⟨_,rfl,yd9 hq (fun i σ H'=>H'=H/\(∃ w,σ=[some (.ref a),some (oV n),w])/\∀ r∈rs.take i,(decide (r.sort=#[15]) && decide (some r.host=n))=false) ⟨rfl,⟨_,rfl⟩,by simp⟩ (fun hl i σ H' _ p=>p.1▸hl) (fun ht i σ H' _ p=>p.1▸ht) ?_ ?_⟩
 ·rintro i x σ H' hx ⟨rfl,⟨w,rfl⟩,hn⟩
  walk_at"30"
  obtain⟨b,sv,bv,rfl,hb,hsv,hbv⟩:=R7 hd2
  refine⟨_,rfl,G1 hb rfl (ym3 ⟨_,rfl,?_⟩)⟩
  by_cases hs:r.sort=#[15]
  ·rw[decide_eq_true hs];refine qm9 ?_
   refine⟨_,rfl,G1 hb rfl ⟨_,rfl,Aa7 ⟨_,rfl,?_⟩⟩⟩
   by_cases e:some r.host=n
   ·rw[decide_eq_true e];refine qm9 ?_
    refine⟨_,rfl,G1 hb rfl ?_⟩
    have:I9 rs n=some r.name:=by
     unfold I9
     rw[qh1 hr hn (by rw[decide_eq_true hs,decide_eq_true e];rfl)];rfl
    rw[this] at q;exact q
   ·rw[decide_eq_false e];refine qg6 ?_
    exact⟨rfl,⟨_,rfl⟩,wl9 hr hn (by rw[decide_eq_false e,Bool.and_false])⟩
  ·rw[decide_eq_false hs];refine qg6 ?_
   k_go
   exact⟨rfl,⟨_,rfl⟩,wl9 hr hn (by rw[decide_eq_false hs,Bool.false_and])⟩
 ·rintro σ H' ⟨rfl,⟨w,rfl⟩,hn⟩
  show Q .non H'
  have:I9 rs n=none:=by
   unfold I9
   rw[find?_eq_none.mpr]
   ·rfl
   ·intro r hr
    rw[hlen,take_length] at hn
    rw[hn r hr];exact Bool.false_ne_true
  rw[this] at q;exact q
def ups(rs:List Row):Nat->Option Str->List Str
 | 0,_=>[]
 | k+1,n=>match I9 rs n with
   | none=>[]
   | some y=>y::ups rs k (some y)
def wz0(rs:List Row)(rk:Str->Nat):Prop:=∀ x y,I9 rs (some x)=some y->rk y<rk x
theorem xp1{rs:List Row}{rk:Str->Nat}(f:wz0 rs rk):∀ (k:Nat) (x:Str),rk x<=k->ups rs k (some x)=ups rs (rk x) (some x)
 | 0, x, h => by have:rk x=0:=by omega
                 rw[this]
 | k + 1,x,h=>by
   cases e:I9 rs (some x) with
   | none =>
     have e1:ups rs (k+1) (some x)=[]:=by rw[ups,e]
     rw[e1]
     cases e2:rk x with
     | zero=>rfl
     | succ m=>rw[ups,e]
   | some y =>
     have hy:=f x y e
     have e1:ups rs (k+1) (some x)=y::ups rs k (some y):=by rw[ups,e]
     rw[e1,xp1 f k y #[0]]
     cases e2:rk x with
     | zero=>omega
     | succ m =>
       have e3:ups rs (m+1) (some x)=y::ups rs m (some y):=by rw[ups,e]
       rw[e3,xp1 f m y #[0]]
theorem zm9(f:wz0 rs rk)(e:I9 rs (some x)=some y):ups rs (rk x) (some x)=y::ups rs (rk y) (some y):=by
 have hy:=f x y e
 cases e2:rk x with
 | zero=>omega
 | succ m =>
   have e3:ups rs (m+1) (some x)=y::ups rs m (some y):=by rw[ups,e]
   rw[e3,xp1 f m y #[0]]
theorem zv9{k:Nat}{x:Option Str}(e:I9 rs x=none):ups rs k x=[]:=by
 cases k with
 | zero=>rfl
 | succ m=>rw[ups,e]
def we3(K:Fg):Sp:=fun vs H Q _=>∃ v n g rs rk,vs=[v,.str n,.str g]/\Rws K H v rs/\wz0 rs rk/\Q (.bl (decide (g∈ups rs (rk n) (some n)))) H
def wp7(K:Fg):TS :=
 (B9 (C8 (C3 (qg1 K) [] E0 (A3 (A7 0) #[3,1])) (B3 3))
 (B9 (qy6 (C5 (tOp qq6 (A7 3) (tC .non)))
 (B9 (N1 (C5 (tOp (P9 K) (A7 3) (A7 2)))
 (E3 (tC (.bl true))) J5)
 (C8 (C3 (qg1 K) [] E0 (A3 (A7 0) #[3,3])) (B3 3))))
 (E3 (tC (.bl false)))))
def zw0(rs:List Row)(rk:Str->Nat):Option Str->List Str
 | none=>[]
 | some y=>y::ups rs (rk y) (some y)
theorem yn3(f:wz0 rs rk)(x:Str):ups rs (rk x) (some x)=zw0 rs rk (I9 rs (some x)):=by
 cases e:I9 rs (some x) with
 | none=>rw[zv9 e];rfl
 | some y=>rw[zm9 f e];rfl
theorem yv2(h:we3 K vs H Q E):wp7 K {nx:=fun _ H'=>Q .non H',rt:=Q} (C9 ["book","name","frame","above"] vs) H:=by
 obtain⟨v,n,g,rs,rk,rfl,hR,f,q⟩:=h
 show wp7 K _ [some v,some (.str n),some (.str g),none] H
 refine⟨_,rfl,_,rfl,v,some n,rs,rfl,hR,?_⟩
 refine yk5 (fun σ H'=>H'=H/\∃ x,σ=[some v,some (.str n),some (.str g),some (oV x)]/\(g∈ups rs (rk n) (some n)↔g∈zw0 rs rk x))
  (fun σ _=>match σ with | [_,_,_,some (.str y)]=>rk y+1|_=>0) ⟨rfl,I9 rs (some n),rfl,by rw[yn3 f]⟩ ?_ ?_
 ·rintro σ H' ⟨rfl,x,rfl,hx⟩
  cases x with
  | none =>
    refine⟨_,rfl,rfl,_,rfl,?_⟩
    show Q (.bl false) H'
    have:¬g∈ups rs (rk n) (some n):=fun z=>by have:=hx.mp z;simp[zw0] at this
    rw[decide_eq_false this] at q;exact q
  | some y =>
    refine⟨_,rfl,rfl,_,rfl,?_⟩
    show(if(!decide (V.str y=V.non))=true then _ else _)
    rw[decide_eq_false (by simp),Bool.not_false];refine qm9 ?_
    refine⟨_,rfl,_,rfl,ym3 ⟨_,rfl,?_⟩⟩
    by_cases e:y=g
    ·rw[decide_eq_true e];refine qm9 ?_
     show Q (.bl true) H'
     have:g∈ups rs (rk n) (some n):=hx.mpr (by subst e;simp[zw0])
     rw[decide_eq_true this] at q;exact q
    ·rw[decide_eq_false e];refine qg6 ?_
     refine⟨_,rfl,_,rfl,v,some y,rs,rfl,hR,?_⟩
     refine⟨⟨rfl,I9 rs (some y),rfl,?_⟩,?_⟩
     ·rw[hx]
      show g∈y::ups rs (rk y) (some y)↔_
      rw[yn3 f,mem_cons]
      exact⟨fun z=>z.resolve_left fun z=>e z.symm,Or.inr⟩
     ·show(match [some v,some (V.str n),some (V.str g),some (oV (I9 rs (some y)))] with | [_,_,_,some (.str y)]=>rk y+1|_=>0)<rk y+1
      cases e2:I9 rs (some y) with
      | none=>exact Nat.succ_pos _
      | some z=>have:=f y z e2;show rk z+1<rk y+1;omega
 ·rintro σ H' Q1 Q2 hQ ⟨v1,e1,e2,k,e3,q1⟩
  exact⟨v1,e1,e2,k,e3,hQ _ _ q1⟩
end
variable{i:Int}{c:Nat}{H1 H2 H0:Hp}{p d a:Addr}{xs:List V}{o:HO}{ns:List Int}{D:V5}{tb:TS}{σ:St}{te:TE}{ds:List PyData}
section
variable{K:Fg}{vs:List V}{H:Hp}{Q:VK}{E:XK}
theorem B7(xs:List Str):(B4 xs).length=xs.length:=length_map _
def ch(c:Nat):Str:=⟨#[c]⟩
def Lt:Str := "abcdefghijklmnopqrstuvwxyz"
theorem Ag1:∀ j:Nat,j<26->Lt.cps.toList[j]?=some (97+j):=by decide +kernel
theorem Ag2:Lt.length=26:=by decide +kernel
theorem Am9(h0:0<=i)(h1:i<26):atI Lt.cps.toList i=some (97+i.toNat):=by
 have e:i=((i.toNat:Nat):Int):=by omega
 have q:atI Lt.cps.toList ((i.toNat:Nat):Int)=some (97+i.toNat):=D3 (Ag1 _ #[0])
 rw[<-e] at q
 exact q
theorem ye7:∀ bs:List Nat,(PySem.Txt.join ("":Str) (bs.map ch)).cps.toList=bs:=by
 intro bs
 have e:PySem.Txt.join ("":Str) (bs.map ch)=Str.join ("":Str) (bs.map ch):=PySem.StrLaws.glued_eq_join _ _
 rw[e]
 induction bs with
 | nil=>rfl
 | cons b r ih =>
   cases r with
   | nil=>rfl
   | cons c r =>
     show((ch b++("":Str)++Str.join ("":Str) ((c::r).map ch)).cps).toList=_
     have ih:=ih (PySem.StrLaws.glued_eq_join _ _)
     show((ch b).cps++("":Str).cps++(Str.join ("":Str) ((c::r).map ch)).cps).toList=_
     rw[Array.toList_append,Array.toList_append,ih]
     rfl
theorem xp2{n:Int}(h:1<=n):(PySem.Txt.mul (ch c) n).cps.toList=List.replicate n.toNat c:=by
 unfold PySem.Txt.mul
 rw[if_neg #[0]]
 have f:∀ (k:Nat) (acc:Array Nat),((List.replicate k #[c]).foldl (·++·) acc).toList=acc.toList++List.replicate k c:=by
  intro k
  induction k with
  | zero=>intro acc;simp
  | succ k ih=>intro acc;rw[replicate_succ,foldl_cons,ih];simp[replicate_succ]
 by_cases h1:n=1
 ·subst h1;rfl
 ·have e:(n == 1 || (ch c).length == 0)=false:=by
   have:(n == 1)=false:=by simpa using h1
   rw[this];rfl
  rw[e,if_neg Bool.false_ne_true]
  have:=f n.toNat #[]
  show(List.foldl (fun x1 x2=>x1++x2) #[] (List.replicate n.toNat #[c])).toList=_
  simpa using this
theorem D5{n:Nat}(h:n<=100000):n<=sizeLine:=by rw[sizeLine_eq];omega
theorem A9.tr(a:A9 H H1)(b:A9 H1 H2):A9 H H2:=fun c o e=>b c o (a c o e)
theorem A9.put(s:A9 H H1)(h:H p=none)(o:HO):A9 H (upd H1 p o):=fun b u e=>by
 have nb:b≠p:=fun z=>by rw[z,h] at e;cases e
 rw[B5 nb];exact s b u e
theorem wz1{ys:List V}(h:H d=some (.lst xs)):U1 H (upd H d (.lst ys)) :=
 ⟨fun b zs e=>by rw[B5 (fun z=>by rw[z,h] at e;cases e)];exact e,fun b o zs e=>by rw[B5 (fun z=>by rw[z,h] at e;cases e)];exact e⟩
theorem O4{b:Addr}(h:H a=some o)(g:H b=none):a≠b:=fun e=>by rw[e,g] at h;cases h
theorem P8(xs:List Str):(B4 xs).all qw5=true:=by unfold B4;rw[all_map];exact all_eq_true.mpr fun _ _=>rfl
theorem S3(x:Str):∀ xs:List Str,inV (.str x) (B4 xs)=decide (x∈xs)
 | []=>by simp[B4,inV]
 | y::ys=>by
   have ih:=S3 x ys
   unfold inV at ih ⊢
   show(eqV (.str y) (.str x) || (B4 ys).any fun z=>eqV z (.str x))=_
   rw[ih]
   by_cases e:x=y
   ·subst e;simp[eqV]
   ·have e':¬y=x:=fun z=>e z.symm
    simp[eqV,e,e']
def qd5(ns:List Int):List V:=ns.map V.int
theorem qn2(ns:List Int):(qd5 ns).length=ns.length:=length_map _
theorem zn0(ns:List Int)(x:Int):qd5 ns++[V.int x]=qd5 (ns++[x]):=by simp[qd5]
theorem wz2(a b:Str):(a++b).length=a.length+b.length:=PySem.Str.length_append a b
theorem yn4(ns:List Int)(i:Nat)(x:Int):(qd5 ns).set i (.int x)=qd5 (ns.set i x):=by unfold qd5;rw[map_set]
theorem yz5{i:Nat}(h:i<ns.length):(qd5 ns)[i]?=some (.int ns[i]):=by unfold qd5;rw[List.getElem?_map,List.getElem?_eq_getElem h];rfl
theorem yn5{n:Nat}(h:1<=n):ixN n (-1)=some (n-1):=by
 unfold ixN
 rw[if_neg #[10],if_pos #[0]]
 congr 1
 omega
theorem ye8(h:1<=xs.length)(e:xs[xs.length-1]?=some v):atI xs (-1)=some v:=by
 unfold atI
 rw[yn5 h];exact e
theorem An0{n:Nat}(h:1<=n):ixN n 0=some 0:=by
 unfold ixN
 rw[if_pos #[10],if_pos #[0]];rfl
theorem wa3{g:TG}(hq:SqL K H0 a xs\/SqT K H0 a xs)(s0:A9 H0 H)(Pv:Nat->St->Hp->Prop)(h0:Pv 0 σ H)(hk:∀ i σ H',Pv i σ H'->A9 H0 H')(hs:∀ i x σ H,xs[i]?=some x->Pv i σ H->g x σ H fun σ2 H2=>tb {D with nx:=PAt Pv (i+1),ct:=PAt Pv (i+1),bk:=D.nx} σ2 H2)(hd:∀ σ H,Pv xs.length σ H->D.nx σ H) :
 ∃ b,V.ref a=.ref b/\#[30]:=by
 rcases hq with hq|hq
 ·exact⟨a,rfl,.inl ⟨⟨xs,s0.sqL hq⟩,xn5 Pv h0 (fun i σ H' _ p=>(hk i σ H' p).sqL hq) hs hd⟩⟩
 ·exact⟨a,rfl,.inr ⟨⟨xs,s0.sqT hq⟩,yc3 Pv h0 (fun i σ H' _ p=>(hk i σ H' p).sqT hq) hs hd⟩⟩
abbrev WlN(tb:TS)(D:V5)(Pv:St->Hp->Prop)(μ:St->Hp->Nat)(k:Nat)(σ:St)(H1:Hp):Prop :=
 ∃ N:St->Hp->Prop,(∀ σ' H',N σ' H'->∃ m',m'<k/\m'=μ σ' H'/\Pv σ' H')/\tb {D with nx:=N,ct:=N,bk:=D.nx} σ H1
theorem ya8{c:TT}(Pv:St->Hp->Prop)(μ:St->Hp->Nat)(h0:Pv σ H)(hs:∀ σ H,Pv σ H->c σ H fun b H1=>if b=true then WlN tb D Pv μ (μ σ H) σ H1 else D.nx σ H1):qy6 c tb D σ H:=by
 refine⟨fun m σ H=>m=μ σ H/\Pv σ H,⟨_,rfl,h0⟩,?_⟩
 rintro m σ H ⟨rfl,p⟩
 exact hs σ H p
theorem zf5{g:TG}{tt:TT}{σ':St}(hq:SqL K H0 a xs\/SqT K H0 a xs)(s0:A9 H0 H)(Pv:Nat->List V->Hp->Prop)(h0:Pv 0 [] H)(hlen:∀ i ys H,i<=xs.length->Pv i ys H->ys.length<=sizeLine)(hk:∀ i ys H',Pv i ys H'->A9 H0 H')(hs:∀ i x ys H,xs[i]?=some x->Pv i ys H->g x σ' H fun σ2 H2=>tt σ2 H2 fun b H3=>if b=true then te σ2 H3 fun y H4=>PAt Pv (i+1) (ys++[y]) H4 else PAt Pv (i+1) ys H3)(hd:∀ ys H,Pv xs.length ys H->∀ p,H p=none->Q (.ref p) #[42,ys]) :
 ∃ b,V.ref a=.ref b/\#[54]:=by
 rcases hq with hq|hq
 ·exact wp4 (s0.sqL hq) Pv h0 hlen (fun i ys H' _ p=>(hk i ys H' p).sqL hq) hs hd
 ·refine⟨a,rfl,.inr ⟨⟨xs,s0.sqT hq⟩,wp3 (n:=xs.length) (fun i x=>xs[i]?=some x) Pv h0 hlen (fun i ys H hi p=>?_) (fun i ys H x H' hi p y=>?_) (fun ys H p=>?_) (fun i x ys H _ hx p=>hs i x ys H hx p) hd⟩⟩
  ·exact⟨xs,xs[i],(hk i ys H p).sqT hq,by simp[hi]⟩
  ·exact⟨y.1,y.2 xs ((hk i ys H p).sqT hq)⟩
  ·exact⟨xs,(hk _ ys H p).sqT hq,Nat.le_refl _⟩
theorem qd6{xs:List Str}{i:Nat}{x:V}(h:(B4 xs)[i]?=some x):∃ y,xs[i]?=some y/\x=.str y:=by
 unfold B4 at h
 rw[List.getElem?_map] at h
 obtain⟨y,hy,e⟩:=Option.map_eq_some_iff.mp h
 exact⟨y,hy,e.symm⟩
theorem qd7(xs:List Str)(x:Str):B4 xs++[V.str x]=B4 (xs++[x]):=by simp[B4]
theorem Dvs.one{d:PyData}(h:Dv K H d v):Dvs K H [d] [v]:=C7 h G9
def zn1(ns:List Int):List PyData:=ns.map .int
theorem xp3:∀ {ns:List Int} {vs:List V},Dvs K H (zn1 ns) vs↔vs=qd5 ns
 | [],_=>by show Dvs K H [] _↔_=[];rw[Dvs]
 | x::xs,vs=>by
   show Dvs K H (.int x::zn1 xs) vs↔vs=V.int x::qd5 xs
   rw[Dvs]
   constructor
   ·rintro⟨v,r,rfl,h1,h2⟩
    rw[P1.mp h1,xp3.mp h2]
   ·rintro rfl
    exact⟨_,_,rfl,P1.mpr rfl,xp3.mpr rfl⟩
theorem An1{e:Addr}(h1:Dv K H (.list ds) (.ref p))(h2:H e=some (.lst []))(h:Q (.bl (!ds.isEmpty)) H):qq5 K (.ref p) (.ref e) H Q:=by
 refine Am2 h1 (e:=.list []) (qg9.mpr ⟨e,[],rfl,SqL.of h2,G9⟩) ?_ ?_
 ·exact Nat.le_trans (Nat.min_le_right _ _) #[10]
 ·cases ds <;> exact h
theorem Aa8{e:Addr}(h1:Dv K H (.list ds) (.ref p))(h2:H e=some (.lst []))(h:Q (.bl ds.isEmpty) H):P9 K (.ref p) (.ref e) H Q:=by
 refine Aa1 h1 (e:=.list []) (qg9.mpr ⟨e,[],rfl,SqL.of h2,G9⟩) ?_ ?_
 ·exact Nat.le_trans (Nat.min_le_right _ _) #[10]
 ·cases ds <;> exact h
theorem none_of(s:A9 H H')(h:H' p=none):H p=none:=by
 cases e:H p with
 | none=>rfl
 | some o=>have:=s _ _ e;rw[h] at this;cases this
inductive Tr where
 | tx (s:Str)
 | nd (n:Str) (ps:List Tr)
mutual
def Tr.da:Tr->PyData
 | .tx s=>.str s
 | .nd n ps=>.tuple [.str n,.tuple (Tr.das ps)]
def Tr.das:List Tr->List PyData
 | []=>[]
 | t::ts=>t.da::Tr.das ts
end
theorem X7:∀ ts:List Tr,Tr.das ts=ts.map Tr.da
 | []=>by rw[Tr.das];rfl
 | t::ts=>by rw[Tr.das,X7 ts];rfl
mutual
theorem zn2:∀ t:Tr,fix t.da=true
 | .tx s=>by rw[Tr.da,fix]
 | .nd n ps=>by rw[Tr.da,fix,O0,fix,O0,fix,O0,qa5 ps];rfl
theorem qa5:∀ ts:List Tr,O0 (Tr.das ts)=true
 | []=>by rw[Tr.das,O0]
 | t::ts=>by rw[Tr.das,O0,zn2 t,qa5 ts];rfl
end
def Tr.isTx:Tr->Bool
 | .tx _=>true
 | .nd _ _=>false
mutual
def pre(pl:List Int):Tr->List (List Int×Tr)
 | .tx s=>[(pl,.tx s)]
 | .nd n ps=>(pl,.nd n ps)::An2 pl 0 ps
def An2(pl:List Int)(k:Nat):List Tr->List (List Int×Tr)
 | []=>[]
 | t::ts=>pre (pl++[(k:Int)]) t++An2 pl (k+1) ts
end
theorem yn6:∀ ns:List Int,O0 (zn1 ns)=true
 | []=>by show O0 []=true;rw[O0]
 | x::xs=>by show O0 (.int x::zn1 xs)=true;rw[O0,yn6 xs,fix];rfl
theorem W1{α:Type}{f:α->PyData}(h:∀ x,fix (f x)=true):∀ l:List α,O0 (l.map f)=true
 | []=>by show O0 []=true;rw[O0]
 | x::l=>by show O0 (f x::l.map f)=true;rw[O0,h,W1 h l];rfl
variable{n:Str}
theorem wz3{ps:List Tr}(h:Dv K H (Tr.nd n ps).da v):∃ a b us,v=.ref a/\SqT K H a [.str n,.ref b]/\SqT K H b us/\Dvs K H (Tr.das ps) us:=by
 rw[Tr.da] at h
 obtain⟨a,xs,rfl,ha,h⟩:=D9.mp h
 rw[Dvs] at h;obtain⟨v1,r1,rfl,e1,h⟩:=h
 rw[Dvs] at h;obtain⟨v2,r2,rfl,e2,h⟩:=h
 rw[Dvs] at h;subst h
 rw[G7.mp e1] at ha
 obtain⟨b,ys,rfl,hb,h⟩:=D9.mp e2
 exact⟨a,b,ys,rfl,ha,hb,h⟩
theorem Aa9{s:Str}(h:Dv K H (Tr.tx s).da v):v=.str s:=by rw[Tr.da] at h;exact G7.mp h
variable{us:List V}
theorem yz6{ts:List Tr}(h:Dvs K H (Tr.das ts) us){i:Nat}{t:Tr}(e:ts[i]?=some t):∃ u,us[i]?=some u/\Dv K H t.da u :=
 h.get (by rw[X7,List.getElem?_map,e];rfl)
theorem qm0{ts:List Tr}(h:Dvs K H (Tr.das ts) us):us.length=ts.length:=by have:=h.length;rw[X7,length_map] at this;exact this
theorem ye9{t:Tr}(h:Dv K H t.da v)(q:Q (.bl t.isTx) H):wy6 K [v,.ty "str"] H Q:=by
 cases t with
 | tx s=>rw[Aa9 h];exact zl1 (.str _) (b:=true) rfl q
 | nd n ps=>obtain⟨a,b,us,rfl,ha,_⟩:=wz3 h;exact ye1 ha (b:=false) rfl q
def we4(K:Fg):Sp:=fun vs H Q _=>∃ (t:Tr) (v:V),vs=[v]/\Dv K H t.da v/\Q (.bl t.isTx) H
def wa4(K:Fg):TS :=
 (E3 (tCB (wy6 K) (A3 (A7 0) (A3 (tC (.ty "str")) B1))))
theorem yv3(h:we4 K vs H Q E):wa4 K {nx:=fun _ H'=>Q .non H',rt:=Q} (C9 ["part"] vs) H:=by
 obtain⟨t,v,rfl,hd,q⟩:=h
 show wa4 K _ [some v] H
 unfold wa4
 lk
 exact ye9 hd q
theorem Row.fix(r:Row):L2.fix r.da=true:=by
 unfold Row.da
 have hs:∀ xs:List Str,O0 (sDa xs)=true:=fun xs=>W1 (f:=PyData.str) (fun x=>by rw[L2.fix]) xs
 rw[L2.fix,O0,O0,O0,O0,O0,O0,L2.fix,L2.fix,L2.fix,L2.fix,L2.fix,hs,hs];rfl
theorem yn8{ps:List Tr}{r t:Addr}(h1:SqT K H r [.str n,.ref t])(h2:SqT K H t us)(h3:Dvs K H (Tr.das ps) us):Dv K H (Tr.nd n ps).da (.ref r):=by
 rw[Tr.da]
 exact D9.mpr ⟨r,_,rfl,h1,C7 (G7.mpr rfl) (C7 (D9.mpr ⟨t,us,rfl,h2,h3⟩) G9)⟩
mutual
def hgt:Tr->Nat
 | .tx _=>0
 | .nd _ ps=>1+X4 ps
def X4:List Tr->Nat
 | []=>0
 | t::ts=>max (hgt t) (X4 ts)
end
theorem qt2:∀ a b:List Tr,X4 (a++b)=max (X4 a) (X4 b)
 | [],b=>by rw[nil_append,X4];omega
 | t::a,b=>by rw[cons_append,X4,X4,qt2 a b];omega
structure Cz(K:Fg)(qA:Addr)(qB:Addr):Prop where
 pg_Branch:PySem.W.plainGet K qA Str.empty=true
 hd_Branch:PySem.W.hasDictIn K qA=true
 po_Branch:PySem.W.plainOver K qA=true
 sa_Branch:PySem.W.findIn K (.ref qA) "__setattr__"=some (some (.builtin "object.__setattr__"))
 ns_Branch:PySem.W.nsIn K mainGlobals "Branch"=some #[5,qA]
 na_Branch_name:PySem.W.findIn K (.ref qA) "name"=some none
 na_Branch_place:PySem.W.findIn K (.ref qA) "place"=some none
 na_Branch_parts:PySem.W.findIn K (.ref qA) "parts"=some none
 na_Branch_waiting:PySem.W.findIn K (.ref qA) "waiting"=some none
 pg_Reader:PySem.W.plainGet K qB Str.empty=true
 hd_Reader:PySem.W.hasDictIn K qB=true
 po_Reader:PySem.W.plainOver K qB=true
 sa_Reader:PySem.W.findIn K (.ref qB) "__setattr__"=some (some (.builtin "object.__setattr__"))
 ns_Reader:PySem.W.nsIn K mainGlobals "Reader"=some #[5,qB]
 na_Reader_book:PySem.W.findIn K (.ref qB) "book"=some none
 na_Reader_branches:PySem.W.findIn K (.ref qB) "branches"=some none
 na_Reader_mends:PySem.W.findIn K (.ref qB) "mends"=some none
 na_Reader_laid:PySem.W.findIn K (.ref qB) "laid"=some none
variable{qA qB:Addr}
theorem Cz.cl_Branch(z:Cz K qA qB):Cls K qA:=⟨z.pg_Branch,z.hd_Branch,z.po_Branch,z.sa_Branch⟩
theorem Cz.cl_Reader(z:Cz K qA qB):Cls K qB:=⟨z.pg_Reader,z.hd_Reader,z.po_Reader,z.sa_Reader⟩
structure Brn where
 n:Str
 pl:List Int
 ps:List Tr
 ws:List Str
structure BA where
 o:Addr
 x:Addr
 p:Addr
 q:Addr
 w:Addr
def BA.fp(a:BA):List Addr:=[a.o,a.q,a.w]
def bF(a:BA)(b:Brn):List (Str×V):=[("name",.str b.n),("place",.ref a.p),("parts",.ref a.q),("waiting",.ref a.w)]
structure BrO(K:Fg)(H:Hp)(kB:Addr)(a:BA)(b:Brn):Prop where
 o:H a.o=some (.ins kB a.x (bF a b))
 p:SqT K H a.p (qd5 b.pl)
 q:∃ us,H a.q=some (.lst us)/\Dvs K H (Tr.das b.ps) us
 w:H a.w=some #[24,b.ws]
structure Mnd where
 s:Int
 e:Int
 t:Str
 r:Str
def Mnd.da(m:Mnd):PyData:=.tuple [.int m.s,.int m.e,.str m.t,.str m.r]
structure Lad where
 s:Int
 g:Str
 pl:List Int
 a:Int
def Lad.da(m:Lad):PyData:=.tuple [.int m.s,.str m.g,.tuple (zn1 m.pl),.int m.a]
theorem Mnd.fix(m:Mnd):L2.fix m.da=true:=by unfold Mnd.da;simp[L2.fix,O0]
theorem Lad.fix(m:Lad):L2.fix m.da=true:=by unfold Lad.da;simp[L2.fix,O0,yn6]
structure Rst where
 bs:List Brn
 ms:List Mnd
 ls:List Lad
structure RAd where
 x:Addr
 L:Addr
 M:Addr
 A:Addr
 as:List BA
def fpA(as:List BA):List Addr:=as.flatMap BA.fp
def RAd.fp(r:Addr)(a:RAd):List Addr:=r::a.L::a.M::a.A::fpA a.as
inductive ql1(K:Fg)(H:Hp)(kB:Addr):List BA->List Brn->Prop
 | nil:ql1 K H kB [] []
 | cons {a:BA} {b:Brn} {as:List BA} {bs:List Brn}:BrO K H kB a b->ql1 K H kB as bs->ql1 K H kB (a::as) (b::bs)
structure RdO(K:Fg)(H:Hp)(kR kB r:Addr)(bv:V)(a:RAd)(st:Rst):Prop where
 kr:PySem.W.nsIn K mainGlobals "Reader"=some #[5,kR]
 kb:PySem.W.nsIn K mainGlobals "Branch"=some #[5,kB]
 o:H r=some (.ins kR a.x [("book",bv),("branches",.ref a.L),("mends",.ref a.M),("laid",.ref a.A)])
 l:H a.L=some (.lst (a.as.map fun z=>V.ref z.o))
 b:ql1 K H kB a.as st.bs
 m:∃ us,H a.M=some (.lst us)/\Dvs K H (st.ms.map Mnd.da) us
 d:∃ us,H a.A=some (.lst us)/\Dvs K H (st.ls.map Lad.da) us
 nd:(RAd.fp r a).Nodup
def xp4(H:Hp)(p:Addr):Prop:=(∃ xs,H p=some (.lst xs))\/∃ C dx fs,H p=some (.ins C dx fs)
variable{b:Brn}{kB:Addr}
section
variable{kR kB r:Addr}{bv:V}{a a':RAd}{st st':Rst}{H':Hp}{ps:List Addr}
theorem wz4(bt:But ps H H')(hm:∀ p∈ps,xp4 H p):U1 H H':=by
 have no:∀ c o,H c=some o->(∀ xs,o≠.lst xs)->(∀ C dx fs,o≠.ins C dx fs)->c∉ps:=fun c o e h1 h2 hc=>by
  rcases hm c hc with⟨xs,e2⟩|⟨C,dx,fs,e2⟩
  ·rw[e] at e2;cases e2;exact h1 xs rfl
  ·rw[e] at e2;cases e2;exact h2 C dx fs rfl
 exact⟨fun c xs e=>bt c _ e (no c _ e (fun _ z=>by cases z) fun _ _ _ z=>by cases z),fun c o xs e=>bt c _ e (no c _ e (fun _ z=>by cases z) fun _ _ _ z=>by cases z)⟩
theorem BrO.but{a:BA}(h:BrO K H kB a b)(bt:But ps H H')(tk:U1 H H')(hd:∀ x∈a.fp,x∉ps):BrO K H' kB a b:=by
 obtain⟨us,h1,h2⟩:=h.q
 exact⟨bt _ _ h.o (hd _ (by simp[BA.fp])),tk.sqT h.p,⟨us,bt _ _ h1 (hd _ (by simp[BA.fp])),Dvs.tupK tk _ _ (qa5 _) h2⟩,bt _ _ h.w (hd _ (by simp[BA.fp]))⟩
theorem ql1.but{as:List BA}{bs:List Brn}(h:ql1 K H kB as bs)(bt:But ps H H')(tk:U1 H H')(hd:∀ x∈fpA as,x∉ps):ql1 K H' kB as bs:=by
 induction h with
 | nil=>exact .nil
 | cons h1 h2 ih=>exact .cons (h1.but bt tk fun x hx=>hd x (by unfold fpA;rw[flatMap_cons];exact mem_append_left _ hx)) (ih fun x hx=>hd x (by unfold fpA;rw[flatMap_cons];exact mem_append_right _ hx))
theorem ql1.app{as as2:List BA}{bs bs2:List Brn}(h:ql1 K H kB as bs)(h2:ql1 K H kB as2 bs2):ql1 K H kB (as++as2) (bs++bs2):=by
 induction h with
 | nil=>exact h2
 | cons h1 _ ih=>exact .cons h1 ih
theorem ql1.len{as:List BA}{bs:List Brn}(h:ql1 K H kB as bs):as.length=bs.length:=by
 induction h with
 | nil=>rfl
 | cons _ _ ih=>simp[ih]
theorem ql1.snoc{as:List BA}{bs:List Brn}(h:ql1 K H kB as (bs++[b])):∃ as' a,as=as'++[a]/\ql1 K H kB as' bs/\BrO K H kB a b:=by
 induction bs generalizing as with
 | nil=>cases h with|cons h1 h2=>cases h2;exact⟨[],_,rfl,.nil,h1⟩
 | cons c bs ih =>
   cases h with
   | cons h1 h2 =>
     obtain⟨as',a,rfl,h3,h4⟩:=ih h2
     exact⟨_::as',a,rfl,.cons h1 h3,h4⟩
theorem ql1.mut{as:List BA}{bs:List Brn}(h:ql1 K H kB as bs):∀ p∈fpA as,xp4 H p:=by
 induction h with
 | nil=>intro p hp;cases hp
 | cons h1 _ ih =>
   intro p hp
   unfold fpA at hp
   rw[flatMap_cons] at hp
   rcases mem_append.mp hp with hp|hp
   ·simp only[BA.fp,mem_cons,not_mem_nil,or_false] at hp
    rcases hp with rfl|rfl|rfl
    ·exact .inr ⟨_,_,_,h1.o⟩
    ·obtain⟨us,h2,_⟩:=h1.q;exact .inl ⟨_,h2⟩
    ·exact .inl ⟨_,h1.w⟩
   ·exact ih p hp
theorem RdO.mut(h:RdO K H kR kB r bv a st):∀ p∈RAd.fp r a,xp4 H p:=by
 intro p hp
 simp only[RAd.fp,mem_cons] at hp
 rcases hp with rfl|rfl|rfl|rfl|hp
 ·exact .inr ⟨_,_,_,h.o⟩
 ·exact .inl ⟨_,h.l⟩
 ·obtain⟨us,h1,_⟩:=h.m;exact .inl ⟨_,h1⟩
 ·obtain⟨us,h1,_⟩:=h.d;exact .inl ⟨_,h1⟩
 ·exact h.b.mut p hp
structure Rup(K:Fg)(kR kB r:Addr)(bv:V)(H:Hp)(a:RAd)(H':Hp)(a':RAd)(st':Rst):Prop where
 ok:RdO K H' kR kB r bv a' st'
 bt:But (RAd.fp r a) H H'
 fr:∀ x∈RAd.fp r a',x∈RAd.fp r a\/H x=none
theorem Rup.tr{a2:RAd}{st2:Rst}(h1:Rup K kR kB r bv H a H' a' st')(h2:Rup K kR kB r bv H' a' H2 a2 st2)(hd:∀ x,H' x=none->H x=none):Rup K kR kB r bv H a H2 a2 st2 :=
 ⟨h2.ok,fun c o e n=>h2.bt c o (h1.bt c o e n) fun hc=>(h1.fr c hc).elim n fun z=>(by rw[z] at e;cases e),
  fun x hx=>(h2.fr x hx).elim (h1.fr x) fun z=>.inr (hd x z)⟩
theorem Rup.tupK(h:Rup K kR kB r bv H a H' a' st')(h0:RdO K H kR kB r bv a st):U1 H H':=wz4 h.bt h0.mut
theorem RdO.same(h:RdO K H kR kB r bv a st)(s:A9 H H'):RdO K H' kR kB r bv a st:=by
 obtain⟨us,m1,m2⟩:=h.m
 obtain⟨vs,d1,d2⟩:=h.d
 exact⟨h.kr,h.kb,s _ _ h.o,s _ _ h.l,h.b.but (ps:=[]) (fun c o e _=>s c o e) s.tupK (fun _ _ z=>by cases z),⟨us,s _ _ m1,Dvs.same s _ _ m2⟩,⟨vs,s _ _ d1,Dvs.same s _ _ d2⟩,h.nd⟩
end
theorem N3{k k':Addr}(h:PySem.W.nsIn K mainGlobals x=some #[5,k])(h':PySem.W.nsIn K mainGlobals x=some #[5,k']):k=k':=by rw[h] at h';cases h';rfl
theorem Ag3(v:V):qm8 ("name":Str) v []=[(("name":Str),v)]:=rfl
theorem Ag4(n v:V):qm8 ("place":Str) v [(("name":Str),n)]=[(("name":Str),n),(("place":Str),v)]:=by
 show(if(("name":Str)) = "place" then _ else _)=_
 rw[if_neg #[10]];rfl
theorem Ag5(n p v:V):qm8 ("parts":Str) v [(("name":Str),n),(("place":Str),p)]=[(("name":Str),n),(("place":Str),p),(("parts":Str),v)]:=by
 show(if(("name":Str)) = "parts" then _ else _::(if(("place":Str)) = "parts" then _ else _))=_
 rw[if_neg #[10],if_neg #[10]];rfl
theorem Ag6(n p q v:V):qm8 ("waiting":Str) v [(("name":Str),n),(("place":Str),p),(("parts":Str),q)]=[(("name":Str),n),(("place":Str),p),(("parts":Str),q),(("waiting":Str),v)]:=by
 show(if(("name":Str)) = "waiting" then _ else _::(if(("place":Str)) = "waiting" then _ else _::(if(("parts":Str)) = "waiting" then _ else _)))=_
 rw[if_neg #[10],if_neg #[10],if_neg #[10]];rfl
theorem Q3{o q:Addr}{u:HO}(h:upd H o u q=none):q≠o/\H q=none:=by
 by_cases e:q=o
 ·subst e;rw[A8] at h;cases h
 ·rw[B5 e] at h;exact⟨e,h⟩
abbrev wz5(K:Fg):TS :=
 (B9 (wk1 K (A7 0) (A7 2) "place")
 (B9 (wk1 K (A7 0) (T8 B1) "parts")
 (wk1 K (A7 0) (T8 B1) "waiting")))
def U2(K:Fg):Sp:=fun vs H Q _=>∃ (kB o x p:Addr) (n:Str) (pl:List Int),vs=[.ref o,.str n,.ref p]/\PySem.W.nsIn K mainGlobals "Branch"=some #[5,kB]/\H o=some (.ins kB x [])/\SqT K H p (qd5 pl)/\∀ (q w:Addr) (H':Hp),H q=none->H w=none->q≠w->But [o] H H'->BrO K H' kB ⟨o,x,p,q,w⟩ ⟨n,pl,[],[]⟩->(∀ z,H' z=none->H z=none)->Q .non H'
def W2(K:Fg):TS :=
 (B9 (wk1 K (A7 0) (A7 1) "name")
 (wz5 K))
theorem xd9(cz:Cz K qA qB)(h:U2 K vs H Q E):W2 K {nx:=fun _ H'=>Q .non H',rt:=Q} (C9 ["self","name","place"] vs) H:=by
 obtain⟨kB,o,x,p,n,pl,rfl,hkB,ho,hp,q⟩:=h
 obtain rfl:=N3 cz.ns_Branch hkB
 show W2 K _ [some (.ref o),some (.str n),some (.ref p)] H
 unfold W2
 have c:=cz.cl_Branch
 refine qf6 (ql9 ?_)
 lk
 refine⟨o,_,x,_,rfl,ho,c,cz.na_Branch_name,by simp,?_⟩
 rw[Ag3]
 show B9 (wk1 K (A7 0) (A7 2) "place") _ _ _ _
 refine qf6 (ql9 ?_)
 lk
 refine⟨o,_,x,_,rfl,A8,c,cz.na_Branch_place,by simp,?_⟩
 rw[Ag4]
 show B9 (wk1 K (A7 0) (T8 B1) "parts") _ _ _ _
 refine qf6 (ql9 ?_)
 lk
 refine⟨D5 (by z_go),fun q1 hq1=>?_⟩
 lk
 obtain⟨n1,hq2⟩:=Q3 hq1
 obtain⟨_,hq⟩:=Q3 hq2
 refine⟨o,_,x,_,rfl,by rw[B5 (Ne.symm n1),A8],c,cz.na_Branch_parts,by simp,?_⟩
 rw[Ag5]
 show wk1 K (A7 0) (T8 B1) "waiting" _ _ _
 refine ql9 ?_
 lk
 refine⟨D5 (by z_go),fun w1 hw1=>?_⟩
 lk
 obtain⟨n2,hw2⟩:=Q3 hw1
 obtain⟨n3,hw3⟩:=Q3 hw2
 obtain⟨_,hw4⟩:=Q3 hw3
 obtain⟨_,hw⟩:=Q3 hw4
 refine⟨o,_,x,_,rfl,by rw[B5 (Ne.symm n2),A8],c,cz.na_Branch_waiting,by simp,?_⟩
 rw[Ag6]
 have bt:∀ z u,H z=some u->z≠o->(upd (upd (upd (upd (upd (upd H o (.ins qA x [(("name":Str),.str n)])) o (.ins qA x [(("name":Str),.str n),(("place":Str),.ref p)])) q1 (.lst [])) o (.ins qA x [(("name":Str),.str n),(("place":Str),.ref p),(("parts":Str),.ref q1)])) w1 (.lst [])) o (.ins qA x [(("name":Str),.str n),(("place":Str),.ref p),(("parts":Str),.ref q1),(("waiting":Str),.ref w1)])) z=some u:=fun z u e no=>by
  have a1:z≠q1:=fun y=>by rw[y,hq] at e;cases e
  have a2:z≠w1:=fun y=>by rw[y,hw] at e;cases e
  rw[B5 no,B5 a2,B5 no,B5 a1,B5 no,B5 no];exact e
 have b1:But [o] H _:=fun z u e nz=>bt z u e (by simpa using nz)
 refine q q1 w1 _ hq hw (Ne.symm n3) b1 ⟨A8,(wz4 b1 fun z hz=>?_).sqT hp,⟨[],by rw[B5 n1,B5 (Ne.symm n3),B5 n1,A8],by rw[Tr.das];exact G9⟩,by rw[B5 n2,A8];rfl⟩ fun z hz=>?_
 ·rw[mem_singleton.mp hz];exact .inr ⟨_,_,_,ho⟩
 ·obtain⟨a1,hz⟩:=Q3 hz
  obtain⟨_,hz⟩:=Q3 hz
  obtain⟨_,hz⟩:=Q3 hz
  obtain⟨_,hz⟩:=Q3 hz
  obtain⟨_,hz⟩:=Q3 hz
  exact(Q3 hz).2
theorem qe8{xs:List α}{v:α}{n:Nat}(hn:xs.length=n+1)(e:xs[n]?=some v):atI xs (-1)=some v:=by
 unfold atI ixN
 rw[if_neg #[10],if_pos #[0]]
 show xs[((xs.length:Int) + -1).toNat]?=some v
 rw[show((xs.length:Int) + -1).toNat=n by omega];exact e
section
variable{kR kB r:Addr}{bv:V}{a:RAd}{st:Rst}
theorem RdO.apart(h:RdO K H kR kB r bv a st):r≠a.L/\r≠a.M/\r≠a.A/\a.L≠a.M/\a.L≠a.A/\a.M≠a.A/\r∉fpA a.as/\a.L∉fpA a.as/\a.M∉fpA a.as/\a.A∉fpA a.as/\(fpA a.as).Nodup:=by
 have:=h.nd
 simp only[RAd.fp,nodup_cons,mem_cons,not_or] at this
 obtain⟨⟨a1,a2,a3,a4⟩,⟨b1,b2,b3⟩,⟨c1,c2⟩,d1,e1⟩:=this
 exact⟨a1,a2,a3,b1,b2,c1,a4,b3,c2,d1,e1⟩
theorem But.upd1:But [p] H (upd H p o):=fun z u e n=>by rw[B5 (by simpa using n)];exact e
theorem Q4(h:xp4 H p):U1 H (upd H p o):=wz4 (ps:=[p]) But.upd1 fun z hz=>by rw[mem_singleton.mp hz];exact h
theorem RdO.setM{ms:List Mnd}(h:RdO K H kR kB r bv a st)(hd:Dvs K H (ms.map Mnd.da) us):RdO K (upd H a.M (.lst us)) kR kB r bv a {st with ms:=ms}:=by
 obtain⟨a1,a2,a3,b1,b2,c1,d1,d2,d3,d4,e1⟩:=h.apart
 obtain⟨us0,m1,_⟩:=h.m
 obtain⟨vs,l1,l2⟩:=h.d
 have tk:U1 H (upd H a.M (.lst us)):=Q4 (.inl ⟨_,m1⟩)
 exact⟨h.kr,h.kb,by rw[B5 a2];exact h.o,by rw[B5 b1];exact h.l,h.b.but But.upd1 tk fun x hx z=>d3 (by rw[mem_singleton.mp z] at hx;exact hx),⟨us,A8,Dvs.tupK tk _ _ (W1 Mnd.fix ms) hd⟩,⟨vs,by rw[B5 (Ne.symm c1)];exact l1,Dvs.tupK tk _ _ (W1 Lad.fix _) l2⟩,h.nd⟩
theorem RdO.setA{ls:List Lad}(h:RdO K H kR kB r bv a st)(hd:Dvs K H (ls.map Lad.da) us):RdO K (upd H a.A (.lst us)) kR kB r bv a {st with ls:=ls}:=by
 obtain⟨a1,a2,a3,b1,b2,c1,d1,d2,d3,d4,e1⟩:=h.apart
 obtain⟨us0,m1,m2⟩:=h.m
 obtain⟨vs,l1,_⟩:=h.d
 have tk:U1 H (upd H a.A (.lst us)):=Q4 (.inl ⟨_,l1⟩)
 exact⟨h.kr,h.kb,by rw[B5 a3];exact h.o,by rw[B5 b2];exact h.l,h.b.but But.upd1 tk fun x hx z=>d4 (by rw[mem_singleton.mp z] at hx;exact hx),⟨us0,by rw[B5 c1];exact m1,Dvs.tupK tk _ _ (W1 Mnd.fix _) m2⟩,⟨us,A8,Dvs.tupK tk _ _ (W1 Lad.fix ls) hd⟩,h.nd⟩
def C4(H H':Hp):Prop:=∀ z,H' z=none->H z=none
theorem A9.grow(s:A9 H H'):C4 H H':=fun z hz=>by
 cases e:H z with
 | none=>rfl
 | some u=>rw[s z u e] at hz;cases hz
theorem C4.upd:C4 H (upd H p o):=fun z hz=>(Q3 hz).2
theorem C4.tr(g1:C4 H H1)(g2:C4 H1 H2):C4 H H2:=fun z hz=>g1 z (g2 z hz)
theorem Rup.keep{st':Rst}(ok:RdO K H' kR kB r bv a st')(bt:But (RAd.fp r a) H H'):Rup K kR kB r bv H a H' a st':=⟨ok,bt,fun x hx=>.inl hx⟩
end
def J9(K:Fg):Sp:=fun vs H Q _=>∃ (kR kB r:Addr) (bv:V) (a:RAd) (st:Rst) (i:Int) (g rule:Str),vs=[.ref r,.int i,.str g,.str rule]/\RdO K H kR kB r bv a st/\st.ms.length<=9000000/\g.length<=1000000/\∀ H',Rup K kR kB r bv H a H' a {st with ms:=st.ms++[⟨i,i+g.length, "",rule⟩]}->C4 H H'->Q .non H'
def W3(K:Fg):TS :=
 (G5 (tBM K "list" M3 (R4 K (A7 0) "mends") (A3 (X3 (A3 (A7 1) (A3 (tOp (E7 K) (A7 1) (tCB (O3 K) #[3,2])) (A3 (tC (.str "")) #[3,3])))) B1)))
theorem xe0(cz:Cz K qA qB)(h:J9 K vs H Q E):W3 K {nx:=fun _ H'=>Q .non H',rt:=Q} (C9 ["self","start","signs","rule"] vs) H:=by
 obtain⟨kR,kB,r,bv,a,st,i,g,rule,rfl,h,hl,hg,q⟩:=h
 obtain rfl:=N3 cz.ns_Reader h.kr
 show W3 K _ [some (.ref r),some (.int i),some (.str g),some (.str rule)] H
 unfold W3
 obtain⟨us,m1,m2⟩:=h.m
 have hul:us.length=st.ms.length:=by have:=m2.length;rw[length_map] at this;exact this
 walk_at"23"
 refine⟨r,_,a.x,_,_,rfl,h.o,cz.cl_Reader,cz.na_Reader_mends,rfl,?_⟩
 lk
 refine⟨.inl ⟨rfl,_,SqL.of m1⟩,?_⟩
 lk
 refine .inr (.inl ⟨g,rfl,by rw[sizeLine_eq];omega,?_⟩)
 walk_at"14"
 have s1:=A9.new hp (.tup [.int i,.int (i+g.length),.str "",.str rule])
 have e1:(upd H p (.tup [.int i,.int (i+g.length),.str "",.str rule])) p=some (.tup [.int i,.int (i+g.length),.str "",.str rule]):=A8
 generalize upd H p (.tup [.int i,.int (i+g.length),.str "",.str rule])=H1 at *
 have h1:=h.same s1
 lk
 refine M1 (s1 _ _ m1) #[71] ?_
 refine q _ (.keep (h1.setM ?_) fun c o e n=>?_) (C4.tr (A9.grow s1) C4.upd)
 ·rw[map_append]
  refine Dvs.append (Dvs.same s1 _ _ m2) (Dvs.one (D9.mpr ⟨p,_,rfl,SqT.of e1,C7 (P1.mpr rfl) (C7 (P1.mpr rfl) (C7 (G7.mpr rfl) (C7 (G7.mpr rfl) G9)))⟩))
 ·rw[B5 (fun z=>n (by rw[z];simp[RAd.fp]))];exact s1 c o e
section
variable{kR kB r:Addr}{bv:V}{a:RAd}{st:Rst}
theorem Q7(as bs:List BA):fpA (as++bs)=fpA as++fpA bs:=by unfold fpA;rw[flatMap_append]
theorem RdO.dom(h:RdO K H kR kB r bv a st):∀ p∈RAd.fp r a,H p≠none:=fun p hp e=>by
 rcases h.mut p hp with⟨xs,e2⟩|⟨C,dx,fs,e2⟩ <;> rw[e] at e2 <;> cases e2
theorem RdO.push{H4:Hp}{x:BA}{b:Brn}(h:RdO K H kR kB r bv a st)(s:A9 H H4)(hb:BrO K H4 kB x b)(hn:∀ z∈x.fp,H z=none)(hd:x.fp.Nodup) :
 RdO K (upd H4 a.L (.lst ((a.as++[x]).map fun z=>V.ref z.o))) kR kB r bv {a with as:=a.as++[x]} {st with bs:=st.bs++[b]}:=by
 have h4:=h.same s
 obtain⟨a1,a2,a3,b1,b2,c1,d1,d2,d3,d4,e1⟩:=h.apart
 obtain⟨us,m1,m2⟩:=h4.m
 obtain⟨vs,l1,l2⟩:=h4.d
 have tk:U1 H4 (upd H4 a.L (.lst ((a.as++[x]).map fun z=>V.ref z.o))):=Q4 (.inl ⟨_,h4.l⟩)
 have nx:∀ z∈RAd.fp r a,z∉x.fp:=fun z hz hx=>h.dom z hz (hn z hx)
 have nL:∀ z∈x.fp,z≠a.L:=fun z hz e=>nx a.L (by simp[RAd.fp]) (e▸hz)
 refine⟨h.kr,h.kb,by rw[B5 a1];exact h4.o,A8,(h4.b.but But.upd1 tk fun z hz w=>d2 (by rw[mem_singleton.mp w] at hz;exact hz)).app (.cons (hb.but But.upd1 tk fun z hz w=>nL z hz (mem_singleton.mp w)) .nil),⟨us,by rw[B5 (Ne.symm b1)];exact m1,Dvs.tupK tk _ _ (W1 Mnd.fix _) m2⟩,⟨vs,by rw[B5 (Ne.symm b2)];exact l1,Dvs.tupK tk _ _ (W1 Lad.fix _) l2⟩,?_⟩
 have e:RAd.fp r {a with as:=a.as++[x]}=RAd.fp r a++x.fp:=by
  unfold RAd.fp
  show r::a.L::a.M::a.A::fpA (a.as++[x])=_
  rw[Q7]
  show _=r::a.L::a.M::a.A::(fpA a.as++x.fp)
  have:fpA [x]=x.fp:=by unfold fpA;rw[flatMap_cons,flatMap_nil,append_nil]
  rw[this]
 rw[e,nodup_append]
 exact⟨h.nd,hd,fun p hp q hq e=>nx p hp (e▸hq)⟩
end
abbrev wu9(K:Fg)(qA:Addr):TS :=
 (G5 (tBM K "list" M3 (R4 K (A7 0) "branches") (A3 (yk8 qA (U2 K) [] E0 (A3 (A7 1) (A3 (tOp (qw7 K) (R4 K (A7 2) "place") (X3 (A3 (tCB (O3 K) (A3 (R4 K (A7 2) "parts") B1)) B1))) B1))) B1)))
def S4(K:Fg):Sp:=fun vs H Q _=>∃ (kR kB r:Addr) (bv:V) (a:RAd) (st:Rst) (n:Str) (bs:List Brn) (b0:Brn),vs=[.ref r,.str n]/\RdO K H kR kB r bv a st/\st.bs=bs++[b0]/\bs.length<=1000/\b0.pl.length<=1000/\b0.ps.length<=9000000/\∀ a' H',Rup K kR kB r bv H a H' a' {st with bs:=st.bs++[⟨n,b0.pl++[(b0.ps.length:Int)],[],[]⟩]}->C4 H H'->Q .non H'
def U3(K:Fg)(qA:Addr):TS :=
 (B9 (C8 (tOp (D2 K) (R4 K (A7 0) "branches") #[12]) (B3 2))
 (wu9 K qA))
theorem wz8(cz:Cz K qA qB)(h:S4 K vs H Q E):U3 K qA {nx:=fun _ H'=>Q .non H',rt:=Q} (C9 ["self","name","above"] vs) H:=by
 obtain⟨kR,kB,r,bv,a,st,n,bs,b0,rfl,h,eb,hl,hp,hz,q⟩:=h
 walk_at"4"
 show U3 K _ _ [some (.ref r),some (.str n),none] H
 unfold U3
 have hb:=h.b
 rw[eb] at hb
 obtain⟨as',x,ea,hb1,hx⟩:=hb.snoc
 obtain⟨us,q1,q2⟩:=hx.q
 have hul:=qm0 q2
 have hal:=hb1.len
 have hLl:(a.as.map fun z=>V.ref z.o).length=as'.length+1:=by rw[ea];simp
 walk_at"2"
 walk_at"21"
 refine L7 #[59,h.l] (v:=.ref x.o) (qe8 hLl (by rw[ea];simp)) ?_
 walk_at"2"
 lk
 refine⟨.inl ⟨rfl,_,SqL.of h.l⟩,?_⟩
 lk
 refine ye5 ?_
 walk_at"23"
 refine⟨x.o,_,x.x,_,_,rfl,hx.o,cz.cl_Branch,cz.na_Branch_place,rfl,?_⟩
 walk_at"23"
 walk_at"10"
 refine N8 (.inl #[59,q1]) ?_
 rw[hul]
 lk
 refine⟨D5 (by z_go),fun p1 h1=>?_⟩
 have s1:=A9.new h1 (.tup [.int b0.ps.length])
 refine wu8 (s1.sqT hx.p) (SqT.of A8) (by rw[qn2];exact D5 (by show _+1<=_;omega)) fun p2 H2 s2 hp2=>?_
 rw[show qd5 b0.pl++[V.int b0.ps.length]=qd5 (b0.pl++[(b0.ps.length:Int)]) by simp[qd5]] at hp2
 have s12:=A9.tr s1 s2
 lk
 intro o dx ho hdx ne
 have s3:A9 H2 #[34]:=fun z u e=>by rw[B5 (fun y=>by rw[y,ho] at e;cases e),B5 (fun y=>by rw[y,hdx] at e;cases e)];exact e
 have g3:C4 H2 #[34]:=C4.tr C4.upd C4.upd
 have e3:#[34] o=some (.ins qA dx []):=A8
 generalize upd (upd H2 dx (.own o)) o (.ins qA dx [])=H3 at *
 refine⟨qA,o,dx,p2,n,_,rfl,cz.ns_Branch,e3,s3.sqT hp2,fun qq ww H4 hq hw hqw bt hB g4=>⟨rfl,?_⟩⟩
 have s4:A9 H2 H4:=fun z u e=>bt z u (s3 z u e) (by simp;intro y;rw[y,ho] at e;cases e)
 have s14:=A9.tr s12 s4
 lk
 refine M1 (s14 _ _ h.l) (by rw[hLl,sizeLine_eq];omega) ?_
 have nH:∀ z,H2 z=none->H z=none:=A9.grow s12
 have fq:∀ z∈BA.fp ⟨o,dx,p2,qq,ww⟩,H z=none:=fun z hz=>by
  simp only[BA.fp,mem_cons,not_mem_nil,or_false] at hz
  rcases hz with rfl|rfl|rfl
  ·exact nH _ ho
  ·exact nH _ (g3 _ hq)
  ·exact nH _ (g3 _ hw)
 have nd:(BA.fp ⟨o,dx,p2,qq,ww⟩).Nodup:=by
  have n1:o≠qq:=fun y=>by rw[<-y,e3] at hq;cases hq
  have n2:o≠ww:=fun y=>by rw[<-y,e3] at hw;cases hw
  simp[BA.fp,n1,n2,hqw]
 have hp:=h.push s14 hB fq nd
 rw[map_append] at hp
 refine q _ _ ⟨hp,fun c u e nc=>?_,fun z hz=>?_⟩ (C4.tr (C4.tr (C4.tr (A9.grow s12) g3) g4) C4.upd)
 ·rw[B5 (fun y=>nc (by rw[y];simp[RAd.fp]))];exact s14 c u e
 ·have:z∈RAd.fp r a\/z∈BA.fp ⟨o,dx,p2,qq,ww⟩:=by
   simp only[RAd.fp,Q7,mem_cons,mem_append] at hz ⊢
   rcases hz with h|h|h|h|h|h
   ·exact .inl (.inl h)
   ·exact .inl (.inr (.inl h))
   ·exact .inl (.inr (.inr (.inl h)))
   ·exact .inl (.inr (.inr (.inr (.inl h))))
   ·exact .inl (.inr (.inr (.inr (.inr h))))
   ·exact .inr (by simpa [fpA] using h)
  exact this.imp id fun h=>fq z h
def N7(K:Fg):Sp:=fun vs H Q _=>∃ (a:Addr) (ns:List Int) (k:Int),vs=[.ref a,.int k]/\SqL K H a #[76]/\0<=k/\∀ n:Int,Q (.int n) H
def Y8(K:Fg):TS :=
 (B9 (N1 (C5 (tOp xo4 (A7 1) (tCB (O3 K) #[3,0])))
 (E3 (tOp (D2 K) (A7 0) (A7 1))) J5)
 (E3 #[1,0]))
theorem xk4(h:N7 K vs H Q E):Y8 K {nx:=fun _ H'=>Q .non H',rt:=Q} (C9 ["_law_script","_law_k"] vs) H:=by
 obtain⟨a,ns,k,rfl,hS,h0,q⟩:=h
 show Y8 K _ [some (.ref a),some (.int k)] H
 unfold Y8
 lk
 refine N8 (.inl hS) ?_
 lk
 rw[length_map]
 by_cases hk:k<(ns.length:Int)
 ·rw[decide_eq_true hk];refine qm9 ?_
  have hk':k.toNat<ns.length:=by omega
  lk
  refine L7 hS (v:=.int ns[k.toNat]) ?_ (q _)
  have ek:k=((k.toNat:Nat):Int):=by omega
  have e:atI #[76] ((k.toNat:Nat):Int)=some (.int ns[k.toNat]):=D3 (by rw[List.getElem?_map,List.getElem?_eq_getElem hk'] <;> rfl)
  rw[<-ek] at e
  exact e
 ·rw[decide_eq_false hk];refine qg6 ?_
  exact q 0
end
theorem yz7{α:Type}[BEq α][LawfulBEq α]:∀ {l m:List α},l.Nodup->(∀ x∈l,x∈m)->l.length<=m.length
 | [],_,_,_=>Nat.zero_le _
 | x::l,m,hn,hs=>by
   rw[nodup_cons] at hn
   have hm:=hs x (by simp)
   have h2:∀ y∈l,y∈m.erase x:=fun y hy=>(mem_erase_of_ne (fun e=>hn.1 (by rw[<-e];exact hy))).mpr (hs y (by simp[hy]))
   have:=yz7 hn.2 h2
   have e:=length_erase_of_mem hm
   have hp:=length_pos_of_mem hm
   rw[length_cons];omega
def J0(K:Fg):Sp:=fun vs H Q _=>∃ c k:Int,vs=[.int c,.int k]/\0<=k/\k<=1000/\∀ n:Int,0<=n->Q (.int n) H
def qh2(K:Fg):TS :=
 (B9 (C8 (tOp #[40] (A7 0) #[1,2]) (B3 2))
 (B9 (N1 (C5 (tOp (P9 K) (tOp #[2] (A7 0) #[1,2]) #[1,0]))
 (E3 (tOp #[2] (tOp (rI (fun _ j=>0<=j) fun i j=>.int (i / 2 ^ j.toNat)) (A7 2) (tOp qw6 #[1,64] (A7 1))) (tOp (rI zc3 fun i j=>.int (i*2 ^ j.toNat)) #[1,1] #[1,64]))) J5)
 (B9 (C8 (tOp (E7 K) (tOp #[2] (A7 2) #[1,2147483647]) (tOp qw6 #[1,48271] (tOp (E7 K) (A7 1) #[1,1]))) (B3 3))
 (B9 (C8 (tOp #[2] (tOp (E7 K) (tOp qw6 (A7 3) (A7 3)) (tOp qw6 #[1,69621] (A7 1))) #[1,2147483647]) (B3 3))
 (E3 (tOp #[2] (tOp (E7 K) (tOp (E7 K) (tOp qw6 (A7 3) (A7 3)) (tOp qw6 #[1,16807] (A7 1))) #[1,1]) #[1,2147483629]))))))
theorem xv0(h:J0 K vs H Q E):qh2 K {nx:=fun _ H'=>Q .non H',rt:=Q} (C9 ["_law_cell","_law_k","_law_half","_law_number"] vs) H:=by
 obtain⟨c,k,rfl,hk0,hk1,q⟩:=h
 show qh2 K _ [some (.int c),some (.int k),none,none] H
 unfold qh2
 lk
 by_cases hc:c % 2=0
 ·rw[decide_eq_true hc];refine qm9 ?_
  lk
  refine wl0 (.inl ⟨by decide,by decide⟩) ?_
  refine Aa4 #[0] ?_
  lk
  refine Aa5 ⟨by decide,by decide,by decide⟩ ?_
  refine yl8 #[10] ?_
  exact q _ (Int.emod_nonneg _ #[10])
 ·rw[decide_eq_false hc];refine qg6 ?_
  lk
  refine wl0 (.inl ⟨by decide,by decide⟩) ?_
  lk
  have a0:=Int.emod_nonneg (c / 2) (show(2147483647:Int)≠0 by decide)
  have a1:=Int.emod_lt_of_pos (c / 2) (show(0:Int)<2147483647 by decide)
  generalize hm:c / 2 % 2147483647+48271*(k+1)=m at *
  refine wl0 (.inl ⟨by omega,by omega⟩) ?_
  lk
  refine wl0 (.inl ⟨by decide,by decide⟩) ?_
  lk
  have b0:=Int.emod_nonneg (m*m+69621*k) (show(2147483647:Int)≠0 by decide)
  have b1:=Int.emod_lt_of_pos (m*m+69621*k) (show(0:Int)<2147483647 by decide)
  generalize hm2:(m*m+69621*k) % 2147483647=m2 at *
  refine wl0 (.inl ⟨by omega,by omega⟩) ?_
  lk
  refine wl0 (.inl ⟨by decide,by decide⟩) ?_
  lk
  exact q _ (Int.emod_nonneg _ #[10])
def Sg(ns:List Int):Prop:=(∀ x∈ns,0<=x/\x<26)/\1<=ns.length/\ns.length<=8
def R8(K:Fg):Sp:=fun vs H Q _=>∃ n:Int,vs=[.int n]/\∀ (p:Addr) (ns:List Int) (H':Hp),A9 H H'->H p=none->H' p=some (.lst (qd5 ns))->Sg ns->Q (.ref p) H'
def Y9(K:Fg):TS :=
 (B9 (C8 (T8 B1) (B3 1))
 (B9 (C8 (tOp (E7 K) #[1,1] (tOp #[2] (A7 0) #[1,8])) (B3 2))
 (B9 (C8 (tOp #[40] (A7 0) #[1,8]) (B3 0))
 (B9 (qf4 (wj9 #[3,2]) (B3 3)
 (B9 (G5 (tBM K "list" M3 (A7 1) (A3 (tOp #[2] (A7 0) #[1,26]) B1)))
 (C8 (tOp #[40] (A7 0) #[1,26]) (B3 0))))
 (E3 (A7 1))))))
theorem xk5(h:R8 K vs H Q E):Y9 K {nx:=fun _ H'=>Q .non H',rt:=Q} (C9 ["_law_number","_law_signs","_law_width","_law_j"] vs) H:=by
 obtain⟨n,rfl,q⟩:=h
 show Y9 K _ [some (.int n),none,none,none] H
 unfold Y9
 walk_at"39"
 have a0:=Int.emod_nonneg n (show(8:Int)≠0 by decide)
 have a1:=Int.emod_lt_of_pos n (show(0:Int)<8 by decide)
 generalize hm:(1:Int)+n % 8=m at *
 refine wa1 #[0] #[0] (fun i σ H'=>∃ (y:Int) (a:Option V) (ns:List Int),σ=[some (.int y),some (.ref d),some (.int m),a]/\A9 H H'/\H' d=some (.lst (qd5 ns))/\ns.length=i/\∀ x∈ns,0<=x/\x<26) ⟨_,none,[],rfl,A9.new hd _,A8,rfl,by simp⟩ ?_ ?_
 ·rintro i σ H' hi ⟨y,a,ns,rfl,s1,h1,hl,hns⟩
  lk
  refine⟨.inl ⟨rfl,_,SqL.of h1⟩,?_⟩
  lk
  refine M1 h1 (by rw[qn2,sizeLine_eq];omega) ?_
  lk
  refine⟨_,_,ns++[y % 26],rfl,A9.put s1 hd _,by rw[<-zn0];exact A8,by simp[hl],fun x hx=>?_⟩
  rcases mem_append.mp hx with h|h
  ·exact hns x h
  ·rw[mem_singleton.mp h];exact⟨Int.emod_nonneg _ #[10],Int.emod_lt_of_pos _ #[10]⟩
 ·rintro σ H' ⟨y,a,ns,rfl,s1,h1,hl,hns⟩
  lk
  exact q d ns H' s1 hd h1 ⟨hns,by omega,by omega⟩
def yf0(K:Fg):TS :=
 (B9 (C8 (tBM K "str" (zj6 K) (tC (.str "")) (A3 (qq1 [some 1,none] (qq7 K (A7 4)) (B3 1) tTT (tOp (D2 K) (A7 0) (A7 1))) B1)) (B3 5))
 (B9 (C8 (qq1 [some 2,none] (zl4 (A7 1)) (B3 1) (C5 (tOp (qt0 K true) (tOp qw6 (A7 1) #[1,8]) (A7 0))) (tOp qw6 (A7 1) #[1,8])) (B3 6))
 (G5 (tBM K "list" M3 (A7 2) (A3 (tOp (D2 K) (T8 (A3 (A7 5) (A3 #[20,6] B1))) (tCB xz5 (A3 (tOp (qt0 K false) (A7 5) (tOp (E7 K) (A7 2) (T8 (A3 (tC (.str "bars")) (A3 (tC (.str "shuts")) B1))))) B1))) B1)))))
def yf1(K:Fg):TS :=
 (B9 (N1 (C5 (tOp (P9 K) (tOp #[2] (A7 0) #[1,4]) #[1,3]))
 (B9 (C8 (tSl (wu7 K) (C3 (R8 K) [] E0 (A3 (tOp (E7 K) #[1,7] (tOp qw6 #[1,8] (C3 (J0 K) [] E0 (A3 (A7 0) (A3 #[1,2] B1))))) B1)) qg8 (Y3 (tOp (E7 K) (tOp #[2] (A7 3) #[1,8]) #[1,1]))) (B3 4))
 (C8 (tOp #[2] (tOp (E7 K) #[20,4] (tCB xz5 (A3 (tOp wq9 (A7 3) #[1,7]) B1))) #[1,26]) (ys0 (A7 4) #[1,0] xz8))) J5)
 (yf0 K))
structure Nms(names:List Str):Prop where
 nd:names.Nodup
 ne:∀ x∈names,x≠("":Str)
 le:∀ x∈names,x.length<=8
 lt:∀ x∈names,∀ c∈x.cps.toList,97<=c/\c<=122
theorem zw1(c:Nat):PySem.Txt.mul (ch c) 8≠("":Str):=fun e=>by
 have h1:(PySem.Txt.mul (ch c) 8).cps.toList=List.replicate 8 c:=xp2 #[10]
 rw[e] at h1
 cases h1
theorem zn3{d:Nat}(e:PySem.Txt.mul (ch c) 8=PySem.Txt.mul (ch d) 8):c=d:=by
 have h1:(PySem.Txt.mul (ch c) 8).cps.toList=List.replicate 8 c:=xp2 #[10]
 have h2:(PySem.Txt.mul (ch d) 8).cps.toList=List.replicate 8 d:=xp2 #[10]
 rw[e,h2] at h1
 injection h1 with h1
 exact h1.symm
def qo9(names:List Str)(cs:List Nat):List Str:=(cs.map fun c=>PySem.Txt.mul (ch c) 8).filter fun x=>!decide (x∈names)
theorem zn4:Lt.cps.toList.Nodup:=by decide +kernel
theorem ws4{α β:Type}{f:α->β}(hf:∀ x y,f x=f y->x=y):∀ {l:List α},l.Nodup->(l.map f).Nodup
 | [],_=>by simp
 | x::l,h=>by
   rw[nodup_cons] at h
   rw[map_cons,nodup_cons]
   refine⟨fun hm=>?_,ws4 hf h.2⟩
   obtain⟨y,hy,e⟩:=mem_map.mp hm
   exact h.1 (by rw[<-hf _ _ e];exact hy)
variable{names:List Str}
theorem zf6(h:names.length<26):qo9 names Lt.cps.toList≠[]:=fun e=>by
 unfold qo9 at e
 rw[filter_eq_nil_iff] at e
 have hs:∀ x∈Lt.cps.toList.map (fun c=>PySem.Txt.mul (ch c) 8),x∈names:=fun x hx=>by
  have:=e x hx
  simpa using this
 have:=yz7 (ws4 (fun _ _=>zn3) zn4) hs
 rw[length_map] at this
 have l26:Lt.cps.toList.length=26:=by decide +kernel
 omega
def wrd(ns:List Int):Str:=PySem.Txt.join ("":Str) (ns.map fun x=>ch (97+x.toNat))
theorem Ag7(h:1<=ns.length):wrd ns≠("":Str):=fun e=>by
 have e2:(wrd ns).cps.toList=ns.map fun x=>97+x.toNat:=by
  unfold wrd
  have:=ye7 (ns.map fun x=>97+x.toNat)
  rw[map_map] at this
  exact this
 rw[e] at e2
 cases ns with
 | nil=>simp at h
 | cons x l=>cases e2
theorem Ag8:∀ e∈Lt.cps.toList,97<=e/\e<=122:=by decide +kernel
theorem Ag9(hS:Sg ns):∀ c∈(wrd ns).cps.toList,97<=c/\c<=122:=by
 have e2:(wrd ns).cps.toList=ns.map fun x=>97+x.toNat:=by
  unfold wrd
  have:=ye7 (ns.map fun x=>97+x.toNat)
  rw[map_map] at this
  exact this
 rw[e2]
 intro c hc
 obtain⟨x,hx,rfl⟩:=mem_map.mp hc
 have:=hS.1 x hx
 exact⟨by omega,by omega⟩
theorem zn5(c:Nat):(PySem.Txt.mul (ch c) 8).length=8:=by
 show(PySem.Txt.mul (ch c) 8).cps.size=8
 rw[<-Array.length_toList,xp2 #[10]];rfl
theorem zw2:(wrd ns).length=ns.length:=by
 show(wrd ns).cps.size=_
 rw[<-Array.length_toList]
 unfold wrd
 have:=ye7 (ns.map fun x=>97+x.toNat)
 rw[map_map] at this
 rw[show(PySem.Txt.join ("":Str) (ns.map fun x=>ch (97+x.toNat))).cps.toList=_ from this,length_map]
variable{a5 a6:Option V}
theorem xi9{c:Int}{k:Nat}(s0:A9 H0 H)(hd0:H0 d=none)(hd:H d=some #[24,names])(hp:H p=some (.lst (qd5 ns)))(hS:Sg ns)(hN:Nms names)(hl:names.length<12)(q:∀ (x:Str) (b1 b2:Option V) (H':Hp),A9 H0 H'->H' d=some #[24,names++[x]]->Nms (names++[x])->D.nx [some (.int c),some (.str Lt),some (.ref d),some (.int k),some (.ref p),b1,b2] H') :
 yf0 K D [some (.int c),some (.str Lt),some (.ref d),some (.int k),some (.ref p),a5,a6] H:=by
 unfold yf0
 lk
 refine⟨rfl,?_⟩
 lk
 refine wp4 (xs:=qd5 ns) #[59,hp] (fun i ys H'=>H'=H/\ys=B4 ((ns.take i).map fun x=>ch (97+x.toNat))) ⟨rfl,rfl⟩ ?_ ?_ ?_ ?_
 ·rintro i ys H' hi ⟨rfl,rfl⟩
  rw[B7,length_map,length_take]
  have:=hS.2.2
  exact D5 #[0]
 ·rintro i ys H' hi ⟨rfl,rfl⟩
  exact SqL.of hp
 ·rintro i x ys H' hx ⟨rfl,rfl⟩
  unfold qd5 at hx
  rw[List.getElem?_map] at hx
  obtain⟨y,hy,rfl⟩:=Option.map_eq_some_iff.mp hx
  obtain⟨y0,y1⟩:=hS.1 y (mem_of_getElem? hy)
  lk
  refine zk7 (D5 (by rw[Ag2];decide)) (Am9 y0 y1) ?_
  refine⟨rfl,?_⟩
  rw[take_add_one,hy]
  simp[B4,ch]
 ·rintro ys H' ⟨rfl,rfl⟩ l hl'
  rw[qn2,take_length]
  lk
  refine⟨"",l,ns.map fun x=>ch (97+x.toNat),rfl,rfl,.inl #[59,A8],?_,?_⟩
  ·rw[map_map,show("":Str).length=0 from rfl,Nat.mul_zero,Nat.add_zero]
   have:(ns.map ((fun x=>x.length)∘fun x=>ch (97+x.toNat))).sum=ns.length:=by
    clear hp hS hl' q hd
    induction ns with
    | nil=>rfl
    | cons x l ih=>rw[map_cons,sum_cons,ih,length_cons];show 1+_=_;omega
   rw[this]
   have:=hS.2.2
   omega
  have e1:PySem.Txt.join ("":Str) (ns.map fun x=>ch (97+x.toNat))=wrd ns:=rfl
  rw[e1]
  lk
  have hd1:(upd H' l #[24,ns.map fun x=>ch (97+x.toNat)]) d=some #[24,names]:=by rw[B5 (O4 hd hl')];exact hd
  have s1:A9 H0 (upd H' l #[24,ns.map fun x=>ch (97+x.toNat)]):=A9.tr s0 #[36,hl']
  generalize upd H' l #[24,ns.map fun x=>ch (97+x.toNat)]=H1 at *
  refine ym5 (z:=Lt) (fun i ys H'=>H'=H1/\ys=B4 (qo9 names (Lt.cps.toList.take i))) ⟨rfl,rfl⟩ ?_ ?_ ?_
  ·rintro i ys H' hi ⟨rfl,rfl⟩
   rw[B7]
   have h1:(qo9 names (Lt.cps.toList.take i)).length<=26:=by
    unfold qo9
    refine Nat.le_trans (length_filter_le _ _) ?_
    rw[length_map,length_take]
    have l26:Lt.cps.toList.length=26:=by decide +kernel
    omega
   exact D5 #[0]
  ·rintro i e ys H' he ⟨rfl,rfl⟩
   have hsp:qo9 names (Lt.cps.toList.take (i+1))=qo9 names (Lt.cps.toList.take i)++(if PySem.Txt.mul (ch e) 8∈names then[] else[PySem.Txt.mul (ch e) 8]):=by
    unfold qo9
    rw[take_add_one,he,map_append,filter_append]
    congr 1
    by_cases hm:PySem.Txt.mul (ch e) 8∈names <;> simp[hm]
   lk
   refine zk6 #[10] #[10] (show(1:Nat)<=1000 by decide) ?_
   lk
   refine .inl (wy5 (.inl #[59,hd1]) rfl (P8 _) ?_)
   rw[S3]
   lk
   by_cases hm:PySem.Txt.mul (ch e) 8∈names
   ·rw[show(⟨#[e]⟩:Str)=ch e from rfl,decide_eq_true hm]
    k_go
    refine⟨rfl,?_⟩
    rw[hsp,if_pos hm,append_nil]
   ·rw[show(⟨#[e]⟩:Str)=ch e from rfl,decide_eq_false hm]
    x_go
    lk
    refine zk6 #[10] #[10] (show(1:Nat)<=1000 by decide) ?_
    refine⟨rfl,?_⟩
    rw[hsp,if_neg hm];simp[B4]
  rintro ys H' ⟨rfl,rfl⟩ t ht
  have hls:Lt.cps.toList.take Lt.cps.size=Lt.cps.toList:=take_of_length_le (by rw[Array.length_toList];exact Nat.le_refl _)
  rw[hls]
  have hne:=zf6 (names:=names) #[0]
  obtain⟨x0,xr,hx0⟩:∃ x r,qo9 names Lt.cps.toList=x::r:=by
   cases h:qo9 names Lt.cps.toList with
   | nil=>exact absurd h hne
   | cons x r=>exact⟨x,r,rfl⟩
  have hx0m:x0∈qo9 names Lt.cps.toList:=by rw[hx0];simp
  unfold qo9 at hx0m
  rw[mem_filter] at hx0m
  have hx0n:x0∉names:=by simpa using hx0m.2
  have hx0e:x0≠("":Str):=by
   obtain⟨e,_,he⟩:=mem_map.mp hx0m.1
   rw[<-he];exact zw1 e
  have hx0l:x0.length<=8:=by
   obtain⟨e,_,he⟩:=mem_map.mp hx0m.1
   rw[<-he,zn5];exact Nat.le_refl _
  have hx0t:∀ c∈x0.cps.toList,97<=c/\c<=122:=by
   obtain⟨e,he1,he⟩:=mem_map.mp hx0m.1
   intro c hc
   rw[<-he,xp2 #[10]] at hc
   rw[(mem_replicate.mp hc).2]
   exact Ag8 e he1
  rw[hx0]
  lk
  have hd2:(upd H' t #[24,x0::xr]) d=some #[24,names]:=by rw[B5 (O4 hd1 ht)];exact hd1
  refine⟨.inl ⟨rfl,_,SqL.of hd2⟩,?_⟩
  lk
  refine L7 #[59,A8] (v:=.str x0) (D3 (j:=0) rfl) ?_
  lk
  refine⟨D5 (by z_go),fun t2 ht2=>?_⟩
  lk
  refine⟨D5 (by z_go),fun t3 ht3=>?_⟩
  lk
  have n32:t3≠t2:=fun e=>by rw[e,A8] at ht3;cases ht3
  have hd3:(upd (upd (upd H' t #[24,x0::xr]) t2 (.lst [.str (wrd ns),.str x0])) t3 (.lst [.str "bars",.str "shuts"])) d=some #[24,names]:=by
   rw[B5 (O4 (by rw[B5 (O4 hd2 ht2)];exact hd2) ht3),B5 (O4 hd2 ht2)];exact hd2
  refine zk5 hd3 A8 (by rw[B7];exact D5 (by simp;omega)) fun t4 ht4=>?_
  have ex:B4 names++[V.str "bars",V.str "shuts"]=B4 (names++[("bars":Str),("shuts":Str)]):=by simp[B4]
  refine .inl (xj9 (.inl #[59,A8]) rfl (by rw[ex];exact P8 _) ?_)
  rw[ex,S3]
  lk
  have n42:t2≠t4:=fun e=>by rw[<-e,B5 n32.symm,A8] at ht4;cases ht4
  have hd4:#[14] d=some #[24,names]:=by
   rw[B5 (O4 hd3 ht4)];exact hd3
  have hq2:#[14] t2=some (.lst [.str (wrd ns),.str x0]):=by
   rw[B5 n42,B5 n32.symm];exact A8
  have s4:A9 H0 #[14] :=
   A9.tr s1 (A9.tr #[36,ht] (A9.tr #[36,ht2] (A9.tr #[36,ht3] #[36,ht4])))
  generalize #[14]=H4 at *
  have app:∀ x:Str,x∉names->x≠("":Str)->x.length<=8->(∀ c∈x.cps.toList,97<=c/\c<=122)->Nms (names++[x]):=fun x hx hxe hxl hxt=>⟨by
   rw[nodup_append];refine⟨hN.nd,by simp,?_⟩
   intro a ha b hb e
   rw[mem_singleton.mp hb] at e
   exact hx (e▸ha),fun y hy=>by
   rcases mem_append.mp hy with h|h
   ·exact hN.ne y h
   ·rw[mem_singleton.mp h];exact hxe,fun y hy=>by
   rcases mem_append.mp hy with h|h
   ·exact hN.le y h
   ·rw[mem_singleton.mp h];exact hxl,fun y hy=>by
   rcases mem_append.mp hy with h|h
   ·exact hN.lt y h
   ·rw[mem_singleton.mp h];exact hxt⟩
  have fin:∀ x:Str,x∉names->x≠("":Str)->x.length<=8->(∀ c∈x.cps.toList,97<=c/\c<=122)->M3 (.ref d) [.str x] H4 (fun _ H1=>D.nx [some (.int c),some (.str Lt),some (.ref d),some (.int k),some (.ref p),some (.str (wrd ns)),some (.ref t)] H1):=fun x hx hxe hxl hxt=>by
   refine M1 hd4 (by rw[B7,sizeLine_eq];omega) ?_
   exact q x _ _ _ (A9.put s4 hd0 _) (by rw[show B4 (names++[x])=B4 names++[V.str x] by simp[B4]];exact A8) (app x hx hxe hxl hxt)
  by_cases hm:wrd ns∈names++[("bars":Str),("shuts":Str)]
  ·rw[decide_eq_true hm]
   refine .inr ⟨true,rfl,?_⟩
   refine L7 #[59,hq2] (v:=.str x0) (D3 (j:=1) rfl) ?_
   lk
   exact fin x0 hx0n hx0e hx0l hx0t
  ·rw[decide_eq_false hm]
   refine .inr ⟨false,rfl,?_⟩
   refine L7 #[59,hq2] (v:=.str (wrd ns)) (D3 (j:=0) rfl) ?_
   lk
   exact fin _ (fun h=>hm (mem_append_left _ h)) (Ag7 hS.2.1) (by rw[zw2];exact hS.2.2) (Ag9 hS)
theorem Sg.set(h:Sg ns)(i:Nat){x:Int}(h0:0<=x)(h1:x<26):Sg (ns.set i x):=by
 refine⟨fun y hy=>?_,by rw[length_set];exact h.2.1,by rw[length_set];exact h.2.2⟩
 rcases mem_or_eq_of_mem_set hy with h' | h'
 ·exact h.1 y h'
 ·rw[h'];exact⟨h0,h1⟩
theorem xj0{c:Int}{k:Nat}(s0:A9 H0 H)(hd0:H0 d=none)(hd:H d=some #[24,names])(hp:H p=some (.lst (qd5 ns)))(hS:Sg ns)(hN:Nms names)(hl:names.length<12)(q:∀ (x:Str) (b0 b1 b2:Option V) (H':Hp),A9 H0 H'->H' d=some #[24,names++[x]]->Nms (names++[x])->D.nx [some (.int c),some (.str Lt),some (.ref d),some (.int k),b0,b1,b2] H') :
 yf1 K D [some (.int c),some (.str Lt),some (.ref d),some (.int k),some (.ref p),a5,a6] H:=by
 unfold yf1
 lk
 by_cases h4:c % 4=3
 ·rw[decide_eq_true h4];refine qm9 ?_
  lk
  refine⟨c,2,rfl,by decide,by decide,fun m hm=>?_⟩
  refine wl0 (.inl ⟨by decide,by decide⟩) ?_
  lk
  refine⟨_,rfl,fun p1 ns1 H1 s1 hp1 h1 hS1=>?_⟩
  lk
  refine .inr (.inr ⟨p1,_,rfl,SqL.of h1,fun p2 hp2=>?_⟩)
  obtain⟨u,hu⟩:∃ u:Nat,(k:Int) % 8+1=(u:Int)/\1<=u:=⟨((k:Int) % 8+1).toNat,by omega,by omega⟩
  have ec:qg5 (qd5 ns1) none (some ((k:Int) % 8+1))=qd5 (ns1.take u):=by
   unfold qg5
   rw[hu.1,HT.wd5]
   show((qd5 ns1).drop 0).take (min u (qd5 ns1).length-0)=_
   rw[drop_zero,Nat.sub_zero]
   unfold qd5
   rw[map_take,length_map]
   by_cases hh:u<=ns1.length
   ·rw[Nat.min_eq_left hh]
   ·rw[Nat.min_eq_right #[0],take_of_length_le (by rw[length_map];exact Nat.le_refl _),take_of_length_le (by rw[length_map];omega)]
  rw[ec]
  have hS2:Sg (ns1.take u):=⟨fun x hx=>hS1.1 x (mem_of_mem_take hx),by rw[length_take];have:=hS1.2.1;omega,by rw[length_take];have:=hS1.2.2;omega⟩
  generalize ns1.take u=ns2 at *
  have hd2:(upd H1 p2 (.lst (qd5 ns2))) d=some #[24,names]:=by rw[B5 (O4 (s1 _ _ hd) hp2)];exact s1 _ _ hd
  have npd:p2≠d:=(O4 (s1 _ _ hd) hp2).symm
  lk
  refine L7 #[59,A8] (v:=.int (ns2[0]'hS2.2.1)) (D3 (j:=0) (yz5 hS2.2.1)) ?_
  lk
  refine .inr ⟨_,rfl,?_⟩
  lk
  refine .inl (ye0 A8 (j:=0) (An0 (by rw[qn2];exact hS2.2.1)) ?_)
  rw[yn4]
  refine xi9 (H0:=H0) ?_ hd0 ?_ A8 (hS2.set 0 (Int.emod_nonneg _ #[10]) (Int.emod_lt_of_pos _ #[10])) hN hl fun x b1 b2 H'=>q x _ b1 b2 H'
  ·exact A9.put (A9.tr s0 (A9.tr s1 #[36,hp2])) (A9.free s0 (A9.free s1 hp2)) _
  ·rw[B5 npd.symm];exact hd2
 ·rw[decide_eq_false h4];refine qg6 ?_
  lk
  exact xi9 s0 hd0 hd hp hS hN hl fun x b1 b2 H'=>q x _ b1 b2 H'
def qm1(K:Fg):Sp:=fun vs H Q _=>∃ c:Int,vs=[.int c]/\∀ (d:Addr) (names:List Str) (H':Hp),A9 H H'->H d=none->H' d=some #[24,names]->names.length=12->Nms names->Q (.ref d) H'
def qq8(K:Fg):TS :=
 (B9 (C8 (tC (.str "abcdefghijklmnopqrstuvwxyz")) (B3 1))
 (B9 (C8 (T8 B1) (B3 2))
 (B9 (qf4 (wj9 (A3 #[1,12] B1)) (B3 3)
 (B9 (C8 (C3 (R8 K) [] E0 (A3 (tOp #[2] (tOp (rI (fun _ j=>0<=j) fun i j=>.int (i / 2 ^ j.toNat)) (tOp #[40] (A7 0) #[1,2]) (tOp qw6 #[1,41] (A7 3))) (tOp (rI zc3 fun i j=>.int (i*2 ^ j.toNat)) #[1,1] #[1,41])) B1)) (B3 4))
 (B9 (N1 (C5 (tOp (P9 K) (tOp #[2] (A7 0) #[1,2]) #[1,1]))
 (B9 (C8 (C3 (R8 K) [] E0 (A3 (C3 (J0 K) [] E0 (A3 (A7 0) (A3 #[1,1] B1))) B1)) (B3 4))
 (C8 (tOp #[2] (tOp (E7 K) #[44,4] (A7 3)) #[1,26]) (ys0 (A7 4) #[12] xz8))) J5)
 (yf1 K))))
 (E3 (A7 2)))))
theorem xv1(h:qm1 K vs H Q E):qq8 K {nx:=fun _ H'=>Q .non H',rt:=Q} (C9 ["_law_cell","_law_letters_here","_law_names_here","_law_k","_law_signs","_law_name","_law_spare"] vs) H:=by
 obtain⟨c,rfl,q⟩:=h
 show qq8 K _ [some (.int c),none,none,none,none,none,none] H
 unfold qq8
 walk_at"39"
 refine wa1 #[10] #[10] (fun i σ H'=>∃ (a3 a4 a5 a6:Option V) (names:List Str),σ=[some (.int c),some (.str Lt),some (.ref d),a3,a4,a5,a6]/\A9 H H'/\H' d=some #[24,names]/\names.length=i/\Nms names) ⟨none,none,none,none,[],rfl,A9.new hd _,A8,rfl,⟨by simp,by simp,by simp,by simp⟩⟩ ?_ ?_
 ·rintro i σ H' hi ⟨a3,a4,a5,a6,names,rfl,s1,h1,hl,hN⟩
  lk
  refine wl0 (.inl ⟨by decide,by decide⟩) ?_
  refine Aa4 #[0] ?_
  lk
  refine Aa5 ⟨by decide,by decide,by decide⟩ ?_
  refine yl8 #[10] ?_
  lk
  refine⟨_,rfl,fun p ns H2 s2 hp hp2 hS=>?_⟩
  lk
  have fin:∀ (x:Str) (b0 b1 b2:Option V) (H':Hp),A9 H H'->H' d=some #[24,names++[x]]->Nms (names++[x])->(fun σ H'=>∃ (a3 a4 a5 a6:Option V) (names:List Str),σ=[some (.int c),some (.str Lt),some (.ref d),a3,a4,a5,a6]/\A9 H H'/\H' d=some #[24,names]/\names.length=i+1/\Nms names) [some (.int c),some (.str Lt),some (.ref d),some (.int i),b0,b1,b2] H' :=
   fun x b0 b1 b2 H' s h n=>⟨_,_,_,_,_,rfl,s,h,by simp[hl],n⟩
  by_cases h2:c % 2=1
  ·rw[decide_eq_true h2];refine qm9 ?_
   lk
   refine⟨c,1,rfl,by decide,by decide,fun m hm=>?_⟩
   lk
   refine⟨_,rfl,fun p1 ns1 H3 s3 hp1 h3 hS1=>?_⟩
   have hd3:=s3 _ _ (s2 _ _ h1)
   have npd:p1≠d:=(O4 (s2 _ _ h1) hp1).symm
   walk_at"21"
   refine L7 #[59,h3] (ye8 (by rw[qn2];exact hS1.2.1) (by rw[qn2];exact yz5 (by have:=hS1.2.1;omega))) ?_
   walk_at"21"
   refine .inl (ye0 h3 (yn5 (by rw[qn2];exact hS1.2.1)) ?_)
   rw[yn4]
   refine xj0 (H0:=H) ?_ hd ?_ A8 (hS1.set _ (Int.emod_nonneg _ #[10]) (Int.emod_lt_of_pos _ #[10])) hN #[0] fin
   ·exact A9.put (A9.tr s1 (A9.tr s2 s3)) (A9.free s1 (A9.free s2 hp1)) _
   ·rw[B5 npd.symm];exact hd3
  ·rw[decide_eq_false h2];refine qg6 ?_
   lk
   exact xj0 (H0:=H) (A9.tr s1 s2) hd (s2 _ _ h1) hp2 hS hN #[0] fin
 ·rintro σ H' ⟨a3,a4,a5,a6,names,rfl,s1,h1,hl,hN⟩
  lk
  exact q d names H' s1 hd h1 hl hN
def gd(l:List Str)(i:Nat):Str:=l.getD i ("":Str)
def wm0(x:Str):Prop:=x=("bare":Str)\/x=("plain":Str)\/x=("anew":Str)\/x=("room":Str)\/x=#[15]
theorem Z0{l:List Str}{i:Nat}(h:i<l.length):gd (l.set i x) i=x:=by
 unfold gd;rw[getD_eq_getElem?_getD,List.getElem?_set_self h];rfl
variable{j:Nat}
theorem U4{l:List Str}{i:Nat}(h:i≠j):gd (l.set i x) j=gd l j:=by
 unfold gd;rw[getD_eq_getElem?_getD,getD_eq_getElem?_getD,List.getElem?_set_ne h]
theorem we5{l:List Str}{i:Nat}(h:i<l.length):l[i]?=some (gd l i):=by
 unfold gd;rw[getD_eq_getElem?_getD];simp[h]
theorem xp7{l:List Str}{i:Nat}(h:i<l.length):gd l i∈l:=mem_of_getElem? (we5 h)
theorem zn6(hn:names.Nodup){i:Nat}(hi:i<names.length)(hj:j<names.length)(e:gd names i=gd names j):i=j:=by
 have e1:gd names i=names[i]:=by have:=we5 hi;rw[List.getElem?_eq_getElem hi] at this;exact(Option.some.inj this).symm
 have e2:gd names j=names[j]:=by have:=we5 hj;rw[List.getElem?_eq_getElem hj] at this;exact(Option.some.inj this).symm
 have h1:=hn.idxOf_getElem i hi
 have h2:=hn.idxOf_getElem j hj
 rw[<-e1,e,e2,h2] at h1
 exact h1.symm
theorem qf7{xs:List Str}{i:Nat}(h:i<xs.length):atI (B4 xs) ((i:Nat):Int)=some (.str (gd xs i)):=D3 (by unfold B4;rw[List.getElem?_map,we5 h];rfl)
def Y2(js:List Nat):List V:=js.map fun(j:Nat)=>.int (j:Int)
def wz9(x:Str):Prop:=x=("plain":Str)\/x=#[15]
instance (x:Str):Decidable (wz9 x):=inferInstanceAs (Decidable (_\/_))
structure Srt(names:List Str)(c:Nat)(S Hs:List Str)(T:List Nat)(k:Nat):Prop where
 ls:S.length=c
 lh:Hs.length=c
 srt:∀ x∈S,wm0 x
 host:∀ i,i<k->i<c->gd S i=#[15]->∃ j,i<j/\j<c/\gd Hs i=gd names j/\wz9 (gd S j)/\j∈T
 no:∀ i,i<c->(k<=i\/gd S i≠#[15])->gd Hs i=("":Str)
 tk:∀ j∈T,j<c/\wz9 (gd S j)/\∃ i,i<j/\i<k/\gd S i=#[15]/\gd Hs i=gd names j
 uq:∀ i i',i<k->i'<k->i<c->i'<c->gd S i=#[15]->gd S i'=#[15]->gd Hs i=gd Hs i'->i=i'
 tl:T.length<=k
variable{Hs S:List Str}{T:List Nat}
section
variable{k:Nat}
theorem Srt.put(g:Srt names c S Hs T k)(hk:k<c)(x:Str)(hx:wm0 x)(hf:gd S k=#[15])(hnf:x≠#[15])(hT:k∈T->wz9 x):Srt names c (S.set k x) Hs T k:=by
 have hkS:k<S.length:=by rw[g.ls];exact hk
 have pf:∀ j,j∈T->wz9 (gd S j)->wz9 (gd (S.set k x) j):=fun j hj h=>by
  by_cases e:k=j
  ·subst e;rw[Z0 hkS];exact hT hj
  ·rw[U4 e];exact h
 have fr:∀ i,gd (S.set k x) i=#[15]->i≠k/\gd S i=#[15]:=fun i h=>by
  by_cases e:k=i
  ·subst e;rw[Z0 hkS] at h;exact absurd h hnf
  ·rw[U4 e] at h;exact⟨fun z=>e z.symm,h⟩
 refine⟨by rw[length_set];exact g.ls,g.lh,fun y hy=>?_,fun i h1 h2 h3=>?_,fun i h1 h2=>?_,fun j hj=>?_,fun i i' a b e f g1 g2 g3=>g.uq i i' a b e f (fr i g1).2 (fr i' g2).2 g3,g.tl⟩
 ·rcases mem_or_eq_of_mem_set hy with h|h
  ·exact g.srt y h
  ·rw[h];exact hx
 ·obtain⟨j,a,b,e,f,t⟩:=g.host i h1 h2 (fr i h3).2
  exact⟨j,a,b,e,pf j t f,t⟩
 ·rcases h2 with h2|h2
  ·exact g.no i h1 (.inl h2)
  ·by_cases e:k=i
   ·exact g.no i h1 (.inl #[0])
   ·rw[U4 e] at h2;exact g.no i h1 (.inr h2)
 ·obtain⟨a,b,i,h1,h2,h3,h4⟩:=g.tk j hj
  exact⟨a,pf j hj b,i,h1,h2,by rw[U4 #[0]];exact h3,h4⟩
theorem Srt.take(g:Srt names c S Hs T k)(hn:Nms names)(hcn:c<=names.length)(hk:k<c)(hf:gd S k=#[15])(hj:k<j)(hj2:j<c)(hp:wz9 (gd S j))(hT:j∉T):Srt names c S (Hs.set k (gd names j)) (T++[j]) (k+1):=by
 have hkH:k<Hs.length:=by rw[g.lh];exact hk
 refine⟨g.ls,by rw[length_set];exact g.lh,g.srt,fun i h1 h2 h3=>?_,fun i h1 h2=>?_,fun i hi=>?_,fun i i' a b e f g1 g2 g3=>?_,by rw[length_append,length_singleton];have:=g.tl;omega⟩
 ·by_cases e:k=i
  ·subst e;exact⟨j,hj,hj2,Z0 hkH,hp,by simp⟩
  ·obtain⟨j',a,b,e',f,t⟩:=g.host i #[0] h2 h3
   exact⟨j',a,b,by rw[U4 e];exact e',f,by simp[t]⟩
 ·by_cases e:k=i
  ·subst e
   rcases h2 with h2|h2
   ·omega
   ·exact absurd hf h2
  ·rw[U4 e]
   rcases h2 with h2|h2
   ·exact g.no i h1 (.inl #[0])
   ·exact g.no i h1 (.inr h2)
 ·rcases mem_append.mp hi with h|h
  ·obtain⟨a,b,i',h1,h2,h3,h4⟩:=g.tk i h
   exact⟨a,b,i',h1,by omega,h3,by rw[U4 #[0]];exact h4⟩
  ·rw[mem_singleton.mp h];exact⟨hj2,hp,k,hj,by omega,hf,Z0 hkH⟩
 ·have other:∀ m,m≠k->m<k+1->m<c->gd S m=#[15]->gd Hs m≠gd names j:=fun m h1 h2 h3 h4 h5=>by
   obtain⟨j',a,b,e',f,t⟩:=g.host m #[0] h3 h4
   rw[e'] at h5
   have:=zn6 hn.nd #[0] #[0] h5
   exact hT (this▸t)
  by_cases ei:k=i
  ·by_cases ei':k=i'
   ·omega
   ·subst ei;rw[Z0 hkH,U4 ei'] at g3
    exact absurd g3.symm (other i' (fun z=>ei' z.symm) b f g2)
  ·by_cases ei':k=i'
   ·subst ei';rw[Z0 hkH,U4 ei] at g3
    exact absurd g3 (other i (fun z=>ei z.symm) a e g1)
   ·rw[U4 ei,U4 ei'] at g3
    exact g.uq i i' #[0] #[0] e f g1 g2 g3
end
structure SH(H0:Hp)(pS pH pT:Addr)(S Hs:List Str)(T:List Nat)(H':Hp):Prop where
 sm:A9 H0 H'
 hS:H' pS=some #[24,S]
 hH:H' pH=some #[24,Hs]
 hT:H' pT=some (.lst (Y2 T))
theorem yn9:∀ xs:List Str,O0 (sDa xs)=true
 | []=>by show O0 []=true;rw[O0]
 | x::xs=>by show O0 (.str x::sDa xs)=true;rw[O0,yn9 xs,fix];rfl
theorem yz8(r:Row):fix r.da=true:=by
 unfold Row.da
 simp[fix,O0,yn9]
theorem xp8:∀ rs:List Row,O0 (rs.map Row.da)=true
 | []=>by show O0 []=true;rw[O0]
 | r::rs=>by show O0 (r.da::rs.map Row.da)=true;rw[O0,yz8,xp8 rs];rfl
structure Boo(rs:List Row):Prop where
 l1:1<=rs.length
 l2:rs.length<=12
 nd:(rs.map (·.name)).Nodup
 ne:∀ r∈rs,r.name≠("":Str)
 rk:∃ rk:Str->Nat,(∀ r∈rs,rk r.name<12)/\∀ r∈rs,r.sort=#[15]->(∃ r'∈rs,r'.name=r.host/\wz9 r'.sort)/\rk r.name<rk r.host
 noh:∀ r∈rs,r.sort≠#[15]->r.host=("":Str)
 uq:∀ r∈rs,∀ r'∈rs,r.sort=#[15]->r'.sort=#[15]->r.host=r'.host->r.name=r'.name
 srt:∀ r∈rs,wm0 r.sort
 nosh:∀ r∈rs,∀ x∈r.shuts,∀ f∈rs,f.sort=#[15]->f.host≠x
structure RA(names S Hs:List Str)(T:List Nat)(c j:Nat)(r:Row):Prop where
 sh:∀ x∈r.shuts,∃ i,i<c/\i∉T/\x=gd names i
 name:r.name=gd names j
 sort:r.sort=gd S j
 host:r.host=gd Hs j
theorem yv4(hn:names.Nodup)(hj:j<names.length):names.idxOf (gd names j)=j:=by
 have e:gd names j=names[j]:=by have:=we5 hj;rw[List.getElem?_eq_getElem hj] at this;exact(Option.some.inj this).symm
 rw[e];exact hn.idxOf_getElem j hj
theorem Ah0{l:List Row}(hn:Nms names)(hcn:c<=names.length)(hn12:names.length<=12)(h1:1<=c)(g:Srt names c S Hs T c)(p:rs.Perm l)(hl:l.length=c)(ra:∀ j r,l[j]?=some r->RA names S Hs T c j r):Boo rs:=by
 have at_:∀ r∈rs,∃ j,j<c/\RA names S Hs T c j r/\l[j]?=some r:=fun r hr=>by
  obtain⟨j,hj,e⟩:=List.getElem_of_mem (p.mem_iff.mp hr)
  have e2:l[j]?=some r:=by rw[List.getElem?_eq_getElem hj,e]
  exact⟨j,by omega,ra j r e2,e2⟩
 have lp:=p.length_eq
 refine⟨by omega,by omega,?_,fun r hr=>?_,⟨names.idxOf,fun r hr=>?_,fun r hr hf=>?_⟩,fun r hr hf=>?_,fun r hr r' hr' hf hf' e=>?_,fun r hr=>?_,fun r hr x hx f hf hs e=>?_⟩
 ·refine(p.map _).nodup_iff.mpr ?_
  have e:l.map (·.name)=names.take c:=by
   apply ext_getElem?
   intro i
   rw[List.getElem?_map,List.getElem?_take]
   by_cases hi:i<c
   ·have e1:l[i]?=some l[i]:=List.getElem?_eq_getElem #[0]
    rw[if_pos hi,e1,we5 #[0]]
    show some (l[i].name)=_
    rw[(ra i _ e1).name]
   ·rw[if_neg hi,List.getElem?_eq_none_iff.mpr #[0]];rfl
  rw[e]
  exact hn.nd.sublist (take_sublist _ _)
 ·obtain⟨j,hj,R,_⟩:=at_ r hr
  rw[R.name];exact hn.ne _ (xp7 #[0])
 ·obtain⟨j,hj,R,_⟩:=at_ r hr
  rw[R.name]
  show names.idxOf (gd names j)<12
  rw[yv4 hn.nd #[0]];omega
 ·obtain⟨i,hi,R,_⟩:=at_ r hr
  obtain⟨j,h1,h2,h3,h4,_⟩:=g.host i hi hi (by rw[<-R.sort];exact hf)
  have ej:l[j]?=some l[j]:=List.getElem?_eq_getElem #[0]
  have Rj:=ra j _ ej
  refine⟨⟨l[j],p.mem_iff.mpr (mem_of_getElem? ej),?_,by rw[Rj.sort];exact h4⟩,?_⟩
  ·rw[Rj.name,R.host,h3]
  ·rw[R.name,R.host,h3]
   show names.idxOf (gd names i)<names.idxOf (gd names j)
   rw[yv4 hn.nd #[0],yv4 hn.nd #[0]];exact h1
 ·obtain⟨i,hi,R,_⟩:=at_ r hr
  rw[R.host];exact g.no i hi (.inr (by rw[<-R.sort];exact hf))
 ·obtain⟨i,hi,R,_⟩:=at_ r hr
  obtain⟨j,hj,R',_⟩:=at_ r' hr'
  have:=g.uq i j hi hj hi hj (by rw[<-R.sort];exact hf) (by rw[<-R'.sort];exact hf') (by rw[<-R.host,<-R'.host];exact e)
  rw[R.name,R'.name,this]
 ·obtain⟨i,hi,R,_⟩:=at_ r hr
  rw[R.sort];exact g.srt _ (xp7 (by rw[g.ls];exact hi))
 ·obtain⟨i,hi,R,_⟩:=at_ r hr
  obtain⟨j,hj,Rf,_⟩:=at_ f hf
  obtain⟨m,hm,hmT,rfl⟩:=R.sh x hx
  obtain⟨k,_,hk,e2,_,hkT⟩:=g.host j hj hj (by rw[<-Rf.sort];exact hs)
  rw[Rf.host,e2] at e
  have:=zn6 hn.nd #[0] #[0] e
  subst this
  exact hmT hkT
theorem Rws.same(h:Rws K H v rs)(s:A9 H H'):Rws K H' v rs:=by
 obtain⟨a,vs,rfl,hq,hd⟩:=h
 exact⟨a,vs,rfl,hq.imp s.sqL s.sqT,Dvs.same s _ _ hd⟩
variable{r:Row}
theorem wm1(h:N0 rs (some n)=some r):r∈rs/\r.name=n:=by
 refine⟨mem_of_find?_eq_some h,?_⟩
 have:=find?_some h
 simpa using this
theorem yf2(h:∃ r∈rs,r.name=n):∃ r,N0 rs (some n)=some r/\r∈rs/\r.name=n:=by
 cases e:N0 rs (some n) with
 | none =>
   obtain⟨r,hr,hn⟩:=h
   have:=find?_eq_none.mp e r hr
   simp[hn] at this
 | some r=>exact⟨r,rfl,wm1 e⟩
def frS(rs:List Row)(n:Str):Str:=if n=("":Str) then("":Str) else(I9 rs (some n)).getD ("":Str)
def S5(rs:List Row)(n:Str):Bool:=match N0 rs (some n) with|none=>false|some r=>decide (r.sort∈[("room":Str),#[15]])
def R3(rs:List Row)(ns:List Str):List Str:=ns.foldl (fun acc n=>if S5 rs n then[] else acc++[n]) []
theorem qs5(rs:List Row)(ns:List Str)(n:Str):R3 rs (ns++[n])=if S5 rs n then[] else R3 rs ns++[n]:=by
 unfold R3;rw[foldl_append];rfl
theorem qn3(rs:List Row):∀ (k:Nat) (ns:List Str),ns.length=k->(R3 rs ns).length<=k
 | 0,ns,h=>by rw[length_eq_zero_iff.mp h];exact Nat.le_refl _
 | k+1,ns,h=>by
   have hp:ns≠[]:=fun e=>by rw[e] at h;cases h
   rw[<-dropLast_concat_getLast hp,qs5]
   have:=qn3 rs k ns.dropLast (by rw[length_dropLast];omega)
   split
   ·exact Nat.zero_le _
   ·rw[length_append,length_singleton];omega
theorem wp8(h:Dv K H r.da v):∃ b ps pb,v=.ref b/\SqT K H b [.str r.name,.str r.sort,.str r.host,.ref ps,.ref pb]/\SqT K H ps (B4 r.shuts)/\SqT K H pb (B4 r.bars):=by
 obtain⟨b,sv,bv,rfl,hb,h1,h2⟩:=R7 h
 obtain⟨ps,vs,rfl,q1,d1⟩:=D9.mp h1
 obtain⟨pb,ws,rfl,q2,d2⟩:=D9.mp h2
 rw[qq4.mp d1] at q1
 rw[qq4.mp d2] at q2
 exact⟨b,ps,pb,rfl,hb,q1,q2⟩
def qp0(rs:List Row)(ys:List Str)(r:Row):Bool:=(R3 rs ys).all fun y=>!(decide (y∈r.shuts)) && !(decide (y∈r.bars))
def qe9(rs:List Row)(lst n:Str):Bool:=match N0 rs (some lst) with|none=>true|some r=>!(decide (r.sort=#[15])) || decide (r.host=n)
def qd8(rs:List Row)(lst n:Str):Bool:=decide (frS rs n=("":Str)) || decide (frS rs n=lst)
def G8(ys:List Str):Str:=gd ys (ys.length-1)
def wr2(rs:List Row)(ys:List Str)(n:Str):Bool:=match N0 rs (some n) with
 | none=>false
 | some r=>decide (ys.length<=19) && (qd8 rs (G8 ys) n && (qe9 rs (G8 ys) n && qp0 rs ys r))
def qj4(rs:List Row):Nat->Option Str->List Str
 | 0,_=>[]
 | k+1,n=>match Q0 rs n with
   | none=>[]
   | some y=>y::qj4 rs k (some y)
def Ah1(rs:List Row)(rk:Str->Nat):Prop:=∀ x y,Q0 rs (some x)=some y->rk x<rk y/\rk y<12
theorem Boo.rise(B:Boo rs):∃ rk,Ah1 rs rk:=by
 obtain⟨rk,h1,h2⟩:=B.rk
 refine⟨rk,fun x y e=>?_⟩
 unfold Q0 at e
 cases er:N0 rs (some x) with
 | none=>rw[er] at e;cases e
 | some r =>
   rw[er] at e
   obtain⟨hr,hn⟩:=wm1 er
   by_cases hf:r.sort=#[15]
   ·have e:some r.host=some y:=by simpa [hf] using e
    injection e with e
    obtain⟨⟨r',hr',en,_⟩,h⟩:=h2 r hr hf
    subst e hn
    exact⟨h,by rw[<-en];exact h1 r' hr'⟩
   ·simp[hf] at e
theorem xp9{rs:List Row}{rk:Str->Nat}(f:Ah1 rs rk):∀ (k m:Nat) (x:Str),12-rk x<=k->k<=m->qj4 rs m (some x)=qj4 rs k (some x)
 | k, 0, x, h, hm => by have:k=0:=by omega
                        rw[this]
 | k,m+1,x,h,hm=>by
   cases e:Q0 rs (some x) with
   | none =>
     have e1:∀ k,qj4 rs k (some x)=[]:=fun k=>by cases k with|zero=>rfl|succ k=>rw[qj4,e]
     rw[e1,e1]
   | some y =>
     obtain⟨hy,hy2⟩:=f x y e
     cases k with
     | zero=>omega
     | succ k =>
       rw[qj4,e,qj4,e]
       show y::qj4 rs m (some y)=y::qj4 rs k (some y)
       rw[xp9 f k m y #[0] #[0]]
def L8(rs:List Row)(x:Str):List Str:=qj4 rs 12 (some x)
theorem ql2(rs:List Row):∀ (k:Nat) (n:Option Str),(qj4 rs k n).length<=k
 | 0,_=>Nat.le_refl _
 | k+1,n=>by
   rw[qj4]
   split
   ·exact Nat.zero_le _
   ·rw[length_cons];have:=ql2 rs k;exact Nat.succ_le_succ (this _)
theorem we6(e:Q0 rs (some x)=none):L8 rs x=[]:=by
 unfold L8;rw[qj4,e]
theorem xq0(f:Ah1 rs rk)(e:Q0 rs (some x)=some y):L8 rs x=y::L8 rs y:=by
 unfold L8
 rw[qj4,e]
 show y::qj4 rs 11 (some y)=y::qj4 rs 12 (some y)
 obtain⟨h1,h2⟩:=f x y e
 rw[xp9 f 11 12 y #[0] #[0]]
def O7(K:Fg):Sp:=fun vs H Q _=>∃ (a:Addr) (ys:List Str),vs=[.ref a]/\(SqL K H a (B4 ys)\/SqT K H a (B4 ys))/\Q (.str (G8 ys)) H
def U5(K:Fg):TS :=
 (E3 (tIf (C5 (tOp wq9 (tCB (O3 K) #[3,0]) #[1,0])) #[44,0] (tC (.str ""))))
theorem xa0(h:O7 K vs H Q E):U5 K {nx:=fun _ H'=>Q .non H',rt:=Q} (C9 ["names"] vs) H:=by
 obtain⟨a,ys,rfl,hq,q⟩:=h
 show U5 K _ [some (.ref a)] H
 unfold U5
 lk
 refine N8 hq ?_
 rw[B7]
 lk
 by_cases h0:(0:Int)<(ys.length:Int)
 ·rw[decide_eq_true h0]
  x_go
  walk_at"21"
  have e1:(B4 ys)[(B4 ys).length-1]?=some (.str (G8 ys)):=by
   rw[B7];unfold B4 G8;rw[List.getElem?_map,we5 #[0]];rfl
  have e2:=ye8 (by rw[B7];omega) e1
  rcases hq with hq|hq
  ·exact L7 hq e2 q
  ·exact G1 hq e2 q
 ·rw[decide_eq_false h0]
  k_go
  lk
  have:ys=[]:=length_eq_zero_iff.mp #[0]
  subst this
  exact q
def W4(K:Fg):Sp:=fun vs H Q _=>∃ (v:V) (x:Str) (rs:List Row),vs=[v,.str x]/\Rws K H v rs/\Boo rs/\∀ (p:Addr) (H':Hp),A9 H H'->SqT K H' p (B4 (L8 rs x))->Q (.ref p) H'
def Z1(K:Fg):TS :=
 (B9 (C8 (T8 B1) (B3 2))
 (B9 (C8 (C3 (qt1 K) [] E0 (A3 (A7 0) #[3,1])) (B3 3))
 (B9 (qy6 (C5 (tOp qq6 (A7 3) (tC .non)))
 (B9 (G5 (tBM K "list" M3 (A7 2) #[3,3]))
 (C8 (C3 (qt1 K) [] E0 (A3 (A7 0) #[3,3])) (B3 3))))
 (E3 (tCB (qa3 K) #[3,2])))))
theorem xk6(h:W4 K vs H Q E):Z1 K {nx:=fun _ H'=>Q .non H',rt:=Q} (C9 ["book","name","hosts","host"] vs) H:=by
 obtain⟨v,x,rs,rfl,hR,B,q⟩:=h
 show Z1 K _ [some v,some (.str x),none,none] H
 unfold Z1
 obtain⟨rk,f⟩:=B.rise
 walk_at"39"
 refine⟨v,some x,rs,rfl,hR.same #[36,hd],?_⟩
 lk
 refine yk5 (fun σ H'=>∃ (n:Option Str) (ys:List Str),σ=[some v,some (.str x),some (.ref d),some (oV n)]/\A9 H H'/\H' d=some #[24,ys]/\L8 rs x=ys++(match n with|none=>[]|some y=>y::L8 rs y)/\ys.length<=12/\∀ y,n=some y->∃ x,Q0 rs (some x)=some y)
  (fun σ _=>match σ with | [_,_,_,some (.str y)]=>13-rk y|_=>0) ?_ ?_ ?_
 ·refine⟨Q0 rs (some x),[],rfl,A9.new hd _,A8,?_,Nat.zero_le _,fun y e=>⟨x,e⟩⟩
  cases e:Q0 rs (some x) with
  | none=>rw[we6 e];rfl
  | some y=>rw[xq0 f e];rfl
 ·rintro σ H' ⟨n,ys,rfl,s1,h1,eh,hl,hn⟩
  have hlen:(L8 rs x).length<=12:=ql2 rs 12 _
  cases n with
  | none =>
    refine⟨_,rfl,rfl,_,rfl,?_⟩
    show(if(!decide (V.non=V.non))=true then _ else _)
    rw[decide_eq_true rfl,Bool.not_true];refine qg6 ?_
    lk
    refine⟨d,_,rfl,.inl ⟨SqL.of h1,fun p hp=>?_⟩⟩
    have:L8 rs x=ys:=by rw[eh];exact append_nil _
    exact q p _ (A9.tr s1 #[36,hp]) (by rw[this];exact SqT.of A8)
  | some y =>
    refine⟨_,rfl,rfl,_,rfl,?_⟩
    show(if(!decide (V.str y=V.non))=true then _ else _)
    rw[decide_eq_false (by simp),Bool.not_false];refine qm9 ?_
    have hl2:ys.length+1<=12:=by
     rw[eh,length_append] at hlen
     simp at hlen;omega
    lk
    refine⟨.inl ⟨rfl,_,SqL.of h1⟩,?_⟩
    lk
    refine M1 h1 (by rw[B7,sizeLine_eq];omega) ?_
    rw[show(oV (some y))=V.str y from rfl,qd7]
    lk
    refine⟨v,some y,rs,rfl,hR.same (A9.put s1 hd _),?_⟩
    lk
    refine⟨⟨Q0 rs (some y),ys++[y],rfl,A9.put s1 hd _,A8,?_,by rw[length_append,length_singleton];omega,fun z e=>⟨y,e⟩⟩,?_⟩
    ·rw[eh,append_assoc]
     congr 1
     cases e:Q0 rs (some y) with
     | none=>show y::L8 rs y=_;rw[we6 e];rfl
     | some z=>show y::L8 rs y=_;rw[xq0 f e];rfl
    ·show(match [some v,some (V.str x),some (V.ref d),some (oV (Q0 rs (some y)))] with | [_,_,_,some (.str y)]=>13-rk y|_=>0)<13-rk y
     obtain⟨w,hw⟩:=hn y rfl
     have:=(f _ _ hw).2
     cases e2:Q0 rs (some y) with
     | none=>show 0<13-rk y;omega
     | some z=>have:=f y z e2;show 13-rk z<13-rk y;omega
 ·rintro σ H' Q1 Q2 hQ ⟨v1,e1,e2,k,e3,q1⟩
  exact⟨v1,e1,e2,k,e3,hQ _ _ q1⟩
def qq9(K:Fg):Sp:=fun vs H Q _=>∃ (v:V) (a:Addr) (ys:List Str) (rs:List Row),vs=[v,.ref a]/\Rws K H v rs/\Boo rs/\(SqL K H a (B4 ys)\/SqT K H a (B4 ys))/\(20<ys.length+(L8 rs (G8 ys)).length->∀ H',A9 H H'->Q .non H')/\(¬20<ys.length+(L8 rs (G8 ys)).length->∀ (p:Addr) (H':Hp),A9 H H'->SqT K H' p (B4 (L8 rs (G8 ys)))->Q (.ref p) H')
def qn4(K:Fg):TS :=
 (B9 (C8 (C3 (W4 K) [] E0 (A3 (A7 0) (A3 (C3 (O7 K) [] E0 #[3,1]) B1))) (B3 2))
 (E3 (tIf (C5 (tOp wq9 (tOp (E7 K) (tCB (O3 K) #[3,1]) (tCB (O3 K) #[3,2])) #[1,20])) (tC .non) (A7 2))))
theorem yf3(h:qq9 K vs H Q E):qn4 K {nx:=fun _ H'=>Q .non H',rt:=Q} (C9 ["book","names","hosts"] vs) H:=by
 obtain⟨v,a,ys,rs,rfl,hR,B,hq,q1,q2⟩:=h
 show qn4 K _ [some v,some (.ref a),none] H
 unfold qn4
 lk
 refine⟨a,ys,rfl,hq,?_⟩
 lk
 refine⟨v,_,rs,rfl,hR,B,fun p H1 s1 hp=>?_⟩
 lk
 refine N8 (hq.imp s1.sqL s1.sqT) ?_
 rw[B7]
 lk
 refine N8 (.inr hp) ?_
 rw[B7]
 lk
 by_cases h:20<ys.length+(L8 rs (G8 ys)).length
 ·rw[decide_eq_true #[0]]
  x_go
  lk
  exact q1 h _ s1
 ·rw[decide_eq_false #[0]]
  k_go
  lk
  exact q2 h p _ s1 hp
variable{ys:List Str}
theorem xq1(k:Nat):qg5 (B4 ys) none (some ((k:Nat):Int))=B4 (ys.take k):=by
 unfold qg5
 rw[HT.wd5]
 show((B4 ys).drop 0).take (min k (B4 ys).length-0)=_
 rw[drop_zero,Nat.sub_zero]
 unfold B4
 rw[map_take,length_map]
 by_cases hh:k<=ys.length
 ·rw[Nat.min_eq_left hh]
 ·rw[Nat.min_eq_right #[0],take_of_length_le (by rw[length_map];exact Nat.le_refl _),take_of_length_le (by rw[length_map];omega)]
theorem ya9(e:I9 rs (some x)=some y):∃ r∈rs,r.name=y/\r.sort=#[15]/\r.host=x:=by
 unfold I9 at e
 obtain⟨r,hr,rfl⟩:=Option.map_eq_some_iff.mp e
 have hm:=mem_of_find?_eq_some hr
 have hp:=find?_some hr
 rw[Bool.and_eq_true,decide_eq_true_eq,decide_eq_true_eq] at hp
 exact⟨r,hm,rfl,hp.1,Option.some.inj hp.2⟩
def bel(rs:List Row)(rk:Str->Nat)(y x:Str):Bool:=decide (x∈ups rs (rk y) (some y))
def clo(rs:List Row)(rk:Str->Nat)(ys:List Str)(x:Str):Nat->Option Nat
 | 0=>none
 | k+1=>if gd ys k=x then some k else if S5 rs (gd ys k) && !(bel rs rk (gd ys k) x) then none else clo rs rk ys x k
def nV:Option Nat->V
 | some k=>.int (k:Int)
 | none=>.non
theorem zw3(xs:List Str):inV .non (B4 xs)=false:=by
 induction xs with
 | nil=>rfl
 | cons x l ih =>
   unfold inV at ih ⊢
   show(eqV (.str x) .non || (B4 l).any fun z=>eqV z .non)=false
   rw[ih];rfl
def qf8(K:Fg):Sp:=fun vs H Q _=>∃ v n rs,vs=[v,.str n]/\Rws K H v rs/\Q (.bl (S5 rs n)) H
def wa5(K:Fg)(c_WALL_SORTS:Addr):TS :=
 (E3 (tOp (qt0 K false) (C3 (Y7 K) [] E0 (A3 (A7 0) #[3,1])) (tC (.ref c_WALL_SORTS))))
theorem yv5{c_WALL_SORTS:Addr}(q_WALL_SORTS:∀ H:Hp,SqT K H c_WALL_SORTS [.str "room",.str "frame"])(h:qf8 K vs H Q E):wa5 K c_WALL_SORTS {nx:=fun _ H'=>Q .non H',rt:=Q} (C9 ["book","name"] vs) H:=by
 obtain⟨v,n,rs,rfl,hR,q⟩:=h
 show wa5 K c_WALL_SORTS _ [some v,some (.str n)] H
 unfold wa5
 lk
 refine⟨v,some n,rs,rfl,hR,?_⟩
 lk
 have hw:S5 rs n=inV (oV (E8 rs (some n))) (B4 [("room":Str),#[15]]):=by
  unfold S5 E8
  cases N0 rs (some n) with
  | none=>exact(zw3 _).symm
  | some r=>exact(S3 _ _).symm
 refine .inl (xj9 (xs:=B4 [("room":Str),#[15]]) (.inr (q_WALL_SORTS H)) ?_ (P8 _) ?_)
 ·cases E8 rs (some n) <;> rfl
 ·rw[<-hw];exact q
def qt3(K:Fg):Sp:=fun vs H Q _=>∃ (v:V) (a:Addr) (ys:List Str) (x:Str) (rs:List Row) (rk:Str->Nat),vs=[v,.ref a,.str x]/\Rws K H v rs/\wz0 rs rk/\(SqL K H a (B4 ys)\/SqT K H a (B4 ys))/\ys.length<=1000/\Q (nV (clo rs rk ys x ys.length)) H
def wa6(K:Fg):TS :=
 (B9 (qf4 (zm2 (A3 (tOp (rI0 fun i j=>.int (i-j)) (tCB (O3 K) #[3,1]) #[1,1]) (A3 #[12] (A3 #[12] B1)))) (B3 3)
 (B9 (N1 (C5 (tOp (P9 K) (tOp (D2 K) (A7 1) (A7 3)) (A7 2)))
 (E3 (A7 3)) J5)
 (N1 (qm7 (tB (C3 (qf8 K) [] E0 (A3 (A7 0) (A3 (tOp (D2 K) (A7 1) (A7 3)) B1)))) (ww9 (tB (C3 (we3 K) [] E0 (A3 (A7 0) (A3 (tOp (D2 K) (A7 1) (A7 3)) #[3,2]))))))
 (E3 (tC .non)) J5)))
 (E3 (tC .non)))
theorem yv6(h:qt3 K vs H Q E):wa6 K {nx:=fun _ H'=>Q .non H',rt:=Q} (C9 ["book","names","name","number"] vs) H:=by
 obtain⟨v,a,ys,x,rs,rk,rfl,hR,f,hq,hl,q⟩:=h
 show wa6 K _ [some v,some (.ref a),some (.str x),none] H
 unfold wa6
 lk
 refine N8 hq ?_
 rw[B7]
 walk_at"21"
 walk_at"21"
 lk
 refine zm5 #[0] (fun i σ H'=>H'=H/\(∃ w,σ=[some v,some (.ref a),some (.str x),w])/\clo rs rk ys x ys.length=clo rs rk ys x (ys.length-i)) ⟨rfl,⟨_,rfl⟩,rfl⟩ ?_ ?_
 ·rintro i σ H' hi ⟨rfl,⟨w,rfl⟩,hc⟩
  obtain⟨k,hk⟩:∃ k:Nat,ys.length-i=k+1:=⟨ys.length-i-1,by omega⟩
  have ek:(ys.length:Int)-1-(i:Int)=((k:Nat):Int):=by omega
  have hk2:ys.length-(i+1)=k:=by omega
  have ix:∀ Q':VK,Q' (.str (gd ys k)) H'->D2 K (.ref a) (.int ((k:Nat):Int)) H' Q':=fun Q' h=>by
   rcases hq with hq|hq
   ·exact L7 hq (qf7 #[0]) h
   ·exact G1 hq (qf7 #[0]) h
  rw[hk,clo] at hc
  rw[ek]
  lk
  refine ix _ ?_
  lk
  by_cases e:gd ys k=x
  ·rw[decide_eq_true e]
   x_go
   lk
   rw[hc,if_pos e] at q
   exact q
  ·rw [decide_eq_false e]
   k_go
   rw[if_neg e] at hc
   lk
   refine ix _ ?_
   lk
   refine⟨v,_,rs,rfl,hR,?_⟩
   lk
   cases hw:S5 rs (gd ys k) with
   | false =>
     rw[hw,Bool.false_and,if_neg Bool.false_ne_true] at hc
     k_go
     k_go
     lk
     exact⟨rfl,⟨_,rfl⟩,by rw[hk2];exact hc⟩
   | true =>
     rw[hw,Bool.true_and] at hc
     x_go
     lk
     refine ix _ ?_
     lk
     refine⟨v,_,x,rs,rk,rfl,hR,f,?_⟩
     show ∃ k_1,V.bl (bel rs rk (gd ys k) x)=V.bl k_1/\_
     lk
     cases hb:bel rs rk (gd ys k) x with
     | true =>
       rw[hb,Bool.not_true,if_neg Bool.false_ne_true] at hc
       rw[Bool.not_true]
       k_go
       lk
       exact⟨rfl,⟨_,rfl⟩,by rw[hk2];exact hc⟩
     | false =>
       rw[hb,Bool.not_false,if_pos rfl] at hc
       rw[Bool.not_false]
       x_go
       lk
       rw[hc] at q
       exact q
 ·rintro σ H' ⟨rfl,⟨w,rfl⟩,hc⟩
  lk
  rw[Nat.sub_self] at hc
  rw[hc] at q
  exact q
def qr0(rs:List Row)(x:Str):List Str:=match N0 rs (some x) with|none=>[]|some r=>r.shuts
def wm2(rs:List Row)(x:Str):List Str:=match N0 rs (some x) with|none=>[]|some r=>r.bars
def kpt(ys sh:List Str):Nat->Nat->Nat
 | k,0=>k
 | k,m+1=>if gd ys k∈sh then k else kpt ys sh (k+1) m
theorem zn7(ys sh:List Str):∀ m k,kpt ys sh k m<=k+m
 | 0,k=>Nat.le_refl _
 | m+1,k=>by
   rw[kpt]
   split
   ·omega
   ·have:=zn7 ys sh m (k+1);omega
def xj1(rs:List Row)(ys:List Str)(x:Str):Nat:=kpt ys (qr0 rs x) (ys.length-(R3 rs ys).length) (R3 rs ys).length
def qp1(rs:List Row)(ys:List Str)(x:Str):Nat×List Str:=if L8 rs (G8 ys)=[] then(xj1 rs ys x,[x]) else(ys.length,L8 rs (G8 ys)++[x])
def xa1(rs:List Row)(rk:Str->Nat)(ys:List Str)(rec:Str->Nat×List Str)(x:Str):Nat×List Str :=
 match I9 rs (some x) with
 | none=>qp1 rs ys x
 | some y=>match clo rs rk ys y ys.length with
   | some k=>(k+1,[x])
   | none=>((rec y).1,(rec y).2++[x])
def M5(rs:List Row)(rk:Str->Nat)(ys:List Str):Nat->Str->Nat×List Str
 | 0=>xa1 rs rk ys fun _=>(0,[])
 | n+1=>xa1 rs rk ys (M5 rs rk ys n)
theorem xq2{rs:List Row}{rk:Str->Nat}{ys:List Str}{x:Str}:∀ {m k:Nat},clo rs rk ys x m=some k->k<m
 | 0,k,h=>by cases h
 | m+1,k,h=>by
   rw[clo] at h
   split at h
   ·injection h with h;omega
   ·split at h
    ·cases h
    ·have:=xq2 h;omega
theorem wa7 {rs:List Row} (B:Boo rs):∀ (m:Nat) (n:Option Str),∀ z∈qj4 rs m n,∃ r∈rs,r.name=z
 | 0,_,z,h=>by cases h
 | m + 1,n,z,h=>by
   rw[qj4] at h
   split at h
   ·cases h
   ·rename_i y e
    rcases mem_cons.mp h with h|h
    ·subst h
     unfold Q0 at e
     cases er:N0 rs n with
     | none=>rw[er] at e;cases e
     | some r =>
       rw[er] at e
       have hr:r∈rs:=mem_of_find?_eq_some er
       by_cases hf:r.sort=#[15]
       ·have e:some r.host=some z:=by simpa [hf] using e
        injection e with e
        obtain⟨rk,_,h2⟩:=B.rk
        obtain⟨⟨r',hr',en,_⟩,_⟩:=h2 r hr hf
        exact⟨r',hr',by rw[en,e]⟩
       ·simp[hf] at e
    ·exact wa7 B m _ z h
structure Wok(rs:List Row)(ys:List Str)(n:Nat)(w:Nat×List Str):Prop where
 k:w.1<=ys.length
 m:∀ z∈w.2,∃ r∈rs,r.name=z
 l:w.2.length<=13+n
theorem zn8(rs:List Row)(ys:List Str)(x:Str):xj1 rs ys x<=ys.length:=by
 have:=zn7 ys (qr0 rs x) (R3 rs ys).length (ys.length-(R3 rs ys).length)
 have:=qn3 rs ys.length ys rfl
 unfold xj1
 omega
theorem zn9(B:Boo rs)(hx:∃ r∈rs,r.name=x)(n:Nat):Wok rs ys n (qp1 rs ys x):=by
 unfold qp1
 split
 ·exact⟨zn8 rs ys x,fun z hz=>by rw[mem_singleton.mp hz];exact hx,by simp;omega⟩
 ·refine⟨Nat.le_refl _,fun z hz=>?_,?_⟩
  ·rcases mem_append.mp hz with h|h
   ·exact wa7 B 12 _ z h
   ·rw[mem_singleton.mp h];exact hx
  ·show(L8 rs (G8 ys)++[x]).length<=_
   rw[length_append,length_singleton]
   have:(L8 rs (G8 ys)).length<=12:=ql2 rs 12 _
   omega
theorem wp9 {rs:List Row} (B:Boo rs) {rk:Str->Nat} (f:wz0 rs rk) {ys:List Str}:∀ (n:Nat) (x:Str),(∃ r∈rs,r.name=x)->rk x<=n->Wok rs ys n (M5 rs rk ys n x)
 | n, x, hx,hn=>by
   have go:∀ rec:Str->Nat×List Str,(∀ y,I9 rs (some x)=some y->∃ m,n=m+1/\Wok rs ys m (rec y))->Wok rs ys n (xa1 rs rk ys rec x):=by
    intro rec hrec
    unfold xa1
    cases e:I9 rs (some x) with
    | none=>exact zn9 B hx n
    | some y =>
      dsimp only
      cases ec:clo rs rk ys y ys.length with
      | some k =>
        have:=xq2 ec
        exact⟨by show k+1<=_;omega,fun z hz=>by rw[mem_singleton.mp hz];exact hx,by simp;omega⟩
      | none =>
        obtain⟨m,rfl,w⟩:=hrec y e
        refine⟨w.k,fun z hz=>?_,?_⟩
        ·rcases mem_append.mp hz with h|h
         ·exact w.m z h
         ·rw[mem_singleton.mp h];exact hx
        ·show((rec y).2++[x]).length<=_
         rw[length_append,length_singleton];have:=w.l;omega
   cases n with
   | zero=>exact go _ fun y e=>absurd (f x y e) #[0]
   | succ m=>exact go _ fun y e=>⟨m,rfl,wp9 B f m y (let ⟨r,h1,h2,_⟩:=ya9 e;⟨r,h1,h2⟩) (by have:=f x y e;omega)⟩
def bar(rs:List Row):List Str->List Str->Bool
 | _,[]=>false
 | there,x::xs=>(R3 rs there).any (fun y=>decide (y∈wm2 rs x)) || bar rs (there++[x]) xs
def xq3(rs:List Row)(rk:Str->Nat)(ys:List Str)(x:Str):PyData :=
 if bar rs (ys.take (M5 rs rk ys 13 x).1) (M5 rs rk ys 13 x).2=true then .tuple [.str "drop",.str "barred"]
 else if 20<(M5 rs rk ys 13 x).1+(M5 rs rk ys 13 x).2.length then .tuple [.str "drop",.str "deep"]
 else .tuple [.str "open",.int (M5 rs rk ys 13 x).1,.tuple (sDa (M5 rs rk ys 13 x).2)]
def ql3(K:Fg):Sp:=fun vs H Q _=>∃ v a ys rs,vs=[v,.ref a]/\Rws K H v rs/\SqT K H a (B4 ys)/\ys.length<=1000/\∀ p H',A9 H H'->SqT K H' p (B4 (R3 rs ys))->Q (.ref p) H'
def wa8(K:Fg):TS :=
 (B9 (C8 #[1,0] (B3 2))
 (B9 (qf4 (ye3 K #[3,1]) (yk3 K 2 (qs7 (B3 3) (qs7 (B3 4) yr8)))
 (N1 (tB (C3 (qf8 K) [] E0 (A3 (A7 0) #[3,4])))
 (C8 (tOp (qw7 K) (A7 3) #[1,1]) (B3 2)) J5))
 (E3 (tCB (qa3 K) (A3 (tSl (ym6 K) (A7 1) (Y3 (A7 2)) qg8) B1)))))
theorem yv7(h:ql3 K vs H Q E):wa8 K {nx:=fun _ H'=>Q .non H',rt:=Q} (C9 ["book","names","start","number","name"] vs) H:=by
 obtain⟨v,a,ys,rs,rfl,hR,hq,hl,q⟩:=h
 show wa8 K _ [some v,some (.ref a),none,none,none] H
 unfold wa8
 lk
 refine ya5 hq (fun i σ H'=>A9 H H'/\∃ (st:Nat) (a3 a4:Option V),σ=[some v,some (.ref a),some (.int st),a3,a4]/\st<=i/\R3 rs (ys.take i)=(ys.take i).drop st) ⟨A9.refl _,0,none,none,rfl,Nat.le_refl _,rfl⟩ (fun i σ H' p=>p.1.sqT hq) ?_ ?_
 ·rintro i x σ H' p hx ⟨s1,st,a3,a4,rfl,hst,hnr⟩ hp
  obtain⟨y,hy,rfl⟩:=qd6 hx
  have il:=(List.getElem?_eq_some_iff.mp hy).1
  have etk:ys.take (i+1)=ys.take i++[y]:=by rw[take_add_one,hy];rfl
  have s2:A9 H (upd H' p (.tup [.int (i:Int),.str y])):=A9.tr s1 #[36,hp]
  refine⟨p,_,rfl,SqT.of A8,rfl,_,_,rfl,D6 ⟨_,_,rfl,D6 ⟨rfl,?_⟩⟩⟩
  lk
  refine⟨v,y,rs,rfl,hR.same s2,?_⟩
  lk
  cases hw:S5 rs y with
  | true =>
    x_go
    lk
    refine .inl (xd7 ?_)
    lk
    refine⟨s2,i+1,_,_,rfl,Nat.le_refl _,?_⟩
    rw[etk,qs5,if_pos hw,drop_eq_nil_of_le (by rw[length_append,length_take,length_singleton];omega)]
  | false =>
    k_go
    lk
    refine⟨s2,st,_,_,rfl,by omega,?_⟩
    rw[etk,qs5,if_neg (by rw[hw];exact Bool.false_ne_true),hnr,drop_append_of_le_length (by rw[length_take];omega)]
 ·rintro σ H' ⟨s1,st,a3,a4,rfl,hst,hnr⟩
  rw[B7,take_length] at hnr
  lk
  refine ym7 (s1.sqT hq) fun p H2 s2 hp=>?_
  have e:qg5 (B4 ys) (some (st:Int)) none=B4 (R3 rs ys):=by
   unfold qg5
   rw[HT.wd5]
   show((B4 ys).drop (min st (B4 ys).length)).take ((B4 ys).length-min st (B4 ys).length)=_
   rw[B7] at hst ⊢
   rw[Nat.min_eq_left hst,take_of_length_le (by rw[length_drop,B7];exact Nat.le_refl _),hnr]
   unfold B4
   rw[map_drop]
  rw[e] at hp
  lk
  refine⟨p,_,rfl,.inr ⟨hp,?_⟩⟩
  exact q p H2 (A9.tr s1 s2) hp
def W5(K:Fg):Sp:=fun vs H Q _=>∃ (a b:Addr) (ys zs:List Str),vs=[.ref a,.ref b]/\SqT K H a (B4 ys)/\SqT K H b (B4 zs)/\ys.length<=1000/\∀ H',A9 H H'->Q (.bl (ys.any fun y=>decide (y∈zs))) H'
def qh3(K:Fg):TS :=
 (E3 (tCB (zm1 K) (A3 (qq1 [some 1,none] (qq7 K (A7 0)) (B3 1) tTT (tOp (qt0 K false) (A7 1) (A7 0))) B1)))
theorem xk7(h:W5 K vs H Q E):qh3 K {nx:=fun _ H'=>Q .non H',rt:=Q} (C9 ["names","others"] vs) H:=by
 obtain⟨a,b,ys,zs,rfl,ha,hb,hl,q⟩:=h
 show qh3 K _ [some (.ref a),some (.ref b)] H
 unfold qh3
 lk
 refine zf5 (H0:=H) (.inr ha) (A9.refl _) (fun i us H'=>H'=H/\us=((ys.take i).map fun y=>decide (y∈zs)).map V.bl) ⟨rfl,rfl⟩ ?_ (fun i us H' p=>p.1▸A9.refl _) ?_ ?_
 ·rintro i us H' hi ⟨_,rfl⟩
  rw[length_map,length_map,length_take];exact D5 #[0]
 ·rintro i x us H' hx ⟨rfl,rfl⟩
  obtain⟨y,hy,rfl⟩:=qd6 hx
  lk
  refine .inl (xj9 (.inr hb) rfl (P8 _) ?_)
  rw[S3]
  refine⟨rfl,?_⟩
  rw[take_add_one,hy]
  simp
 ·rintro us H' ⟨rfl,rfl⟩ p hp
  rw[B7,take_length]
  lk
  refine Am7 #[59,A8] ?_
  rw[any_map]
  exact q _ #[36,hp]
def qa6(K:Fg):Sp:=fun vs H Q _=>∃ v a ys x rs,vs=[v,.ref a,.str x]/\Rws K H v rs/\SqT K H a (B4 ys)/\ys.length<=1000/\(∃ r∈rs,Row.name r=x)/\∀ H',A9 H H'->Q (.int (xj1 rs ys x)) H'
def W6(K:Fg):TS :=
 (B9 (C8 (tOp (D2 K) (C3 (qa4 K) [] E0 (A3 (A7 0) #[3,2])) #[1,3]) (B3 3))
 (B9 (C8 (tOp (rI0 fun i j=>.int (i-j)) (tCB (O3 K) #[3,1]) (tCB (O3 K) (A3 (C3 (ql3 K) [] E0 (A3 (A7 0) #[3,1])) B1))) (B3 4))
 (B9 (qf4 (yx9 (A3 (A7 4) (A3 (tCB (O3 K) #[3,1]) B1))) (B3 5)
 (N1 (C5 (tOp (qt0 K false) (tOp (D2 K) (A7 1) (A7 5)) (A7 3)))
 (E3 (A7 5)) J5))
 (E3 (tCB (O3 K) #[3,1])))))
theorem xe5(h:qa6 K vs H Q E):W6 K {nx:=fun _ H'=>Q .non H',rt:=Q} (C9 ["book","names","name","shuts","first_near","number"] vs) H:=by
 obtain⟨v,a,ys,x,rs,rfl,hR,hq,hl,hx,q⟩:=h
 show W6 K _ [some v,some (.ref a),some (.str x),none,none,none] H
 unfold W6
 obtain⟨r,er,mr,nr⟩:=yf2 hx
 have hsh:qr0 rs x=r.shuts:=by unfold qr0;rw[er]
 lk
 refine⟨v,some x,rs,rfl,hR,fun e=>(by rw[er] at e;cases e),fun r2 u e hu=>?_⟩
 rw[er] at e
 injection e with e
 subst e
 obtain⟨b,ps,pb,rfl,hb,h1,h2⟩:=wp8 hu
 lk
 refine G1 hb rfl ?_
 lk
 refine N8 (.inr hq) ?_
 rw[B7]
 lk
 refine⟨v,a,ys,rs,rfl,hR,hq,hl,fun p H1 s1 hp=>?_⟩
 have nl:=qn3 rs ys.length ys rfl
 lk
 refine N8 (.inr hp) ?_
 rw[B7]
 lk
 refine N8 (.inr (s1.sqT hq)) ?_
 rw[B7]
 have e1:(ys.length:Int)-((R3 rs ys).length:Int)=((ys.length-(R3 rs ys).length:Nat):Int):=by omega
 rw[e1]
 refine zj8 #[0] #[0] #[0] (fun i σ H'=>H'=H1/\(∃ w,σ=[some v,some (.ref a),some (.str x),some (.ref ps),some (.int ((ys.length-(R3 rs ys).length:Nat):Int)),w])/\xj1 rs ys x=kpt ys r.shuts (ys.length-(R3 rs ys).length+i) ((R3 rs ys).length-i)) ⟨rfl,⟨_,rfl⟩,by unfold xj1;rw[hsh];rfl⟩ ?_ ?_
 ·rintro i σ H' hi ⟨rfl,⟨w,rfl⟩,hk⟩
  obtain⟨m,hm⟩:∃ m:Nat,(R3 rs ys).length-i=m+1:=⟨(R3 rs ys).length-i-1,by omega⟩
  have e2:((ys.length-(R3 rs ys).length:Nat):Int)+(i:Int)=((ys.length-(R3 rs ys).length+i:Nat):Int):=by omega
  rw[hm,kpt] at hk
  rw[e2]
  lk
  refine G1 (s1.sqT hq) (qf7 #[0]) ?_
  lk
  refine .inl (xj9 (.inr (s1.sqT h1)) rfl (P8 _) ?_)
  rw[S3]
  lk
  by_cases hs:gd ys (ys.length-(R3 rs ys).length+i)∈r.shuts
  ·rw[decide_eq_true hs]
   x_go
   lk
   rw[if_pos hs] at hk
   rw[hk] at q
   exact q _ s1
  ·rw[decide_eq_false hs]
   k_go
   lk
   rw[if_neg hs] at hk
   exact⟨rfl,⟨_,rfl⟩,by rw[hk,show(R3 rs ys).length-(i+1)=m by omega];rfl⟩
 ·rintro σ H' ⟨rfl,⟨w,rfl⟩,hk⟩
  lk
  refine N8 (.inr (s1.sqT hq)) ?_
  rw[B7]
  have e3:(((ys.length:Int)-((ys.length-(R3 rs ys).length:Nat):Int))).toNat=(R3 rs ys).length:=by omega
  rw[e3,Nat.sub_self,kpt,show ys.length-(R3 rs ys).length+(R3 rs ys).length=ys.length by omega] at hk
  rw[hk] at q
  exact q _ s1
def qr1(K:Fg):Sp:=fun vs H Q _=>∃ v a b ks ps rs,vs=[v,.ref a,.ref b]/\Rws K H v rs/\SqT K H a (B4 ks)/\SqT K H b (B4 ps)/\ks.length<=100/\ps.length<=100/\(∀ z∈ps,∃ r∈rs,Row.name r=z)/\∀ H',A9 H H'->Q (.bl (bar rs ks ps)) H'
def qn5(K:Fg):TS :=
 (B9 (qf4 (ye3 K #[3,2]) (yk3 K 2 (qs7 (B3 3) (qs7 (B3 4) yr8)))
 (B9 (C8 (C3 (ql3 K) [] E0 (A3 (A7 0) (A3 (tOp (qw7 K) (A7 1) (tSl (ym6 K) (A7 2) qg8 (Y3 (A7 3)))) B1))) (B3 5))
 (N1 (tB (C3 (W5 K) [] E0 (A3 (A7 5) (A3 (tOp (D2 K) (C3 (qa4 K) [] E0 (A3 (A7 0) #[3,4])) #[1,4]) B1))))
 (E3 (tC (.bl true))) J5)))
 (E3 (tC (.bl false))))
theorem yf4(h:qr1 K vs H Q E):qn5 K {nx:=fun _ H'=>Q .non H',rt:=Q} (C9 ["book","kept","put","number","name","near"] vs) H:=by
 obtain⟨v,a,b,ks,ps,rs,rfl,hR,ha,hb,hlk,hlp,hps,q⟩:=h
 show qn5 K _ [some v,some (.ref a),some (.ref b),none,none,none] H
 unfold qn5
 lk
 refine ya5 hb (fun i σ H'=>A9 H H'/\∃ (a3 a4 a5:Option V),σ=[some v,some (.ref a),some (.ref b),a3,a4,a5]/\bar rs ks ps=bar rs (ks++ps.take i) (ps.drop i)) ⟨A9.refl _,none,none,none,rfl,by simp⟩ (fun i σ H' p=>p.1.sqT hb) ?_ ?_
 ·rintro i x σ H' p hx ⟨s1,a3,a4,a5,rfl,hbr⟩ hp
  obtain⟨y,hy,rfl⟩:=qd6 hx
  have il:=(List.getElem?_eq_some_iff.mp hy).1
  have etk:ps.take (i+1)=ps.take i++[y]:=by rw[take_add_one,hy];rfl
  have edr:ps.drop i=y::ps.drop (i+1):=by
   obtain⟨hil,he⟩:=List.getElem?_eq_some_iff.mp hy
   rw[drop_eq_getElem_cons hil,he]
  rw[edr,bar] at hbr
  have s2:A9 H (upd H' p (.tup [.int (i:Int),.str y])):=A9.tr s1 #[36,hp]
  obtain⟨r,er,mr,nr⟩:=yf2 (hps y (mem_of_getElem? hy))
  have hba:wm2 rs y=r.bars:=by unfold wm2;rw[er]
  refine⟨p,_,rfl,SqT.of A8,rfl,_,_,rfl,D6 ⟨_,_,rfl,D6 ⟨rfl,?_⟩⟩⟩
  lk
  refine ym7 (s2.sqT hb) fun p3 H3 s3 hp3=>?_
  rw[xq1] at hp3
  have s23:=A9.tr s2 s3
  refine wu8 (s23.sqT ha) hp3 (by rw[B7,B7,length_take];exact D5 #[0]) fun p4 H4 s4 hp4=>?_
  have e4:B4 ks++B4 (ps.take i)=B4 (ks++ps.take i):=by simp[B4]
  rw[e4] at hp4
  have s24:=A9.tr s23 s4
  lk
  refine⟨v,p4,ks++ps.take i,rs,rfl,hR.same s24,hp4,by rw[length_append,length_take];omega,fun p5 H5 s5 hp5=>?_⟩
  have s25:=A9.tr s24 s5
  have nl:=qn3 rs _ (ks++ps.take i) rfl
  rw[length_append,length_take] at nl
  lk
  refine⟨v,some y,rs,rfl,hR.same s25,fun e=>(by rw[er] at e;cases e),fun r2 u e hu=>?_⟩
  rw[er] at e
  injection e with e
  subst e
  obtain⟨b6,p6,p7,rfl,hb6,_,h7⟩:=wp8 hu
  lk
  refine G1 hb6 rfl ?_
  lk
  refine⟨p5,p7,R3 rs (ks++ps.take i),r.bars,rfl,hp5,h7,by omega,fun H8 s8=>?_⟩
  have s28:=A9.tr s25 s8
  lk
  rw[hba] at hbr
  cases hc:(R3 rs (ks++ps.take i)).any (fun z=>decide (z∈r.bars)) with
  | true =>
    x_go
    lk
    rw[hc,Bool.true_or] at hbr
    rw[hbr] at q
    exact q _ s28
  | false =>
    k_go
    lk
    rw[hc,Bool.false_or] at hbr
    exact⟨s28,_,_,_,rfl,by rw[hbr,etk,append_assoc]⟩
 ·rintro σ H' ⟨s1,a3,a4,a5,rfl,hbr⟩
  lk
  rw[B7,drop_length,bar] at hbr
  rw[hbr] at q
  exact q _ s1
def V6(K:Fg):Sp:=fun vs H Q _=>∃ v a ys x rs,vs=[v,.ref a,.str x]/\Rws K H v rs/\Boo rs/\SqT K H a (B4 ys)/\ys.length<=1000/\(∃ r∈rs,Row.name r=x)/\∀ p p2 H',A9 H H'->SqT K H' p [.int (qp1 rs ys x).1,.ref p2]->SqT K H' p2 (B4 (qp1 rs ys x).2)->Q (.ref p) H'
def S6(K:Fg):TS :=
 (B9 (C8 (C3 (W4 K) [] E0 (A3 (A7 0) (A3 (C3 (O7 K) [] E0 #[3,1]) B1))) (B3 3))
 (B9 (N1 (C5 (tOp wq9 (tCB (O3 K) #[3,3]) #[1,0]))
 (E3 (X3 (A3 (tCB (O3 K) #[3,1]) (A3 (tOp (qw7 K) (A7 3) (X3 #[3,2])) B1)))) J5)
 (E3 (X3 (A3 (C3 (qa6 K) [] E0 (A3 (A7 0) (A3 (A7 1) #[3,2]))) (A3 (X3 #[3,2]) B1))))))
theorem wv2(h:V6 K vs H Q E):S6 K {nx:=fun _ H'=>Q .non H',rt:=Q} (C9 ["book","names","name","hosts"] vs) H:=by
 obtain⟨v,a,ys,x,rs,rfl,hR,B,hq,hl,hx,q⟩:=h
 show S6 K _ [some v,some (.ref a),some (.str x),none] H
 unfold S6
 lk
 refine⟨a,ys,rfl,.inr hq,?_⟩
 lk
 refine⟨v,_,rs,rfl,hR,B,fun p H1 s1 hp=>?_⟩
 have hlen:(L8 rs (G8 ys)).length<=12:=ql2 rs 12 _
 lk
 refine N8 (.inr hp) ?_
 rw[B7]
 lk
 by_cases h0:L8 rs (G8 ys)=[]
 ·rw[decide_eq_false (by rw[h0];simp)]
  k_go
  have eg:qp1 rs ys x=(xj1 rs ys x,[x]):=by unfold qp1;rw[if_pos h0]
  lk
  refine⟨v,a,ys,x,rs,rfl,hR.same s1,s1.sqT hq,hl,hx,fun H2 s2=>?_⟩
  lk
  refine⟨D5 (by z_go),fun p3 hp3=>?_⟩
  lk
  refine⟨D5 (by z_go),fun p4 hp4=>?_⟩
  rw[eg] at q
  exact q p4 p3 _ (A9.tr s1 (A9.tr s2 (A9.tr #[36,hp3] #[36,hp4]))) (SqT.of A8) (#[36,hp4].sqT (SqT.of A8))
 ·rw[decide_eq_true (by have:=length_pos_iff.mpr h0;omega)]
  x_go
  have eg:qp1 rs ys x=(ys.length,L8 rs (G8 ys)++[x]):=by unfold qp1;rw[if_neg h0]
  lk
  refine N8 (.inr (s1.sqT hq)) ?_
  rw[B7]
  lk
  refine⟨D5 (by z_go),fun p3 hp3=>?_⟩
  refine wu8 (#[36,hp3].sqT hp) (SqT.of A8) (by rw[B7];exact D5 (by simp;omega)) fun p4 H4 s4 hp4=>?_
  rw[qd7] at hp4
  lk
  refine⟨D5 (by z_go),fun p5 hp5=>?_⟩
  rw[eg] at q
  exact q p5 p4 _ (A9.tr s1 (A9.tr #[36,hp3] (A9.tr s4 #[36,hp5]))) (SqT.of A8) (#[36,hp5].sqT hp4)
def qt4(n:Nat)(K:Fg):Sp:=fun vs H Q _=>∃ v a ys x rs rk,vs=[v,.ref a,.str x]/\Rws K H v rs/\Boo rs/\wz0 rs rk/\SqT K H a (B4 ys)/\ys.length<=1000/\(∃ r∈rs,Row.name r=x)/\rk x<=n/\n<=50/\∀ p p2 H',A9 H H'->SqT K H' p [.int (M5 rs rk ys n x).1,.ref p2]->SqT K H' p2 (B4 (M5 rs rk ys n x).2)->Q (.ref p) H'
def yb0(K:Fg):Sp:=qt4 13 K
def qn6(K:Fg):Nat->Sp
 | 0=>fun _ _ _ _=>False
 | n+1=>qt4 n K
def wm3(K:Fg)(spr:Sp):TS :=
 (B9 (C8 (C3 (qg1 K) [] E0 (A3 (A7 0) #[3,2])) (B3 3))
 (B9 (N1 (C5 (tOp xo5 (A7 3) (tC .non)))
 (E3 (C3 (V6 K) [] E0 (A3 (A7 0) (A3 (A7 1) #[3,2])))) J5)
 (B9 (C8 (C3 (qt3 K) [] E0 (A3 (A7 0) (A3 (A7 1) #[3,3]))) (B3 4))
 (B9 (N1 (C5 (tOp qq6 (A7 4) (tC .non)))
 (E3 (X3 (A3 (tOp (qw7 K) (A7 4) #[1,1]) (A3 (X3 #[3,2]) B1)))) J5)
 (B9 (C8 (C3 spr [] E0 (A3 (A7 0) (A3 (A7 1) #[3,3]))) (B3 5))
 (E3 (X3 (A3 #[20,5] (A3 (tOp (qw7 K) #[39,5] (X3 #[3,2])) B1)))))))))
theorem yb1(n:Nat)(h:qt4 n K vs H Q E):wm3 K (qn6 K n) {nx:=fun _ H'=>Q .non H',rt:=Q} (C9 ["book","names","name","frame","number","plan"] vs) H:=by
 obtain⟨v,a,ys,x,rs,rk,rfl,hR,B,f,hq,hl,hx,hn,hn50,q⟩:=h
 show wm3 K _ _ [some v,some (.ref a),some (.str x),none,none,none] H
 unfold wm3
 have ew:∃ rec,M5 rs rk ys n x=xa1 rs rk ys rec x/\∀ m,n=m+1->rec=M5 rs rk ys m:=by
  cases n with
  | zero=>exact⟨_,rfl,fun m h=>by cases h⟩
  | succ m=>exact⟨_,rfl,fun k h=>by injection h with h;rw[h]⟩
 obtain⟨rec,ew,hrec⟩:=ew
 rw[ew] at q
 unfold xa1 at q
 lk
 refine⟨v,some x,rs,rfl,hR,?_⟩
 lk
 cases ef:I9 rs (some x) with
 | none =>
   rw[ef] at q
   dsimp only at q
   rw[decide_eq_true (show oV none=V.non from rfl)]
   x_go
   lk
   exact⟨v,a,ys,x,rs,rfl,hR,B,hq,hl,hx,q⟩
 | some y =>
   rw[ef] at q
   dsimp only at q
   have hyx:=f x y ef
   obtain⟨ry,my,ny,_⟩:=ya9 ef
   rw[decide_eq_false (show ¬oV (some y)=V.non by simp[oV])]
   k_go
   lk
   refine⟨v,a,ys,y,rs,rk,rfl,hR,f,.inr hq,hl,?_⟩
   lk
   cases ec:clo rs rk ys y ys.length with
   | some k =>
     rw[ec] at q
     dsimp only at q
     rw[decide_eq_false (show ¬nV (some k)=V.non by simp[nV]),Bool.not_false]
     x_go
     lk
     refine .inl (xd7 ?_)
     lk
     refine⟨D5 (by z_go),fun p3 hp3=>?_⟩
     lk
     refine⟨D5 (by z_go),fun p4 hp4=>?_⟩
     exact q p4 p3 _ (A9.tr #[36,hp3] #[36,hp4]) (SqT.of A8) (#[36,hp4].sqT (SqT.of A8))
   | none =>
     rw[ec] at q
     dsimp only at q
     rw[decide_eq_true (show nV none=V.non from rfl),Bool.not_true]
     k_go
     obtain⟨m,rfl⟩:∃ m,n=m+1:=⟨n-1,by omega⟩
     rw[hrec m rfl] at q
     have wk:=wp9 B f (ys:=ys) m y ⟨ry,my,ny⟩ #[0]
     lk
     refine⟨v,a,ys,y,rs,rk,rfl,hR,B,f,hq,hl,⟨ry,my,ny⟩,by omega,by omega,fun p p2 H1 s1 hp hp2=>?_⟩
     lk
     refine G1 hp rfl ?_
     lk
     refine G1 hp rfl ?_
     lk
     refine⟨D5 (by z_go),fun p3 hp3=>?_⟩
     refine wu8 (#[36,hp3].sqT hp2) (SqT.of A8) (by rw[B7];exact D5 (by have:=wk.l;simp;omega)) fun p4 H4 s4 hp4=>?_
     rw[qd7] at hp4
     lk
     refine⟨D5 (by z_go),fun p5 hp5=>?_⟩
     exact q p5 p4 _ (A9.tr s1 (A9.tr #[36,hp3] (A9.tr s4 #[36,hp5]))) (SqT.of A8) (#[36,hp5].sqT hp4)
def we7(K:Fg):Sp:=fun vs H Q _=>∃ v a ys x rs rk,vs=[v,.ref a,.str x]/\Rws K H v rs/\Boo rs/\wz0 rs rk/\SqT K H a (B4 ys)/\ys.length<=50/\(∃ r∈rs,Row.name r=x)/\rk x<=13/\∀ p H',A9 H H'->Dv K H' (xq3 rs rk ys x) (.ref p)->Q (.ref p) H'
def wa9(K:Fg):TS :=
 (B9 (C8 (C3 (yb0 K) [] E0 (A3 (A7 0) (A3 (A7 1) #[3,2]))) (B3 3))
 (B9 (C8 (tCB (qa3 K) (A3 (tSl (ym6 K) (A7 1) qg8 (Y3 #[20,3])) B1)) (B3 4))
 (B9 (C8 #[39,3] (B3 5))
 (B9 (N1 (tB (C3 (qr1 K) [] E0 (A3 (A7 0) (A3 (A7 4) #[3,5]))))
 (E3 (X3 (A3 (tC (.str "drop")) (A3 (tC (.str "barred")) B1)))) J5)
 (B9 (N1 (C5 (tOp wq9 (tOp (qw7 K) (tCB (O3 K) #[3,4]) (tCB (O3 K) #[3,5])) #[1,20]))
 (E3 (X3 (A3 (tC (.str "drop")) (A3 (tC (.str "deep")) B1)))) J5)
 (E3 (X3 (A3 (tC (.str "open")) (A3 (tCB (O3 K) #[3,4]) #[3,5])))))))))
theorem yv8(h:we7 K vs H Q E):wa9 K {nx:=fun _ H'=>Q .non H',rt:=Q} (C9 ["book","names","name","plan","kept","put"] vs) H:=by
 obtain⟨v,a,ys,x,rs,rk,rfl,hR,B,f,hq,hl,hx,hn,q⟩:=h
 show wa9 K _ [some v,some (.ref a),some (.str x),none,none,none] H
 unfold wa9
 have wk:=wp9 B f (ys:=ys) 13 x hx hn
 lk
 refine⟨v,a,ys,x,rs,rk,rfl,hR,B,f,hq,by omega,hx,hn,by decide,fun p p2 H1 s1 hp hp2=>?_⟩
 have wkk:=wk.k
 have wkl:=wk.l
 have il:(ys.take (M5 rs rk ys 13 x).1).length=(M5 rs rk ys 13 x).1:=by rw[length_take];omega
 unfold xq3 at q
 generalize M5 rs rk ys 13 x=W at *
 lk
 refine G1 hp rfl ?_
 lk
 refine ym7 (s1.sqT hq) fun p3 H3 s3 hp3=>?_
 rw[xq1] at hp3
 lk
 refine⟨p3,_,rfl,.inr ⟨hp3,?_⟩⟩
 lk
 refine G1 (s3.sqT hp) rfl ?_
 lk
 refine⟨v,p3,p2,_,_,rs,rfl,hR.same (A9.tr s1 s3),hp3,s3.sqT hp2,by omega,by omega,wk.m,fun H4 s4=>?_⟩
 have s14:=A9.tr s1 (A9.tr s3 s4)
 lk
 cases hb:bar rs (ys.take W.1) W.2 with
 | true =>
   rw[hb,if_pos rfl] at q
   x_go
   lk
   refine⟨D5 (by z_go),fun p5 hp5=>?_⟩
   exact q p5 _ (A9.tr s14 #[36,hp5]) (D9.mpr ⟨p5,_,rfl,SqT.of A8,C7 (G7.mpr rfl) (C7 (G7.mpr rfl) G9)⟩)
 | false =>
   rw[hb,if_neg Bool.false_ne_true] at q
   k_go
   lk
   refine N8 (.inr (s4.sqT hp3)) ?_
   rw[B7,il]
   lk
   refine N8 (.inr ((A9.tr s3 s4).sqT hp2)) ?_
   rw[B7]
   refine .inl (xd7 ?_)
   lk
   by_cases h20:20<W.1+W.2.length
   ·rw[if_pos h20] at q
    rw[decide_eq_true #[0]]
    x_go
    lk
    refine⟨D5 (by z_go),fun p5 hp5=>?_⟩
    exact q p5 _ (A9.tr s14 #[36,hp5]) (D9.mpr ⟨p5,_,rfl,SqT.of A8,C7 (G7.mpr rfl) (C7 (G7.mpr rfl) G9)⟩)
   ·rw[if_neg h20] at q
    rw[decide_eq_false #[0]]
    k_go
    lk
    refine N8 (.inr (s4.sqT hp3)) ?_
    rw[B7,il]
    lk
    refine⟨D5 (by z_go),fun p5 hp5=>?_⟩
    have s5:=A9.new hp5 (.tup [.str "open",.int (W.1:Int),.ref p2])
    exact q p5 _ (A9.tr s14 s5) (D9.mpr ⟨p5,_,rfl,SqT.of A8,C7 (G7.mpr rfl) (C7 (P1.mpr rfl) (C7 (D9.mpr ⟨p2,_,rfl,(A9.tr (A9.tr s3 s4) s5).sqT hp2,qq4.mpr rfl⟩) G9))⟩)
namespace TX
open PySem PySem.StrLaws PySem.Builtin PySem.Builtin.Str
def rep(Y Z:List Nat):Nat->List Nat->List Nat
 | _,[]=>[]
 | k+1,_::l=>rep Y Z k l
 | 0,c::l=>if Y.isPrefixOf (c::l)=true then Z++rep Y Z (Y.length-1) l else c::rep Y Z 0 l
theorem yo4(Y Z:List Nat):∀ (k:Nat) (l:List Nat),rep Y Z k l=rep Y Z 0 (l.drop k)
 | 0,l=>by simp
 | k+1,[]=>by simp[rep]
 | k+1,_::l=>by rw[rep,yo4 Y Z k l];simp
theorem rep_yes{Y Z l:List Nat}(h0:1<=Y.length)(h:Y <+: l):rep Y Z 0 l=Z++rep Y Z 0 (l.drop Y.length):=by
 cases l with
 | nil=>rw[prefix_nil] at h;subst h;simp at h0
 | cons c l =>
   rw[rep,if_pos (isPrefixOf_iff_prefix.mpr h),yo4]
   congr 2
   cases Y with
   | nil=>simp at h0
   | cons y Y=>simp
theorem rep_no{Y Z l:List Nat}{c:Nat}(h:¬Y <+: c::l):rep Y Z 0 (c::l)=c::rep Y Z 0 l:=by
 rw[rep,if_neg (by rw[isPrefixOf_iff_prefix];exact h)]
theorem yo5{Y Z:List Nat}:∀ (l:List Nat),(∀ j,j<l.length->¬Y <+: l.drop j)->rep Y Z 0 l=l
 | [],_=>rfl
 | c::l,h=>by
   rw[rep_no (h 0 (by simp)),yo5 l fun j hj=>by have:=h (j+1) (by simpa using hj);simpa using this]
theorem zo0{Y Z:List Nat}(h0:1<=Y.length):∀ (d:Nat) (l:List Nat),(∀ j,j<d->¬Y <+: l.drop j)->Y <+: l.drop d->rep Y Z 0 l=l.take d++Z++rep Y Z 0 (l.drop (d+Y.length))
 | 0,l,_,h=>by simpa using rep_yes h0 (by simpa using h)
 | d+1,[],_,h=>by rw[drop_nil,prefix_nil] at h;subst h;simp at h0
 | d+1,c::l,hn,h=>by
   rw[rep_no (hn 0 #[0]),zo0 h0 d l (fun j hj=>by have:=hn (j+1) #[0];simpa using this) (by simpa using h)]
   have e:d+1+Y.length=(d+Y.length)+1:=by omega
   rw[e]
   simp
theorem yv9{x y:Str}(h0:1<=y.length)(k:Nat):At x y x.length k↔y.cps.toList <+: x.cps.toList.drop k:=by
 have hn:x.cps.toList.length=x.length:=by simp[Str.length]
 have hy:y.cps.toList.length=y.length:=by simp[Str.length]
 unfold At
 rw[subAt_eq,beq_iff_eq,prefix_iff_eq_take,hy]
 constructor
 ·rintro⟨_,h⟩;exact h.symm
 ·intro h
  refine⟨?_,h.symm⟩
  have:=congrArg List.length h
  rw[length_take,length_drop,hy,hn] at this
  omega
theorem zo1(sep a y:Str)(r:List Str):Str.join sep (a::y::r)=a++sep++Str.join sep (y::r):=by
 rfl
theorem yb2{x y z:Str}(h0:1<=y.length):∀ (cuts:List Nat) (a f:Nat),ChainG x y x.length a cuts f->(∀ k,f<=k->¬At x y x.length k) ->
 (Str.join z (partsFrom x y.length a cuts)).cps.toList=rep y.cps.toList z.cps.toList 0 (x.cps.toList.drop a)
 | [],a,f,h,hn=>by
   have e:f=a:=h
   subst e
   have hx:x.cps.toList.length=x.length:=by simp[Str.length]
   rw[yo5 _ fun j hj hp=>hn (f+j) #[0] ((yv9 h0 _).mpr (by rw[<-drop_drop];exact hp))]
   show(strSub x f x.length).cps.toList=_
   rw[strSub_toList,take_of_length_le (by rw[length_drop,hx];exact Nat.le_refl _)]
 | c::r,a,f,h,hn=>by
   obtain⟨h1,h2,h3,h4⟩:=h
   have hy:y.cps.toList.length=y.length:=by simp[Str.length]
   have hp:y.cps.toList <+: (x.cps.toList.drop a).drop (c-a):=by
    rw[drop_drop,show a+(c-a)=c by omega]
    exact(yv9 h0 c).mp h2
   rw[zo0 (by rw[hy];exact h0) (c-a) _ (fun j hj hq=>h3 (a+j) #[0] #[0] ((yv9 h0 _).mpr (by rw[<-drop_drop];exact hq))) hp]
   rw[drop_drop,hy,show a+(c-a+y.length)=c+y.length by omega,<-yb2 h0 r (c+y.length) f h4 hn]
   obtain⟨p,q,e⟩:=partsFrom_ne x y.length (c+y.length) r
   show(Str.join z (strSub x a c::partsFrom x y.length (c+y.length) r)).cps.toList=_
   rw[e,zo1]
   simp only[Str.cps_append,Array.toList_append,strSub_toList]
theorem replace_rep(x y z:Str)(h0:1<=y.length):(Txt.replace x y z).cps.toList=rep y.cps.toList z.cps.toList 0 x.cps.toList:=by
 obtain⟨f,h1,h2⟩:=occ_tight x y h0
 have hy:(y.length == 0)=false:=by simp;omega
 have key:=yb2 (z:=z) h0 _ 0 f h1 h2
 rw[drop_zero] at key
 unfold Txt.replace
 rw[hy,Bool.false_and,Bool.or_false]
 cases ho:occurrences x y 0 x.length (x.length+1) with
 | nil =>
   rw[if_pos (by simp),<-key,ho]
   show _=(strSub x 0 x.length).cps.toList
   rw[sub_whole]
 | cons c r =>
   rw[if_neg (by simp),glued_eq_join,partsBetween_eq,<-ho,key]
abbrev El:List Nat:=[38,108,59]
abbrev Ea:List Nat:=[38,97,59]
def told:Nat->List Nat->List Nat
 | _,[]=>[]
 | k+1,_::l=>told k l
 | 0,c::l=>if El.isPrefixOf (c::l)=true then 60::told 2 l else if Ea.isPrefixOf (c::l)=true then 38::told 2 l else c::told 0 l
theorem xe6:∀ (k:Nat) (l:List Nat),told k l=told 0 (l.drop k)
 | 0,l=>by simp
 | k+1,[]=>by simp[told]
 | k+1,_::l=>by rw[told,xe6 k l];simp
theorem told_l{l:List Nat}:told 0 (38::108::59::l)=60::told 0 l:=by
 rw[told,if_pos (by simp[List.isPrefixOf]),xe6];rfl
theorem told_a{l:List Nat}:told 0 (38::97::59::l)=38::told 0 l:=by
 rw[told,if_neg (by simp[List.isPrefixOf]),if_pos (by simp[List.isPrefixOf]),xe6];rfl
theorem told_n{c:Nat}{l:List Nat}(h1:¬El <+: c::l)(h2:¬Ea <+: c::l):told 0 (c::l)=c::told 0 l:=by
 rw[told,if_neg (by rw[isPrefixOf_iff_prefix];exact h1),if_neg (by rw[isPrefixOf_iff_prefix];exact h2)]
theorem zf7{a b c:Nat}{l:List Nat}:[a,b,c] <+: l↔∃ r,l=a::b::c::r:=by
 constructor
 ·rintro⟨r,e⟩;exact⟨r,e.symm⟩
 ·rintro⟨r,rfl⟩;exact⟨r,rfl⟩
theorem ne_pre{a b c d:Nat}{l:List Nat}(h:d≠a):¬[a,b,c] <+: d::l:=by
 rw[zf7];rintro⟨r,e⟩;injection e with e _;exact h e
theorem yo6{c:Nat}{l r:List Nat}(hc:c≠60)(h:rep El [60] 0 l=c::r):∃ l',l=c::l'/\r=rep El [60] 0 l':=by
 cases l with
 | nil=>cases h
 | cons d l =>
   by_cases hp:El <+: d::l
   ·rw[rep_yes (by simp) hp] at h
    injection h with e _
    exact absurd e.symm hc
   ·rw[rep_no hp] at h
    injection h with e1 e2
    subst e1
    exact⟨l,rfl,e2.symm⟩
theorem two_reps:∀ (n:Nat) (l:List Nat),l.length<=n->rep Ea [38] 0 (rep El [60] 0 l)=told 0 l
 | _,[],_=>rfl
 | 0,_::_,h=>by simp at h
 | n + 1,c::l,h=>by
   have h:l.length<=n:=by simpa using h
   by_cases h1:El <+: c::l
   ·obtain⟨r,e⟩:=zf7.mp h1
    rw[e] at h1 ⊢
    have hr:r.length<=n:=by
     injection e with _ e
     rw[e] at h
     simp at h;omega
    rw[rep_yes (by simp) h1,told_l]
    show rep Ea [38] 0 (60::rep El [60] 0 r)=_
    rw[rep_no (ne_pre #[10]),two_reps n r hr]
   ·rw[rep_no h1]
    by_cases h2:Ea <+: c::l
    ·obtain⟨r,e⟩:=zf7.mp h2
     have hr:r.length<=n:=by
      injection e with _ e
      rw[e] at h
      simp at h;omega
     injection e with ec e
     subst ec e
     rw[told_a,rep_no (Y:=El) (Z:=[60]) (c:=97) (l:=59::r) (ne_pre #[10]),rep_no (Y:=El) (Z:=[60]) (c:=59) (l:=r) (ne_pre #[10]),rep_yes (Y:=Ea) (Z:=[38]) (by simp) (zf7.mpr ⟨_,rfl⟩)]
     show 38::rep Ea [38] 0 (rep El [60] 0 r)=_
     rw[two_reps n r hr]
    ·rw[told_n h1 h2,rep_no fun hp=>?_,two_reps n l h]
     obtain⟨r,e⟩:=zf7.mp hp
     injection e with ec e
     obtain⟨l',rfl,e2⟩:=yo6 #[10] e
     obtain⟨l'',rfl,e3⟩:=yo6 #[10] e2.symm
     subst ec
     exact h2 (zf7.mpr ⟨l'',rfl⟩)
end TX
namespace TX
open PySem
def letter(c:Nat):Bool:=decide (97<=c) && decide (c<=122)
def nm(d:List Nat):Option Nat:=if 1<=(d.takeWhile letter).length/\(d.takeWhile letter).length<=8/\d[(d.takeWhile letter).length]?=some 62 then some (d.takeWhile letter).length else none
def nst(l:List Nat)(k:Nat):Nat:=if l[k+1]?=some 47 then k+2 else k+1
def tagAt(l:List Nat)(k:Nat):Option (Nat×Nat):=if l[k]?=some 60 then(nm (l.drop (nst l k))).map fun n=>(nst l k,nst l k+n+1) else none
theorem nst_gt(l:List Nat)(k:Nat):k<nst l k:=by unfold nst;split <;> omega
theorem zo2{p:Nat->Bool}:∀ (d:List Nat) (n:Nat),(∀ i,i<n->∃ c,d[i]?=some c/\p c=true)->(∀ c,d[n]?=some c->p c=false)->(d.takeWhile p).length=n
 | [],0,_,_=>rfl
 | [],n+1,h,_=>by obtain⟨c,e,_⟩:=h 0 #[0];simp at e
 | c::d,0,_,h=>by rw[takeWhile_cons,h c rfl];rfl
 | c::d,n+1,h,h2=>by
   obtain⟨c',e,hc⟩:=h 0 #[0]
   have:c=c':=by simpa using e
   subst this
   rw[takeWhile_cons,hc]
   simp only[if_true,length_cons]
   rw[zo2 d n (fun i hi=>by have:=h (i+1) #[0];simpa using this) (fun c e=>h2 c (by simpa using e))]
theorem zo3{p:Nat->Bool}:∀ (d:List Nat) (i:Nat),i<(d.takeWhile p).length->∃ c,d[i]?=some c/\p c=true
 | [],i,h=>by simp at h
 | c::d,0,h=>by
   rw[takeWhile_cons] at h
   cases hc:p c with
   | true=>exact⟨c,rfl,hc⟩
   | false=>rw[hc] at h;simp at h
 | c::d,i+1,h=>by
   rw[takeWhile_cons] at h
   cases hc:p c with
   | true=>rw[hc] at h;simp at h;obtain⟨c',e,h'⟩:=zo3 d i h;exact⟨c',by simpa using e,h'⟩
   | false=>rw[hc] at h;simp at h
theorem yw0:letter 62=false:=by decide
theorem nm_iff{d:List Nat}{n:Nat}:nm d=some n↔1<=n/\n<=8/\(∀ i,i<n->∃ c,d[i]?=some c/\letter c=true)/\d[n]?=some 62:=by
 constructor
 ·intro h
  unfold nm at h
  split at h
  ·rename_i hc
   have e:(d.takeWhile letter).length=n:=by simpa using h
   rw[e] at hc
   exact⟨hc.1,hc.2.1,fun i hi=>zo3 d i (by rw[e];exact hi),hc.2.2⟩
  ·cases h
 ·rintro⟨h1,h2,h3,h4⟩
  have e:(d.takeWhile letter).length=n:=zo2 d n h3 fun c e=>by rw[h4] at e;cases e;exact yw0
  unfold nm
  rw[e,if_pos ⟨h1,h2,h4⟩]
theorem tagAt_gt{l:List Nat}{k f e:Nat}(h:tagAt l k=some (f,e)):k<e/\e<=l.length/\f=nst l k/\f<e-1/\l[k]?=some 60/\nm (l.drop f)=some (e-1-f):=by
 unfold tagAt at h
 split at h
 ·rename_i h60
  obtain⟨n,hn,e1⟩:=Option.map_eq_some_iff.mp h
  injection e1 with ef ee
  subst ef ee
  obtain⟨h1,h2,h3,h4⟩:=nm_iff.mp hn
  have:=nst_gt l k
  rw[List.getElem?_drop] at h4
  have:=(List.getElem?_eq_some_iff.mp h4).1
  exact⟨by omega,by omega,rfl,by omega,h60,by rw[hn];congr 1;omega⟩
 ·cases h
def ofL(xs:List Nat):Str:=⟨xs.toArray⟩
def runD(l:List Nat)(a b:Nat):PyData:=.tuple [.str "run",.int a,.int b,.str (ofL (told 0 ((l.drop a).take (b-a))))]
def tagD(l:List Nat)(k f e:Nat):PyData:=.tuple [.str (if f=k+1 then "open" else "close"),.int k,.int e,.str (ofL ((l.drop f).take (e-1-f)))]
def runs(l:List Nat)(a b:Nat):List PyData:=if a<b then[runD l a b] else[]
def cutAt(l:List Nat):Nat->Nat->Nat->List PyData
 | 0,_,s=>runs l s l.length
 | n+1,k,s=>if l.length<=k then runs l s l.length else match tagAt l k with
   | none=>cutAt l n (k+1) s
   | some (f,e)=>runs l s k++tagD l k f e::cutAt l n e e
def toks(l:List Nat)(k s:Nat):List PyData:=cutAt l (l.length-k) k s
theorem we8(l:List Nat):∀ (n m k s:Nat),l.length-k<=n->n<=m->cutAt l m k s=cutAt l n k s
 | 0,0,_,_,_,_=>rfl
 | 0,m+1,k,s,h,_=>by show(if l.length<=k then _ else _)=runs l s l.length;rw[if_pos #[0]]
 | n+1,0,_,_,_,h=>by omega
 | n+1,m+1,k,s,h,hm=>by
   rw[cutAt,cutAt]
   split
   ·rfl
   ·cases ht:tagAt l k with
    | none=>exact we8 l n m (k+1) s #[0] #[0]
    | some fe =>
      obtain⟨f,e⟩:=fe
      have:=(tagAt_gt ht).1
      show _++_::cutAt l m e e=_++_::cutAt l n e e
      rw[we8 l n m e e #[0] #[0]]
theorem toks_end{l:List Nat}{k s:Nat}(h:l.length<=k):toks l k s=runs l s l.length:=by
 unfold toks
 rw[show l.length-k=0 by omega];rfl
theorem toks_none{l:List Nat}{k s:Nat}(h:k<l.length)(ht:tagAt l k=none):toks l k s=toks l (k+1) s:=by
 unfold toks
 obtain⟨n,hn⟩:∃ n,l.length-k=n+1:=⟨l.length-k-1,by omega⟩
 rw[hn,cutAt,if_neg #[0],ht]
 exact(we8 l _ _ _ _ #[0] #[0])
theorem toks_some{l:List Nat}{k s f e:Nat}(ht:tagAt l k=some (f,e)):toks l k s=runs l s k++tagD l k f e::toks l e e:=by
 obtain⟨h1,h2,_⟩:=tagAt_gt ht
 unfold toks
 obtain⟨n,hn⟩:∃ n,l.length-k=n+1:=⟨l.length-k-1,by omega⟩
 rw[hn,cutAt,if_neg #[0],ht]
 show _++_::cutAt l n e e=_
 rw[we8 l (l.length-e) n e e #[0] #[0]]
theorem toks_skip{l:List Nat}{s:Nat}:∀ (d k:Nat),k+d<=l.length->(∀ j,k<=j->j<k+d->l[j]?≠some 60)->toks l k s=toks l (k+d) s
 | 0,k,_,_=>rfl
 | d+1,k,h,hn=>by
   rw[toks_none #[0] (by unfold tagAt;rw[if_neg (hn k #[11] #[0])]),toks_skip d (k+1) #[0] fun j h1 h2=>hn j #[0] #[0]]
   congr 1;omega
end TX
theorem A9.refl(H:Hp):A9 H H:=fun _ _ e=>e
theorem O8(x y:Str):x=y↔x.cps.toList=y.cps.toList:=⟨fun e=>by rw[e],fun e=>PySem.Str.ext' (Array.toList_inj.mp e)⟩
variable{z:Str}
theorem we9{a b:Int}{i:Nat}(ha:a=(i:Int))(hb:b=(j:Int)):(qh0 z (some a) (some b)).cps.toList=#[45,i].take (j-i):=by
 subst ha hb
 unfold qh0
 rw[HT.wd5,HT.wd5]
 show#[45,min i z.cps.toList.length].take _=_
 by_cases hi:i<=z.cps.toList.length
 ·rw[Nat.min_eq_left hi]
  by_cases hj:j<=z.cps.toList.length
  ·rw[Nat.min_eq_left hj]
  ·rw[Nat.min_eq_right #[0],take_of_length_le (by rw[length_drop];exact Nat.le_refl _),take_of_length_le (by rw[length_drop];omega)]
 ·rw[Nat.min_eq_right (Nat.le_of_lt (Nat.lt_of_not_le hi)),drop_eq_nil_of_le #[11],drop_eq_nil_of_le (Nat.le_of_lt (Nat.lt_of_not_le hi))]
  simp
theorem xm5(Y Z:List Nat):∀ (k:Nat) (l:List Nat),(TX.rep Y Z k l).length<=l.length*(Z.length+1)
 | _,[]=>by simp[TX.rep]
 | k+1,_::l=>by
   rw[TX.rep,length_cons,Nat.succ_mul]
   exact Nat.le_trans (xm5 Y Z k l) (Nat.le_add_right _ _)
 | 0,c::l=>by
   have h1:=xm5 Y Z (Y.length-1) l
   have h2:=xm5 Y Z 0 l
   rw[TX.rep,length_cons,Nat.succ_mul]
   split
   ·rw[length_append];omega
   ·rw[length_cons];omega
theorem yo7(x y z:Str)(h0:1<=y.length):(PySem.Txt.replace x y z).length<=x.length*(z.length+1):=by
 have e:=TX.replace_rep x y z h0
 have h:=xm5 y.cps.toList z.cps.toList 0 x.cps.toList
 rw[<-e,Array.length_toList,Array.length_toList,Array.length_toList] at h
 exact h
def yo8(l:List Nat)(i:Nat):Bool:=decide (l[i]?=some 60) || (decide (l[i]?=some 38) && (!decide ((l.drop (i+1)).take 2=[108,59]) && !decide ((l.drop (i+1)).take 2=[97,59])))
def qd9(l:List Nat)(i:Nat):List Nat:=(List.range i).filter (yo8 l)
theorem yw1(l:List Nat)(i:Nat):qd9 l (i+1)=if yo8 l i=true then qd9 l i++[i] else qd9 l i:=by
 unfold qd9
 rw[range_succ,filter_append]
 by_cases h:yo8 l i=true
 ·rw[if_pos h];simp[h]
 ·rw[if_neg h];simp[h]
theorem xe7(l:List Nat)(i:Nat):(qd9 l i).length<=i:=by
 unfold qd9
 exact Nat.le_trans (length_filter_le _ _) (Nat.le_of_eq (length_range))
variable{l:List Nat}
theorem wq0{i:Nat}(h:l[i]?=some c):l.drop i=c::l.drop (i+1):=by
 obtain⟨hi,e⟩:=List.getElem?_eq_some_iff.mp h
 rw[drop_eq_getElem_cons hi,e]
theorem zw4{i:Nat}{a b:Int}(h:z.cps.toList[i]?=some c)(ha:a=(i:Int))(hb:b=((i+3:Nat):Int)) :
 (decide ((⟨#[c]⟩:Str)∈(["<","&"]:List Str)) && !decide (qh0 z (some a) (some b)∈(["&l;","&a;"]:List Str)))=yo8 z.cps.toList i:=by
 have e:=we9 (z:=z) ha hb
 rw[show i+3-i=3 by omega,wq0 h,take_succ_cons] at e
 have e1:(⟨#[c]⟩:Str) = "<"↔c=60:=by
  rw[O8];show[c]=[60]↔_;simp
 have e2:(⟨#[c]⟩:Str) = "&"↔c=38:=by
  rw[O8];show[c]=[38]↔_;simp
 have e3:qh0 z (some a) (some b) = "&l;"↔c=38/\#[45,i+1].take 2=[108,59]:=by
  rw[O8,e];show c::_=[38,108,59]↔_;simp
 have e4:qh0 z (some a) (some b) = "&a;"↔c=38/\#[45,i+1].take 2=[97,59]:=by
  rw[O8,e];show c::_=[38,97,59]↔_;simp
 unfold yo8
 rw[h]
 simp only[mem_cons,not_mem_nil,or_false,e1,e2,e3,e4,Option.some.injEq]
 by_cases h1:c=60
 ·subst h1;simp
 ·by_cases h2:c=38
  ·subst h2;simp
  ·simp[h1,h2]
def wf0(K:Fg):Sp:=fun vs H Q _=>∃ z:Str,vs=[.str z]/\z.length<=100000/\∀ w:Str,w.cps.toList=TX.told 0 z.cps.toList->Q (.str w) H
def wq1(K:Fg):TS :=
 (E3 (ya0 (ya0 (A7 0) ("&l;":Str) ("<":Str)) ("&a;":Str) ("&":Str)))
theorem yw2(h:wf0 K vs H Q E):wq1 K {nx:=fun _ H'=>Q .non H',rt:=Q} (C9 ["run"] vs) H:=by
 obtain⟨z,rfl,hz,q⟩:=h
 show wq1 K _ [some (.str z)] H
 unfold wq1
 lk
 refine⟨z,rfl,by omega,?_⟩
 have l1:=yo7 z "&l;" "<" #[10]
 rw[show("<":Str).length=1 from rfl] at l1
 refine⟨_,rfl,by omega,?_⟩
 refine q _ ?_
 rw[TX.replace_rep _ _ _ #[10],TX.replace_rep _ _ _ #[10]]
 exact TX.two_reps _ _ #[11]
def qr2(K:Fg):Sp:=fun vs H Q _=>∃ z:Str,vs=[.str z]/\z.length<=100000/\∀ (p:Addr) (H':Hp),A9 H H'->H p=none->H' p=some (.lst (Y2 (qd9 z.cps.toList z.cps.toList.length)))->Q (.ref p) H'
def qw8(K:Fg)(c_TOLD_FOR:Addr)(c_ESCAPED:Addr):TS :=
 (E3 (qq1 [some 0,none,none] (yu3 #[3,0]) (yk3 K 2 (qs7 (B3 1) (qs7 (B3 2) yr8))) (qm7 (C5 (tOp (qt0 K false) (A7 2) (tC (.ref c_ESCAPED)))) (C5 (tOp (qt0 K true) (tSl (wu7 K) (A7 0) (Y3 (A7 1)) (Y3 (tOp (E7 K) (A7 1) #[1,3]))) (tC (.ref c_TOLD_FOR))))) (A7 1)))
variable{c_ESCAPED:Addr}
theorem yf5{c_TOLD_FOR:Addr}(q_TOLD_FOR:∀ H:Hp,SqT K H c_TOLD_FOR [.str "&l;",.str "&a;"])(q_ESCAPED:∀ H:Hp,SqT K H c_ESCAPED [.str "<",.str "&"])(h:qr2 K vs H Q E):qw8 K c_TOLD_FOR c_ESCAPED {nx:=fun _ H'=>Q .non H',rt:=Q} (C9 ["run"] vs) H:=by
 obtain⟨z,rfl,hz,q⟩:=h
 show qw8 K _ _ _ [some (.str z)] H
 unfold qw8
 lk
 have hl:z.cps.toList.length=z.cps.size:=Array.length_toList
 have hz':z.cps.size<=100000:=hz
 refine yu4 (fun i ys H'=>A9 H H'/\ys=Y2 (qd9 z.cps.toList i)) ⟨A9.refl H,rfl⟩ ?_ ?_ ?_
 ·rintro i ys H' hi ⟨_,rfl⟩
  have:=xe7 z.cps.toList i
  rw[Y2,length_map]
  exact D5 #[0]
 ·rintro i c p ys H' hc hp ⟨hs,rfl⟩
  refine⟨p,_,rfl,SqT.of A8,rfl,_,_,rfl,D6 ⟨_,_,rfl,D6 ⟨rfl,?_⟩⟩⟩
  have hs2:A9 H (upd H' p (.tup [.int i,.str ⟨#[c]⟩])):=A9.tr hs #[36,hp]
  lk
  refine .inl (xj9 (xs:=B4 ["<","&"]) (.inr (q_ESCAPED _)) rfl (P8 _) ?_)
  rw[S3]
  lk
  have key:=zw4 hc (a:=(i:Int)) (b:=(i:Int)+3) rfl #[0]
  simp only[PAt]
  rw[yw1]
  by_cases h1:(⟨#[c]⟩:Str)∈(["<","&"]:List Str)
  ·rw[decide_eq_true h1];refine qm9 ?_
   rw[decide_eq_true h1,Bool.true_and] at key
   lk
   refine ya1 (D5 hz) ?_
   lk
   refine .inl (wy5 (xs:=B4 ["&l;","&a;"]) (.inr (q_TOLD_FOR _)) rfl (P8 _) ?_)
   rw[S3,key]
   lk
   by_cases h2:yo8 z.cps.toList i=true
   ·rw[h2];refine qm9 ?_
    rw[if_pos rfl]
    lk
    exact⟨hs2,by simp[Y2]⟩
   ·rw[Bool.eq_false_iff.mpr h2];refine qg6 ?_
    rw[if_neg Bool.false_ne_true]
    exact⟨hs2,rfl⟩
  ·rw[decide_eq_false h1];refine qg6 ?_
   rw[decide_eq_false h1,Bool.false_and] at key
   rw[<-key]
   k_go
   rw[if_neg Bool.false_ne_true]
   exact⟨hs2,rfl⟩
 ·rintro ys H' ⟨hs,rfl⟩ p hp
  refine q p _ (A9.tr hs #[36,hp]) ?_ ?_
  ·cases e:H p with
   | none=>rfl
   | some u=>rw[hs _ _ e] at hp;cases hp
  ·rw[hl];exact A8
section
open PySem.StrLaws PySem.Builtin.Str
theorem xm6{n k:Nat}(h:i=(k:Int)):fromIndex n i=k:=by
 subst h;unfold fromIndex
 rw[if_neg #[0]];omega
theorem yw3(x:Str)(c hi i:Nat)(hh:hi<=x.length):At x ⟨#[c]⟩ hi i↔i<hi/\x.cps.toList[i]?=some c:=by
 have h:=subAt_one x c i
 have e:(⟨#[c]⟩:Str).length=1:=rfl
 unfold At
 rw[e] at h ⊢
 constructor
 ·rintro⟨a,b⟩;exact⟨by omega,h.mp ⟨by omega,b⟩⟩
 ·rintro⟨a,b⟩;exact⟨by omega,(h.mpr b).2⟩
theorem zw5{lo n a:Nat}{pre post:List Nat}(e:List.range' lo n=pre++a::post):lo<=a/\a<lo+n/\∀ k,lo<=k->k<a->k∈pre:=by
 have h:=range'_split_from e
 have:a∈List.range' lo n:=by rw[e];simp
 have:=mem_range'_1.mp this
 exact⟨h.1,this.2,h.2⟩
theorem zo4(x:Str)(c lo hi:Nat)(hh:hi<=x.length) :
 (occurrences x ⟨#[c]⟩ lo hi 1=[]/\∀ i,lo<=i->i<hi->x.cps.toList[i]?≠some c) \/
 ∃ i r,occurrences x ⟨#[c]⟩ lo hi 1=i::r/\lo<=i/\i<hi/\x.cps.toList[i]?=some c/\∀ k,lo<=k->k<i->x.cps.toList[k]?≠some c:=by
 have go:=occ_first x ⟨#[c]⟩ hi 1 (Nat.le_refl 1) (List.range' lo (hi+1-lo)) lo (fun i hi'=>(mem_range'_1.mp hi').1)
 rw[occ_eq]
 rcases go with⟨e,hn⟩|⟨pre,a,post,e,h0,ha,hn⟩
 ·refine .inl ⟨by rw[e],fun i h1 h2 hc=>?_⟩
  exact hn i (mem_range'_1.mpr ⟨h1,by omega⟩) ((yw3 x c hi i hh).mpr ⟨h2,hc⟩)
 ·obtain⟨s1,s2,s3⟩:=zw5 e
  obtain⟨a1,a2⟩:=(yw3 x c hi a hh).mp ha
  generalize (forIn (List.range' lo (hi+1-lo)) ((#[]:Array Nat),lo) (occBody x ⟨#[c]⟩ hi 1)).run.fst=arr at h0 ⊢
  have g0:arr.toList[0]?=some a:=by rw[<-h0];simp
  refine .inr ⟨a,arr.toList.tail,?_,s1,a1,a2,fun k k1 k2 hc=>hn k (s3 k k1 k2) ((yw3 x c hi k hh).mpr ⟨by omega,hc⟩)⟩
  cases hL:arr.toList with
  | nil=>rw[hL] at g0;cases g0
  | cons b t=>rw[hL] at g0;simp at g0;rw[g0];rfl
theorem zo5{j:Int}{f g:Nat}(hi:i=(f:Int))(hj:j=(g:Int)) :
 (ya3 z ⟨#[c]⟩ i j=-1/\∀ k,f<=k->k<g->z.cps.toList[k]?≠some c) \/
 ∃ k:Nat,ya3 z ⟨#[c]⟩ i j=(k:Int)/\f<=k/\k<g/\z.cps.toList[k]?=some c/\∀ m,f<=m->m<k->z.cps.toList[m]?≠some c:=by
 walk_at"15"
 unfold ya3
 rw[xm6 hi,xm6 hj]
 rcases zo4 z c f (min g z.length) (Nat.min_le_right _ _) with⟨e,hn⟩|⟨k,r,e,h1,h2,h3,h4⟩
 ·rw[e]
  refine .inl ⟨rfl,fun k k1 k2 hc=>?_⟩
  have:=(List.getElem?_eq_some_iff.mp hc).1
  exact hn k k1 #[0] hc
 ·rw[e];exact .inr ⟨k,rfl,h1,by omega,h3,h4⟩
theorem zo6{f:Nat}(hi:i=(f:Int)) :
 (PySem.Txt.find3 z ⟨#[c]⟩ i=-1/\∀ k,f<=k->z.cps.toList[k]?≠some c) \/
 ∃ k:Nat,PySem.Txt.find3 z ⟨#[c]⟩ i=(k:Int)/\f<=k/\z.cps.toList[k]?=some c/\∀ m,f<=m->m<k->z.cps.toList[m]?≠some c:=by
 walk_at"15"
 unfold PySem.Txt.find3
 rw[xm6 hi]
 rcases zo4 z c f z.length #[11] with⟨e,hn⟩|⟨k,r,e,h1,h2,h3,h4⟩
 ·rw[e]
  refine .inl ⟨rfl,fun k k1 hc=>?_⟩
  have:=(List.getElem?_eq_some_iff.mp hc).1
  exact hn k k1 #[0] hc
 ·rw[e];exact .inr ⟨k,rfl,h1,h3,h4⟩
theorem zf8{k:Nat}(hi:i=(k:Int))(h:z.cps.toList[k]?=some 60):PySem.Txt.startswith3 z "</" i=decide (z.cps.toList[k+1]?=some 47):=by
 walk_at"15"
 unfold PySem.Txt.startswith3
 rw[xm6 hi,subAt_eq]
 show(decide (k+2<=z.length) && (#[45,k].take 2 == [60,47]))=_
 rw[wq0 h]
 have hk:=(List.getElem?_eq_some_iff.mp h).1
 cases h2:z.cps.toList[k+1]? with
 | none =>
   have:z.cps.toList.length<=k+1:=List.getElem?_eq_none_iff.mp h2
   rw[decide_eq_false #[0]];rfl
 | some c =>
   have:=(List.getElem?_eq_some_iff.mp h2).1
   rw[decide_eq_true #[0],wq0 h2]
   by_cases e:c=47 <;> simp[e]
def P6(K:Fg):Sp:=fun vs H Q _=>∃ z:Str,vs=[.str z]/\z.length<=100000/\∀ H',A9 H H'->Q (.bl (decide (1<=z.length) && (decide (z.length<=8) && z.cps.toList.all TX.letter))) H'
def Q8(K:Fg):TS :=
 (E3 (wr9 (yc5 yu0 yu0 #[1,1] (tCB (O3 K) #[3,0]) #[1,8]) (tCB (zm0 K) (A3 (qq1 [none] (zl4 (A7 0)) (B3 0) tTT (yc5 yu0 yu0 (tC (.str "a")) (A7 0) (tC (.str "z")))) B1))))
theorem wf1(h:P6 K vs H Q E):Q8 K {nx:=fun _ H'=>Q .non H',rt:=Q} (C9 ["word"] vs) H:=by
 obtain⟨z,rfl,hz,q⟩:=h
 show Q8 K _ [some (.str z)] H
 unfold Q8
 lk
 refine zk8 (D5 hz) ?_
 lk
 by_cases h1:(1:Int)<=z.length
 ·rw [decide_eq_true h1]
  x_go
  rw[decide_eq_true (by omega:1<=z.length),Bool.true_and] at q
  lk
  by_cases h2:(z.length:Int)<=8
  ·rw[decide_eq_true h2]
   x_go
   rw[decide_eq_true (by omega:z.length<=8),Bool.true_and] at q
   lk
   have hl:z.cps.toList.length=z.cps.size:=Array.length_toList
   refine ym5 (fun i ys H'=>H'=H/\ys=((z.cps.toList.take i).map TX.letter).map V.bl) ⟨rfl,rfl⟩ ?_ ?_ ?_
   ·rintro i ys H' hi ⟨_,rfl⟩
    rw[length_map,length_map,length_take]
    exact D5 (by have:z.cps.size<=100000:=hz;omega)
   ·rintro i c ys H' hc ⟨rfl,rfl⟩
    have tk:z.cps.toList.take (i+1)=z.cps.toList.take i++[c]:=by rw[take_add_one,hc];rfl
    lk
    refine Aa0 ?_
    have e1:(!decide ((⟨#[c]⟩:Str).cps.toList<("a":Str).cps.toList))=decide (97<=c):=by
     show(!decide ([c] < [97]))=_
     rw[lt_cons_cons,lt_nil_nil,Bool.and_false,Bool.or_false]
     by_cases h:97<=c
     ·rw[decide_eq_true h,decide_eq_false #[0]];rfl
     ·rw[decide_eq_false h,decide_eq_true #[0]];rfl
    have e2:(!decide (("z":Str).cps.toList<(⟨#[c]⟩:Str).cps.toList))=decide (c<=122):=by
     show(!decide ([122] < [c]))=_
     rw[lt_cons_cons,lt_nil_nil,Bool.and_false,Bool.or_false]
     by_cases h:c<=122
     ·rw[decide_eq_true h,decide_eq_false #[0]];rfl
     ·rw[decide_eq_false h,decide_eq_true #[0]];rfl
    rw[e1]
    refine⟨_,rfl,?_⟩
    by_cases hc1:97<=c
    ·rw[decide_eq_true hc1];refine qm9 ?_
     lk
     refine Aa0 ?_
     rw[e2]
     exact⟨rfl,by rw[tk];simp[TX.letter,hc1]⟩
    ·rw[decide_eq_false hc1];refine qg6 ?_
     exact⟨rfl,by rw[tk];simp[TX.letter,hc1]⟩
   ·rintro ys H' ⟨rfl,rfl⟩ p hp
    lk
    refine Am6 #[59,A8] ?_
    rw[<-hl,take_length]
    have e:(z.cps.toList.map TX.letter).all id=z.cps.toList.all TX.letter:=by rw[all_map];rfl
    rw[e]
    exact q _ #[36,hp]
  ·rw[decide_eq_false h2]
   k_go
   rw[decide_eq_false (by omega:¬z.length<=8),Bool.false_and] at q
   exact q _ (A9.refl H)
 ·rw[decide_eq_false h1]
  k_go
  refine⟨false,rfl,qg6 ?_⟩
  rw[decide_eq_false (by omega:¬1<=z.length),Bool.false_and] at q
  exact q _ (A9.refl H)
def qe0(K:Fg):Sp:=fun vs H Q _=>∃ (z:Str) (k:Nat),vs=[.str z,.int k]/\z.cps.toList[k]?=some 60/\Q (.int (TX.nst z.cps.toList k)) H
def qh4(K:Fg):TS :=
 (E3 (tIf (tB (tBM K "str" ye2 (A7 0) (A3 (tC (.str "</")) #[3,1]))) (tOp (E7 K) (A7 1) #[1,2]) (tOp (E7 K) (A7 1) #[1,1])))
theorem xv5(h:qe0 K vs H Q E):qh4 K {nx:=fun _ H'=>Q .non H',rt:=Q} (C9 ["text","start"] vs) H:=by
 obtain⟨z,k,rfl,h60,q⟩:=h
 show qh4 K _ [some (.str z),some (.int k)] H
 unfold qh4
 lk
 refine⟨rfl,?_⟩
 lk
 refine⟨z, "</",k,rfl,rfl,?_⟩
 rw[zf8 rfl h60]
 lk
 unfold TX.nst at q
 by_cases h:z.cps.toList[k+1]?=some 47
 ·rw[decide_eq_true h];refine qm9 ?_
  rw[if_pos h] at q
  lk
  exact q
 ·rw[decide_eq_false h];refine qg6 ?_
  rw[if_neg h] at q
  lk
  exact q
def qw9(K:Fg):Sp:=fun vs H Q _=>∃ (z:Str) (k:Nat),vs=[.str z,.int k]/\z.length<=100000/\z.cps.toList[k]?=some 60/\(TX.tagAt z.cps.toList k=none->∀ H',A9 H H'->Q .non H') /\
 ∀ (f e:Nat),TX.tagAt z.cps.toList k=some (f,e)->∀ H',A9 H H'->Q (.int e) H'
def qt5(K:Fg):TS :=
 (B9 (C8 (C3 (qe0 K) [] E0 (A3 (A7 0) #[3,1])) (B3 2))
 (B9 (C8 (tBM K "str" yu5 (A7 0) (A3 (tC (.str ">")) (A3 (A7 2) (A3 (tOp (E7 K) (tOp (E7 K) (A7 2) #[1,8]) #[1,1]) B1)))) (B3 3))
 (B9 (N1 (tOr (C5 (tOp xo4 (A7 3) #[1,0])) (ww9 (tB (C3 (P6 K) [] E0 (A3 (tSl (wu7 K) (A7 0) (Y3 (A7 2)) (Y3 (A7 3))) B1)))))
 (E3 (tC .non)) J5)
 (E3 (tOp (E7 K) (A7 3) #[1,1])))))
theorem yp0(h:qw9 K vs H Q E):qt5 K {nx:=fun _ H'=>Q .non H',rt:=Q} (C9 ["text","start","first","end"] vs) H:=by
 obtain⟨z,k,rfl,hz,h60,q1,q2⟩:=h
 show qt5 K _ [some (.str z),some (.int k),none,none] H
 unfold qt5
 walk_at"15"
 lk
 refine⟨z,k,rfl,h60,?_⟩
 lk
 refine⟨rfl,?_⟩
 lk
 refine⟨z, ">",_,_,rfl,rfl,?_⟩
 have tg:TX.tagAt z.cps.toList k=(TX.nm #[45,TX.nst z.cps.toList k]).map fun n=>(TX.nst z.cps.toList k,TX.nst z.cps.toList k+n+1):=by unfold TX.tagAt;rw[if_pos h60]
 generalize TX.nst z.cps.toList k=f at *
 have e0:(">":Str)=⟨#[62]⟩:=rfl
 rw[e0]
 rcases zo5 (z:=z) (c:=62) (i:=(f:Int)) (j:=(f:Int)+8+1) (f:=f) (g:=f+9) rfl #[0] with⟨e,hn⟩|⟨r,e,r1,r2,r3,r4⟩
 ·rw[e]
  lk
  refine qm9 (qm9 ?_)
  lk
  refine q1 ?_ _ (A9.refl H)
  rw[tg]
  cases hm:TX.nm #[45,f] with
  | none=>rfl
  | some n =>
    obtain⟨n1,n2,n3,n4⟩:=TX.nm_iff.mp hm
    rw[List.getElem?_drop] at n4
    exact absurd n4 (hn (f+n) #[0] #[0])
 ·rw [e]
  lk
  rw[decide_eq_false (by omega:¬((r:Nat):Int)<0)];refine qg6 ?_
  lk
  refine ya1 (D5 hz) ?_
  have ct:=we9 (z:=z) (a:=(f:Int)) (b:=(r:Int)) (i:=f) (j:=r) rfl rfl
  generalize qh0 z (some (f:Int)) (some (r:Int))=nmz at *
  have rl:=(List.getElem?_eq_some_iff.mp r3).1
  have ln:nmz.length=r-f:=by
   have h1:=congrArg List.length ct
   rw[Array.length_toList,length_take,length_drop] at h1
   show nmz.cps.size=_
   omega
  lk
  refine⟨nmz,rfl,by omega,fun H' s'=>?_⟩
  lk
  have get:∀ i,i<r-f->nmz.cps.toList[i]?=#[45,f][i]?:=fun i hi=>by rw[ct,List.getElem?_take_of_lt hi]
  by_cases hb:(decide (1<=nmz.length) && (decide (nmz.length<=8) && nmz.cps.toList.all TX.letter))=true
  ·rw[hb,Bool.not_true];refine qg6 ?_
   lk
   simp only[Bool.and_eq_true,decide_eq_true_eq,all_eq_true] at hb
   have hm:TX.nm #[45,f]=some (r-f):=TX.nm_iff.mpr ⟨by omega,by omega,fun i hi=>by
    have hi2:i<nmz.cps.toList.length:=by rw[Array.length_toList];show i<nmz.length;omega
    refine⟨nmz.cps.toList[i],by rw[<-get i hi,List.getElem?_eq_getElem hi2],hb.2.2 _ (List.getElem_mem hi2)⟩,by rw[List.getElem?_drop,show f+(r-f)=r by omega];exact r3⟩
   have:=q2 f (r+1) (by rw[tg,hm];show some (f,f+(r-f)+1)=_;rw[show f+(r-f)+1=r+1 by omega]) H' s'
   exact this
  ·rw [Bool.eq_false_iff.mpr hb,Bool.not_false];refine qm9 ?_
   lk
   refine q1 ?_ _ s'
   rw[tg]
   cases hm:TX.nm #[45,f] with
   | none=>rfl
   | some n =>
     exfalso
     apply hb
     obtain⟨n1,n2,n3,n4⟩:=TX.nm_iff.mp hm
     rw[List.getElem?_drop] at n4
     have hr:r=f+n:=by
      rcases Nat.lt_trichotomy r (f+n) with h|h|h
      ·obtain⟨c,hc,hlc⟩:=n3 (r-f) #[0]
       rw[List.getElem?_drop,show f+(r-f)=r by omega,r3] at hc
       cases hc
       exact absurd hlc #[10]
      ·exact h
      ·exact absurd n4 (r4 (f+n) #[0] h)
     simp only[Bool.and_eq_true,decide_eq_true_eq,all_eq_true]
     refine⟨by omega,by omega,fun c hc=>?_⟩
     obtain⟨i,hi,e⟩:=List.getElem_of_mem hc
     have hi2:i<r-f:=by rw[Array.length_toList] at hi;have:i<nmz.length:=hi;omega
     obtain⟨c',hc',hl'⟩:=n3 i #[0]
     rw[<-get i hi2,List.getElem?_eq_getElem hi,e] at hc'
     cases hc'
     exact hl'
def qh5(K:Fg):Sp:=fun vs H Q _=>∃ (z:Str) (k f e:Nat),vs=[.str z,.int k,.int e]/\z.length<=100000/\TX.tagAt z.cps.toList k=some (f,e) /\
 ∀ t,H t=none->Q (.ref t) (upd H t #[69])
def qe1(K:Fg):TS :=
 (B9 (C8 (C3 (qe0 K) [] E0 (A3 (A7 0) #[3,1])) (B3 3))
 (B9 (C8 (tIf (C5 (tOp (P9 K) (A7 3) (tOp (E7 K) (A7 1) #[1,1]))) (tC (.str "open")) (tC (.str "close"))) (B3 4))
 (E3 (X3 (A3 (A7 4) (A3 (A7 1) (A3 (A7 2) (A3 (tSl (wu7 K) (A7 0) (Y3 (A7 3)) (Y3 (tOp (rI0 fun i j=>.int (i-j)) (A7 2) #[1,1]))) B1))))))))
theorem xq6(h:qh5 K vs H Q E):qe1 K {nx:=fun _ H'=>Q .non H',rt:=Q} (C9 ["text","start","stop","first","kind"] vs) H:=by
 obtain⟨z,k,f,e,rfl,hz,ht,q⟩:=h
 show qe1 K _ [some (.str z),some (.int k),some (.int e),none,none] H
 unfold qe1
 obtain⟨g1,g2,g3,g4,g5,g6⟩:=TX.tagAt_gt ht
 lk
 refine⟨z,k,rfl,g5,?_⟩
 rw[<-g3]
 lk
 have ct:=we9 (z:=z) (a:=(f:Int)) (b:=(e:Int)-1) (i:=f) (j:=e-1) rfl #[0]
 have ec:qh0 z (some (f:Int)) (some ((e:Int)-1))=TX.ofL (#[45,f].take (e-1-f)):=(O8 _ _).mpr ct
 by_cases hf:f=k+1
 ·rw[if_pos hf] at q
  rw[decide_eq_true (by omega:(f:Int)=(k:Int)+1)];refine qm9 ?_
  lk
  refine ya1 (D5 hz) ?_
  rw[ec]
  lk
  exact⟨D5 (by z_go),q⟩
 ·rw[if_neg hf] at q
  rw[decide_eq_false (by omega:¬(f:Int)=(k:Int)+1)];refine qg6 ?_
  lk
  refine ya1 (D5 hz) ?_
  rw[ec]
  lk
  exact⟨D5 (by z_go),q⟩
def R9(K:Fg):Sp:=fun vs H Q _=>∃ (z:Str) (a e:Nat),vs=[.str z,.int a,.int e]/\a<=e/\e<=z.length/\z.length<=100000/\(a=e->∀ p,H p=none->Q (.ref p) (upd H p (.lst []))) /\
 (a<e->∀ (w:Str) (t p:Addr) (H':Hp),w.cps.toList=TX.told 0 (#[45,a].take (e-a))->A9 H H'->H p=none->H' p=some (.lst [.ref t])->H' t=some (.tup [.str "run",.int a,.int e,.str w])->Q (.ref p) H')
def Z2(K:Fg):TS :=
 (B9 (N1 (C5 (tOp (P9 K) (A7 1) (A7 2)))
 (E3 (T8 B1)) J5)
 (E3 (T8 (A3 (X3 (A3 (tC (.str "run")) (A3 (A7 1) (A3 (A7 2) (A3 (C3 (wf0 K) [] E0 (A3 (tSl (wu7 K) (A7 0) (Y3 (A7 1)) (Y3 (A7 2))) B1)) B1))))) B1))))
theorem xk9(h:R9 K vs H Q E):Z2 K {nx:=fun _ H'=>Q .non H',rt:=Q} (C9 ["text","start","stop"] vs) H:=by
 obtain⟨z,a,e,rfl,hae,hez,hz,q1,q2⟩:=h
 show Z2 K _ [some (.str z),some (.int a),some (.int e)] H
 unfold Z2
 lk
 by_cases h:a=e
 ·rw[decide_eq_true (by rw[h])];refine qm9 ?_
  lk
  exact⟨D5 (by z_go),q1 h⟩
 ·rw[decide_eq_false (by intro h';exact h #[0])];refine qg6 ?_
  lk
  refine ya1 (D5 hz) ?_
  lk
  have ct:=we9 (z:=z) (a:=(a:Int)) (b:=(e:Int)) (i:=a) (j:=e) rfl rfl
  walk_at"15"
  refine⟨_,rfl,?_,fun w hw=>?_⟩
  ·have h1:=congrArg List.length ct
   rw[Array.length_toList,length_take,length_drop] at h1
   show(qh0 z (some (a:Int)) (some (e:Int))).cps.size<=_
   omega
  ·rw[ct] at hw
   lk
   refine⟨D5 (by z_go),fun t ht=>?_⟩
   walk_at"14"
   have hp0:H p=none:=by
    cases e:H p with
    | none=>rfl
    | some u=>rw[A9.new ht _ _ _ e] at hp;cases hp
   have ntp:t≠p:=fun e=>by rw[<-e,A8] at hp;cases hp
   exact q2 #[0] w t p _ hw (A9.tr #[36,ht] #[36,hp]) hp0 A8 (by rw[B5 ntp];exact A8)
end
variable{e q s P' T' W' M P W:Nat}{l1 l2:List Brn}{m1:List BA}{b' bb:Brn}{x':BA}{ps:List Addr}{m:Int}{rule t g kind u:Str}{f:List Str->List Str}{ws A B:List Str}{st:Rst}{w kR:Addr}{bv:V}
section
variable{K:Fg}{vs:List V}{H:Hp}{Q:VK}{E:XK}
theorem zo7(Pv:St->Hp->Prop)(μ:St->Hp->Nat)(h0:Pv σ H)(i:Nat)(hs:∀ σ H,Pv σ H->∃ k:Int,σ[i]?=some (some (.int k))/\(0<=k->tb {D with nx:=fun σ' H'=>Pv σ' H'/\μ σ' H'<μ σ H,ct:=fun σ' H'=>Pv σ' H'/\μ σ' H'<μ σ H,bk:=D.nx} σ H)/\(¬0<=k->D.nx σ H)) :
 qy6 (C5 (tOp zd9 (A7 i) #[1,0])) tb D σ H:=by
 refine⟨fun m σ H=>m=μ σ H/\Pv σ H,⟨_,rfl,h0⟩,?_⟩
 rintro m σ H ⟨rfl,p⟩
 obtain⟨k,e,h1,h2⟩:=hs σ H p
 refine⟨_,e,zz9 (zz7 ?_)⟩
 by_cases hk:0<=k
 ·rw[decide_eq_true hk]
  exact⟨_,fun σ' H' ⟨p',l⟩=>⟨_,l,rfl,p'⟩,h1 hk⟩
 ·rw[decide_eq_false hk]
  exact h2 hk
theorem wm4:∀ xs ys:List PyData,O0 (xs++ys)=(O0 xs && O0 ys)
 | [],ys=>by simp[O0]
 | x::xs,ys=>by rw[cons_append,O0,O0,wm4 xs ys,Bool.and_assoc]
theorem yz9(l:List Nat)(a e:Nat):O0 (TX.runs l a e)=true:=by
 unfold TX.runs;split
 ·simp[O0,fix,TX.runD]
 ·simp[O0]
theorem yf7(l:List Nat)(k f e:Nat):fix (TX.tagD l k f e)=true:=by simp[O0,fix,TX.tagD]
theorem yp1(l:List Nat)(a e:Nat):(TX.runs l a e).length<=1:=by unfold TX.runs;split <;> simp
theorem Ah2{w:Str}{t:Addr}{a:Nat}(hw:w.cps.toList=TX.told 0 (#[45,a].take (e-a)))(ht:H t=some (.tup [.str "run",.int a,.int e,.str w])):Dv K H (TX.runD z.cps.toList a e) (.ref t):=by
 have ew:w=TX.ofL (TX.told 0 (#[45,a].take (e-a))):=(O8 _ _).mpr (by rw[hw];rfl)
 rw[<-show TX.runD z.cps.toList a e=_ from rfl]
 unfold TX.runD
 rw[<-ew]
 exact D9.mpr ⟨t,_,rfl,SqT.of ht,C7 (G7.mpr rfl) (C7 (P1.mpr rfl) (C7 (P1.mpr rfl) (C7 (G7.mpr rfl) G9)))⟩
theorem xq7{a:Nat}(hae:a<=e)(hez:e<=z.length)(hz:z.length<=100000)(q:∀ (p:Addr) (zs:List V) (H1:Hp),A9 H H1->H p=none->H1 p=some (.lst zs)->Dvs K H1 (TX.runs z.cps.toList a e) zs->Q (.ref p) H1):R9 K [.str z,.int a,.int e] H Q E:=by
 refine⟨z,a,e,rfl,hae,hez,hz,fun h p hp=>?_,fun h w t p H' hw hs hp h1 ht=>?_⟩
 ·refine q p [] _ #[36,hp] hp A8 ?_
  unfold TX.runs;rw[if_neg #[0]];exact G9
 ·refine q p [.ref t] H' hs hp h1 ?_
  unfold TX.runs;rw[if_pos h]
  exact C7 (Ah2 hw ht) G9
theorem zf9(hq:q<=l.length)(hn:∀ k,q<=k->l[k]?≠some 60):TX.toks l q s=TX.runs l s l.length:=by
 rw[TX.toks_skip (l.length-q) q #[0] (fun j h1 _=>hn j h1),TX.toks_end #[0]]
theorem zw6{k:Nat}(hqk:q<=k)(hk:l[k]?=some 60)(hn:∀ m,q<=m->m<k->l[m]?≠some 60):TX.toks l q s=TX.toks l k s:=by
 have:=(List.getElem?_eq_some_iff.mp hk).1
 rw[TX.toks_skip (k-q) q #[0] (fun j h1 h2=>hn j h1 #[0]),show q+(k-q)=k by omega]
def TX.glue(l:List Nat):Nat->List (Nat×Nat×Nat)->List PyData
 | s,[]=>TX.runs l s l.length
 | s,t::ts=>TX.runs l s t.1++TX.tagD l t.1 t.2.1 t.2.2::TX.glue l t.2.2 ts
def TX.Ch(l:List Nat):Nat->List (Nat×Nat×Nat)->Prop
 | _,[]=>True
 | q,t::ts=>q<=t.1/\t.1<t.2.2/\t.2.2<=l.length/\TX.Ch l t.2.2 ts
def TX.tg(l:List Nat)(t:Nat×Nat×Nat):PyData:=TX.tagD l t.1 t.2.1 t.2.2
theorem yf8{r:Nat}:∀ {ts:List (Nat×Nat×Nat)},q<=r->TX.Ch l r ts->TX.Ch l q ts
 | [],_,_=>trivial
 | t::ts,h,g=>⟨Nat.le_trans h g.1,g.2⟩
theorem za0{l:List Nat}:∀ ts:List (Nat×Nat×Nat),O0 (ts.map (TX.tg l))=true
 | []=>rfl
 | t::ts=>by rw[map_cons,O0,za0 ts];exact Bool.and_eq_true_iff.mpr ⟨yf7 _ _ _ _,rfl⟩
def An3(z:Str)(q:Nat)(st:Int)(ts:List (Nat×Nat×Nat)):Prop :=
 (st=-1/\TX.Ch z.cps.toList q ts/\∀ s,TX.toks z.cps.toList q s=TX.glue z.cps.toList s ts) \/
 ∃ k:Nat,st=(k:Int)/\ts.length<=k/\z.cps.toList[k]?=some 60/\∀ ts',TX.Ch z.cps.toList k ts'->(∀ s,TX.toks z.cps.toList k s=TX.glue z.cps.toList s ts')->TX.Ch z.cps.toList q (ts++ts')/\∀ s,TX.toks z.cps.toList q s=TX.glue z.cps.toList s (ts++ts')
theorem xe9{r:Nat}{ts:List (Nat×Nat×Nat)}(hi:i=(r:Int))(hr:r<=z.cps.toList.length)(hl:ts.length<=r)(h:∀ ts',TX.Ch z.cps.toList r ts'->(∀ s,TX.toks z.cps.toList r s=TX.glue z.cps.toList s ts')->TX.Ch z.cps.toList q (ts++ts')/\∀ s,TX.toks z.cps.toList q s=TX.glue z.cps.toList s (ts++ts')) :
 An3 z q (PySem.Txt.find3 z "<" i) ts/\∀ k:Nat,PySem.Txt.find3 z "<" i=(k:Int)->r<=k:=by
 have e0:("<":Str)=⟨#[60]⟩:=rfl
 rw[e0]
 rcases zo6 (z:=z) (c:=60) hi with⟨e,hn⟩|⟨k,e,h1,h2,h3⟩
 ·rw[e]
  have g:=h [] trivial fun s=>zf9 hr hn
  rw[append_nil] at g
  exact⟨.inl ⟨rfl,g.1,g.2⟩,fun k hk=>by omega⟩
 ·rw[e]
  exact⟨.inr ⟨k,rfl,by omega,h2,fun ts' c g=>h ts' (yf8 h1 c) fun s=>by rw[zw6 h1 h2 h3];exact g s⟩,fun m hm=>by omega⟩
def qr3(K:Fg):Sp:=fun vs H Q _=>∃ (z:Str) (q:Nat),vs=[.str z,.int q]/\q<=z.length/\z.length<=100000/\∀ (p:Addr) (us:List V) (H':Hp) (ts:List (Nat×Nat×Nat)),A9 H H'->H p=none->H' p=some (.lst us)->Dvs K H' (ts.map (TX.tg z.cps.toList)) us->TX.Ch z.cps.toList q ts->(∀ s,TX.toks z.cps.toList q s=TX.glue z.cps.toList s ts)->Q (.ref p) H'
def qn7(K:Fg):TS :=
 (B9 (C8 (T8 B1) (B3 2))
 (B9 (C8 (tBM K "str" xo7 (A7 0) (A3 (tC (.str "<")) #[3,1])) (B3 3))
 (B9 (qy6 (C5 (tOp zd9 (A7 3) #[1,0]))
 (B9 (C8 (C3 (qw9 K) [] E0 (A3 (A7 0) #[3,3])) (B3 4))
 (N1 (C5 (tOp xo5 (A7 4) (tC .non)))
 (C8 (tBM K "str" xo7 (A7 0) (A3 (tC (.str "<")) (A3 (tOp (E7 K) (A7 3) #[1,1]) B1))) (B3 3)) (B9 (G5 (tBM K "list" M3 (A7 2) (A3 (C3 (qh5 K) [] E0 (A3 (A7 0) (A3 (A7 3) #[3,4]))) B1)))
 (C8 (tBM K "str" xo7 (A7 0) (A3 (tC (.str "<")) #[3,4])) (B3 3))))))
 (E3 (A7 2)))))
theorem yf9(h:qr3 K vs H Q E):qn7 K {nx:=fun _ H'=>Q .non H',rt:=Q} (C9 ["text","searched","tags","start","stop"] vs) H:=by
 obtain⟨z,q0,rfl,hq,hz,q⟩:=h
 show qn7 K _ [some (.str z),some (.int q0),none,none,none] H
 unfold qn7
 walk_at"15"
 walk_at"39"
 refine⟨rfl,?_⟩
 lk
 refine⟨z, "<",_,rfl,rfl,?_⟩
 lk
 refine zo7 (fun σ H'=>∃ (st:Int) (a:Option V) (us:List V) (ts:List (Nat×Nat×Nat)),σ=[some (.str z),some (.int q0),some (.ref d),some (.int st),a]/\A9 H H'/\H' d=some (.lst us)/\Dvs K H' (ts.map (TX.tg z.cps.toList)) us/\An3 z q0 st ts)
  (fun σ _=>match σ with | [_,_,_,some (.int st),_]=>(if st<0 then 0 else z.length+1-st.toNat)|_=>0) ?_ 3 ?_
 ·exact⟨_,none,[],[],rfl,A9.new hd _,A8,G9,(xe9 rfl #[0] (Nat.zero_le _) fun ts' c g=>⟨c,g⟩).1⟩
 rintro σ H1 ⟨st,a,us,ts,rfl,s1,hd1,dv1,at1⟩
 have hul:us.length=ts.length:=by rw[dv1.length,length_map]
 refine⟨st,rfl,fun h0=>?_,fun h0=>?_⟩
 ·rcases at1 with⟨e,_⟩|⟨k,rfl,htk,h60,hts⟩
  ·omega
  have hkl:=(List.getElem?_eq_some_iff.mp h60).1
  lk
  refine⟨z,k,rfl,hz,h60,fun ht H2 s2=>?_,fun f e ht H2 s2=>?_⟩
  ·lk
   x_go
   lk
   refine⟨rfl,?_⟩
   lk
   refine⟨z, "<",_,rfl,rfl,?_⟩
   obtain⟨fa,fb⟩:=xe9 (z:=z) (q:=q0) (r:=k+1) (i:=(k:Int)+1) (ts:=ts) #[0] #[0] #[0] fun ts' c g=>hts ts' (yf8 #[0] c) fun s=>by rw[TX.toks_none #[0] ht];exact g s
   lk
   refine⟨⟨_,_,us,ts,rfl,A9.tr s1 s2,s2 _ _ hd1,Dvs.same s2 _ _ dv1,fa⟩,?_⟩
   show(if PySem.Txt.find3 z "<" ((k:Int)+1)<0 then 0 else z.length+1-(PySem.Txt.find3 z "<" ((k:Int)+1)).toNat)<(if(k:Int)<0 then 0 else z.length+1-((k:Int)).toNat)
   rw[if_neg (by omega:¬(k:Int)<0)]
   rcases fa with⟨e,_⟩|⟨k2,e,_⟩
   ·rw[e,if_pos #[10]];omega
   ·have:=fb k2 e
    rw[e,if_neg #[0]];omega
  ·obtain⟨g1,g2,g3,g4,g5,g6⟩:=TX.tagAt_gt ht
   have gk:=TX.nst_gt z.cps.toList k
   lk
   have hn0:decide (V.int (e:Int)=V.non)=false:=by simp
   rw[hn0];refine qg6 ?_
   lk
   have hd2:=s2 _ _ hd1
   refine⟨.inl ⟨rfl,_,SqL.of hd2⟩,?_⟩
   lk
   refine⟨z,k,f,e,rfl,hz,ht,fun t ht4=>?_⟩
   have ntd:t≠d:=fun z=>by rw[z,hd2] at ht4;cases ht4
   lk
   refine M1 (by rw[B5 ntd.symm];exact hd2) #[71] ?_
   have hd5:(upd H2 t #[69]) d=some (.lst us):=by rw[B5 ntd.symm];exact hd2
   have tk6:=wz1 (ys:=us++[V.ref t]) hd5
   have dvb:=Dvs.tupK tk6 _ _ (za0 ts) (Dvs.same #[36,ht4] _ _ (Dvs.same s2 _ _ dv1))
   have dvt:Dv K (upd (upd H2 t #[69]) d (.lst (us++[V.ref t]))) (TX.tg z.cps.toList (k,f,e)) (.ref t) :=
    D9.mpr ⟨t,_,rfl,SqT.of (by rw[B5 ntd];exact A8),C7 (G7.mpr rfl) (C7 (P1.mpr rfl) (C7 (P1.mpr rfl) (C7 (G7.mpr rfl) G9)))⟩
   lk
   refine⟨rfl,?_⟩
   lk
   refine⟨z, "<",_,rfl,rfl,?_⟩
   obtain⟨fa,fb⟩:=xe9 (z:=z) (q:=q0) (r:=e) (i:=(e:Int)) (ts:=ts++[(k,f,e)]) rfl g2 (by rw[length_append,length_singleton];omega) fun ts' c g=>by
    have:=hts ((k,f,e)::ts') ⟨Nat.le_refl _,g1,g2,c⟩ fun s=>by rw[TX.toks_some ht,g e];rfl
    rw[append_assoc];exact this
   lk
   refine⟨⟨_,_,us++[V.ref t],ts++[(k,f,e)],rfl,fun c u eq=>?_,A8,by rw[map_append];exact Dvs.append dvb (C7 dvt G9),fa⟩,?_⟩
   ·have nc:c≠d:=fun z=>by rw[z,hd] at eq;cases eq
    rw[B5 nc]
    exact A9.new ht4 _ c u (s2 c u (s1 c u eq))
   ·show(if PySem.Txt.find3 z "<" (e:Int)<0 then 0 else z.length+1-(PySem.Txt.find3 z "<" (e:Int)).toNat)<(if(k:Int)<0 then 0 else z.length+1-((k:Int)).toNat)
    rw[if_neg (by omega:¬(k:Int)<0)]
    rcases fa with⟨e',_⟩|⟨k2,e',_⟩
    ·rw[e',if_pos #[10]];omega
    ·have:=fb k2 e'
     rw[e',if_neg #[0]];omega
 ·rcases at1 with⟨e,hc,hts⟩|⟨k,rfl,_⟩
  ·lk
   exact q d us H1 ts s1 hd hd1 dv1 hc hts
  ·omega
def X8(K:Fg):Sp:=fun vs H Q _=>∃ (z:Str) (s q:Nat),vs=[.str z,.int s,.int q]/\s<=q/\q<=z.length/\z.length<=100000/\∀ (p:Addr) (us:List V) (H':Hp) (acc:List PyData) (s':Nat),A9 H H'->H p=none->H' p=some (.lst us)->Dvs K H' acc us->O0 acc=true->s<=s'->s'<=z.length->acc.length<=s'->acc++TX.runs z.cps.toList s' z.cps.toList.length=TX.toks z.cps.toList q s->(acc=[]/\s'=s\/∃ acc0 k f,acc=acc0++[TX.tagD z.cps.toList k f s'])->Q (.ref p) H'
def U6(K:Fg):TS :=
 (B9 (C8 (T8 B1) (B3 3))
 (B9 (qf4 (qq7 K (C3 (qr3 K) [] E0 (A3 (A7 0) #[3,2]))) (B3 4)
 (B9 (G5 (tBM K "list" wx5 (A7 3) (A3 (C3 (R9 K) [] E0 (A3 (A7 0) (A3 (A7 1) (A3 #[39,4] B1)))) B1)))
 (B9 (G5 (tBM K "list" M3 (A7 3) #[3,4]))
 (C8 (tOp (D2 K) (A7 4) #[1,2]) (B3 1)))))
 (E3 (A7 3))))
theorem xa3(h:X8 K vs H Q E):U6 K {nx:=fun _ H'=>Q .non H',rt:=Q} (C9 ["text","settled","searched","tokens","tag"] vs) H:=by
 obtain⟨z,s0,q0,rfl,hsq,hq,hz,q⟩:=h
 show U6 K _ [some (.str z),some (.int s0),some (.int q0),none,none] H
 unfold U6
 walk_at"15"
 walk_at"39"
 refine⟨z,q0,rfl,hq,hz,fun p1 uts H1 ts s1 hp1 h1 dvt hch hts=>?_⟩
 have hd1:H1 d=some (.lst []):=s1 _ _ A8
 have npd:p1≠d:=fun e=>by rw[e,A8] at hp1;cases hp1
 have sH:A9 H H1:=A9.tr #[36,hd] s1
 have utl:uts.length=ts.length:=by rw[dvt.length,length_map]
 refine wy4 (xs:=uts) #[59,h1] (fun i σ H'=>∃ (s':Nat) (a:Option V) (us:List V) (acc:List PyData),σ=[some (.str z),some (.int s'),some (.int q0),some (.ref d),a]/\But [d] H1 H'/\U1 H1 H'/\H' d=some (.lst us)/\Dvs K H' acc us/\O0 acc=true/\s0<=s'/\s'<=z.length/\acc.length<=s'/\TX.Ch z.cps.toList s' (ts.drop i)/\acc++TX.glue z.cps.toList s' (ts.drop i)=TX.toks z.cps.toList q0 s0/\(acc=[]/\s'=s0\/∃ acc0 k f,acc=acc0++[TX.tagD z.cps.toList k f s'])) ?_ ?_ ?_ ?_
 ·exact⟨s0,none,[],[],rfl,But.refl _ _,U1.refl _,hd1,G9,rfl,Nat.le_refl _,by omega,Nat.zero_le _,yf8 hsq hch,(hts s0).symm,.inl ⟨rfl,rfl⟩⟩
 ·rintro i σ H' hi ⟨s',a,us,acc,rfl,bt,_⟩
  exact SqL.of (bt _ _ h1 (by simpa using npd))
 ·rintro i x σ H' hx ⟨s',a,us,acc,rfl,bt,tk,hd',dva,fx,g1,g2,g3,g4,g5,g6⟩
  obtain⟨dd,e1,dvx⟩:=Dvs.get' dvt hx
  rw[List.getElem?_map] at e1
  obtain⟨⟨k,f,e⟩,hti,rfl⟩:∃ t,ts[i]?=some t/\TX.tg z.cps.toList t=dd:=by
   cases h:ts[i]? with
   | none=>rw[h] at e1;cases e1
   | some t=>rw[h] at e1;exact⟨t,rfl,by simpa using e1⟩
  have edrop:ts.drop i=(k,f,e)::ts.drop (i+1):=by
   obtain⟨hil,he⟩:=List.getElem?_eq_some_iff.mp hti
   rw[drop_eq_getElem_cons hil,he]
  rw[edrop] at g4 g5
  obtain⟨c1,c2,c3,c4⟩:=g4
  have c1:s'<=k:=c1
  have c2:k<e:=c2
  have c3:e<=z.cps.toList.length:=c3
  have dvx2:=dvx
  obtain⟨t,vs4,rfl,qt,dv4⟩:=D9.mp (show Dv K H1 (.tuple [.str (if f=k+1 then "open" else "close"),.int k,.int e,.str (TX.ofL (#[45,f].take (e-1-f)))]) x from dvx)
  walk_at"24"
  have w2:=P1.mp w2
  have w3:=P1.mp w3
  subst w2 w3
  lk
  refine⟨.inl ⟨rfl,_,SqL.of hd'⟩,?_⟩
  lk
  refine G1 (tk.sqT qt) (D3 (j:=1) rfl) ?_
  lk
  refine xq7 c1 #[0] hz fun p zs H3 s3 hp h3 dv3=>?_
  have hd3:=s3 _ _ hd'
  have rl:=yp1 z.cps.toList s' k
  have zl:zs.length=(TX.runs z.cps.toList s' k).length:=dv3.length
  have ul:=dva.length
  lk
  refine⟨d,p,us,zs,rfl,rfl,hd3,h3,D5 #[0],?_⟩
  have tk4:=wz1 (ys:=us++zs) hd3
  have dvb:Dvs K (upd H3 d (.lst (us++zs))) (acc++TX.runs z.cps.toList s' k) (us++zs):=Dvs.append (Dvs.tupK tk4 _ _ fx (Dvs.same s3 _ _ dva)) (Dvs.tupK tk4 _ _ (yz9 _ _ _) dv3)
  lk
  refine⟨.inl ⟨rfl,_,SqL.of A8⟩,?_⟩
  lk
  refine M1 A8 (by rw[length_append,sizeLine_eq];omega) ?_
  have tk5:=wz1 (H:=upd H3 d (.lst (us++zs))) (ys:=us++zs++[V.ref t]) A8
  have fx2:O0 (acc++TX.runs z.cps.toList s' k)=true:=by rw[wm4,fx,yz9];rfl
  have tkA:U1 H1 (upd (upd H3 d (.lst (us++zs))) d (.lst (us++zs++[V.ref t]))):=tk.trans (s3.tupK.trans (tk4.trans tk5))
  lk
  refine G1 (tkA.sqT qt) (D3 (j:=2) rfl) ?_
  lk
  refine⟨e,_,us++zs++[V.ref t],acc++TX.runs z.cps.toList s' k++[TX.tagD z.cps.toList k f e],rfl,?_,tkA,A8,Dvs.append (Dvs.tupK tk5 _ _ fx2 dvb) (C7 (Dv.tupK tkA _ _ (yf7 _ _ _ _) dvx2) G9),by rw[wm4,fx2];simp[O0,yf7],by omega,by omega,?_,c4,by rw[<-g5,TX.glue];simp,.inr ⟨_,_,_,rfl⟩⟩
  ·intro c u eq hc
   have nc:c≠d:=by simpa using hc
   rw[B5 nc,B5 nc]
   exact s3 _ _ (bt c u eq hc)
  ·by_cases hsk:s'<k
   ·simp only[length_append,length_singleton];omega
   ·have:(TX.runs z.cps.toList s' k).length=0:=by unfold TX.runs;rw[if_neg hsk];rfl
    simp only[length_append,length_singleton];omega
 ·rintro σ H' ⟨s',a,us,acc,rfl,bt,tk,hd',dva,fx,g1,g2,g3,g4,g5,g6⟩
  lk
  have e0:ts.drop uts.length=[]:=drop_eq_nil_of_le #[0]
  rw[e0] at g5
  refine q d us H' acc s' (fun c u eq=>?_) hd hd' dva fx g1 g2 g3 g5 g6
  have nc:c≠d:=fun z=>by rw[z,hd] at eq;cases eq
  exact bt c u (sH c u eq) (by simpa using nc)
def qr4(K:Fg):Sp:=fun vs H Q _=>∃ z:Str,vs=[.str z]/\z.length<=100000/\∀ (p:Addr) (us:List V) (H':Hp),A9 H H'->H p=none->H' p=some (.lst us)->Dvs K H' #[22] us->Q (.ref p) H'
def qn8(K:Fg):TS :=
 (B9 (C8 (C3 (X8 K) [] E0 (A3 (A7 0) (A3 #[1,0] (A3 #[1,0] B1)))) (B3 1))
 (B9 (C8 (tIf (C5 (tOp wq9 (tCB (O3 K) #[3,1]) #[1,0])) (tOp (D2 K) #[44,1] #[1,2]) #[1,0]) (B3 2))
 (E3 (tOp (E7 K) (A7 1) (C3 (R9 K) [] E0 (A3 (A7 0) (A3 (A7 2) (A3 (tCB (O3 K) #[3,0]) B1))))))))
theorem yg0(h:qr4 K vs H Q E):qn8 K {nx:=fun _ H'=>Q .non H',rt:=Q} (C9 ["text","tokens","settled"] vs) H:=by
 obtain⟨z,rfl,hz,q⟩:=h
 show qn8 K _ [some (.str z),none,none] H
 unfold qn8
 walk_at"15"
 lk
 refine⟨z,0,0,rfl,Nat.le_refl _,Nat.zero_le _,hz,fun p1 us H1 acc s' s1 hp1 h1 dva fx g1 g2 g3 g5 g6=>?_⟩
 have ul:=dva.length
 lk
 refine N8 (.inl #[59,h1]) ?_
 lk
 have last:∀ Q':VK,Q' (.int s') H1->(if decide ((0:Int)<us.length)=true then tOp (D2 K) #[44,1] #[1,2] [some (.str z),some (.ref p1),none] H1 Q' else tC (.int 0) [some (.str z),some (.ref p1),none] H1 Q'):=by
  intro Q' hQ
  rcases g6 with⟨rfl,rfl⟩|⟨acc0,k,f,rfl⟩
  ·have:us=[]:=length_eq_zero_iff.mp (by rw[ul];rfl)
   subst this
   rw[decide_eq_false (by simp)];refine qg6 ?_
   lk
   exact hQ
  ·have hlen:0<us.length:=by rw[ul,length_append,length_singleton];omega
   obtain⟨us0,x,rfl⟩:∃ us0 x,us=us0++[x]:=⟨us.dropLast,us.getLast (ne_nil_of_length_pos hlen),(dropLast_concat_getLast _).symm⟩
   rw[decide_eq_true #[0]];refine qm9 ?_
   have l0:us0.length=acc0.length:=by
    rw[length_append,length_append,length_singleton,length_singleton] at ul;omega
   obtain⟨d',e1,dvx⟩:=Dvs.get' (i:=us0.length) (v:=x) dva (by simp)
   rw[l0] at e1
   have e1:TX.tagD z.cps.toList k f s'=d':=by simpa using e1
   subst e1
   obtain⟨t,vs4,rfl,qt,dv4⟩:=D9.mp (show Dv K H1 (.tuple [.str (if f=k+1 then "open" else "close"),.int k,.int s',.str (TX.ofL (#[45,f].take (s'-1-f)))]) x from dvx)
   walk_at"24"
   have w3:=P1.mp w3
   subst w3
   walk_at"21"
   refine L7 #[59,h1] (zi2 _ _) ?_
   lk
   refine G1 qt (D3 (j:=2) rfl) ?_
   exact hQ
 refine last _ ?_
 lk
 refine zk8 (D5 hz) ?_
 lk
 refine xq7 g2 #[11] hz fun p2 zs H2 s2 hp2 h2 dv2=>?_
 have rl:=yp1 z.cps.toList s' z.length
 have zl:zs.length=(TX.runs z.cps.toList s' z.length).length:=dv2.length
 lk
 refine zk5 (s2 _ _ h1) h2 #[71] fun p hp=>?_
 have sA:A9 H2 (upd H2 p (.lst (us++zs))):=A9.new hp _
 refine q p (us++zs) _ (A9.tr s1 (A9.tr s2 sA)) (A9.free (A9.tr s1 s2) hp) A8 ?_
 rw[<-g5,hl]
 exact Dvs.same sA _ _ (Dvs.append (Dvs.same s2 _ _ dva) dv2)
def esc:List Nat->List Nat
 | []=>[]
 | c::l=>(if c=60 then TX.El else if c=38 then TX.Ea else[c])++esc l
theorem xm7(y:Nat)(Z:List Nat):∀ l:List Nat,TX.rep [y] Z 0 l=l.flatMap fun c=>if c=y then Z else[c]
 | []=>rfl
 | c::l=>by
   by_cases h:c=y
   ·subst h
    rw[TX.rep_yes (Y:=[c]) (l:=c::l) (by simp) ⟨l,rfl⟩]
    show Z++TX.rep [c] Z 0 l=_
    rw[xm7 c Z l]
    simp
   ·rw[TX.rep_no (by rintro⟨r,e⟩;injection e with e _;exact h e.symm),xm7 y Z l]
    simp[h]
theorem zw7(l:List Nat):TX.rep [60] TX.El 0 (TX.rep [38] TX.Ea 0 l)=esc l:=by
 rw[xm7,xm7]
 induction l with
 | nil=>rfl
 | cons c l ih =>
   rw[flatMap_cons,flatMap_append,ih,esc]
   congr 1
   by_cases h1:c=38
   ·subst h1;rfl
   ·by_cases h2:c=60
    ·subst h2;rfl
    ·simp[h1,h2]
def zg0(z:Str):Str:=⟨(esc z.cps.toList).toArray⟩
theorem zw8{w:Str}(h:w.cps.toList=esc z.cps.toList):w=zg0 z:=by rw[O8,h];unfold zg0;simp
def opn(n:Str):Str := "<"++n ++ ">"
def cls(n:Str):Str := "</"++n ++ ">"
def qm2(K:Fg):Sp:=fun vs H Q _=>∃ n:Str,vs=[.str n]/\n.length<=4000/\Q (.str (opn n)) H
def qr5(K:Fg):TS :=
 (E3 (tFs ("<":Str) (">":Str) (A7 0)))
theorem xv8(h:qm2 K vs H Q E):qr5 K {nx:=fun _ H'=>Q .non H',rt:=Q} (C9 ["name"] vs) H:=by
 obtain⟨n,rfl,hn,q⟩:=h
 show qr5 K _ [some (.str n)] H
 unfold qr5
 lk
 exact⟨.str n,rfl,n,rfl,by omega,q⟩
def qm3(K:Fg):Sp:=fun vs H Q _=>∃ n:Str,vs=[.str n]/\n.length<=4000/\Q (.str (cls n)) H
def qr6(K:Fg):TS :=
 (E3 (tFs ("</":Str) (">":Str) (A7 0)))
theorem xv9(h:qm3 K vs H Q E):qr6 K {nx:=fun _ H'=>Q .non H',rt:=Q} (C9 ["name"] vs) H:=by
 obtain⟨n,rfl,hn,q⟩:=h
 show qr6 K _ [some (.str n)] H
 unfold qr6
 lk
 exact⟨.str n,rfl,n,rfl,by omega,q⟩
def wf2(K:Fg):Sp:=fun vs H Q _=>∃ z:Str,vs=[.str z]/\z.length<=30000/\Q (.str (zg0 z)) H
def wq2(K:Fg):TS :=
 (E3 (ya0 (ya0 (A7 0) ("&":Str) ("&a;":Str)) ("<":Str) ("&l;":Str)))
theorem yw4(h:wf2 K vs H Q E):wq2 K {nx:=fun _ H'=>Q .non H',rt:=Q} (C9 ["text"] vs) H:=by
 obtain⟨z,rfl,hz,q⟩:=h
 show wq2 K _ [some (.str z)] H
 unfold wq2
 lk
 refine⟨z,rfl,by omega,?_⟩
 have l1:=yo7 z "&" "&a;" #[10]
 rw[show("&a;":Str).length=3 from rfl] at l1
 refine⟨_,rfl,by omega,?_⟩
 rw[zw8 (z:=z) (w:=PySem.Txt.replace (PySem.Txt.replace z "&" "&a;") "<" "&l;") (by rw[TX.replace_rep _ _ _ #[10],TX.replace_rep _ _ _ #[10]];exact zw7 _)]
 exact q
section
variable{kR kB r:Addr}{bv:V}{a:RAd}{st:Rst}{H':Hp}
theorem P3(x:BA)(as:List BA):fpA (x::as)=x.fp++fpA as:=by unfold fpA;rw[flatMap_cons]
theorem ql1.split{m2:List BA}{x:BA}(h:ql1 K H kB (m1++x::m2) (l1++b::l2))(hl:m1.length=l1.length):ql1 K H kB m1 l1/\BrO K H kB x b/\ql1 K H kB m2 l2:=by
 induction m1 generalizing l1 with
 | nil =>
   cases l1 with
   | nil=>cases h with|cons h1 h2=>exact⟨.nil,h1,h2⟩
   | cons=>simp at hl
 | cons y m1 ih =>
   cases l1 with
   | nil=>simp at hl
   | cons c l1 =>
     cases h with
     | cons h1 h2 =>
       obtain⟨h3,h4,h5⟩:=ih h2 (by simpa using hl)
       exact⟨.cons h1 h3,h4,h5⟩
theorem RdO.swap{m2:List BA}{x:BA}{b:Brn}(h:RdO K H kR kB r bv a st)(ea:a.as=m1++x::m2)(eb:st.bs=l1++b::l2)(hl:m1.length=l1.length)(bt:But x.fp H H')(hB:BrO K H' kB x' b')(hf:∀ z∈x'.fp,z∈x.fp\/H z=none)(hd:x'.fp.Nodup)(ho:x'.o=x.o) :
 RdO K H' kR kB r bv {a with as:=m1++x'::m2} {st with bs:=l1++b'::l2}:=by
 have hb:=h.b
 rw[ea,eb] at hb
 obtain⟨k1,k2,k3⟩:=hb.split hl
 have tk:U1 H H':=wz4 bt fun p hp=>h.mut p (by
  simp only[RAd.fp,mem_cons,ea,Q7,P3,mem_append];exact .inr (.inr (.inr (.inr (.inr (.inl hp))))))
 obtain⟨a1,a2,a3,b1,b2,c1,d1,d2,d3,d4,e1⟩:=h.apart
 obtain⟨us,u1,u2⟩:=h.m
 obtain⟨vs,v1,v2⟩:=h.d
 rw[ea,Q7,P3] at d1 d2 d3 d4 e1
 have nf:∀ z,z∉fpA m1++(x.fp++fpA m2)->z∉x.fp:=fun z h1 h2=>h1 #[52,mem_append_left _ h2]
 rw[nodup_append,nodup_append] at e1
 obtain⟨e2,⟨e3,e4,e5⟩,e6⟩:=e1
 have f1:∀ z∈fpA m1,z∉x.fp:=fun z hz hx=>e6 z hz z (mem_append_left _ hx) rfl
 have f2:∀ z∈fpA m2,z∉x.fp:=fun z hz hx=>e5 z hx z hz rfl
 have old:∀ z∈RAd.fp r a,H z≠none:=h.dom
 have ins:∀ z,z∈r::a.L::a.M::a.A::(fpA m1++(x.fp++fpA m2))->H z≠none:=fun z hz=>old z (by unfold RAd.fp;rw[ea,Q7,P3];exact hz)
 have nx:∀ z,z∈r::a.L::a.M::a.A::(fpA m1++(x.fp++fpA m2))->z∉x.fp->z∉x'.fp:=fun z hz h1 h2=>(hf z h2).elim h1 (ins z hz)
 refine⟨h.kr,h.kb,bt _ _ h.o (nf _ d1),?_,(k1.but bt tk f1).app (.cons hB (k3.but bt tk f2)),⟨us,bt _ _ u1 (nf _ d3),Dvs.tupK tk _ _ (W1 Mnd.fix _) u2⟩,⟨vs,bt _ _ v1 (nf _ d4),Dvs.tupK tk _ _ (W1 Lad.fix _) v2⟩,?_⟩
 ·have:=bt _ _ h.l (nf _ d2)
  show H' a.L=_
  rw[this,ea]
  simp[ho]
 ·show(r::a.L::a.M::a.A::fpA (m1++x'::m2)).Nodup
  rw[Q7,P3]
  have g:∀ z,z∈r::a.L::a.M::a.A::(fpA m1++(x.fp++fpA m2))->z∉fpA m1++(x.fp++fpA m2)->z∉fpA m1++(x'.fp++fpA m2):=fun z hz h1 h2=>by
   rcases mem_append.mp h2 with h3|h3
   ·exact h1 (mem_append_left _ h3)
   ·rcases mem_append.mp h3 with h4|h4
    ·exact nx z hz (nf z h1) h4
    ·exact h1 #[52,mem_append_right _ h4]
  simp only[nodup_cons,mem_cons,not_or]
  refine⟨⟨a1,a2,a3,g _ (by simp) d1⟩,⟨b1,b2,g _ (by simp) d2⟩,⟨c1,g _ (by simp) d3⟩,g _ (by simp) d4,?_⟩
  rw[nodup_append,nodup_append]
  refine⟨e2,⟨hd,e4,fun p hp q hq e=>?_⟩,fun p hp q hq e=>?_⟩
  ·subst e
   exact nx p (by simp[hq]) (f2 p hq) hp
  ·subst e
   rcases mem_append.mp hq with h4|h4
   ·exact nx p (by simp[hp]) (f1 p hp) h4
   ·exact e6 p hp p #[52,h4] rfl
theorem zo8{m2:List BA}{x:BA}{z:Addr}(ea:a.as=m1++x::m2)(hz:z∈x.fp):z∈RAd.fp r a:=by
 simp only[RAd.fp,mem_cons,ea,Q7,P3,mem_append];exact .inr (.inr (.inr (.inr (.inr (.inl hz)))))
theorem Rup.swap{m2:List BA}{x:BA}(h:RdO K H kR kB r bv a st)(ea:a.as=m1++x::m2)(eb:st.bs=l1++b::l2)(hl:m1.length=l1.length)(bt:But x.fp H H')(hB:BrO K H' kB x' b')(hf:∀ z∈x'.fp,z∈x.fp\/H z=none)(hd:x'.fp.Nodup)(ho:x'.o=x.o) :
 Rup K kR kB r bv H a H' {a with as:=m1++x'::m2} {st with bs:=l1++b'::l2}:=by
 refine⟨h.swap ea eb hl bt hB hf hd ho,fun c o e n=>bt c o e fun hc=>n (zo8 ea hc),fun z hz=>?_⟩
 simp only[RAd.fp,Q7,P3,mem_cons,mem_append] at hz
 rcases hz with h1|h1|h1|h1|h1|h1|h1
 ·exact .inl (by simp[RAd.fp,h1])
 ·exact .inl (by simp[RAd.fp,h1])
 ·exact .inl (by simp[RAd.fp,h1])
 ·exact .inl (by simp[RAd.fp,h1])
 ·exact .inl (by simp[RAd.fp,ea,Q7,h1])
 ·exact(hf z h1).imp (fun h=>zo8 ea h) id
 ·exact .inl (by simp[RAd.fp,ea,Q7,P3,h1])
theorem RdO.pop{x:BA}{b:Brn}(h:RdO K H kR kB r bv a st)(ea:a.as=m1++[x])(eb:st.bs=l1++[b])(hl:m1.length=l1.length) :
 RdO K (upd H a.L (.lst (m1.map fun z=>V.ref z.o))) kR kB r bv {a with as:=m1} {st with bs:=l1}/\BrO K (upd H a.L (.lst (m1.map fun z=>V.ref z.o))) kB x b:=by
 have hb:=h.b
 rw[ea,eb] at hb
 obtain⟨k1,k2,_⟩:=hb.split hl
 obtain⟨a1,a2,a3,b1,b2,c1,d1,d2,d3,d4,e1⟩:=h.apart
 obtain⟨us,u1,u2⟩:=h.m
 obtain⟨vs,v1,v2⟩:=h.d
 have tk:U1 H (upd H a.L (.lst (m1.map fun z=>V.ref z.o))):=Q4 (.inl ⟨_,h.l⟩)
 rw[ea,Q7,P3] at d1 d2 d3 d4 e1
 have nL:∀ z∈fpA m1,z∉[a.L]:=fun z hz e=>d2 (by rw[mem_singleton.mp e] at hz;exact mem_append_left _ hz)
 have nL2:∀ z∈x.fp,z∉[a.L]:=fun z hz e=>d2 (by rw[mem_singleton.mp e] at hz;exact mem_append_right _ (mem_append_left _ hz))
 refine⟨⟨h.kr,h.kb,by rw[B5 a1];exact h.o,A8,k1.but But.upd1 tk nL,⟨us,by rw[B5 (Ne.symm b1)];exact u1,Dvs.tupK tk _ _ (W1 Mnd.fix _) u2⟩,⟨vs,by rw[B5 (Ne.symm b2)];exact v1,Dvs.tupK tk _ _ (W1 Lad.fix _) v2⟩,?_⟩,k2.but But.upd1 tk nL2⟩
 have:=h.nd
 unfold RAd.fp at this ⊢
 rw[ea,Q7] at this
 exact this.sublist (by
  refine List.Sublist.cons_cons _ (List.Sublist.cons_cons _ (List.Sublist.cons_cons _ (List.Sublist.cons_cons _ ?_)))
  exact sublist_append_left _ _)
theorem RdO.as_split{b:Brn}(h:RdO K H kR kB r bv a st)(eb:st.bs=l1++b::l2):∃ m1 x m2,a.as=m1++x::m2/\m1.length=l1.length/\BrO K H kB x b:=by
 have hb:=h.b
 rw[eb] at hb
 have hn:=hb.len
 rw[length_append,length_cons] at hn
 have e:a.as=a.as.take l1.length++a.as[l1.length]'#[0]::a.as.drop (l1.length+1):=by
  rw[List.getElem_cons_drop,take_append_drop]
 have hl:(a.as.take l1.length).length=l1.length:=by rw[length_take];omega
 rw[e] at hb
 exact⟨_,_,_,e,hl,(hb.split hl).2.1⟩
def BkO(K:Fg)(H:Hp)(v:V)(rs:List Row):Prop:=∃ p vs,v=.ref p/\SqT K H p vs/\Dvs K H (rs.map Row.da) vs
theorem BkO.rws(h:BkO K H v rs):Rws K H v rs:=by
 obtain⟨p,vs,rfl,h1,h2⟩:=h
 exact⟨p,vs,rfl,.inr h1,h2⟩
theorem BkO.tupK(h:BkO K H v rs)(tk:U1 H H'):BkO K H' v rs:=by
 obtain⟨p,vs,rfl,h1,h2⟩:=h
 exact⟨p,vs,rfl,tk.sqT h1,Dvs.tupK tk _ _ (xp8 rs) h2⟩
theorem BkO.same(h:BkO K H v rs)(s:A9 H H'):BkO K H' v rs:=h.tupK s.tupK
end
theorem Ah3(v:V):qm8 ("book":Str) v []=[(("book":Str),v)]:=rfl
theorem Ah4(n v:V):qm8 ("branches":Str) v [(("book":Str),n)]=[(("book":Str),n),(("branches":Str),v)]:=by
 show(if(("book":Str)) = "branches" then _ else _)=_
 rw[if_neg #[10]];rfl
theorem Ah5(n p v:V):qm8 ("mends":Str) v [(("book":Str),n),(("branches":Str),p)]=[(("book":Str),n),(("branches":Str),p),(("mends":Str),v)]:=by
 show(if(("book":Str)) = "mends" then _ else _::(if(("branches":Str)) = "mends" then _ else _))=_
 rw[if_neg #[10],if_neg #[10]];rfl
theorem Ah6(n p q v:V):qm8 ("laid":Str) v [(("book":Str),n),(("branches":Str),p),(("mends":Str),q)]=[(("book":Str),n),(("branches":Str),p),(("mends":Str),q),(("laid":Str),v)]:=by
 show(if(("book":Str)) = "laid" then _ else _::(if(("branches":Str)) = "laid" then _ else _::(if(("mends":Str)) = "laid" then _ else _)))=_
 rw[if_neg #[10],if_neg #[10],if_neg #[10]];rfl
theorem BrO.upd{p:Addr}{o:HO}{a:BA}(h:BrO K H kB a b)(hp:xp4 H p\/H p=none)(hn:p∉a.fp):BrO K (upd H p o) kB a b :=
 h.but But.upd1 (hp.elim Q4 fun e=>(A9.new e o).tupK) fun z hz e=>hn (by rw[mem_singleton.mp e] at hz;exact hz)
theorem E2{q:Addr}{u:HO}(h:H q=some u)(n:q≠p):upd H p o q=some u:=by rw[B5 n];exact h
theorem Z3{q:Addr}{u:HO}(h:H p=none)(e:H q=some u):q≠p:=fun z=>by rw[z,h] at e;cases e
theorem yg1(b:But ps H H')(hp:p∈ps\/H p=none):But ps H (upd H' p o):=fun z u e n=>by
 rw[B5 (fun y=>hp.elim (fun h=>n (by rw[y];exact h)) fun h=>by rw[y,h] at e;cases e)];exact b z u e n
abbrev qx0(K:Fg)(qA:Addr):TS :=
 (B9 (wk1 K (A7 0) (T8 (A3 (yk8 qA (U2 K) [] E0 (A3 (tC (.str "")) (A3 (X3 B1) B1))) B1)) "branches")
 (B9 (wk1 K (A7 0) (T8 B1) "mends")
 (wk1 K (A7 0) (T8 B1) "laid")))
def qa7(K:Fg):Sp:=fun vs H Q _=>∃ (kR r x:Addr) (bv:V),vs=[.ref r,bv]/\PySem.W.nsIn K mainGlobals "Reader"=some #[5,kR]/\H r=some (.ins kR x [])/\∀ (kB:Addr) (a:RAd) (H':Hp),RdO K H' kR kB r bv a ⟨[⟨"",[],[],[]⟩],[],[]⟩->But [r] H H'->(∀ z∈RAd.fp r a,z=r\/H z=none)->C4 H H'->Q .non H'
def W7(K:Fg)(qA:Addr):TS :=
 (B9 (wk1 K (A7 0) (A7 1) "book")
 (qx0 K qA))
theorem xf0(cz:Cz K qA qB)(h:qa7 K vs H Q E):W7 K qA {nx:=fun _ H'=>Q .non H',rt:=Q} (C9 ["self","book"] vs) H:=by
 obtain⟨kR,r,x,bv,rfl,hkR,hr,q⟩:=h
 obtain rfl:=N3 cz.ns_Reader hkR
 show W7 K _ _ [some (.ref r),some bv] H
 unfold W7
 have c:=cz.cl_Reader
 refine qf6 (ql9 ?_)
 lk
 refine⟨r,_,x,_,rfl,hr,c,cz.na_Reader_book,by simp,?_⟩
 rw[Ah3]
 have bt1:But [r] H (upd H r (.ins qB x [#[63]])):=But.upd1
 have g1:C4 H (upd H r (.ins qB x [#[63]])):=C4.upd
 have e1:(upd H r (.ins qB x [#[63]])) r=_:=A8
 generalize upd H r (.ins qB x [#[63]])=H1 at *
 show qx0 K _ _ _ _
 refine qf6 (ql9 ?_)
 lk
 refine ye5 ?_
 walk_at"14"
 have e2:=E2 (o:=.tup []) e1 (Z3 hp e1)
 have bt2:But [r] H (upd H1 p (.tup [])):=yg1 bt1 (.inr (g1 _ hp))
 have g2:C4 H (upd H1 p (.tup [])):=C4.tr g1 C4.upd
 have ep:SqT K (upd H1 p (.tup [])) p []:=SqT.of A8
 generalize upd H1 p (.tup [])=H2 at *
 lk
 intro o dx ho hdx ne
 have nor:r≠o:=Z3 ho e2
 have e3:#[34] r=_:=E2 (E2 e2 (Z3 hdx e2)) nor
 have bt3:But [r] H #[34]:=yg1 (yg1 bt2 (.inr (g2 _ hdx))) (.inr (g2 _ ho))
 have g3:C4 H #[34]:=C4.tr g2 (C4.tr C4.upd C4.upd)
 have s3:A9 H2 #[34]:=fun z u e=>E2 (E2 e (Z3 hdx e)) (Z3 ho e)
 have eo:#[34] o=some (.ins qA dx []):=A8
 generalize upd (upd H2 dx (.own o)) o (.ins qA dx [])=H3 at *
 refine⟨qA,o,dx,p, "",[],rfl,cz.ns_Branch,eo,s3.sqT ep,fun qq ww H4 hq hw hqw bt hB g4=>⟨rfl,?_⟩⟩
 have e4:H4 r=_:=bt _ _ e3 (by simp[nor])
 have bt4:But [r] H H4:=fun z u e n=>bt z u (bt3 z u e n) (by simp;intro y;rw[y] at e;have:=g2 _ ho;rw[e] at this;cases this)
 have g4':C4 H H4:=C4.tr g3 g4
 have nrq:r≠qq:=Z3 hq e3
 have nrw:r≠ww:=Z3 hw e3
 have noq:o≠qq:=Z3 hq eo
 have now:o≠ww:=Z3 hw eo
 have fp:BA.fp ⟨o,dx,p,qq,ww⟩=[o,qq,ww]:=rfl
 lk
 refine⟨D5 (by z_go),fun L hL=>?_⟩
 lk
 have nL:L∉BA.fp ⟨o,dx,p,qq,ww⟩:=fun hz=>by
  rcases(ql1.cons hB .nil).mut L (by rw[P3];exact mem_append_left _ hz) with⟨xs,e⟩|⟨C,d,fs,e⟩ <;> rw[hL] at e <;> cases e
 have hB5:=hB.upd (o:=.lst [.ref o]) (.inr hL) nL
 have e5:=E2 (o:=.lst [.ref o]) e4 (Z3 hL e4)
 have eL5:(upd H4 L (.lst [.ref o])) L=_:=A8
 have bt5:But [r] H (upd H4 L (.lst [.ref o])):=yg1 bt4 (.inr (g4' _ hL))
 have g5:C4 H (upd H4 L (.lst [.ref o])):=C4.tr g4' C4.upd
 have hLr:r≠L:=Z3 hL e4
 have hL0:=g4' _ hL
 generalize upd H4 L (.lst [.ref o])=H5 at *
 refine⟨r,_,x,_,rfl,e5,c,cz.na_Reader_branches,by simp,?_⟩
 rw[Ah4]
 have nr:r∉BA.fp ⟨o,dx,p,qq,ww⟩:=by rw[fp];simp[nor,nrq,nrw]
 have hB6:=hB5.upd (o:=.ins qB x [#[63],#[37]]) (.inl (.inr ⟨_,_,_,e5⟩)) nr
 have e6:(upd H5 r (.ins qB x [#[63],#[37]])) r=_:=A8
 have eL6:=E2 (o:=.ins qB x [#[63],#[37]]) eL5 (Ne.symm hLr)
 have bt6:But [r] H (upd H5 r (.ins qB x [#[63],#[37]])):=yg1 bt5 (.inl (by simp))
 have g6:C4 H (upd H5 r (.ins qB x [#[63],#[37]])):=C4.tr g5 C4.upd
 generalize upd H5 r (.ins qB x [#[63],#[37]])=H6 at *
 show B9 (wk1 K (A7 0) (T8 B1) "mends") _ _ _ _
 refine qf6 (ql9 ?_)
 lk
 refine⟨D5 (by z_go),fun M hM=>?_⟩
 lk
 have nM:M∉BA.fp ⟨o,dx,p,qq,ww⟩:=fun hz=>by
  rcases(ql1.cons hB6 .nil).mut M (by rw[P3];exact mem_append_left _ hz) with⟨xs,e⟩|⟨C,d,fs,e⟩ <;> rw[hM] at e <;> cases e
 have hB7:=hB6.upd (o:=.lst []) (.inr hM) nM
 have hMr:r≠M:=Z3 hM e6
 have hML:L≠M:=Z3 hM eL6
 have hM0:=g6 _ hM
 refine⟨r,_,x,_,rfl,E2 e6 hMr,c,cz.na_Reader_mends,by simp,?_⟩
 rw[Ah5]
 have e8:(upd (upd H6 M (.lst [])) r (.ins qB x [#[63],#[37],(("mends":Str),.ref M)])) r=_:=A8
 have eL8:=E2 (o:=.ins qB x [#[63],#[37],(("mends":Str),.ref M)]) (E2 (o:=.lst []) eL6 hML) (Ne.symm hLr)
 have eM8:=E2 (o:=.ins qB x [#[63],#[37],(("mends":Str),.ref M)]) (A8 (H:=H6) (a:=M) (o:=.lst [])) (Ne.symm hMr)
 have hB8:=hB7.upd (o:=.ins qB x [#[63],#[37],(("mends":Str),.ref M)]) (.inl (.inr ⟨_,_,_,E2 e6 hMr⟩)) nr
 have bt8:But [r] H (upd (upd H6 M (.lst [])) r (.ins qB x [#[63],#[37],(("mends":Str),.ref M)])):=yg1 (yg1 bt6 (.inr hM0)) (.inl (by simp))
 have g8:C4 H (upd (upd H6 M (.lst [])) r (.ins qB x [#[63],#[37],(("mends":Str),.ref M)])):=C4.tr g6 (C4.tr C4.upd C4.upd)
 generalize upd (upd H6 M (.lst [])) r (.ins qB x [#[63],#[37],(("mends":Str),.ref M)])=H8 at *
 show wk1 K (A7 0) (T8 B1) "laid" _ _ _
 refine ql9 ?_
 lk
 refine⟨D5 (by z_go),fun A hA=>?_⟩
 lk
 have nA:A∉BA.fp ⟨o,dx,p,qq,ww⟩:=fun hz=>by
  rcases(ql1.cons hB8 .nil).mut A (by rw[P3];exact mem_append_left _ hz) with⟨xs,e⟩|⟨C,d,fs,e⟩ <;> rw[hA] at e <;> cases e
 have hB9:=hB8.upd (o:=.lst []) (.inr hA) nA
 have hAr:r≠A:=Z3 hA e8
 have hAL:L≠A:=Z3 hA eL8
 have hAM:M≠A:=Z3 hA eM8
 have hA0:=g8 _ hA
 refine⟨r,_,x,_,rfl,E2 e8 hAr,c,cz.na_Reader_laid,by simp,?_⟩
 rw[Ah6]
 have hB10:=hB9.upd (o:=.ins qB x [#[63],#[37],(("mends":Str),.ref M),(("laid":Str),.ref A)]) (.inl (.inr ⟨_,_,_,E2 e8 hAr⟩)) nr
 refine q qA ⟨x,L,M,A,[⟨o,dx,p,qq,ww⟩]⟩ _ ⟨cz.ns_Reader,cz.ns_Branch,A8,E2 (E2 eL8 hAL) (Ne.symm hLr),.cons hB10 .nil,⟨[],E2 (E2 eM8 hAM) (Ne.symm hMr),G9⟩,⟨[],E2 A8 (Ne.symm hAr),G9⟩,?_⟩ (yg1 (yg1 bt8 (.inr hA0)) (.inl (by simp))) ?_ (C4.tr g8 (C4.tr C4.upd C4.upd))
 ·show(r::L::M::A::fpA [⟨o,dx,p,qq,ww⟩]).Nodup
  have ef:fpA [⟨o,dx,p,qq,ww⟩]=[o,qq,ww]:=rfl
  rw[fp] at nL nM nA
  simp only[mem_cons,not_mem_nil,or_false,not_or] at nL nM nA
  rw[ef]
  simp[hLr,hMr,hAr,nor,nrq,nrw,hML,hAL,hAM,nL.1,nL.2.1,nL.2.2,nM.1,nM.2.1,nM.2.2,nA.1,nA.2.1,nA.2.2,noq,now,hqw]
 ·intro z hz
  have hz':z∈r::L::M::A::[o,qq,ww]:=hz
  simp only[mem_cons,not_mem_nil,or_false] at hz'
  rcases hz' with h1|h1|h1|h1|h1|h1|h1
  ·exact .inl h1
  ·exact .inr (h1▸hL0)
  ·exact .inr (h1▸hM0)
  ·exact .inr (h1▸hA0)
  ·exact .inr (h1▸g2 _ ho)
  ·exact .inr (h1▸g3 _ hq)
  ·exact .inr (h1▸g3 _ hw)
theorem xf1(h:0<=m):qg5 xs (some m) none=xs.drop m.toNat:=by
 unfold qg5
 have e:HT.sIx xs.length 0 (some m)=min m.toNat xs.length:=by
  show(if m<0 then _ else min m.toNat xs.length)=_
  rw[if_neg #[0]]
 show(xs.drop (HT.sIx xs.length 0 (some m))).take (xs.length-HT.sIx xs.length 0 (some m))=_
 rw[e]
 by_cases hl:m.toNat<=xs.length
 ·rw[Nat.min_eq_left hl,take_of_length_le (by rw[length_drop];exact Nat.le_refl _)]
 ·rw[Nat.min_eq_right #[0],drop_length,drop_eq_nil_of_le #[0],take_nil]
theorem qt6{l:List α}{i:Nat}{x:α}(h:l[i]?=some x):l.take (i+1)=l.take i++[x]:=by rw[take_succ,h];rfl
theorem Ab0{x:α}{xs:List α}:atI (x::xs) 0=some x:=by
 have:atI (x::xs) ((0:Nat):Int)=some x:=D3 rfl
 exact this
section
variable{kB:Addr}
theorem ql1.get{as:List BA}{bs:List Brn}{i:Nat}{x:BA}(h:ql1 K H kB as bs)(e:as[i]?=some x):∃ b,bs[i]?=some b/\BrO K H kB x b:=by
 induction h generalizing i with
 | nil=>simp at e
 | cons h1 _ ih =>
   cases i with
   | zero=>simp at e;subst e;exact⟨_,rfl,h1⟩
   | succ i=>exact ih (by simpa using e)
end
def qa8(K:Fg):Sp:=fun vs H Q _=>∃ (kR kB r:Addr) (bv:V) (a:RAd) (st:Rst) (b0:Brn) (bs:List Brn),vs=[.ref r]/\RdO K H kR kB r bv a st/\st.bs=b0::bs/\∀ (v:V) (H':Hp),A9 H H'->Dv K H' (Tr.nd "" b0.ps).da v->Q v H'
def W8(K:Fg):TS :=
 (E3 (X3 (A3 (tC (.str "")) (A3 (tCB (qa3 K) (A3 (R4 K (tOp (D2 K) (R4 K (A7 0) "branches") #[1,0]) "parts") B1)) B1))))
theorem xf2(cz:Cz K qA qB)(h:qa8 K vs H Q E):W8 K {nx:=fun _ H'=>Q .non H',rt:=Q} (C9 ["self"] vs) H:=by
 obtain⟨kR,kB,r,bv,a,st,b0,bs,rfl,h,eb,q⟩:=h
 walk_at"4"
 show W8 K _ [some (.ref r)] H
 unfold W8
 obtain⟨m1,x,m2,ea,hm,hx⟩:=h.as_split (l1:=[]) eb
 obtain rfl:=eq_nil_of_length_eq_zero hm
 obtain⟨us,q1,q2⟩:=hx.q
 lk
 refine G0 ?_
 walk_at"2"
 lk
 refine L7 #[59,h.l] (v:=.ref x.o) (by rw[ea];exact Ab0) ?_
 walk_at"10"
 refine⟨_,_,rfl,.inl ⟨SqL.of q1,fun l hl=>?_⟩⟩
 walk_at"14"
 have s1:=A9.new hl (.tup us)
 have s2:=A9.new hp (.tup [.str "",.ref l])
 refine q _ _ (A9.tr s1 s2) (yn8 (SqT.of A8) (s2.sqT (SqT.of A8)) (Dvs.same (A9.tr s1 s2) _ _ q2))
def D8(K:Fg):Sp:=fun vs H Q _=>∃ (kR kB r:Addr) (bv:V) (a:RAd) (st:Rst) (b0:Brn) (bs:List Brn),vs=[.ref r]/\RdO K H kR kB r bv a st/\st.bs=b0::bs/\bs.length<=1000/\∀ (p:Addr) (H':Hp),A9 H H'->SqT K H' p (B4 (bs.map Brn.n))->Q (.ref p) H'
def Q9(K:Fg):TS :=
 (E3 (tCB (qa3 K) (A3 (qq1 [none] (qq7 K (tSl (wu7 K) (R4 K (A7 0) "branches") (Y3 #[1,1]) qg8)) (B3 0) tTT (R4 K (A7 0) "name")) B1)))
theorem wf3(cz:Cz K qA qB)(h:D8 K vs H Q E):Q9 K {nx:=fun _ H'=>Q .non H',rt:=Q} (C9 ["self"] vs) H:=by
 obtain⟨kR,kB,r,bv,a,st,b0,bs,rfl,h,eb,hl,q⟩:=h
 walk_at"4"
 show Q9 K _ [some (.ref r)] H
 unfold Q9
 obtain⟨m1,x,m2,ea,hm,hx⟩:=h.as_split (l1:=[]) eb
 obtain rfl:=eq_nil_of_length_eq_zero hm
 have hb:=h.b
 rw[ea,eb] at hb
 obtain⟨_,_,hb2⟩:=hb.split (m1:=[]) (l1:=[]) rfl
 have hbl:=hb2.len
 walk_at"2"
 lk
 refine yz3 #[59,h.l] fun p hp=>?_
 have ecut:qg5 (a.as.map fun z=>V.ref z.o) (some 1) none=m2.map fun z=>V.ref z.o:=by
  rw[xf1 #[10],ea];rfl
 rw[ecut]
 have s1:=A9.new hp (.lst (m2.map fun z=>V.ref z.o))
 have e1:#[42,m2.map fun z=>V.ref z.o] p=_:=A8
 generalize upd H p (.lst (m2.map fun z=>V.ref z.o))=H1 at *
 refine yl7 (.inl #[59,e1]) (fun i ys H'=>H'=H1/\ys=B4 ((bs.take i).map Brn.n)) ⟨rfl,rfl⟩ ?_ ?_ ?_ ?_ ?_
 ·rintro i ys H' hi ⟨_,rfl⟩
  rw[B7,length_map,length_take]
  exact D5 #[0]
 ·rintro _ i ys H' _ ⟨rfl,_⟩;exact SqL.of e1
 ·rintro hq i ys H' _ ⟨rfl,_⟩;exact hq
 ·rintro i v ys H' hi ⟨rfl,rfl⟩
  rw[List.getElem?_map] at hi
  obtain⟨z,hz,rfl⟩:=Option.map_eq_some_iff.mp hi
  obtain⟨c,hc,hB⟩:=hb2.get hz
  refine D6 ?_
  walk_at"23"
  refine⟨z.o,_,z.x,_,_,rfl,s1 _ _ hB.o,cz.cl_Branch,cz.na_Branch_name,rfl,?_⟩
  refine⟨rfl,?_⟩
  rw[qd7,qt6 hc,map_append];rfl
 ·rintro ys H' ⟨rfl,rfl⟩ l hl2
  have en:bs.take (m2.map fun z=>V.ref z.o).length=bs:=by rw[length_map,hbl];exact take_length
  rw[en]
  have s2:=A9.new hl2 #[24,bs.map Brn.n]
  lk
  refine⟨_,_,rfl,.inl ⟨SqL.of A8,fun w hw=>?_⟩⟩
  lk
  exact q _ _ (A9.tr (A9.tr s1 s2) #[36,hw]) (SqT.of A8)
abbrev qt7(K:Fg):TS :=
 (G5 (tBM K "list" M3 (R4 K (tOp (D2 K) (R4 K (A7 0) "branches") #[12]) "parts") (A3 (X3 (A3 (R4 K (A7 1) "name") (A3 (tCB (qa3 K) (A3 (R4 K (A7 1) "parts") B1)) B1))) B1)))
def O9(K:Fg):Sp:=fun vs H Q _=>∃ (kR kB r:Addr) (bv:V) (a:RAd) (st:Rst) (bs:List Brn) (b1 b2:Brn),vs=[.ref r]/\RdO K H kR kB r bv a st/\st.bs=bs++[b1,b2]/\b1.ps.length<=9000000/\∀ a' H',Rup K kR kB r bv H a H' a' {st with bs:=bs++[{b1 with ps:=b1.ps++[Tr.nd b2.n b2.ps]}]}->C4 H H'->Q .non H'
def U7(K:Fg):TS :=
 (B9 (C8 (yd3 K "list" yd4 (R4 K (A7 0) "branches")) (B3 1))
 (qt7 K))
theorem xa6(cz:Cz K qA qB)(h:O9 K vs H Q E):U7 K {nx:=fun _ H'=>Q .non H',rt:=Q} (C9 ["self","branch"] vs) H:=by
 obtain⟨kR,kB,r,bv,a,st,bs,b1,b2,rfl,h,eb,hl,q⟩:=h
 walk_at"4"
 show U7 K _ [some (.ref r),none] H
 unfold U7
 have eb2:st.bs=(bs++[b1])++b2::[]:=by rw[eb];simp
 obtain⟨m,y,m3,ea,hm,hy⟩:=h.as_split eb2
 have hn:=h.b.len
 rw[ea,eb2] at hn
 simp only[length_append,length_cons,length_nil] at hn hm
 obtain rfl:m3=[]:=eq_nil_of_length_eq_zero #[0]
 have hm':m.length=(bs++[b1]).length:=by simp[hm]
 obtain⟨h1,hy1⟩:=h.pop ea eb2 hm'
 have bt1:But (RAd.fp r a) H (upd H a.L (.lst (m.map fun z=>V.ref z.o))):=fun z u e n=>E2 e fun y=>n (by rw[y];simp[RAd.fp])
 have hL:=h.l
 rw[ea,map_append] at hL
 have g1:C4 H (upd H a.L (.lst (m.map fun z=>V.ref z.o))):=C4.upd
 have fy:∀ z∈y.fp,z∉fpA m:=fun z hz hx=>by
  have:=h.apart.2.2.2.2.2.2.2.2.2.2
  rw[ea,Q7,nodup_append] at this
  exact this.2.2 z hx z (by rw[P3];exact mem_append_left _ hz) rfl
 have fr1:∀ z∈RAd.fp r {a with as:=m},z∈RAd.fp r a:=fun z hz=>by
  simp only[RAd.fp,mem_cons,ea,Q7,mem_append] at hz ⊢
  rcases hz with h|h|h|h|h
  ·exact .inl h
  ·exact .inr (.inl h)
  ·exact .inr (.inr (.inl h))
  ·exact .inr (.inr (.inr (.inl h)))
  ·exact .inr (.inr (.inr (.inr (.inl h))))
 walk_at"2"
 lk
 refine⟨.inl ⟨rfl,_,SqL.of hL⟩,?_⟩
 refine yz4 hL ?_
 generalize upd H a.L (.lst (m.map fun z=>V.ref z.o))=H1 at *
 lk
 show qt7 K _ _ _
 have e1:({st with bs:=bs++[b1]}:Rst).bs=bs++b1::[]:=rfl
 obtain⟨m1,x,m2,ea2,hm2,hx⟩:=h1.as_split e1
 have ea2':m=m1++x::m2:=ea2
 obtain rfl:m2=[]:=eq_nil_of_length_eq_zero (by have:=congrArg List.length ea2';simp at this;omega)
 obtain⟨us,q1,q2⟩:=hx.q
 obtain⟨ws,p1,p2⟩:=hy1.q
 have hul:=qm0 q2
 have h1l:H1 a.L=_:=h1.l
 have h1o:H1 r=_:=h1.o
 walk_at"23"
 refine G0 ?_
 lk
 refine⟨r,_,a.x,_,_,rfl,h1o,cz.cl_Reader,cz.na_Reader_branches,rfl,?_⟩
 walk_at"21"
 refine L7 #[59,h1l] (v:=.ref x.o) (qe8 (n:=m1.length) (by show(m.map _).length=_;rw[ea2'];simp) (by show(m.map _)[_]?=_;rw[ea2'];simp)) ?_
 walk_at"10"
 refine⟨.inl ⟨rfl,_,SqL.of q1⟩,?_⟩
 walk_at"23"
 refine⟨y.o,_,y.x,_,_,rfl,hy1.o,cz.cl_Branch,cz.na_Branch_name,rfl,?_⟩
 walk_at"23"
 refine⟨y.o,_,y.x,_,_,rfl,hy1.o,cz.cl_Branch,cz.na_Branch_parts,rfl,?_⟩
 lk
 refine⟨_,_,rfl,.inl ⟨SqL.of p1,fun l hl=>?_⟩⟩
 walk_at"14"
 have s2:=A9.new hl (.tup ws)
 have s3:=A9.new hp (.tup [.str b2.n,.ref l])
 have s23:=A9.tr s2 s3
 have dt:Dv K _ (Tr.nd b2.n b2.ps).da (.ref p):=yn8 (SqT.of (A8 (H:=upd H1 l (.tup ws)) (a:=p) (o:=.tup [.str b2.n,.ref l]))) (s3.sqT (SqT.of A8)) (Dvs.same s23 _ _ p2)
 generalize upd (upd H1 l (.tup ws)) p (.tup [.str b2.n,.ref l])=H2 at *
 lk
 refine M1 (s23 _ _ q1) (by rw[hul,sizeLine_eq];omega) ?_
 have h2:=h1.same s23
 have xq:x.q∈x.fp:=by simp[BA.fp]
 have bt3:But x.fp H2 (upd H2 x.q (.lst (us++[.ref p]))):=fun z u e n=>E2 e fun y=>n (by rw[y];exact xq)
 have xnd:x.fp.Nodup:=by
  have:=h1.apart.2.2.2.2.2.2.2.2.2.2
  rw[show({a with as:=m}:RAd).as=m from rfl,ea2',Q7,P3,nodup_append,nodup_append] at this
  exact this.2.1.1
 have hx2:=(hx.but (ps:=[]) (fun z u e _=>s23 z u e) s23.tupK fun _ _ z=>by cases z)
 have tk3:U1 H2 (upd H2 x.q (.lst (us++[.ref p]))):=Q4 (.inl ⟨_,s23 _ _ q1⟩)
 have no:x.o≠x.q:=by simp[BA.fp] at xnd;exact xnd.1.1
 have nw:x.w≠x.q:=by simp[BA.fp] at xnd;exact Ne.symm xnd.2
 have hB:BrO K (upd H2 x.q (.lst (us++[.ref p]))) qA x {b1 with ps:=b1.ps++[Tr.nd b2.n b2.ps]} :=
  ⟨E2 hx2.o no,tk3.sqT hx2.p,⟨_,A8,by
   show Dvs K _ (Tr.das (b1.ps++[Tr.nd b2.n b2.ps])) _
   rw[X7,map_append,<-X7]
   exact Dvs.append (Dvs.tupK tk3 _ _ (qa5 _) (Dvs.same s23 _ _ q2)) (Dvs.one (Dv.tupK tk3 _ _ (zn2 _) dt))⟩,E2 hx2.w nw⟩
 have u:=Rup.swap h2 ea2 e1 hm2 bt3 hB (fun z hz=>.inl hz) xnd rfl
 refine q _ _ ⟨u.ok,fun c o e n=>?_,fun z hz=>?_⟩ (C4.tr (C4.tr g1 (A9.grow s23)) C4.upd)
 ·exact bt3 c o (s23 _ _ (bt1 c o e n)) fun hc=>n (fr1 c (zo8 ea2 hc))
 ·exact(u.fr z hz).imp (fr1 z) fun h=>g1 z (A9.grow s23 z h)
theorem yw5 {n:Option Str} (h:Q (.bl (decide (n=some x))) H):P9 K (oV n) (.str x) H Q:=by
 cases n with
 | none => refine yl9 rfl ?_;have e:(decide (oV none=V.str x))=decide (none=some x):=by simp[oV]
           rw[e];exact h
 | some y => refine yl9 rfl ?_;have e:(decide (oV (some y)=V.str x))=decide (some y=some x):=by simp[oV]
             rw[e];exact h
section
variable{kR kB r:Addr}{bv:V}{a:RAd}{st:Rst}
theorem Rup.mend{e:Int}(h:RdO K H kR kB r bv a st)(s1:A9 H H1)(e1:SqT K H1 p [.int i,.int e,.str t,.str rule])(m2:Dvs K H (st.ms.map Mnd.da) us) :
 Rup K kR kB r bv H a (upd H1 a.M (.lst (us++[.ref p]))) a {st with ms:=st.ms++[⟨i,e,t,rule⟩]}:=by
 refine .keep ((h.same s1).setM ?_) fun c o e n=>?_
 ·rw[map_append]
  exact Dvs.append (Dvs.same s1 _ _ m2) (Dvs.one (D9.mpr ⟨p,_,rfl,e1,C7 (P1.mpr rfl) (C7 (P1.mpr rfl) (C7 (G7.mpr rfl) (C7 (G7.mpr rfl) G9)))⟩))
 ·rw[B5 (fun z=>n (by rw[z];simp[RAd.fp]))];exact s1 c o e
theorem RdO.ms_len(m2:Dvs K H (st.ms.map Mnd.da) us):us.length=st.ms.length:=by have:=m2.length;rw[length_map] at this;exact this
end
def O2(K:Fg):Sp:=fun vs H Q _=>∃ (kR kB r:Addr) (bv:V) (a:RAd) (st:Rst) (n:Str) (i:Int) (rule:Str) (bs:List Brn) (b0:Brn),vs=[.ref r,.str n,.int i,.str rule]/\RdO K H kR kB r bv a st/\st.bs=bs++[b0]/\bs.length<=1000/\b0.pl.length<=1000/\b0.ps.length<=9000000/\st.ms.length<=9000000/\n.length<=4000/\∀ a' H',Rup K kR kB r bv H a H' a' {st with bs:=st.bs++[⟨n,b0.pl++[(b0.ps.length:Int)],[],[]⟩],ms:=st.ms++[⟨i,i,opn n,rule⟩]}->C4 H H'->Q .non H'
def S7(K:Fg)(qB:Addr):TS :=
 (B9 (G5 (tBM K "list" M3 (R4 K (A7 0) "mends") (A3 (X3 (A3 (A7 2) (A3 (A7 2) (A3 (C3 (qm2 K) [] E0 #[3,1]) #[3,3])))) B1)))
 (G5 (N6 qB "enter" (S4 K) [] E0 (A7 0) #[3,1])))
theorem wv5(cz:Cz K qA qB)(h:O2 K vs H Q E):S7 K qB {nx:=fun _ H'=>Q .non H',rt:=Q} (C9 ["self","name","start","rule"] vs) H:=by
 obtain⟨kR,kB,r,bv,a,st,n,i,rule,bs,b0,rfl,h,eb,h1,h2,h3,h4,h5,q⟩:=h
 obtain rfl:=N3 cz.ns_Reader h.kr
 show S7 K _ _ [some (.ref r),some (.str n),some (.int i),some (.str rule)] H
 unfold S7
 obtain⟨us,m1,m2⟩:=h.m
 have hul:=RdO.ms_len m2
 walk_at"23"
 refine⟨r,_,a.x,_,_,rfl,h.o,cz.cl_Reader,cz.na_Reader_mends,rfl,?_⟩
 lk
 refine⟨.inl ⟨rfl,_,SqL.of m1⟩,?_⟩
 lk
 refine⟨n,rfl,h5,?_⟩
 walk_at"14"
 lk
 have s1:=A9.new hp (.tup [.int i,.int i,.str (opn n),.str rule])
 refine M1 (s1 _ _ m1) (by rw[hul,sizeLine_eq];omega) ?_
 have u1:=Rup.mend h s1 (SqT.of A8) m2
 have g1:C4 H (upd (upd H p (.tup [.int i,.int i,.str (opn n),.str rule])) a.M (.lst (us++[.ref p]))):=C4.tr C4.upd C4.upd
 generalize upd (upd H p (.tup [.int i,.int i,.str (opn n),.str rule])) a.M (.lst (us++[.ref p]))=H1 at *
 walk_at"26"
 refine⟨r,_,_,rfl,u1.ok.o,rfl,?_⟩
 lk
 refine⟨qB,kB,r,bv,a,_,n,bs,b0,rfl,u1.ok,eb,h1,h2,h3,fun a' H' u2 g2=>?_⟩
 exact q a' H' (u1.tr u2 g1) (C4.tr g1 g2)
def P0(K:Fg):Sp:=fun vs H Q _=>∃ (kR kB r:Addr) (bv:V) (a:RAd) (st:Rst) (b0:Brn) (bs:List Brn) (rs:List Row),vs=[.ref r]/\RdO K H kR kB r bv a st/\BkO K H bv rs/\st.bs=b0::bs/\bs.length<=1000/\∀ H':Hp,A9 H H'->Q (.bl (decide (E8 rs (some (G8 (bs.map Brn.n)))=some #[15]))) H'
def N4(K:Fg)(qB:Addr):TS :=
 (E3 (tOp (P9 K) (C3 (Y7 K) [] E0 (A3 (R4 K (A7 0) "book") (A3 (C3 (O7 K) [] E0 (A3 #[70] B1)) B1))) (tC (.str "frame"))))
theorem wb2(cz:Cz K qA qB)(h:P0 K vs H Q E):N4 K qB {nx:=fun _ H'=>Q .non H',rt:=Q} (C9 ["self"] vs) H:=by
 obtain⟨kR,kB,r,bv,a,st,b0,bs,rs,rfl,h,hk,eb,hl,q⟩:=h
 obtain rfl:=N3 cz.ns_Reader h.kr
 show N4 K _ _ [some (.ref r)] H
 unfold N4
 walk_at"9"
 walk_at"3"
 refine⟨qB,kB,r,bv,a,st,b0,bs,rfl,h,eb,hl,fun p H1 s1 hp=>?_⟩
 lk
 refine⟨p,_,rfl,.inr hp,?_⟩
 lk
 refine⟨bv,some (G8 (bs.map Brn.n)),rs,rfl,(hk.same s1).rws,?_⟩
 lk
 refine yw5 ?_
 exact q _ s1
theorem xj2{f:α->Bool}:∀ {l zs:List α} {z:α},l.filter f=zs++[z]->∃ A B,l=A++z::B/\f z=true/\∀ c∈B,f c=false:=by
 intro l
 induction l with
 | nil=>intro zs z h;simp at h
 | cons x l ih =>
   intro zs z h
   by_cases hx:f x=true
   ·rw[filter_cons_of_pos hx] at h
    cases zs with
    | nil =>
      simp only[nil_append,List.cons.injEq] at h
      obtain⟨rfl,h⟩:=h
      exact⟨[],l,rfl,hx,fun c hc=>Bool.eq_false_iff.mpr (filter_eq_nil_iff.mp h c hc)⟩
    | cons y zs =>
      simp only[cons_append,List.cons.injEq] at h
      obtain⟨A,B,e,h1,h2⟩:=ih h.2
      exact⟨x::A,B,by rw[e];rfl,h1,h2⟩
   ·rw[filter_cons_of_neg hx] at h
    obtain⟨A,B,e,h1,h2⟩:=ih h
    exact⟨x::A,B,by rw[e];rfl,h1,h2⟩
theorem Ab1{c:Bool}{p q:Prop}(hc:c=true)(h:p):if c=true then p else q:=by rw[if_pos hc];exact h
def LwP(rs:List Row)(l1:List Brn)(b:Brn)(l2:List Brn):Prop:=(S5 rs b.n=true/\∀ c∈l2,S5 rs c.n=false)\/(l1=[]/\∀ c∈b::l2,S5 rs c.n=false)
abbrev qh6(K:Fg):TS :=
 (E3 (tIf (C5 (tOp wq9 (tCB (O3 K) #[3,1]) #[1,0])) #[44,1] (tOp (D2 K) (R4 K (A7 0) "branches") #[1,0])))
def L9(K:Fg):Sp:=fun vs H Q _=>∃ (kR kB r:Addr) (bv:V) (a:RAd) (st:Rst) (rs:List Row),vs=[.ref r]/\RdO K H kR kB r bv a st/\BkO K H bv rs/\st.bs≠[]/\st.bs.length<=1000/\∀ (m1 m2:List BA) (x:BA) (l1 l2:List Brn) (b:Brn) (H':Hp),A9 H H'->a.as=m1++x::m2->st.bs=l1++b::l2->m1.length=l1.length->LwP rs l1 b l2->Q (.ref x.o) H'
def S8(K:Fg):TS :=
 (B9 (C8 (qq1 [some 0,none] (qq7 K (R4 K (A7 0) "branches")) (B3 1) (tB (C3 (qf8 K) [] E0 (A3 (R4 K (A7 0) "book") (A3 (R4 K (A7 1) "name") B1)))) (A7 1)) (B3 1))
 (qh6 K))
theorem wj3(cz:Cz K qA qB)(h:L9 K vs H Q E):S8 K {nx:=fun _ H'=>Q .non H',rt:=Q} (C9 ["self","walls"] vs) H:=by
 obtain⟨kR,kB,r,bv,a,st,rs,rfl,h,hk,hne,hl,q⟩:=h
 walk_at"4"
 show S8 K _ [some (.ref r),none] H
 unfold S8
 have hb:=h.b
 have hbl:=hb.len
 let f:BA×Brn->Bool:=fun z=>S5 rs z.2.n
 have zl:(a.as.zip st.bs).length=st.bs.length:=by rw[length_zip,hbl,Nat.min_self]
 have zg:∀ i x,a.as[i]?=some x->∃ c,st.bs[i]?=some c/\BrO K H qA x c/\(a.as.zip st.bs)[i]?=some (x,c):=fun i x e=>by
  obtain⟨c,h1,h2⟩:=hb.get e
  exact⟨c,h1,h2,List.getElem?_zip_eq_some.mpr ⟨e,h1⟩⟩
 walk_at"2"
 refine yl7 (.inl #[59,h.l]) (fun i ys H'=>H'=H/\ys=((((a.as.zip st.bs).take i).filter f).map fun z=>V.ref z.1.o)) ⟨rfl,rfl⟩ ?_ ?_ ?_ ?_ ?_
 ·rintro i ys H' hi ⟨_,rfl⟩
  rw[length_map]
  have:=length_filter_le f ((a.as.zip st.bs).take i)
  rw[length_take] at this
  exact D5 #[0]
 ·rintro _ i ys H' _ ⟨rfl,_⟩;exact SqL.of h.l
 ·rintro hq i ys H' _ ⟨rfl,_⟩;exact hq
 ·rintro i v ys H' hi ⟨rfl,rfl⟩
  rw[List.getElem?_map] at hi
  obtain⟨z,hz,rfl⟩:=Option.map_eq_some_iff.mp hi
  obtain⟨c,hc,hB,hzz⟩:=zg i z hz
  refine D6 ?_
  walk_at"9"
  walk_at"23"
  refine⟨z.o,_,z.x,_,_,rfl,hB.o,cz.cl_Branch,cz.na_Branch_name,rfl,?_⟩
  lk
  refine⟨bv,c.n,rs,rfl,hk.rws,?_⟩
  lk
  have et:((a.as.zip st.bs).take (i+1)).filter f=((a.as.zip st.bs).take i).filter f++(if S5 rs c.n=true then[(z,c)] else[]):=by
   rw[qt6 hzz,filter_append]
   congr 1
   by_cases hw:S5 rs c.n=true
   ·rw[if_pos hw,filter_cons_of_pos (by exact hw)];rfl
   ·rw[if_neg hw,filter_cons_of_neg (by exact hw)];rfl
  by_cases hw:S5 rs c.n=true
  ·rw[hw]
   x_go
   lk
   refine⟨rfl,?_⟩
   rw[et,if_pos hw,map_append];rfl
  ·rw[Bool.eq_false_iff.mpr hw]
   refine qg6 ⟨rfl,?_⟩
   rw[et,if_neg hw,append_nil]
 ·rintro ys H' ⟨rfl,rfl⟩ l hl2
  have en:(a.as.zip st.bs).take (a.as.map fun z=>V.ref z.o).length=a.as.zip st.bs:=by rw[length_map,hbl,<-zl];exact take_length
  rw[en]
  have s1:=A9.new hl2 (.lst (((a.as.zip st.bs).filter f).map fun z=>V.ref z.1.o))
  have e1:(upd H' l (.lst (((a.as.zip st.bs).filter f).map fun z=>V.ref z.1.o))) l=_:=A8
  generalize upd H' l (.lst (((a.as.zip st.bs).filter f).map fun z=>V.ref z.1.o))=H1 at *
  have am:(a.as.zip st.bs).map Prod.fst=a.as:=map_fst_zip #[0]
  have bm:(a.as.zip st.bs).map Prod.snd=st.bs:=map_snd_zip #[0]
  show qh6 K _ _ _
  lk
  refine N8 (.inl #[59,e1]) ?_
  lk
  rcases eq_nil_or_concat ((a.as.zip st.bs).filter f) with hz|⟨zs,z,hz⟩
  ·rw[hz]
   k_go
   walk_at"23"
   refine⟨r,_,a.x,_,_,rfl,s1 _ _ h.o,cz.cl_Reader,cz.na_Reader_branches,rfl,?_⟩
   lk
   obtain⟨b0,bs,eb⟩:=exists_cons_of_ne_nil hne
   obtain⟨m1,x,m2,ea,hm,hx⟩:=h.as_split (l1:=[]) eb
   obtain rfl:=eq_nil_of_length_eq_zero hm
   refine L7 #[59,s1 _ _ h.l] (v:=.ref x.o) (by rw[ea];exact Ab0) ?_
   refine q [] m2 x [] bs b0 _ s1 ea eb rfl (.inr ⟨rfl,fun c hc=>?_⟩)
   rw[<-eb,<-bm] at hc
   obtain⟨w,hw,rfl⟩:=mem_map.mp hc
   have:=filter_eq_nil_iff.mp hz w hw
   exact Bool.eq_false_iff.mpr this
  ·rw[concat_eq_append] at hz
   rw[hz] at e1 ⊢
   refine Ab1 (by simp) ?_
   walk_at"21"
   refine L7 #[59,e1] (v:=.ref z.1.o) (qe8 (n:=zs.length) (by simp) (by simp)) ?_
   obtain⟨A,B,e2,e3,e4⟩:=xj2 hz
   refine q (A.map Prod.fst) (B.map Prod.fst) z.1 (A.map Prod.snd) (B.map Prod.snd) z.2 _ s1 (by rw[<-am,e2];simp) (by rw[<-bm,e2];simp) (by simp) (.inl ⟨e3,fun c hc=>?_⟩)
   obtain⟨w,hw,rfl⟩:=mem_map.mp hc
   exact e4 w hw
abbrev wr5(K:Fg):TS :=
 (N1 (C5 (tOp (P9 K) (C3 (Y7 K) [] E0 (A3 (A7 0) #[3,3])) (tC (.str "anew"))))
 (G5 (tBM K "list" M3 (A7 2) #[3,3])) J5)
abbrev qq2(K:Fg):TS :=
 (B9 (N1 (tB (C3 (qf8 K) [] E0 (A3 (A7 0) #[3,3])))
 yr7 J5)
 (wr5 K))
def yg2(rs:List Row)(ns:List Str):List Str:=ns.filter fun n=>decide (E8 rs (some n)=some ("anew":Str))
def qb2(rs:List Row)(ns:List Str):List Str:=yg2 rs (ns.takeWhile fun n=>!(S5 rs n))
theorem xr0(rs:List Row)(ns:List Str):(yg2 rs ns).length<=ns.length:=length_filter_le _ _
theorem yb3(rs:List Row)(ns:List Str)(n:Str):yg2 rs (ns++[n])=yg2 rs ns++(if E8 rs (some n)=some ("anew":Str) then[n] else[]):=by
 unfold yg2
 rw[filter_append]
 congr 1
 by_cases h:E8 rs (some n)=some ("anew":Str)
 ·rw[if_pos h,filter_cons_of_pos (by exact decide_eq_true h)];rfl
 ·rw[if_neg h,filter_cons_of_neg (by simpa using h)];rfl
theorem za1{f:Str->Bool}:∀ {ns:List Str} {i:Nat} {y:Str},ns[i]?=some y->(∀ z∈ns.take i,f z=true)->f y=false->ns.takeWhile f=ns.take i
 | [],_,_,h,_,_=>by simp at h
 | x::ns,0,y,h,_,hy=>by simp at h;subst h;rw[takeWhile_cons,hy];rfl
 | x::ns,i+1,y,h,hz,hy=>by
   rw[takeWhile_cons,hz x (by simp),take_succ_cons]
   show x::ns.takeWhile f=_
   rw[za1 (by simpa using h) (fun z hzz=>hz z (by simp[hzz])) hy]
theorem zg1{ns:List Str}{i:Nat}(hy:ns[i]?=some y)(hw:∀ z∈ns.take i,S5 rs z=false)(hwy:S5 rs y=true):qb2 rs ns=yg2 rs (ns.take i):=by
 unfold qb2
 rw[za1 hy (fun z hz=>by rw[hw z hz];rfl) (by rw[hwy];rfl)]
theorem zo9{ns:List Str}(hw:∀ z∈ns,S5 rs z=false):qb2 rs ns=yg2 rs ns:=by
 unfold qb2
 congr 1
 induction ns with
 | nil=>rfl
 | cons x ns ih=>rw[takeWhile_cons,hw x (by simp)];show x::_=_;rw[ih fun z hz=>hw z (by simp[hz])]
def V7(K:Fg):Sp:=fun vs H Q _=>∃ (v:V) (c:Addr) (ns:List Str) (rs:List Row),vs=[v,.ref c]/\BkO K H v rs/\SqT K H c (B4 ns)/\ns.length<=1000/\∀ (p:Addr) (H':Hp),A9 H H'->H p=none->H' p=some #[24,qb2 rs ns]->Q (.ref p) H'
def S9(K:Fg):TS :=
 (B9 (C8 (T8 B1) (B3 2))
 (B9 (qf4 (qq7 K (A7 1)) (B3 3)
 (qq2 K))
 (E3 (A7 2))))
theorem wv6(h:V7 K vs H Q E):S9 K {nx:=fun _ H'=>Q .non H',rt:=Q} (C9 ["book","closed","waiting","name"] vs) H:=by
 obtain⟨v,c,ns,rs,rfl,hk,hc,hl,q⟩:=h
 show S9 K _ [some v,some (.ref c),none,none] H
 unfold S9
 walk_at"14"
 have s1:=A9.new hp (.lst [])
 lk
 refine wa3 (.inr hc) s1 (fun i σ H'=>∃ x,σ=[some v,some (.ref c),some (.ref p),x]/\A9 H H'/\H' p=some #[24,yg2 rs (ns.take i)]/\∀ y∈ns.take i,S5 rs y=false) ⟨none,rfl,s1,A8,fun y hy=>by cases hy⟩ ?_ ?_ ?_
 ·rintro i σ H' ⟨x,rfl,s,_⟩;exact s
 ·rintro i x σ H' hi ⟨x0,rfl,s,hpp,hw⟩
  obtain⟨y,hy,rfl⟩:=qd6 hi
  refine D6 ?_
  show qq2 K _ _ _
  lk
  refine⟨v,y,rs,rfl,(hk.same s).rws,?_⟩
  lk
  by_cases hwy:S5 rs y=true
  ·rw[hwy]
   x_go
   lk
   have ew:qb2 rs ns=yg2 rs (ns.take i):=zg1 hy hw hwy
   rw[<-ew] at hpp
   exact q p H' s hp hpp
  ·have hwf:=Bool.eq_false_iff.mpr hwy
   rw[hwf]
   k_go
   lk
   refine⟨v,some y,rs,rfl,(hk.same s).rws,?_⟩
   lk
   refine yw5 ?_
   lk
   have hw2:∀ z∈ns.take (i+1),S5 rs z=false:=fun z hz=>by
    rw[qt6 hy] at hz
    rcases mem_append.mp hz with hz|hz
    ·exact hw z hz
    ·rw[mem_singleton.mp hz];exact hwf
   have hwl:=xr0 rs (ns.take i)
   have:(ns.take i).length<=ns.length:=by rw[length_take];omega
   by_cases ha:E8 rs (some y)=some ("anew":Str)
   ·rw[decide_eq_true ha]
    x_go
    lk
    refine⟨.inl ⟨rfl,_,SqL.of hpp⟩,?_⟩
    lk
    refine M1 hpp (by rw[B7,sizeLine_eq];omega) ?_
    rw[qd7]
    refine⟨_,rfl,A9.put s hp _,?_,hw2⟩
    rw[A8,qt6 hy,yb3,if_pos ha]
   ·rw[decide_eq_false ha]
    k_go
    lk
    exact⟨_,rfl,s,by rw[qt6 hy,yb3,if_neg ha,append_nil];exact hpp,hw2⟩
 ·rintro σ H' ⟨x,rfl,s,hpp,hw⟩
  rw[B7,take_length] at *
  lk
  refine q p H' s hp ?_
  rw[zo9 hw];exact hpp
def U8:List Brn->List Tr
 | []=>[]
 | c::cs=>[Tr.nd c.n (c.ps++U8 cs)]
def clM(i:Int)(rule:Str)(c:Brn):Mnd:=⟨i,i,cls c.n,rule⟩
def yp3(rs:List Row)(bs:List Brn):Bool:=bs.any fun c=>S5 rs c.n
def za2(rs:List Row)(f:List Str->List Str):List Brn->List Brn
 | []=>[]
 | c::t=>if yp3 rs t=true then c::za2 rs f t else if S5 rs c.n=true then{c with ws:=f c.ws}::t else c::t
def An4(f:List Str->List Str):List Brn->List Brn
 | []=>[]
 | c::t=>{c with ws:=f c.ws}::t
def wUp(rs:List Row)(f:List Str->List Str)(bs:List Brn):List Brn:=if yp3 rs bs=true then za2 rs f bs else An4 f bs
theorem za3{bs:List Brn}(h:∀ c∈bs,S5 rs c.n=false):yp3 rs bs=false:=by
 unfold yp3
 rw[any_eq_false]
 intro c hc
 rw[h c hc];decide
theorem yp4(h:S5 rs b.n=true):yp3 rs (l1++b::l2)=true:=by
 unfold yp3
 rw[any_eq_true]
 exact⟨b,by simp,h⟩
theorem yp5{rs:List Row}{f:List Str->List Str}{b:Brn}{l2:List Brn}(h1:S5 rs b.n=true)(h2:∀ c∈l2,S5 rs c.n=false):∀ l1:List Brn,za2 rs f (l1++b::l2)=l1++{b with ws:=f b.ws}::l2
 | []=>by
   show(if yp3 rs l2=true then _ else if S5 rs b.n=true then _ else _)=_
   rw[za3 h2,if_neg #[10],if_pos h1];rfl
 | c::l1=>by
   show(if yp3 rs (l1++b::l2)=true then c::za2 rs f (l1++b::l2) else _)=_
   rw[yp4 h1,if_pos rfl,yp5 h1 h2 l1];rfl
theorem wv7(h:LwP rs l1 b l2):wUp rs f (l1++b::l2)=l1++{b with ws:=f b.ws}::l2:=by
 unfold wUp
 rcases h with⟨h1,h2⟩|⟨rfl,h2⟩
 ·rw[yp4 h1,if_pos rfl,yp5 h1 h2]
 ·rw[nil_append,za3 h2,if_neg #[10]];rfl
section
variable{kR kB r:Addr}{bv:V}{a:RAd}{st:Rst}
theorem RdO.xnd{m2:List BA}{x:BA}(h:RdO K H kR kB r bv a st)(ea:a.as=m1++x::m2):x.fp.Nodup:=by
 have:=h.apart.2.2.2.2.2.2.2.2.2.2
 rw[ea,Q7,P3,nodup_append,nodup_append] at this
 exact this.2.1.1
theorem RdO.up(h:RdO K H kR kB r bv a st)(s:A9 H H'):Rup K kR kB r bv H a H' a st:=.keep (h.same s) fun c o e _=>s c o e
theorem Rup.wait{m2:List BA}{x:BA}(h:RdO K H kR kB r bv a st)(ea:a.as=m1++x::m2)(eb:st.bs=l1++b::l2)(hl:m1.length=l1.length) :
 Rup K kR kB r bv H a (upd H x.w #[24,ws]) {a with as:=m1++x::m2} {st with bs:=l1++{b with ws:=ws}::l2}:=by
 have hb:=h.b
 rw[ea,eb] at hb
 have hx:=(hb.split hl).2.1
 have xnd:=h.xnd ea
 have no:x.o≠x.w:=by simp[BA.fp] at xnd;exact xnd.1.2
 have nq:x.q≠x.w:=by simp[BA.fp] at xnd;exact xnd.2
 have tk:U1 H (upd H x.w #[24,ws]):=Q4 (.inl ⟨_,hx.w⟩)
 obtain⟨us,q1,q2⟩:=hx.q
 refine Rup.swap h ea eb hl (fun z u e n=>E2 e fun y=>n (by rw[y];simp[BA.fp])) ⟨E2 hx.o no,tk.sqT hx.p,⟨us,E2 q1 nq,Dvs.tupK tk _ _ (qa5 _) q2⟩,A8⟩ (fun z hz=>.inl hz) xnd rfl
end
abbrev qb3(K:Fg)(qB:Addr):TS :=
 (B9 (G5 (tBM K "list" M3 (R4 K (A7 0) "mends") (A3 (X3 (A3 (A7 2) (A3 (A7 2) (A3 (C3 (qm3 K) [] E0 #[3,5]) #[3,3])))) B1)))
 (G5 (N6 qB "leave" (O9 K) [] E0 (A7 0) B1)))
abbrev qb4(K:Fg)(qB:Addr):TS :=
 (G5 (tBM K "list" wx5 (R4 K (N6 qB "last_wall" (L9 K) [] E0 (A7 0) B1) "waiting") (A3 (C3 (V7 K) [] E0 (A3 (R4 K (A7 0) "book") #[3,4])) B1)))
abbrev qb5(K:Fg)(qB:Addr):TS :=
 (B9 (qf4 (zm7 K #[3,4]) (B3 5)
 (qb3 K qB))
 (qb4 K qB))
def J4(K:Fg):Sp:=fun vs H Q _=>∃ (kR kB r:Addr) (bv:V) (a:RAd) (st:Rst) (rs:List Row) (pre cl:List Brn) (b:Brn) (i:Int) (rule:Str),vs=[.ref r,.int pre.length,.int i,.str rule]/\RdO K H kR kB r bv a st/\BkO K H bv rs/\st.bs=pre++b::cl/\st.bs.length<=900/\(∀ c∈st.bs,c.n.length<=4000/\c.ps.length<=9000000/\c.ws.length<=9000000)/\st.ms.length+cl.length<=9000000/\∀ a' H',Rup K kR kB r bv H a H' a' {st with bs:=wUp rs (·++qb2 rs (cl.map Brn.n)) (pre++[{b with ps:=b.ps++U8 cl}]),ms:=st.ms++cl.reverse.map (clM i rule)}->C4 H H'->Q .non H'
def M6(K:Fg)(qB:Addr):TS :=
 (B9 (C8 (tSl (ym6 K) #[70] (Y3 (A7 1)) qg8) (B3 4))
 (qb5 K qB))
theorem qy9(cz:Cz K qA qB)(h:J4 K vs H Q E):M6 K qB {nx:=fun _ H'=>Q .non H',rt:=Q} (C9 ["self","kept","start","rule","closed","name"] vs) H:=by
 obtain⟨kR,kB,r,bv,a,st,rs,pre,cl,b,i,rule,rfl,h,hk,eb,hl,hall,hms,q⟩:=h
 walk_at"4"
 show M6 K _ _ [some (.ref r),some (.int pre.length),some (.int i),some (.str rule),none,none] H
 unfold M6
 obtain⟨b0,bs0,eb0⟩:∃ b0 bs0,st.bs=b0::bs0:=by rw[eb];cases pre <;> exact⟨_,_,rfl⟩
 have hl0:bs0.length<=1000:=by rw[eb0] at hl;simp at hl;omega
 have hdrop:bs0.drop pre.length=cl:=by
  have e:(b0::bs0).drop (pre.length+1)=cl:=by
   rw[<-eb0,eb,show pre++b::cl=(pre++[b])++cl by simp]
   rw[drop_left' (by simp)]
  simpa using e
 walk_at"3"
 refine⟨qB,qA,r,bv,a,st,b0,bs0,rfl,h,eb0,hl0,fun p H1 s1 hp=>?_⟩
 lk
 refine ym7 hp fun c H2 s2 hc=>?_
 have ecut:qg5 (B4 (bs0.map Brn.n)) (some (pre.length:Int)) none=B4 (cl.map Brn.n):=by
  rw[xf1 #[0],Int.toNat_natCast,<-hdrop]
  simp[B4,map_drop]
 rw[ecut] at hc
 have s12:=A9.tr s1 s2
 have h2:=h.same s12
 have hk2:=hk.same s12
 show qb5 K _ _ _ _
 lk
 refine zv8 ?_
 lk
 have hcll:cl.length<=900:=by rw[eb] at hl;simp at hl;omega
 refine zm8 hc (fun j σ H'=>∃ x a' A y C,σ=[some (.ref r),some (.int pre.length),some (.int i),some (.str rule),some (.ref c),x]/\pre++b::cl=A++y::C/\C.length=j/\j<=cl.length/\Rup K qB qA r bv H2 a H' a' {st with bs:=A++[{y with ps:=y.ps++U8 C}],ms:=st.ms++C.reverse.map (clM i rule)}/\C4 H2 H') ?_ ?_ ?_ ?_
 ·obtain⟨A,y,e⟩:∃ A y,pre++b::cl=A++[y]:=by
   rcases eq_nil_or_concat (pre++b::cl) with e|⟨A,y,e⟩
   ·simp at e
   ·exact⟨A,y,by rw[e,concat_eq_append]⟩
  refine⟨none,a,A,y,[],rfl,e,rfl,Nat.zero_le _,?_,fun z hz=>hz⟩
  have:({st with bs:=A++[{y with ps:=y.ps++U8 []}],ms:=st.ms++[].reverse.map (clM i rule)}:Rst)=st:=by
   cases st
   simp only[U8,append_nil,reverse_nil,map_nil] at *
   rw[eb,e]
  rw[this]
  exact .keep h2 fun c o e _=>e
 ·rintro j σ H' ⟨x,a',A,y,C,rfl,_,_,_,u,_⟩
  exact(u.tupK h2).sqT hc
 ·rintro j v σ H' hv hj ⟨x0,a',A,y,C,rfl,e,eC,hjc,u,g⟩
  obtain⟨nm,hnm,rfl⟩:=qd6 hv
  rw[B7,length_map] at hj
  rw[B7,length_map,List.getElem?_map] at hnm
  obtain⟨y2,hy2,rfl⟩:=Option.map_eq_some_iff.mp hnm
  have hlen:A.length=(pre++[b]).length+(cl.length-1-j):=by
   have:=congrArg List.length e
   simp only[length_append,length_cons,length_nil] at this ⊢
   omega
  have hyy:y2=y:=by
   have e1:(A++y::C)[A.length]?=some y:=by simp
   rw[<-e,show pre++b::cl=(pre++[b])++cl by simp,hlen,List.getElem?_append_right #[0],Nat.add_sub_cancel_left,hy2] at e1
   exact Option.some.inj e1
  subst hyy
  obtain⟨A',x,rfl⟩:∃ A' x,A=A'++[x]:=by
   rcases eq_nil_or_concat A with e1|⟨A',x,e1⟩
   ·subst e1;simp at hlen;omega
   ·exact⟨A',x,by rw[e1,concat_eq_append]⟩
  have inst:∀ z,z∈A'++x::y2::C->z∈st.bs:=fun z hz=>by rw[eb,e];simpa using hz
  have hx:=hall x (inst x (by simp))
  have hy:=hall y2 (inst y2 (by simp))
  obtain⟨us,m1,m2⟩:=u.ok.m
  have hul:=RdO.ms_len m2
  refine D6 ?_
  show qb3 K _ _ _ _
  walk_at"23"
  refine⟨r,_,a'.x,_,_,rfl,u.ok.o,cz.cl_Reader,cz.na_Reader_mends,rfl,?_⟩
  lk
  refine⟨.inl ⟨rfl,_,SqL.of m1⟩,?_⟩
  lk
  refine⟨y2.n,rfl,hy.1,?_⟩
  lk
  refine⟨D5 (by z_go),fun w hw=>?_⟩
  lk
  have s3:=A9.new hw (.tup [.int i,.int i,.str (cls y2.n),.str rule])
  refine M1 (s3 _ _ m1) (by rw[hul,sizeLine_eq];simp;omega) ?_
  have u1:=Rup.mend u.ok s3 (SqT.of A8) m2
  have g1:C4 H' (upd (upd H' w (.tup [.int i,.int i,.str (cls y2.n),.str rule])) a'.M (.lst (us++[.ref w]))):=C4.tr C4.upd C4.upd
  generalize upd (upd H' w (.tup [.int i,.int i,.str (cls y2.n),.str rule])) a'.M (.lst (us++[.ref w]))=H3 at *
  walk_at"26"
  refine⟨r,_,_,rfl,u1.ok.o,rfl,?_⟩
  lk
  refine⟨qB,qA,r,bv,a',_,A',x,{y2 with ps:=y2.ps++U8 C},rfl,u1.ok,by simp,hx.2.1,fun a2 H4 u2 g2=>?_⟩
  refine⟨_,a2,A',x,y2::C,rfl,by rw[e];simp,by simp[eC],by omega,?_,C4.tr (C4.tr g g1) g2⟩
  have:=(u.tr u1 g).tr u2 (C4.tr g g1)
  rw[reverse_cons,map_append,<-append_assoc]
  exact this
 ·rintro σ H' ⟨x,a',A,y,C,rfl,e,eC,_,u,g⟩
  rw[B7,length_map] at eC
  obtain⟨e1,e2⟩:=append_inj e (by have:=congrArg List.length e;simp at this;omega)
  obtain⟨rfl,rfl⟩:=List.cons.inj e2
  subst e1
  have tk:=u.tupK h2
  have hk3:=hk2.tupK tk
  have hc3:=tk.sqT hc
  have hlen3:(pre++[{b with ps:=b.ps++U8 cl}]:List Brn).length<=900:=by rw[eb] at hl;simp at hl ⊢;omega
  show qb4 K _ _ _ _
  lk
  refine G0 ?_
  refine E5 ?_
  lk
  refine⟨r,_,_,rfl,u.ok.o,rfl,?_⟩
  lk
  refine⟨qB,qA,r,bv,a',_,rs,rfl,u.ok,hk3,by simp,by show(pre++[_]).length<=1000;omega,fun m1 m2 x2 l1 l2 b2 H4 s4 ea2 eb2 hm2 lw=>?_⟩
  have h4:=u.ok.same s4
  have hb4:=h4.b
  rw[ea2,eb2] at hb4
  have hx4:=(hb4.split hm2).2.1
  have hws:b2.ws.length<=9000000:=by
   have:b2∈(pre++[{b with ps:=b.ps++U8 cl}]:List Brn):=by
    have e3:(pre++[{b with ps:=b.ps++U8 cl}]:List Brn)=l1++b2::l2:=eb2
    rw[e3];simp
   rcases mem_append.mp this with h1|h1
   ·exact(hall b2 (by rw[eb];simp[h1])).2.2
   ·rw[mem_singleton.mp h1];exact(hall b (by rw[eb];simp)).2.2
  refine⟨x2.o,_,x2.x,_,_,rfl,hx4.o,cz.cl_Branch,cz.na_Branch_waiting,rfl,?_⟩
  lk
  refine⟨.inl ⟨rfl,_,SqL.of hx4.w⟩,?_⟩
  walk_at"23"
  refine⟨r,_,a'.x,_,_,rfl,h4.o,cz.cl_Reader,cz.na_Reader_book,rfl,?_⟩
  lk
  refine⟨bv,c,cl.map Brn.n,rs,rfl,hk3.same s4,s4.sqT hc3,by rw[length_map];omega,fun w H5 s5 hw0 hw=>?_⟩
  lk
  have hwl:=xr0 rs ((cl.map Brn.n).takeWhile fun n=>!(S5 rs n))
  have hwl2:(qb2 rs (cl.map Brn.n)).length<=900:=by
   have h1:((cl.map Brn.n).takeWhile fun n=>!(S5 rs n)).length<=(cl.map Brn.n).length:=(takeWhile_sublist _).length_le
   rw[length_map] at h1
   unfold qb2;omega
  refine zm6 (s5 _ _ hx4.w) hw (by rw[B7,B7,sizeLine_eq];omega) ?_
  have h5:=h4.same s5
  have uw:=Rup.wait (ws:=b2.ws++qb2 rs (cl.map Brn.n)) h5 ea2 eb2 hm2
  have es:B4 b2.ws++B4 (qb2 rs (cl.map Brn.n))=B4 (b2.ws++qb2 rs (cl.map Brn.n)):=by simp[B4]
  rw[es]
  have uu:=((((h.up s12).tr u (A9.grow s12)).tr (u.ok.up s4) (C4.tr (A9.grow s12) g)).tr (h4.up s5) (C4.tr (C4.tr (A9.grow s12) g) (A9.grow s4))).tr uw (C4.tr (C4.tr (C4.tr (A9.grow s12) g) (A9.grow s4)) (A9.grow s5))
  refine q {a' with as:=m1++x2::m2} _ ?_ (C4.tr (C4.tr (C4.tr (C4.tr (A9.grow s12) g) (A9.grow s4)) (A9.grow s5)) C4.upd)
  have e3:(pre++[{b with ps:=b.ps++U8 cl}]:List Brn)=l1++b2::l2:=eb2
  rw[e3,wv7 lw]
  exact uu
def V8(K:Fg):Sp:=fun vs H Q _=>∃ (kR kB r:Addr) (bv:V) (a:RAd) (st:Rst) (rs:List Row) (cl:List Brn) (b:Brn) (i:Int),vs=[.ref r,.int i]/\RdO K H kR kB r bv a st/\BkO K H bv rs/\st.bs=b::cl/\st.bs.length<=900/\(∀ c∈st.bs,c.n.length<=4000/\c.ps.length<=9000000/\c.ws.length<=9000000)/\st.ms.length+cl.length<=9000000/\∀ a' H',Rup K kR kB r bv H a H' a' {st with bs:=wUp rs (·++qb2 rs (cl.map Brn.n)) [{b with ps:=b.ps++U8 cl}],ms:=st.ms++cl.reverse.map (clM i "end")}->C4 H H'->Q .non H'
def T0(K:Fg)(qB:Addr):TS :=
 (G5 (N6 qB "close_behind" (J4 K) [] E0 (A7 0) (A3 #[1,0] (A3 (A7 1) (A3 (tC (.str "end")) B1)))))
theorem wv8(cz:Cz K qA qB)(h:V8 K vs H Q E):T0 K qB {nx:=fun _ H'=>Q .non H',rt:=Q} (C9 ["self","size"] vs) H:=by
 obtain⟨kR,kB,r,bv,a,st,rs,cl,b,i,rfl,h,hk,eb,hl,hall,hms,q⟩:=h
 obtain rfl:=N3 cz.ns_Reader h.kr
 show T0 K _ _ [some (.ref r),some (.int i)] H
 unfold T0
 walk_at"3"
 exact⟨qB,kB,r,bv,a,st,rs,[],cl,b,i, "end",rfl,h,hk,eb,hl,hall,hms,q⟩
def adP(ps:List Tr)(t:Str):List Tr:=match ps.getLast? with|some (.tx u)=>ps.dropLast++[.tx (u++t)]|_=>ps++[.tx t]
def adN(ps:List Tr):Nat:=match ps.getLast? with|some (.tx _)=>ps.length-1|_=>ps.length
def adA(ps:List Tr):Nat:=match ps.getLast? with|some (.tx u)=>u.length|_=>0
def G4(st:Rst):List Str:=st.bs.tail.map Brn.n
def yg3:Brn:=⟨"",[],[],[]⟩
def Z4(bs:List Brn):Brn:=bs.getLastD yg3
def xw0(b:Brn)(n:Str):Brn:=⟨n,b.pl++[(b.ps.length:Int)],[],[]⟩
def qn9(bs:List Brn)(n:Str):List Brn:=bs++[xw0 (Z4 bs) n]
def xf3(st:Rst)(n:Str)(i:Int)(rule:Str):Rst:={st with bs:=qn9 st.bs n,ms:=st.ms++[⟨i,i,opn n,rule⟩]}
def P7(st:Rst)(ns:List Str)(i:Int)(rule:Str):Rst:=ns.foldl (fun s n=>xf3 s n i rule) st
def qt8(st:Rst)(i:Int)(g rule:Str):Rst:={st with ms:=st.ms++[⟨i,i+g.length, "",rule⟩]}
def X5(rs:List Row)(st:Rst)(kept:Nat)(i:Int)(rule:Str):Rst:={st with bs:=wUp rs (·++qb2 rs (#[58].map Brn.n)) (st.bs.take kept++[{(st.bs.getD kept yg3) with ps:=(st.bs.getD kept yg3).ps++U8 #[58]}]),ms:=st.ms++#[58].reverse.map (clM i rule)}
def lvB(bs:List Brn):List Brn:=bs.dropLast.dropLast++[{(Z4 bs.dropLast) with ps:=(Z4 bs.dropLast).ps++[Tr.nd (Z4 bs).n (Z4 bs).ps]}]
def lvS(st:Rst):Rst:={st with bs:=lvB st.bs}
def lwS(rs:List Row)(bs:List Brn):List Str:=match bs.reverse.find? fun c=>S5 rs c.n with|some b=>b.ws|none=>(bs.headD yg3).ws
def ws5(rs:List Row)(ns:List Str)(n:Str):Bool:=decide (ns.length<20) && !((R3 rs ns).any fun y=>decide (y∈n::(qr0 rs n++wm2 rs n)))
def qg2(rs:List Row)(i:Int)(st:Rst)(n:Str):Rst:=if ws5 rs (G4 st) n=true then xf3 st n i "anew" else st
def qz0(rs:List Row)(i:Int)(st:Rst):Rst:=(lwS rs st.bs).foldl (qg2 rs i) {st with bs:=wUp rs (fun _=>[]) st.bs}
def zw9(i:Int)(g:Str)(k:Nat):Mnd:=⟨i+k,i+k+1,if g.cps.toList[k]?=some 60 then "&l;" else "&a;","sign"⟩
def txS(st:Rst)(i:Int)(g t:Str):Rst:={st with bs:=st.bs.dropLast++[{(Z4 st.bs) with ps:=adP (Z4 st.bs).ps t}],ls:=st.ls++[⟨i,g,(Z4 st.bs).pl++[(adN (Z4 st.bs).ps:Int)],adA (Z4 st.bs).ps⟩]}
def woL(ws:List Str)(n:Str):List Str:=(ws.reverse.erase n).reverse
def opS(rs:List Row)(rk:Str->Nat)(st:Rst)(i:Int)(g n:Str):Rst :=
 if E8 rs (some n)=none then qt8 st i g "strange" else
 if bar rs ((G4 st).take #[21].1) #[21].2=true then qt8 st i g "barred" else
 if 20<#[21].1+#[21].2.length then qt8 st i g "deep" else
 let s2:=P7 (X5 rs st #[21].1 i "shut") #[21].2.dropLast i "frame"
 if E8 rs (some n)=some ("bare":Str) then lvS {s2 with bs:=qn9 s2.bs n} else{s2 with bs:=qn9 s2.bs n}
def wj4(rs:List Row)(rk:Str->Nat)(st:Rst)(i:Int)(g n:Str):Rst:=match clo rs rk (G4 st) n (G4 st).length with
 | some k=>lvS (X5 rs st (k+1) i "left")
 | none=>if n∈lwS rs st.bs then{(qt8 st i g "late") with bs:=wUp rs (fun ws=>woL ws n) st.bs} else qt8 st i g "stray"
def yw6(t:Str):Bool:=decide (PySem.Txt.stripChars t (" \n":Str)=("":Str))
def Q5(rs:List Row)(st:Rst):List Str:=L8 rs (G8 (G4 st))
def xa7(st:Rst)(i:Int)(g:Str):Rst:={st with ms:=st.ms++#[64].map (zw9 i g)}
def qz1(rs:List Row)(st:Rst)(i:Int)(g t:Str):Rst :=
 if E8 rs (some (G8 (G4 st)))=some #[15]/\yw6 t=true then qt8 st i g "blank" else
 if 20<(G4 st).length+(Q5 rs st).length then qt8 st i g "deep" else
 txS (xa7 (qz0 rs i (P7 st (Q5 rs st) i "host")) i g) i g t
def qq3(rs:List Row)(rk:Str->Nat)(st:Rst)(kind:Str)(i:Int)(g t:Str):Rst :=
 if kind=("open":Str) then opS rs rk st i g t else if kind=("close":Str) then wj4 rs rk st i g t else qz1 rs st i g t
section
variable{rs:List Row}{bs l1 l2:List Brn}{b:Brn}
theorem qt9(l:List Brn)(b:Brn):Z4 (l++[b])=b:=by unfold Z4;simp
theorem yp6(rs:List Row)(h:bs≠[]):∃ l1 b l2,bs=l1++b::l2/\LwP rs l1 b l2:=by
 rcases eq_nil_or_concat (bs.filter fun c=>S5 rs c.n) with e|⟨zs,z,e⟩
 ·obtain⟨b,l2,rfl⟩:=exists_cons_of_ne_nil h
  exact⟨[],b,l2,rfl,.inr ⟨rfl,fun c hc=>Bool.eq_false_iff.mpr (filter_eq_nil_iff.mp e c hc)⟩⟩
 ·rw[concat_eq_append] at e
  obtain⟨A,B,e1,e2,e3⟩:=xj2 e
  exact⟨A,z,B,e1,.inl ⟨e2,e3⟩⟩
theorem yg4(h:LwP rs l1 b l2):lwS rs (l1++b::l2)=b.ws:=by
 unfold lwS
 rcases h with⟨h1,h2⟩|⟨rfl,h2⟩
 ·have:(l1++b::l2).reverse.find? (fun c=>S5 rs c.n)=some b:=by
   rw[reverse_append,reverse_cons,append_assoc,find?_append,find?_eq_none.mpr fun c hc=>by rw[h2 c (mem_reverse.mp hc)];decide]
   rw[Option.none_or,singleton_append,find?_cons,h1]
  rw[this]
 ·have:(([]:List Brn)++b::l2).reverse.find? (fun c=>S5 rs c.n)=none:=find?_eq_none.mpr fun c hc=>by
   rw[h2 c (by simpa [or_comm] using hc)];decide
  rw[this];rfl
theorem xa8{g:Brn->α}(hg:∀ b ws,g {b with ws:=ws}=g b)(bs:List Brn):(wUp rs f bs).map g=bs.map g:=by
 cases bs with
 | nil=>unfold wUp;split <;> rfl
 | cons c t =>
   obtain⟨l1,b,l2,e,h⟩:=yp6 rs (bs:=c::t) (by simp)
   rw[e,wv7 h]
   simp[hg]
theorem xa9(bs:List Brn):(wUp rs f bs).length=bs.length:=by
 have:=congrArg List.length (xa8 (rs:=rs) (f:=f) (g:=Brn.n) #[65] bs)
 simpa using this
theorem zx0(bs:List Brn):(wUp rs f bs).tail.map Brn.n=bs.tail.map Brn.n:=by
 rw[map_tail,map_tail,xa8 fun _ _=>rfl]
theorem zx1{x:Brn}(h:x∈wUp rs f bs):∃ b∈bs,x=b\/x={b with ws:=f b.ws}:=by
 cases bs with
 | nil=>unfold wUp at h;split at h <;> cases h
 | cons c t =>
   obtain⟨l1,b,l2,e,h2⟩:=yp6 rs (bs:=c::t) (by simp)
   rw[e,wv7 h2] at h
   rw[e]
   rcases mem_append.mp h with h|h
   ·exact⟨x,by simp[h],.inl rfl⟩
   ·rcases mem_cons.mp h with h|h
    ·exact⟨b,by simp,.inr h⟩
    ·exact⟨x,by simp[h],.inl rfl⟩
theorem yg5(h:bs≠[]):wUp rs f bs≠[]:=fun e=>h (by
 have:=xa9 (rs:=rs) (f:=f) bs
 rw[e] at this
 exact eq_nil_of_length_eq_zero this.symm)
structure BB(rs:List Row)(P W T:Nat)(c:Brn):Prop where
 n:c.n.length<=4000
 ps:c.ps.length<=P
 ws:c.ws.length<=W
 wr:∀ n∈c.ws,∃ r∈rs,Row.name r=n
 t:adA c.ps<=T
structure Bg(rs:List Row)(P W M D T:Nat)(st:Rst):Prop where
 c:∀ c∈st.bs,BB rs P W T c
 pl:st.bs.map (fun c=>c.pl.length)=List.range st.bs.length
 nr:∀ c∈st.bs.tail,∃ r∈rs,Row.name r=c.n
 ne:st.bs≠[]
 l:st.bs.length<=21
 m:st.ms.length<=M
 d:st.ls.length<=D
variable{P W M D T:Nat}{st:Rst}
theorem BB.mono{c:Brn}(h:BB rs P W T c)(h1:P<=P')(h2:W<=W')(h3:T<=T'):BB rs P' W' T' c:=⟨h.n,by have:=h.ps;omega,by have:=h.ws;omega,h.wr,by have:=h.t;omega⟩
theorem Bg.mono{M' D':Nat}(h:Bg rs P W M D T st)(h1:P<=P')(h2:W<=W')(h3:M<=M')(h4:D<=D')(h5:T<=T'):Bg rs P' W' M' D' T' st :=
 ⟨fun c hc=>(h.c c hc).mono h1 h2 h5,h.pl,h.nr,h.ne,h.l,by have:=h.m;omega,by have:=h.d;omega⟩
theorem Bg.nlen(h:Bg rs P W M D T st):(G4 st).length+1=st.bs.length:=by
 unfold G4
 rw[length_map,length_tail]
 have:0<st.bs.length:=length_pos_iff.mpr h.ne
 omega
theorem Bg.snoc(h:Bg rs P W M D T st):∃ l b,st.bs=l++[b]/\Z4 st.bs=b/\b.pl.length=l.length/\BB rs P W T b:=by
 rcases eq_nil_or_concat st.bs with e|⟨l,b,e⟩
 ·exact absurd e h.ne
 ·rw[concat_eq_append] at e
  have hp:=h.pl
  rw[e,map_append,length_append,length_singleton,range_succ] at hp
  have:=(append_inj' hp rfl).2
  exact⟨l,b,e,by rw[e,qt9],by simpa using this,h.c b (by rw[e];simp)⟩
theorem Bg.drop(h:Bg rs P W M D T st):Bg rs P W (M+1) D T (qt8 st i g rule) :=
 ⟨h.c,h.pl,h.nr,h.ne,h.l,by show(st.ms++[_]).length<=_;have:=h.m;simp;omega,h.d⟩
theorem Bg.ent(h:Bg rs P W M D T st)(hl:st.bs.length<=20)(hn:n.length<=4000)(hr:∃ r∈rs,Row.name r=n):Bg rs P W M D T {st with bs:=qn9 st.bs n}:=by
 obtain⟨l,b,e,e2,hp,hb⟩:=h.snoc
 refine⟨fun c hc=>?_,?_,fun c hc=>?_,by show _++[_]≠[];simp,by show(st.bs++[_]).length<=_;rw[length_append,length_singleton];omega,h.m,h.d⟩
 ·rcases mem_append.mp hc with hc|hc
  ·exact h.c c hc
  ·rw[mem_singleton.mp hc]
   exact⟨hn,Nat.zero_le _,Nat.zero_le _,fun n hn=>(by cases hn),Nat.zero_le _⟩
 ·show(st.bs++[xw0 (Z4 st.bs) n]).map _=List.range (st.bs++[_]).length
  rw[map_append,h.pl,length_append,length_singleton,range_succ,e2]
  congr 1
  show[(b.pl++[_]).length]=_
  rw[length_append,hp,e,length_append];rfl
 ·have ht:(st.bs++[xw0 (Z4 st.bs) n]).tail=st.bs.tail++[xw0 (Z4 st.bs) n]:=tail_append_of_ne_nil h.ne
  have hc':c∈(st.bs++[xw0 (Z4 st.bs) n]).tail:=hc
  rw[ht] at hc'
  rcases mem_append.mp hc' with hc|hc
  ·exact h.nr c hc
  ·rw[mem_singleton.mp hc];exact hr
theorem Bg.put(h:Bg rs P W M D T st)(hl:st.bs.length<=20)(hn:n.length<=4000)(hr:∃ r∈rs,Row.name r=n):Bg rs P W (M+1) D T (xf3 st n i rule):=by
 have:=h.ent hl hn hr
 exact⟨this.c,this.pl,this.nr,this.ne,this.l,by show(st.ms++[_]).length<=_;have:=h.m;simp;omega,h.d⟩
theorem wb3(st:Rst)(n:Str)(i:Int)(rule:Str):(xf3 st n i rule).bs.length=st.bs.length+1:=by show(st.bs++[_]).length=_;simp
theorem wq3:∀ (ns:List Str) (st:Rst) (i:Int) (rule:Str),(P7 st ns i rule).bs.length=st.bs.length+ns.length
 | [],st,i,rule=>rfl
 | n::ns,st,i,rule=>by
   show(P7 (xf3 st n i rule) ns i rule).bs.length=_
   rw[wq3 ns,wb3,length_cons];omega
theorem Bg.puts:∀ {ns:List Str} {M:Nat} {st:Rst} {i:Int} {rule:Str},Bg rs P W M D T st->st.bs.length+ns.length<=21->(∀ n∈ns,n.length<=4000/\∃ r∈rs,Row.name r=n)->Bg rs P W (M+ns.length) D T (P7 st ns i rule)
 | [],M,st,i,rule,h,_,_=>h
 | n::ns,M,st,i,rule,h,hl,hn=>by
   rw[length_cons] at hl
   have:=Bg.puts (ns:=ns) (i:=i) (rule:=rule) (h.put (n:=n) (i:=i) (rule:=rule) #[0] (hn n (by simp)).1 (hn n (by simp)).2) (by rw[wb3];omega) fun m hm=>hn m (by simp[hm])
   rw[length_cons,show M+(ns.length+1)=M+1+ns.length by omega]
   exact this
theorem Bg.wup(h:Bg rs P W M D T st)(hW:W<=W')(hf:∀ c∈st.bs,(f c.ws).length<=W'/\∀ n∈f c.ws,∃ r∈rs,Row.name r=n):Bg rs P W' M D T {st with bs:=wUp rs f st.bs}:=by
 refine⟨fun c hc=>?_,?_,?_,yg5 h.ne,by show(wUp rs f st.bs).length<=_;rw[xa9];exact h.l,h.m,h.d⟩
 ·obtain⟨b,hb,e⟩:=zx1 hc
  have hB:=h.c b hb
  rcases e with rfl|rfl
  ·exact hB.mono #[11] hW #[11]
  ·exact⟨hB.n,hB.ps,(hf b hb).1,(hf b hb).2,hB.t⟩
 ·show(wUp rs f st.bs).map _=List.range (wUp rs f st.bs).length
  rw[xa8 fun _ _=>rfl,xa9];exact h.pl
 ·intro c hc
  have h1:c.n∈(wUp rs f st.bs).tail.map Brn.n:=mem_map_of_mem hc
  rw[zx0] at h1
  obtain⟨b,hb,e⟩:=mem_map.mp h1
  rw[<-e];exact h.nr b hb
theorem zp0{ns:List Str}(h:n∈qb2 rs ns):n∈ns:=(takeWhile_sublist _).mem (mem_filter.mp h).1
theorem zg2(cl:List Brn):(U8 cl).length<=1:=by cases cl <;> simp[U8]
theorem zp1{ps:List Tr}{cl:List Brn}:adA (ps++U8 cl)<=adA ps:=by
 cases cl with
 | nil=>rw[U8,append_nil];exact Nat.le_refl _
 | cons c cl =>
   rw[U8]
   unfold adA
   rw[getLast?_concat]
   exact Nat.zero_le _
theorem Ah7{ps:List Tr}{qs:List Tr}:adA (ps++[Tr.nd n qs])=0:=by
 unfold adA
 rw[getLast?_concat]
theorem zx2(ps:List Tr)(t:Str):(adP ps t).length<=ps.length+1:=by
 unfold adP
 split
 ·rw[length_append,length_dropLast,length_singleton];omega
 ·rw[length_append,length_singleton];omega
theorem zx3(ps:List Tr)(t:Str):adA (adP ps t)=adA ps+t.length:=by
 unfold adP
 cases h:ps.getLast? with
 | none =>
   have e:adA ps=0:=by unfold adA;rw[h]
   rw[e]
   unfold adA
   rw[getLast?_concat]
   show t.length=_
   omega
 | some x =>
   cases x with
   | tx u =>
     have e:adA ps=u.length:=by unfold adA;rw[h]
     rw[e]
     unfold adA
     rw[getLast?_concat]
     exact wz2 u t
   | nd n qs =>
     have e:adA ps=0:=by unfold adA;rw[h]
     rw[e]
     unfold adA
     rw[getLast?_concat]
     show t.length=_
     omega
theorem yg6{bs:List Brn}{k:Nat}(h:k<bs.length):bs.getD k yg3=bs[k]:=by simp[List.getD,h]
theorem wq4{kept:Nat}:(X5 rs st kept i rule).bs.length=(st.bs.take kept).length+1:=by
 show(wUp rs _ _).length=_
 rw[xa9];simp
theorem Bg.cls{kept:Nat}(h:Bg rs P W M D T st)(hk:kept<st.bs.length):Bg rs (P+1) (W+20) (M+20) D T (X5 rs st kept i rule):=by
 have hb:=h.c (st.bs[kept]) (List.getElem_mem hk)
 have hcl:#[58].length<=20:=by rw[length_drop];have:=h.l;omega
 have hnl:=zg2 #[58]
 have e0:st.bs.getD kept yg3=st.bs[kept]:=yg6 hk
 have b1:Bg rs (P+1) W (M+20) D T {st with bs:=st.bs.take kept++[{(st.bs[kept]) with ps:=(st.bs[kept]).ps++U8 #[58]}],ms:=st.ms++#[58].reverse.map (clM i rule)}:=by
  refine⟨fun c hc=>?_,?_,fun c hc=>?_,by show _++[_]≠[];simp,?_,?_,h.d⟩
  ·rcases mem_append.mp hc with hc|hc
   ·exact(h.c c (mem_of_mem_take hc)).mono #[0] #[0] #[0]
   ·rw[mem_singleton.mp hc]
    refine⟨hb.n,?_,hb.ws,hb.wr,Nat.le_trans zp1 hb.t⟩
    show(_++_:List Tr).length<=_
    rw[length_append];have:=hb.ps;omega
  ·show(st.bs.take kept++[_]).map _=List.range (st.bs.take kept++[_]).length
   rw[map_append,map_singleton]
   show List.map (fun c=>c.pl.length) (st.bs.take kept)++[(st.bs[kept]).pl.length]=_
   rw[<-map_singleton (f:=fun c:Brn=>c.pl.length),<-map_append,<-qt6 (List.getElem?_eq_getElem hk),map_take,h.pl,take_range,length_append,length_take,length_singleton]
   congr 1
   omega
  ·have hc':c∈(st.bs.take kept++[{(st.bs[kept]) with ps:=(st.bs[kept]).ps++U8 #[58]}]).tail:=hc
   have h1:c.n∈((st.bs.take kept++[{(st.bs[kept]) with ps:=(st.bs[kept]).ps++U8 #[58]}]).tail).map Brn.n:=mem_map_of_mem hc'
   rw[map_tail,map_append,map_singleton] at h1
   have h2:c.n∈(List.map Brn.n (st.bs.take kept)++[(st.bs[kept]).n]).tail:=h1
   rw[<-map_singleton (f:=Brn.n),<-map_append,<-qt6 (List.getElem?_eq_getElem hk),<-map_tail] at h2
   obtain⟨b,hb,e⟩:=mem_map.mp h2
   rw[<-e]
   refine h.nr b ?_
   have h3:b∈(st.bs.tail).take kept:=by
    have:(st.bs.take (kept+1)).tail=st.bs.tail.take kept:=by cases st.bs <;> simp
    rw[<-this];exact hb
   exact mem_of_mem_take h3
  ·show(st.bs.take kept++[_]).length<=21
   rw[length_append,length_take,length_singleton];have:=h.l;omega
  ·show(st.ms++_).length<=_
   rw[length_append,length_map,length_reverse];have:=h.m;omega
 have:=b1.wup (f:=(·++qb2 rs (#[58].map Brn.n))) (W':=W+20) #[0] (fun c hc=>?_)
 ·show Bg _ _ _ _ _ _ {st with bs:=_,ms:=_}
  rw[e0]
  exact this
 ·have hB:=b1.c c hc
  have hw1:(qb2 rs (#[58].map Brn.n)).length<=20:=by
   have h1:=xr0 rs ((#[58].map Brn.n).takeWhile fun n=>!(S5 rs n))
   have h2:((#[58].map Brn.n).takeWhile fun n=>!(S5 rs n)).length<=(#[58].map Brn.n).length:=(takeWhile_sublist _).length_le
   rw[length_map] at h2
   unfold qb2;omega
  refine⟨by show(c.ws++_).length<=_;rw[length_append];have:=hB.ws;omega,fun n hn=>?_⟩
  rcases mem_append.mp hn with hn|hn
  ·exact hB.wr n hn
  ·obtain⟨b,hb,e⟩:=mem_map.mp (zp0 hn)
   rw[<-e]
   refine h.nr b ?_
   have:st.bs.drop (kept+1)=st.bs.tail.drop kept:=by rw[<-drop_one,drop_drop];congr 1;omega
   rw[this] at hb
   exact mem_of_mem_drop hb
theorem xr1(l:List Brn)(b1 b2:Brn):lvB (l++[b1,b2])=l++[{b1 with ps:=b1.ps++[Tr.nd b2.n b2.ps]}]:=by
 unfold lvB
 have e:l++[b1,b2]=(l++[b1])++[b2]:=by simp
 rw[e,dropLast_concat,dropLast_concat,qt9,qt9]
theorem yw7{bs:List Brn}(h:2<=bs.length):∃ l b1 b2,bs=l++[b1,b2]:=by
 rcases eq_nil_or_concat bs with e|⟨l,b2,e⟩
 ·rw[e] at h;simp at h
 ·rw[concat_eq_append] at e
  rcases eq_nil_or_concat l with e1|⟨l',b1,e1⟩
  ·rw[e,e1] at h;simp at h
  ·rw[concat_eq_append] at e1
   exact⟨l',b1,b2,by rw[e,e1];simp⟩
theorem Bg.lv(h:Bg rs P W M D T st)(h2:2<=st.bs.length):Bg rs (P+1) W M D T (lvS st):=by
 obtain⟨l,b1,b2,e⟩:=yw7 h2
 have e1:(lvS st).bs=l++[{b1 with ps:=b1.ps++[Tr.nd b2.n b2.ps]}]:=by show lvB st.bs=_;rw[e,xr1]
 have hb:=h.c b1 (by rw[e];simp)
 have hpl:=h.pl
 rw[e] at hpl
 refine⟨fun c hc=>?_,?_,fun c hc=>?_,by rw[e1];simp,by rw[e1];have:=h.l;rw[e] at this;simp at this ⊢;omega,h.m,h.d⟩
 ·rw[e1] at hc
  rcases mem_append.mp hc with hc|hc
  ·exact(h.c c (by rw[e];simp[hc])).mono #[0] #[0] #[0]
  ·rw[mem_singleton.mp hc]
   refine⟨hb.n,?_,hb.ws,hb.wr,?_⟩
   ·show(b1.ps++[_]).length<=_;rw[length_append,length_singleton];have:=hb.ps;omega
   ·show adA (b1.ps++[_])<=_
    rw[Ah7];exact Nat.zero_le _
 ·rw[e1,map_append]
  have e2:l++[b1,b2]=(l++[b1])++[b2]:=by simp
  rw[e2,map_append,length_append,length_singleton,range_succ] at hpl
  have:=(append_inj' hpl rfl).1
  rw[map_append] at this
  rw[show(l++[({b1 with ps:=b1.ps++[Tr.nd b2.n b2.ps]}:Brn)]).length=(l++[b1]).length by simp]
  exact this
 ·rw [e1] at hc
  have h1:c.n∈(l++[({b1 with ps:=b1.ps++[Tr.nd b2.n b2.ps]}:Brn)]).tail.map Brn.n:=mem_map_of_mem hc
  rw[map_tail,map_append] at h1
  have h2:c.n∈(l.map Brn.n++[b1.n]).tail:=h1
  have h3:c.n∈(st.bs.map Brn.n).tail:=by
   rw[e]
   cases l with
   | nil=>cases h2
   | cons x l =>
     have h4:c.n∈l.map Brn.n++[b1.n]:=h2
     show c.n∈(l++[b1,b2]).map Brn.n
     rw[map_append]
     rcases mem_append.mp h4 with h|h
     ·exact mem_append_left _ h
     ·exact mem_append_right _ (by rw[mem_singleton.mp h];simp)
  rw[<-map_tail] at h3
  obtain⟨b,hb,e4⟩:=mem_map.mp h3
  rw[<-e4];exact h.nr b hb
theorem Bg.tx(h:Bg rs P W M D T st):Bg rs (P+1) W M (D+1) (T+t.length) (txS st i g t):=by
 obtain⟨l,b,e,e2,hp,hb⟩:=h.snoc
 have e1:(txS st i g t).bs=l++[{b with ps:=adP b.ps t}]:=by show st.bs.dropLast++[_]=_;rw[e2,e,dropLast_concat]
 have hpl:=h.pl
 rw[e] at hpl
 refine⟨fun c hc=>?_,?_,fun c hc=>?_,by rw[e1];simp,by rw[e1];have:=h.l;rw[e] at this;simp at this ⊢;omega,h.m,by show(st.ls++[_]).length<=_;have:=h.d;simp;omega⟩
 ·rw[e1] at hc
  rcases mem_append.mp hc with hc|hc
  ·exact(h.c c (by rw[e];simp[hc])).mono #[0] #[0] #[0]
  ·rw[mem_singleton.mp hc]
   refine⟨hb.n,?_,hb.ws,hb.wr,?_⟩
   ·show(adP b.ps t).length<=_;have:=hb.ps;have:=zx2 b.ps t;omega
   ·show adA (adP b.ps t)<=_
    rw[zx3];have:=hb.t;omega
 ·rw[e1,map_append]
  rw[map_append] at hpl
  rw[show(l++[({b with ps:=adP b.ps t}:Brn)]).length=(l++[b]).length by simp]
  exact hpl
 ·rw[e1] at hc
  have h1:c.n∈(l++[({b with ps:=adP b.ps t}:Brn)]).tail.map Brn.n:=mem_map_of_mem hc
  rw[map_tail,map_append] at h1
  have h2:c.n∈(st.bs.map Brn.n).tail:=by rw[e,map_append];exact h1
  rw[<-map_tail] at h2
  obtain⟨b,hb,e4⟩:=mem_map.mp h2
  rw[<-e4];exact h.nr b hb
theorem Bg.sign(h:Bg rs P W M D T st):Bg rs P W (M+g.length) D T (xa7 st i g) :=
 ⟨h.c,h.pl,h.nr,h.ne,h.l,by
  show(st.ms++_).length<=_
  rw[length_append,length_map]
  have h1:=xe7 g.cps.toList g.cps.toList.length
  have h2:g.cps.toList.length=g.length:=Array.length_toList
  have:=h.m;omega,h.d⟩
theorem yg7{rs:List Row}{P W M D T:Nat}{i:Int}(hN:∀ r∈rs,(Row.name r).length<=4000):∀ (ws:List Str) (s:Rst),Bg rs P W (M+21) D T s->s.ms.length<=M+s.bs.length->(∀ n∈ws,∃ r∈rs,Row.name r=n)->Bg rs P W (M+21) D T (ws.foldl (qg2 rs i) s)/\(ws.foldl (qg2 rs i) s).ms.length<=M+(ws.foldl (qg2 rs i) s).bs.length
 | [],s,h,hm,_=>⟨h,hm⟩
 | n :: ws,s,h,hm,hw=>by
   rw[foldl_cons]
   have hr:=hw n (by simp)
   refine yg7 hN ws _ ?_ ?_ fun m hm=>hw m (by simp[hm])
   ·unfold qg2
    split
    ·rename_i ha
     unfold ws5 at ha
     rw[Bool.and_eq_true,decide_eq_true_eq] at ha
     have hl:=h.nlen
     have hp:=h.put (n:=n) (i:=i) (rule := "anew") #[0] (by obtain⟨r,h1,h2⟩:=hr;rw[<-h2];exact hN r h1) hr
     refine⟨hp.c,hp.pl,hp.nr,hp.ne,hp.l,?_,hp.d⟩
     have h2:=wb3 s n i "anew"
     have h3:=hp.l
     show(s.ms++[_]).length<=_
     rw[length_append,length_singleton]
     omega
    ·exact h
   ·unfold qg2
    split
    ·rw[wb3]
     show(s.ms++[_]).length<=_
     rw[length_append,length_singleton];omega
    ·exact hm
theorem yw8(h:Bg rs P W M D T st):(lwS rs st.bs).length<=W/\∀ n∈lwS rs st.bs,∃ r∈rs,Row.name r=n:=by
 obtain⟨l1,b,l2,e,lw⟩:=yp6 rs h.ne
 have hb:=h.c b (by rw[e];simp)
 rw[e,yg4 lw]
 exact⟨hb.ws,hb.wr⟩
theorem Bg.anews(h:Bg rs P W M D T st)(hN:∀ r∈rs,(Row.name r).length<=4000):Bg rs P W (M+21) D T (qz0 rs i st):=by
 have h1:=h.wup (f:=fun _=>[]) (W':=W) #[11] fun c _=>⟨Nat.zero_le _,fun n hn=>by cases hn⟩
 refine(yg7 hN _ _ (h1.mono #[11] #[11] #[0] #[11] #[11]) ?_ (yw8 h).2).1
 show st.ms.length<=_
 have:=h.m
 omega
theorem yw9{rec:Str->Nat×List Str}:∃ ps,(xa1 rs rk ys rec x).2=ps++[x]:=by
 unfold xa1
 split
 ·unfold qp1
  split
  ·exact⟨[],rfl⟩
  ·exact⟨_,rfl⟩
 ·split
  ·exact⟨[],rfl⟩
  ·exact⟨_,rfl⟩
theorem xf4(n:Nat)(x:Str):∃ ps,(M5 rs rk ys n x).2=ps++[x]:=by
 cases n <;> (rw[M5];exact yw9)
theorem xf5(h:E8 rs (some n)≠none):∃ r∈rs,Row.name r=n:=by
 unfold E8 at h
 cases e:N0 rs (some n) with
 | none=>rw[e] at h;exact absurd rfl h
 | some r=>exact⟨r,(wm1 e).1,(wm1 e).2⟩
structure Bok(rs:List Row)(rk:Str->Nat):Prop where
 B:Boo rs
 f:wz0 rs rk
 k:∀ x,rk x<=13
 n:∀ r∈rs,(Row.name r).length<=4000
 sb:∀ r∈rs,r.shuts.length<=1000/\r.bars.length<=1000
theorem Bok.row(b:Bok rs rk){n:Str}(h:∃ r∈rs,Row.name r=n):n.length<=4000:=by obtain⟨r,h1,h2⟩:=h;rw[<-h2];exact b.n r h1
theorem Bg.op(b:Bok rs rk)(h:Bg rs P W M D T st):Bg rs (P+2) (W+20) (M+60) D T (opS rs rk st i g n):=by
 have hd:∀ rule,Bg rs (P+2) (W+20) (M+60) D T (qt8 st i g rule):=fun rule=>h.drop.mono #[0] #[0] #[0] #[0] #[0]
 unfold opS
 split
 ·exact hd _
 rename_i hs
 split
 ·exact hd _
 split
 ·exact hd _
 rename_i hlen
 have hrow:=xf5 hs
 have w:=wp9 b.B b.f (ys:=G4 st) 13 n hrow (b.k n)
 have hnl:=h.nlen
 obtain⟨ps,hps⟩:=xf4 (rs:=rs) (rk:=rk) (ys:=G4 st) 13 n
 have hw1:=w.k
 have hm:=w.m
 generalize M5 rs rk (G4 st) 13 n=wt at *
 have hk:wt.1<st.bs.length:=by omega
 have e1:wt.2.dropLast=ps:=by rw[hps,dropLast_concat]
 have e2:wt.2.length=ps.length+1:=by rw[hps];simp
 have hc:=h.cls (i:=i) (rule := "shut") hk
 have hcl:#[57].bs.length=wt.1+1:=by rw[wq4,length_take];omega
 have hp:=hc.puts (ns:=ps) (i:=i) (rule := "frame") (by rw[hcl];omega) fun m hmm=>by
  have:=hm m (by rw[hps];simp[hmm])
  exact⟨b.row this,this⟩
 have hpl:=wq3 ps #[57] i "frame"
 have hpb:ps.length<=20:=by omega
 have he:=hp.ent (n:=n) (by rw[hpl,hcl];omega) (b.row hrow) hrow
 rw[e1]
 dsimp only
 split
 ·refine(he.lv ?_).mono #[0] #[0] #[0] #[0] #[0]
  show 2<=(qn9 _ n).length
  unfold qn9
  rw[length_append,hpl,hcl,length_singleton];omega
 ·exact he.mono #[0] #[0] #[0] #[0] #[0]
theorem zx4(ws:List Str)(n:Str):(woL ws n).length<=ws.length:=by
 unfold woL
 rw[length_reverse,<-length_reverse (as:=ws)]
 exact length_erase_le
theorem zx5{m:Str}(h:m∈woL ws n):m∈ws:=by
 unfold woL at h
 exact mem_reverse.mp (mem_of_mem_erase (mem_reverse.mp h))
theorem Bg.clo(h:Bg rs P W M D T st):Bg rs (P+2) (W+20) (M+60) D T (wj4 rs rk st i g n):=by
 have hnl:=h.nlen
 unfold wj4
 split
 ·rename_i k hk
  have:=xq2 hk
  refine((h.cls #[0]).lv ?_).mono #[0] #[0] #[0] #[0] #[0]
  rw[wq4,length_take];omega
 ·split
  ·refine((h.drop (i:=i) (g:=g) (rule := "late")).wup (f:=fun ws=>woL ws n) (W':=W) #[11] fun c hc=>⟨?_,fun m hm=>?_⟩).mono #[0] #[0] #[0] #[0] #[0]
   ·have h1:=(h.c c hc).ws
    have h2:=zx4 c.ws n
    exact Nat.le_trans h2 h1
   ·exact(h.c c hc).wr m (zx5 hm)
  ·exact h.drop.mono #[0] #[0] #[0] #[0] #[0]
theorem Bg.run(b:Bok rs rk)(h:Bg rs P W M D T st):Bg rs (P+2) (W+20) (M+60+g.length) (D+1) (T+t.length) (qz1 rs st i g t):=by
 have hnl:=h.nlen
 unfold qz1
 split
 ·exact h.drop.mono #[0] #[0] #[0] #[0] #[0]
 split
 ·exact h.drop.mono #[0] #[0] #[0] #[0] #[0]
 rename_i hlen
 have hh:(Q5 rs st).length<=12:=ql2 rs 12 _
 have hp:=h.puts (ns:=Q5 rs st) (i:=i) (rule := "host") #[0] fun m hm=>by
  have:=wa7 b.B 12 _ m hm
  exact⟨b.row this,this⟩
 exact((hp.anews (i:=i) b.n).sign.tx).mono #[0] #[0] #[0] #[0] #[0]
theorem Bg.step(b:Bok rs rk)(h:Bg rs P W M D T st):Bg rs (P+2) (W+20) (M+60+g.length) (D+1) (T+t.length) (qq3 rs rk st kind i g t):=by
 unfold qq3
 split
 ·exact(h.op b).mono #[0] #[0] #[0] #[0] #[0]
 split
 ·exact h.clo.mono #[0] #[0] #[0] #[0] #[0]
 ·exact h.run b
end
theorem Ab2(n p q w v:V):qm8 ("waiting":Str) v [(("name":Str),n),(("place":Str),p),(("parts":Str),q),(("waiting":Str),w)]=[(("name":Str),n),(("place":Str),p),(("parts":Str),q),(("waiting":Str),v)]:=by
 show(if(("name":Str)) = "waiting" then _ else _::(if(("place":Str)) = "waiting" then _ else _::(if(("parts":Str)) = "waiting" then _ else _::(if(("waiting":Str)) = "waiting" then _ else _))))=_
 rw[if_neg #[10],if_neg #[10],if_neg #[10],if_pos rfl]
theorem zp2{H3:Hp}(h1:U1 H1 H2)(h2:U1 H2 H3):U1 H1 H3:=⟨fun c xs e=>h2.1 c xs (h1.1 c xs e),fun c o xs e=>h2.2 c o xs (h1.2 c o xs e)⟩
section
variable{kR kB r:Addr}{bv:V}{a:RAd}{st:Rst}
theorem Rup.waitN{m2:List BA}{x:BA}(h:RdO K H kR kB r bv a st)(ea:a.as=m1++x::m2)(eb:st.bs=l1++b::l2)(hl:m1.length=l1.length)(hw:H w=none) :
 Rup K kR kB r bv H a (upd (upd H w #[24,ws]) x.o (.ins kB x.x (bF {x with w:=w} b))) {a with as:=m1++{x with w:=w}::m2} {st with bs:=l1++{b with ws:=ws}::l2}:=by
 walk_at"25"
 have nwo:x.o≠w:=Z3 hw hx.o
 obtain⟨us,q1,q2⟩:=hx.q
 have nwq:x.q≠w:=Z3 hw q1
 have s1:=A9.new hw #[24,ws]
 have tk:U1 H (upd (upd H w #[24,ws]) x.o (.ins kB x.x (bF {x with w:=w} b))):=zp2 s1.tupK (Q4 (.inr ⟨_,_,_,s1 _ _ hx.o⟩))
 refine Rup.swap h ea eb hl (fun z u e n=>E2 (s1 _ _ e) fun y=>n (by rw[y];simp[BA.fp])) ⟨A8,tk.sqT hx.p,⟨us,E2 (s1 _ _ q1) (Ne.symm no),Dvs.tupK tk _ _ (qa5 _) q2⟩,E2 A8 (Ne.symm nwo)⟩ (fun z hz=>?_) ?_ rfl
 ·simp only[BA.fp,mem_cons,not_mem_nil,or_false] at hz ⊢
  rcases hz with rfl|rfl|rfl
  ·exact .inl (.inl rfl)
  ·exact .inl (.inr (.inl rfl))
  ·exact .inr hw
 ·simp[BA.fp,no,nwo,nwq]
end
theorem zp3{a c:List Str}:(ys.any fun y=>decide (y∈[n]++a++c))=ys.any fun y=>decide (y∈n::(a++c)):=rfl
abbrev qx1(K:Fg):TS :=
 (E3 (wr9 (tOp xo4 (tCB (O3 K) #[3,1]) #[1,20]) (yx8 (C3 (W5 K) [] E0 (A3 (C3 (ql3 K) [] E0 (A3 (A7 0) #[3,1])) #[3,4])))))
abbrev qx2(K:Fg):TS :=
 (B9 (C8 (tOp (qw7 K) (tOp (qw7 K) (X3 #[3,2]) (tOp (D2 K) (A7 3) #[1,3])) (tOp (D2 K) (A7 3) #[1,4])) (B3 4))
 (qx1 K))
def qa9(K:Fg):Sp:=fun vs H Q _=>∃ (v:V) (a:Addr) (ns:List Str) (n:Str) (rs:List Row),vs=[v,.ref a,.str n]/\BkO K H v rs/\SqT K H a (B4 ns)/\ns.length<=1000/\(∃ r∈rs,Row.name r=n)/\(∀ r∈rs,r.shuts.length<=1000/\r.bars.length<=1000)/\∀ H',A9 H H'->Q (.bl (ws5 rs ns n)) H'
def W9(K:Fg):TS :=
 (B9 (C8 (C3 (qa4 K) [] E0 (A3 (A7 0) #[3,2])) (B3 3))
 (qx2 K))
theorem xf6(h:qa9 K vs H Q E):W9 K {nx:=fun _ H'=>Q .non H',rt:=Q} (C9 ["book","names","name","row","unfit"] vs) H:=by
 obtain⟨v,a,ns,n,rs,rfl,hk,ha,hl,hrow,hsb,q⟩:=h
 show W9 K _ [some v,some (.ref a),some (.str n),none,none] H
 unfold W9
 obtain⟨r0,er,hr0,hrn⟩:=yf2 hrow
 lk
 refine⟨v,some n,rs,rfl,hk.rws,fun e=>(by rw[er] at e;cases e),fun r u e hu=>?_⟩
 rw[er] at e
 obtain rfl:=Option.some.inj e
 obtain⟨b,ps,pb,rfl,hb,hps,hpb⟩:=wp8 hu
 obtain⟨l1,l2⟩:=hsb r0 hr0
 show qx2 K _ _ _
 walk_at"14"
 have s1:=A9.new hp (.tup [.str n])
 lk
 refine G1 (s1.sqT hb) (v:=.ref ps) rfl ?_
 refine wu8 (SqT.of A8) (s1.sqT hps) (by rw[B7];exact D5 (by simp;omega)) fun p2 H2 s2 hp2=>?_
 have s12:=A9.tr s1 s2
 lk
 refine G1 (s12.sqT hb) (v:=.ref pb) rfl ?_
 refine wu8 hp2 (s12.sqT hpb) (by rw[B7,length_append,B7];exact D5 (by simp;omega)) fun p3 H3 s3 hp3=>?_
 have s13:=A9.tr s12 s3
 have hp3':SqT K H3 p3 (B4 ([n]++r0.shuts++r0.bars)):=by simpa [B4] using hp3
 show qx1 K _ _ _
 lk
 refine N8 (.inr (s13.sqT ha)) ?_
 rw[B7]
 lk
 have esh:qr0 rs n=r0.shuts:=by unfold qr0;rw[er]
 have ebr:wm2 rs n=r0.bars:=by unfold wm2;rw[er]
 by_cases hlt:ns.length<20
 ·rw[decide_eq_true (show(ns.length:Int)<20 by omega)]
  x_go
  lk
  refine⟨v,a,ns,rs,rfl,(hk.same s13).rws,s13.sqT ha,hl,fun p4 H4 s4 hp4=>?_⟩
  lk
  refine⟨p4,p3,R3 rs ns,_,rfl,hp4,s4.sqT hp3',by have:=qn3 rs ns.length ns rfl;omega,fun H5 s5=>?_⟩
  lk
  have ea:ws5 rs ns n=!((R3 rs ns).any fun y=>decide (y∈[n]++r0.shuts++r0.bars)):=by
   unfold ws5
   rw[decide_eq_true hlt,esh,ebr,zp3];rfl
  have:=q H5 (A9.tr (A9.tr s13 s4) s5)
  rw[ea] at this
  exact this
 ·rw[decide_eq_false (show ¬(ns.length:Int)<20 by omega)]
  k_go
  have ea:ws5 rs ns n=false:=by unfold ws5;rw[decide_eq_false hlt];rfl
  have:=q H3 s13
  rw[ea] at this
  exact this
theorem xr2{n:Str}:∀ {ws:List Str},n∈ws->∃ A B,ws=A++n::B/\n∉B
 | [],h=>by cases h
 | x::ws,h=>by
   by_cases hn:n∈ws
   ·obtain⟨A,B,e,hB⟩:=xr2 hn
    exact⟨x::A,B,by rw[e];rfl,hB⟩
   ·rcases mem_cons.mp h with h|h
    ·exact⟨[],ws,by rw[h];rfl,hn⟩
    ·exact absurd h hn
theorem zg3(h:n∉B):woL (A++n::B) n=A++B:=by
 unfold woL
 rw[reverse_append,reverse_cons,append_assoc,erase_append_right _ (by simpa using h)]
 simp
abbrev wb4(K:Fg):TS :=
 (E3 (tOp (E7 K) (tSl (wu7 K) (A7 0) qg8 (Y3 (A7 2))) (tSl (wu7 K) (A7 0) (Y3 (tOp (E7 K) (A7 2) #[1,1])) qg8)))
abbrev wb5(K:Fg):TS :=
 (B9 (qy6 (C5 (tOp (qq5 K) (tOp (D2 K) (A7 0) (A7 2)) (A7 1)))
 (C8 (tOp (rI0 fun i j=>.int (i-j)) (A7 2) #[1,1]) (B3 2)))
 (wb4 K))
def qf0(K:Fg):Sp:=fun vs H Q _=>∃ (p:Addr) (ws:List Str) (n:Str),vs=[.ref p,.str n]/\H p=some #[24,ws]/\n∈ws/\ws.length<=9000000/\∀ (q:Addr) (H':Hp),A9 H H'->H q=none->H' q=some #[24,woL ws n]->Q (.ref q) H'
def Z5(K:Fg):TS :=
 (B9 (C8 (tOp (rI0 fun i j=>.int (i-j)) (tCB (O3 K) #[3,0]) #[1,1]) (B3 2))
 (wb5 K))
theorem xl0(h:qf0 K vs H Q E):Z5 K {nx:=fun _ H'=>Q .non H',rt:=Q} (C9 ["names","name","number"] vs) H:=by
 obtain⟨p,ws,n,rfl,hp,hn,hl,q⟩:=h
 show Z5 K _ [some (.ref p),some (.str n),none] H
 unfold Z5
 obtain⟨A,B,rfl,hB⟩:=xr2 hn
 have hlen:(A++n::B).length=A.length+B.length+1:=by simp;omega
 lk
 refine N8 (.inl #[59,hp]) ?_
 rw[B7,hlen]
 lk
 have e0:((A.length+B.length+1:Nat):Int)-1=((A.length+B.length:Nat):Int):=by omega
 rw[e0]
 show wb5 K _ _ _
 refine qf6 ?_
 refine ya8 (fun σ H'=>H'=H/\∃ m:Nat,m<=B.length/\σ=[some (.ref p),some (.str n),some (.int ((A.length+m:Nat):Int))]) (fun σ _=>match σ with | [_,_,some (.int k)]=>k.toNat-A.length|_=>0) ⟨rfl,B.length,Nat.le_refl _,rfl⟩ ?_
 rintro σ H' ⟨rfl,m,hm,rfl⟩
 lk
 cases m with
 | zero =>
   refine L7 #[59,hp] (v:=.str n) (D3 (by simp[B4])) ?_
   lk
   rw[decide_eq_true rfl]
   k_go
   show wb4 K _ _ _
   lk
   refine yz3 #[59,hp] fun p1 hp1=>?_
   have e1:qg5 (B4 (A++n::B)) none (some ((A.length+0:Nat):Int))=B4 A:=by rw[xq1];simp
   rw[e1]
   have s1:=A9.new hp1 #[24,A]
   lk
   refine yz3 #[59,s1 _ _ hp] fun p2 hp2=>?_
   have e2:qg5 (B4 (A++n::B)) (some (((A.length+0:Nat):Int)+1)) none=B4 B:=by
    rw[xf1 #[0],show(((A.length+0:Nat):Int)+1).toNat=A.length+1 by omega]
    show((A++n::B).map V.str).drop _=B.map V.str
    rw[<-map_drop]
    congr 1
    rw[drop_append,drop_eq_nil_of_le #[0],show A.length+1-A.length=1 by omega];rfl
   rw[e2]
   have s2:=A9.new hp2 #[24,B]
   lk
   refine zk5 (s2 _ _ A8) A8 (by rw[B7,B7,sizeLine_eq];omega) fun p3 hp3=>?_
   have s3:=A9.new hp3 (.lst (B4 A++B4 B))
   lk
   refine q _ _ (A9.tr (A9.tr s1 s2) s3) (A9.grow (A9.tr s1 s2) _ hp3) ?_
   rw[A8,zg3 hB]
   simp[B4]
 | succ m =>
   have hg:(A++n::B)[A.length+(m+1)]?=some B[m]:=by
    rw[List.getElem?_append_right #[0],show A.length+(m+1)-A.length=m+1 by omega,List.getElem?_cons_succ,List.getElem?_eq_getElem #[0]]
   refine L7 #[59,hp] (v:=.str B[m]) (D3 (by unfold B4;rw[List.getElem?_map,hg];rfl)) ?_
   lk
   rw[decide_eq_false fun e=>hB (by rw[<-e];exact List.getElem_mem _)]
   x_go
   refine⟨fun σ' H''=>H''=H'/\σ'=[some (.ref p),some (.str n),some (.int ((A.length+m:Nat):Int))],?_,?_⟩
   ·rintro σ' H'' ⟨rfl,rfl⟩
    refine⟨m,?_,?_,rfl,m,by omega,rfl⟩
    ·show m<(((A.length+(m+1):Nat):Int)).toNat-A.length;omega
    ·show m=(((A.length+m:Nat):Int)).toNat-A.length;omega
   ·lk
    refine⟨rfl,?_⟩
    show[some (V.ref p),some (V.str n),some (V.int (((A.length+(m+1):Nat):Int)-1))]=_
    rw[show((A.length+(m+1):Nat):Int)-1=((A.length+m:Nat):Int) by omega]
theorem RdO.old_w{r:Addr}{a:RAd}{m2:List BA}{x:BA}(h:RdO K H kR kB r bv a st)(ea:a.as=m1++x::m2)(hw:H w=none)(hx:H x.w≠none):x.w∉RAd.fp r {a with as:=m1++{x with w:=w}::m2}:=by
 have nd:=h.nd
 have e1:RAd.fp r a=(r::a.L::a.M::a.A::(fpA m1++[x.o,x.q]))++x.w::fpA m2:=by
  unfold RAd.fp;rw[ea,Q7,P3];simp[BA.fp]
 have e2:RAd.fp r {a with as:=m1++{x with w:=w}::m2}=(r::a.L::a.M::a.A::(fpA m1++[x.o,x.q]))++w::fpA m2:=by
  unfold RAd.fp
  show r::a.L::a.M::a.A::fpA (m1++{x with w:=w}::m2)=_
  rw[Q7,P3];simp[BA.fp]
 rw[e1,nodup_append] at nd
 rw[e2]
 intro hm
 rcases mem_append.mp hm with hm|hm
 ·exact nd.2.2 _ hm _ (by simp) rfl
 ·rcases mem_cons.mp hm with hm|hm
  ·exact hx (hm▸hw)
  ·exact(nodup_cons.mp nd.2.1).1 hm
abbrev X9(K:Fg)(qB:Addr):TS :=
 (G5 (N6 qB "put_in" (O2 K) [] E0 (A7 0) (A3 (A7 4) (A3 (A7 1) (A3 (tC (.str "anew")) B1)))))
abbrev Y0(K:Fg)(qB:Addr):TS :=
 (N1 (tB (C3 (qa9 K) [] E0 (A3 (R4 K (A7 0) "book") (A3 #[70] #[3,4]))))
 (X9 K qB) J5)
abbrev Y1(K:Fg)(qB:Addr):TS :=
 (B9 (wk1 K (A7 2) (T8 B1) "waiting")
 (qf4 (qq7 K (A7 3)) (B3 4)
 (Y0 K qB)))
def N5(K:Fg):Sp:=fun vs H Q _=>∃ (kR kB r:Addr) (bv:V) (a:RAd) (st:Rst) (rs:List Row) (rk:Str->Nat) (i:Int) (P W M D T:Nat),vs=[.ref r,.int i]/\RdO K H kR kB r bv a st/\BkO K H bv rs/\Bok rs rk/\Bg rs P W M D T st/\P<=8500000/\W<=8500000/\M<=8500000/\∀ a' H',Rup K kR kB r bv H a H' a' (qz0 rs i st)->C4 H H'->Q .non H'
def L4(K:Fg)(qB:Addr):TS :=
 (B9 (C8 (N6 qB "last_wall" (L9 K) [] E0 (A7 0) B1) (B3 2))
 (B9 (C8 (R4 K (A7 2) "waiting") (B3 3))
 (Y1 K qB)))
theorem qu0(cz:Cz K qA qB)(h:N5 K vs H Q E):L4 K qB {nx:=fun _ H'=>Q .non H',rt:=Q} (C9 ["self","start","wall","names","name"] vs) H:=by
 obtain⟨kR,kB,r,bv,a,st,rs,rk,i,P,W,M,D,T,rfl,h,hk,bk,bg,hP,hWb,hM,q⟩:=h
 walk_at"4"
 show L4 K _ _ [some (.ref r),some (.int i),none,none,none] H
 unfold L4
 walk_at"3"
 refine⟨qB,qA,r,bv,a,st,rs,rfl,h,hk,bg.ne,by have:=bg.l;omega,fun m1 m2 x l1 l2 b H1 s1 ea eb hm lw=>?_⟩
 have h1:=h.same s1
 have hb1:=h1.b
 rw[ea,eb] at hb1
 have hx:=(hb1.split hm).2.1
 have elw:lwS rs st.bs=b.ws:=by rw[eb];exact yg4 lw
 have ewu:wUp rs (fun _=>[]) st.bs=l1++{b with ws:=[]}::l2:=by rw[eb];exact wv7 lw
 walk_at"23"
 refine⟨x.o,_,x.x,_,_,rfl,hx.o,cz.cl_Branch,cz.na_Branch_waiting,rfl,?_⟩
 show Y1 K _ _ _ _
 refine qf6 (ql9 ?_)
 lk
 refine⟨D5 (by z_go),fun w hw=>?_⟩
 lk
 have s2:=A9.new hw (.lst [])
 refine⟨x.o,_,x.x,_,rfl,s2 _ _ hx.o,cz.cl_Branch,cz.na_Branch_waiting,by unfold bF;simp,?_⟩
 unfold bF
 rw[Ab2]
 have u:=Rup.waitN (ws:=[]) h1 ea eb hm hw
 have xnd:=h1.xnd ea
 have no:x.w≠x.o:=by simp[BA.fp] at xnd;exact Ne.symm xnd.1.2
 have nxw:x.w∉RAd.fp r {a with as:=m1++{x with w:=w}::m2}:=h1.old_w ea hw (by rw[hx.w];exact fun z=>by cases z)
 have hw3:(upd (upd H1 w (.lst [])) x.o #[26]) x.w=some #[24,b.ws]:=E2 (s2 _ _ hx.w) no
 have g:C4 H1 (upd (upd H1 w (.lst [])) x.o #[26]):=C4.tr C4.upd C4.upd
 have u':Rup K qB qA r bv H1 a (upd (upd H1 w (.lst [])) x.o #[26]) {a with as:=m1++{x with w:=w}::m2} {st with bs:=wUp rs (fun _=>[]) st.bs}:=by rw[ewu];exact u
 generalize upd (upd H1 w (.lst [])) x.o #[26]=H2 at *
 rw[<-elw] at hw3
 obtain⟨a2,ea2⟩:∃ a2,a2=({a with as:=m1++{x with w:=w}::m2}:RAd):=⟨_,rfl⟩
 rw[<-ea2] at u' nxw
 have hk2:=(hk.same s1).tupK (u'.tupK h1)
 have bg1:=bg.wup (f:=fun _=>[]) (W':=W) #[11] fun c _=>⟨Nat.zero_le _,fun n hn=>by cases hn⟩
 have bgj:∀ j,Bg rs P W (M+21) D T (((lwS rs st.bs).take j).foldl (qg2 rs i) {st with bs:=wUp rs (fun _=>[]) st.bs}):=fun j =>
  (yg7 bk.n _ _ (bg1.mono #[11] #[11] #[0] #[11] #[11]) (by show st.ms.length<=_;have:=bg.m;omega) fun n hn=>(yw8 bg).2 n (mem_of_mem_take hn)).1
 lk
 refine wy4 #[59,hw3] (fun j σ H'=>∃ a' x4,σ=[some (.ref r),some (.int i),some (.ref x.o),some (.ref x.w),x4]/\Rup K qB qA r bv H2 a2 H' a' (((lwS rs st.bs).take j).foldl (qg2 rs i) {st with bs:=wUp rs (fun _=>[]) st.bs})/\C4 H2 H') ?_ ?_ ?_ ?_
 ·exact⟨a2,none,rfl,.keep u'.ok fun c o e _=>e,fun z hz=>hz⟩
 ·rintro j σ H' _ ⟨a',x4,rfl,uj,gj⟩
  exact SqL.of (uj.bt _ _ hw3 nxw)
 ·rintro j v σ H' hv ⟨a',x4,rfl,uj,gj⟩
  obtain⟨n,hn,rfl⟩:=qd6 hv
  have hr:=(yw8 bg).2 n (mem_of_getElem? hn)
  have bj:=bgj j
  have efold:((lwS rs st.bs).take (j+1)).foldl (qg2 rs i) {st with bs:=wUp rs (fun _=>[]) st.bs}=qg2 rs i (((lwS rs st.bs).take j).foldl (qg2 rs i) {st with bs:=wUp rs (fun _=>[]) st.bs}) n:=by
   rw[qt6 hn,foldl_append];rfl
  generalize ((lwS rs st.bs).take j).foldl (qg2 rs i) {st with bs:=wUp rs (fun _=>[]) st.bs}=sj at *
  obtain⟨b0,bs0,eb0⟩:=exists_cons_of_ne_nil bj.ne
  have hl0:bs0.length<=20:=by have:=bj.l;rw[eb0] at this;simp at this;omega
  have hnm:G4 sj=bs0.map Brn.n:=by unfold G4;rw[eb0];rfl
  have hkj:=hk2.tupK (uj.tupK u'.ok)
  refine D6 ?_
  show Y0 K _ _ _ _
  walk_at"23"
  refine⟨r,_,a'.x,_,_,rfl,uj.ok.o,cz.cl_Reader,cz.na_Reader_book,rfl,?_⟩
  walk_at"26"
  refine⟨r,_,_,rfl,uj.ok.o,rfl,?_⟩
  lk
  refine⟨qB,qA,r,bv,a',sj,b0,bs0,rfl,uj.ok,eb0,by omega,fun p H4 s4 hp=>?_⟩
  lk
  refine⟨bv,p,bs0.map Brn.n,n,rs,rfl,hkj.same s4,hp,by rw[length_map];omega,hr,bk.sb,fun H5 s5=>?_⟩
  have s45:=A9.tr s4 s5
  have h5:=uj.ok.same s45
  have u5:=uj.tr (uj.ok.up s45) gj
  have g5:=C4.tr gj (A9.grow s45)
  rw[<-hnm]
  lk
  by_cases ha:ws5 rs (G4 sj) n=true
  ·rw[ha]
   x_go
   show X9 K _ _ _ _
   walk_at"26"
   refine⟨r,_,_,rfl,h5.o,rfl,?_⟩
   lk
   obtain⟨lb,bb,e1,e2,e3,e4⟩:=bj.snoc
   have h3:=e4.ps
   have h4:=bj.m
   have h6:=bj.l
   rw[e1,length_append,length_singleton] at h6
   refine⟨qB,qA,r,bv,a',sj,n,i, "anew",lb,bb,rfl,h5,e1,by omega,by omega,by omega,by omega,bk.row hr,fun a6 H6 u6 g6=>?_⟩
   refine⟨a6,_,rfl,?_,C4.tr g5 g6⟩
   rw[efold]
   have ep:qg2 rs i sj n={sj with bs:=sj.bs++[⟨n,bb.pl++[(bb.ps.length:Int)],[],[]⟩],ms:=sj.ms++[⟨i,i,opn n, "anew"⟩]}:=by
    unfold qg2
    rw[if_pos ha]
    unfold xf3 qn9 xw0
    rw[e2]
   rw[ep]
   exact u5.tr u6 g5
  ·rw[Bool.eq_false_iff.mpr ha]
   k_go
   lk
   refine⟨a',_,rfl,?_,g5⟩
   rw[efold]
   unfold qg2
   rw[if_neg ha]
   exact u5
 ·rintro σ H' ⟨a',x4,rfl,uj,gj⟩
  rw[B7,take_length] at uj
  exact q _ _ (((h.up s1).tr u' (A9.grow s1)).tr uj (C4.tr (A9.grow s1) g)) (C4.tr (C4.tr (A9.grow s1) g) gj)
abbrev wj5(K:Fg):TS :=
 (G5 (tBM K "list" M3 (R4 K (A7 4) "parts") (A3 (tOp (qw7 K) (A7 5) (A7 3)) B1)))
def adT(K:Fg):TS :=
 (B9 (G5 (tBM K "list" M3 (R4 K (A7 0) "laid") (A3 (X3 (A3 (A7 1) (A3 (A7 2) (A3 (tOp (qw7 K) (R4 K (A7 4) "place") (X3 (A3 (tCB (O3 K) (A3 (R4 K (A7 4) "parts") B1)) B1))) (A3 (tCB (O3 K) #[3,5]) B1))))) B1)))
 (wj5 K))
section
variable{kR kB r:Addr}{bv:V}{a:RAd}{st:Rst}
theorem Rup.parts{m2:List BA}{x:BA}{ps:List Tr}(h:RdO K H kR kB r bv a st)(ea:a.as=m1++x::m2)(eb:st.bs=l1++b::l2)(hl:m1.length=l1.length)(hd:Dvs K H (Tr.das ps) us) :
 Rup K kR kB r bv H a (upd H x.q (.lst us)) {a with as:=m1++x::m2} {st with bs:=l1++{b with ps:=ps}::l2}:=by
 walk_at"25"
 have nq:x.w≠x.q:=by simp[BA.fp] at xnd;exact Ne.symm xnd.2
 obtain⟨us0,q1,q2⟩:=hx.q
 have tk:U1 H (upd H x.q (.lst us)):=Q4 (.inl ⟨_,q1⟩)
 refine Rup.swap h ea eb hl (fun z u e n=>E2 e fun y=>n (by rw[y];simp[BA.fp])) ⟨E2 hx.o no,tk.sqT hx.p,⟨us,A8,Dvs.tupK tk _ _ (qa5 _) hd⟩,E2 hx.w nq⟩ (fun z hz=>.inl hz) xnd rfl
theorem Rup.laid{p2:Addr}{pl:List Int}(h:RdO K H kR kB r bv a st)(s1:A9 H H1)(e1:SqT K H1 p [.int i,.str g,.ref p2,.int m])(e2:SqT K H1 p2 (qd5 pl))(m2:Dvs K H (st.ls.map Lad.da) us) :
 Rup K kR kB r bv H a (upd H1 a.A (.lst (us++[.ref p]))) a {st with ls:=st.ls++[⟨i,g,pl,m⟩]}:=by
 refine .keep ((h.same s1).setA ?_) fun c o e n=>?_
 ·rw[map_append]
  exact Dvs.append (Dvs.same s1 _ _ m2) (Dvs.one (D9.mpr ⟨p,_,rfl,e1,C7 (P1.mpr rfl) (C7 (G7.mpr rfl) (C7 (D9.mpr ⟨p2,_,rfl,e2,xp3.mpr rfl⟩) (C7 (P1.mpr rfl) G9)))⟩))
 ·rw[B5 (fun z=>n (by rw[z];simp[RAd.fp]))];exact s1 c o e
theorem Ah8(cz:Cz K qA qB){x:BA}{told:Str}(h:RdO K H qB qA r bv a st)(ea:a.as=m1++x::[])(eb:st.bs=l1++b::[])(hl:m1.length=l1.length)(h1:b.ps.length<=9000000)(h2:b.pl.length<=1000)(h3:st.ls.length<=9000000)(h4:u.length+told.length<=1000000)(q:∀ a' H',Rup K qB qA r bv H a H' a' {st with bs:=l1++[{b with ps:=b.ps++[Tr.tx (u++told)]}],ls:=st.ls++[⟨i,g,b.pl++[(b.ps.length:Int)],u.length⟩]}->C4 H H'->D.nx [some (.ref r),some (.int i),some (.str g),some (.str told),some (.ref x.o),some (.str u)] H') :
 adT K D [some (.ref r),some (.int i),some (.str g),some (.str told),some (.ref x.o),some (.str u)] H:=by
 unfold adT
 have hb:=h.b
 rw[ea,eb] at hb
 have hx:=(hb.split hl).2.1
 obtain⟨us,q1,q2⟩:=hx.q
 obtain⟨ls,l1',l2'⟩:=h.d
 have hul:=qm0 q2
 have hll:ls.length=st.ls.length:=by have:=l2'.length;rw[length_map] at this;exact this
 walk_at"23"
 refine⟨r,_,a.x,_,_,rfl,h.o,cz.cl_Reader,cz.na_Reader_laid,rfl,?_⟩
 lk
 refine⟨.inl ⟨rfl,_,SqL.of l1'⟩,?_⟩
 walk_at"23"
 refine⟨x.o,_,x.x,_,_,rfl,hx.o,cz.cl_Branch,cz.na_Branch_place,rfl,?_⟩
 walk_at"23"
 walk_at"10"
 refine N8 (.inl #[59,q1]) ?_
 rw[hul]
 lk
 refine⟨D5 (by z_go),fun p1 hp1=>?_⟩
 have s1:=A9.new hp1 (.tup [.int b.ps.length])
 refine wu8 (s1.sqT hx.p) (SqT.of A8) (by rw[qn2];exact D5 (by show _+1<=_;omega)) fun p2 H2 s2 hp2=>?_
 rw[show qd5 b.pl++[V.int b.ps.length]=qd5 (b.pl++[(b.ps.length:Int)]) by simp[qd5]] at hp2
 have s12:=A9.tr s1 s2
 lk
 refine .inr (.inl ⟨u,rfl,by rw[sizeLine_eq];omega,?_⟩)
 lk
 refine⟨D5 (by z_go),fun p3 hp3=>?_⟩
 have s3:=A9.new hp3 (.tup [.int i,.str g,.ref p2,.int u.length])
 have s13:=A9.tr s12 s3
 lk
 refine M1 (s13 _ _ l1') (by rw[hll,sizeLine_eq];omega) ?_
 have u1:=Rup.laid h s13 (SqT.of A8) (s3.sqT hp2) l2'
 have g1:C4 H (upd (upd H2 p3 (.tup [.int i,.str g,.ref p2,.int u.length])) a.A (.lst (ls++[.ref p3]))):=C4.tr (A9.grow s13) C4.upd
 generalize upd (upd H2 p3 (.tup [.int i,.str g,.ref p2,.int u.length])) a.A (.lst (ls++[.ref p3]))=H3 at *
 have hb3:=u1.ok.b
 rw[show({st with ls:=st.ls++[⟨i,g,b.pl++[(b.ps.length:Int)],u.length⟩]}:Rst).bs=st.bs from rfl,ea,eb] at hb3
 have hx3:=(hb3.split hl).2.1
 obtain⟨us3,q3,q4⟩:=hx3.q
 have hul3:=qm0 q4
 walk_at"23"
 refine⟨x.o,_,x.x,_,_,rfl,hx3.o,cz.cl_Branch,cz.na_Branch_parts,rfl,?_⟩
 lk
 refine⟨.inl ⟨rfl,_,SqL.of q3⟩,?_⟩
 lk
 refine .inl (xd8 #[71] ?_)
 lk
 refine M1 q3 (by rw[hul3,sizeLine_eq];omega) ?_
 have u2:=Rup.parts (ps:=b.ps++[Tr.tx (u++told)]) (us:=us3++[.str (u++told)]) u1.ok ea eb hl (by
  rw[X7,map_append,<-X7]
  exact Dvs.append q4 (Dvs.one (G7.mpr rfl)))
 exact q _ _ (u1.tr u2 g1) (C4.tr g1 C4.upd)
end
theorem yb4(t:Str):("":Str)++t=t:=(O8 _ _).mpr (by rw[PySem.Str.cps_append,Array.toList_append];rfl)
theorem yp7:∀ {ds:List PyData} {d:PyData} {vs:List V} {v:V},Dvs K H (ds++[d]) (vs++[v])->Dvs K H ds vs
 | [],d,[],v,_=>G9
 | [],d,w::vs,v,h=>by have:=h.length;simp at this
 | e::ds,d,[],v,h=>by have:=h.length;simp at this
 | e::ds,d,w::vs,v,h=>by
   rw[cons_append,cons_append,Dvs] at h
   obtain⟨w',r,e1,h1,h2⟩:=h
   obtain⟨rfl,rfl⟩:=List.cons.inj e1
   exact C7 h1 (yp7 h2)
abbrev wj6(K:Fg):TS :=
 (B9 (N1 (qm7 (C5 (tOp wq9 (tCB (O3 K) (A3 (R4 K (A7 4) "parts") B1)) #[1,0])) (tB (C3 (we4 K) [] E0 (A3 (tOp (D2 K) (R4 K (A7 4) "parts") #[12]) B1))))
 (C8 (yd3 K "list" yd4 (R4 K (A7 4) "parts")) (B3 5)) J5)
 (adT K))
def T1(K:Fg):Sp:=fun vs H Q _=>∃ (kR kB r:Addr) (bv:V) (a:RAd) (st:Rst) (l1:List Brn) (b:Brn) (i:Int) (g told:Str),vs=[.ref r,.int i,.str g,.str told]/\RdO K H kR kB r bv a st/\st.bs=l1++[b]/\b.ps.length<=9000000/\b.pl.length<=1000/\st.ls.length<=9000000/\adA b.ps+told.length<=1000000/\∀ a' H',Rup K kR kB r bv H a H' a' {st with bs:=l1++[{b with ps:=adP b.ps told}],ls:=st.ls++[⟨i,g,b.pl++[(adN b.ps:Int)],adA b.ps⟩]}->C4 H H'->Q .non H'
def P4(K:Fg):TS :=
 (B9 (C8 (tOp (D2 K) (R4 K (A7 0) "branches") #[12]) (B3 4))
 (B9 (C8 (tC (.str "")) (B3 5))
 (wj6 K)))
theorem wm5(cz:Cz K qA qB)(h:T1 K vs H Q E):P4 K {nx:=fun _ H'=>Q .non H',rt:=Q} (C9 ["self","start","signs","told","branch","ahead"] vs) H:=by
 obtain⟨kR,kB,r,bv,a,st,l1,b,i,g,told,rfl,h,eb,h1,h2,h3,h4,q⟩:=h
 walk_at"4"
 show P4 K _ [some (.ref r),some (.int i),some (.str g),some (.str told),none,none] H
 unfold P4
 obtain⟨m1,x,m2,ea,hm,hx⟩:=h.as_split eb
 have hn:=h.b.len
 rw[ea,eb] at hn
 simp only[length_append,length_cons,length_nil] at hn
 obtain rfl:m2=[]:=eq_nil_of_length_eq_zero #[0]
 obtain⟨us,q1,q2⟩:=hx.q
 have hul:=qm0 q2
 walk_at"2"
 walk_at"21"
 refine L7 #[59,h.l] (v:=.ref x.o) (qe8 (n:=m1.length) (by rw[ea];simp) (by rw[ea];simp)) ?_
 walk_at"23"
 walk_at"10"
 refine N8 (.inl #[59,q1]) ?_
 rw[hul]
 lk
 rcases eq_nil_or_concat b.ps with hps|⟨P,t,hps⟩
 ·rw[hps]
  k_go
  lk
  refine Ah8 cz h ea eb hm h1 h2 h3 (by show 0+_<=_;omega) fun a' H' u g'=>q a' H' ?_ g'
  rw[yb4] at u
  have e1:adP b.ps told=b.ps++[.tx told]:=by rw[hps];rfl
  have e2:adN b.ps=b.ps.length:=by rw[hps];rfl
  have e3:adA b.ps=0:=by rw[hps];rfl
  rw[e1,e2,e3]
  exact u
 ·rw [concat_eq_append] at hps
  have hgl:b.ps.getLast?=some t:=by rw[hps,getLast?_concat]
  rw[hps] at hul
  refine Ab1 (by rw[hps];simp) ?_
  walk_at"23"
  walk_at"10"
  refine⟨1,rfl,?_⟩
  obtain⟨ut,eu,du⟩:=yz6 q2 (i:=P.length) (t:=t) (by rw[hps];simp)
  refine L7 #[59,q1] (v:=ut) (qe8 (n:=P.length) (by rw[hul];simp) eu) ?_
  lk
  refine⟨t,ut,rfl,du,?_⟩
  lk
  cases t with
  | tx u0 =>
    x_go
    walk_at"23"
    walk_at"10"
    refine⟨.inl ⟨rfl,_,SqL.of q1⟩,?_⟩
    obtain⟨us1,eus⟩:∃ us1,us=us1++[.str u0]:=by
     have hut:ut=.str u0:=G7.mp du
     refine⟨us.take P.length,?_⟩
     rw[<-hut]
     have:=qt6 eu
     rw[<-this,take_of_length_le (by rw[hul];simp)]
    rw[eus] at q1
    refine yz4 q1 ?_
    have dP:Dvs K H (Tr.das P) us1:=by
     rw[eus,hps,X7,map_append,<-X7] at q2
     exact yp7 q2
    have u1:=Rup.parts (ps:=P) h ea eb hm dP
    have g1:C4 H (upd H x.q (.lst us1)):=C4.upd
    generalize upd H x.q (.lst us1)=H1 at *
    lk
    have e3:adA b.ps=u0.length:=by unfold adA;rw[hgl]
    refine Ah8 cz u1.ok rfl rfl hm (by show P.length<=_;rw[hps] at h1;simp at h1;omega) h2 h3 (by rw[e3] at h4;exact h4) fun a' H' u g'=>q a' H' ?_ (C4.tr g1 g')
    have e1:adP b.ps told=P++[.tx (u0++told)]:=by unfold adP;rw[hgl];rw[hps];simp
    have e2:adN b.ps=P.length:=by unfold adN;rw[hgl,hps];simp
    rw[e1,e2,e3]
    exact u1.tr u g1
  | nd nn pp =>
    k_go
    lk
    refine Ah8 cz h ea eb hm h1 h2 h3 (by show 0+_<=_;omega) fun a' H' u g'=>q a' H' ?_ g'
    rw[yb4] at u
    have e1:adP b.ps told=b.ps++[.tx told]:=by unfold adP;rw[hgl]
    have e2:adN b.ps=b.ps.length:=by unfold adN;rw[hgl]
    have e3:adA b.ps=0:=by unfold adA;rw[hgl]
    rw[e1,e2,e3]
    exact u
structure Lim(P W M D T:Nat):Prop where
 P:P<=8000000
 W:W<=8000000
 M:M<=8000000
 D:D<=8000000
 T:T<=500000
theorem yp8{g:TG}(hq:SqT K H a xs)(Pv:Nat->St->Hp->Prop)(h0:Pv 0 σ H)(hk:∀ i σ H',i<=xs.length->Pv i σ H'->SqT K H' a xs)(hs:∀ i x σ H,xs[i]?=some x->Pv i σ H->g x σ H fun σ2 H2=>tb {D with nx:=PAt Pv (i+1),ct:=PAt Pv (i+1),bk:=D.nx} σ2 H2)(hd:∀ σ H,Pv xs.length σ H->D.nx σ H) :
 ∃ b,V.ref a=.ref b/\#[30]:=⟨a,rfl,.inr ⟨⟨xs,hq⟩,yc3 Pv h0 hk hs hd⟩⟩
theorem za4{sj:Rst}(e2:Z4 sj.bs=bb):xf3 sj n i rule={sj with bs:=sj.bs++[⟨n,bb.pl++[(bb.ps.length:Int)],[],[]⟩],ms:=sj.ms++[⟨i,i,opn n,rule⟩]}:=by
 unfold xf3 qn9 xw0;rw[e2]
theorem zx6{bs:List Brn}(e2:Z4 bs=bb):qn9 bs n=bs++[⟨n,bb.pl++[(bb.ps.length:Int)],[],[]⟩]:=by
 unfold qn9 xw0;rw[e2]
theorem xr3(st:Rst)(ns:List Str)(n:Str)(i:Int)(rule:Str):P7 st (ns++[n]) i rule=xf3 (P7 st ns i rule) n i rule:=by
 unfold P7;rw[foldl_append];rfl
theorem za5{pre cl:List Brn}(e:st.bs=pre++b::cl):X5 rs st pre.length i rule={st with bs:=wUp rs (·++qb2 rs (cl.map Brn.n)) (pre++[{b with ps:=b.ps++U8 cl}]),ms:=st.ms++cl.reverse.map (clM i rule)}:=by
 have e1:st.bs.take pre.length=pre:=by rw[e,take_left' rfl]
 have e2:st.bs.drop (pre.length+1)=cl:=by
  rw[e,show pre++b::cl=(pre++[b])++cl by simp,drop_left' (by simp)]
 have e3:st.bs.getD pre.length yg3=b:=by rw[e];simp[List.getD]
 unfold X5
 rw[e1,e2,e3]
theorem Bg.split{D T k:Nat}(h:Bg rs P W M D T st)(hk:k<st.bs.length):∃ pre b cl,st.bs=pre++b::cl/\pre.length=k/\cl.length<=20/\∀ (i:Int) (rule:Str),X5 rs st k i rule={st with bs:=wUp rs (·++qb2 rs (cl.map Brn.n)) (pre++[{b with ps:=b.ps++U8 cl}]),ms:=st.ms++cl.reverse.map (clM i rule)}:=by
 have e:st.bs=st.bs.take k++st.bs[k]::st.bs.drop (k+1):=by rw[List.getElem_cons_drop,take_append_drop]
 have hl:(st.bs.take k).length=k:=by rw[length_take];omega
 refine⟨_,_,_,e,hl,by rw[length_drop];have:=h.l;omega,fun i rule=>?_⟩
 have:=za5 (rs:=rs) (i:=i) (rule:=rule) e
 rw[hl] at this
 exact this
theorem Bg.cond{D T:Nat}(h:Bg rs P W M D T st)(hP:P<=9000000)(hW:W<=9000000):∀ c∈st.bs,c.n.length<=4000/\c.ps.length<=9000000/\c.ws.length<=9000000:=fun c hc=>by
 have:=h.c c hc
 exact⟨this.n,by have:=this.ps;omega,by have:=this.ws;omega⟩
theorem zp4{ps:List Str}:qg5 (B4 (ps++[n])) none (some (-1))=B4 ps:=by
 unfold qg5
 have e1:(B4 (ps++[n])).length=ps.length+1:=by rw[B7];simp
 have e2:HT.sIx (B4 (ps++[n])).length (B4 (ps++[n])).length (some (-1))=ps.length:=by
  rw[e1]
  show(if(-1:Int)<0 then((-1:Int)+((ps.length+1:Nat):Int)).toNat else min (-1:Int).toNat (ps.length+1))=_
  rw[if_pos #[10]];omega
 rw[e2]
 show((B4 (ps++[n])).drop 0).take (ps.length-0)=_
 rw[drop_zero,Nat.sub_zero]
 unfold B4
 rw[map_append,take_left' (by simp)]
theorem Ah9{o:Option Str}(h:o≠none):decide (oV o=V.non)=false:=by
 cases o with
 | none=>exact absurd rfl h
 | some x=>exact decide_eq_false fun z=>by cases z
abbrev qb6(K:Fg)(qB:Addr):TS :=
 (B9 (G5 (N6 qB "drop" (J9 K) [] E0 (A7 0) (A3 (A7 1) (A3 (A7 2) (A3 (tC (.str "strange")) B1)))))
 yk2)
abbrev qb7(K:Fg)(qB:Addr):TS :=
 (B9 (G5 (N6 qB "drop" (J9 K) [] E0 (A7 0) (A3 (A7 1) (A3 (A7 2) (A3 #[39,4] B1)))))
 yk2)
abbrev qb8(K:Fg)(qB:Addr):TS :=
 (G5 (N6 qB "put_in" (O2 K) [] E0 (A7 0) (A3 (A7 5) (A3 (A7 1) (A3 (tC (.str "frame")) B1)))))
abbrev qb9(K:Fg)(qB:Addr):TS :=
 (N1 (C5 (tOp (P9 K) (C3 (Y7 K) [] E0 (A3 (R4 K (A7 0) "book") #[3,3])) (tC (.str "bare"))))
 (G5 (N6 qB "leave" (O9 K) [] E0 (A7 0) B1)) J5)
abbrev qc0(K:Fg)(qB:Addr):TS :=
 (B9 (G5 (N6 qB "enter" (S4 K) [] E0 (A7 0) #[3,3]))
 (qb9 K qB))
abbrev qc1(K:Fg)(qB:Addr):TS :=
 (B9 (qf4 (qq7 K (tSl (ym6 K) (tOp (D2 K) (A7 4) #[1,2]) qg8 (Y3 #[12]))) (B3 5)
 (qb8 K qB))
 (qc0 K qB))
abbrev qc2(K:Fg)(qB:Addr):TS :=
 (B9 (G5 (N6 qB "close_behind" (J4 K) [] E0 (A7 0) (A3 #[39,4] (A3 (A7 1) (A3 (tC (.str "shut")) B1)))))
 (qc1 K qB))
abbrev R5(K:Fg)(qB:Addr):TS :=
 (B9 (N1 (C5 (tOp (P9 K) #[20,4] (tC (.str "drop"))))
 (qb7 K qB) J5)
 (qc2 K qB))
abbrev qc3(K:Fg)(qB:Addr):TS :=
 (B9 (C8 (C3 (we7 K) [] E0 (A3 (R4 K (A7 0) "book") (A3 #[70] #[3,3]))) (B3 4))
 (R5 K qB))
def O5(K:Fg):Sp:=fun vs H Q _=>∃ (kR kB r:Addr) (bv:V) (a:RAd) (st:Rst) (rs:List Row) (rk:Str->Nat) (P W M D T:Nat) (i:Int) (g n:Str),vs=[.ref r,.int i,.str g,.str n]/\RdO K H kR kB r bv a st/\BkO K H bv rs/\Bok rs rk/\Bg rs P W M D T st/\Lim P W M D T/\g.length<=100000/\∀ a' H',Rup K kR kB r bv H a H' a' (opS rs rk st i g n)->C4 H H'->Q .non H'
def M7(K:Fg)(qB:Addr):TS :=
 (B9 (N1 (C5 (tOp xo5 (C3 (Y7 K) [] E0 (A3 (R4 K (A7 0) "book") #[3,3])) (tC .non)))
 (qb6 K qB) J5)
 (qc3 K qB))
theorem qz2(cz:Cz K qA qB)(h:O5 K vs H Q E):M7 K qB {nx:=fun _ H'=>Q .non H',rt:=Q} (C9 ["self","start","signs","name","plan","put"] vs) H:=by
 obtain⟨kR,kB,r,bv,a,st,rs,rk,P,W,M,D,T,i,g,n,rfl,h,hk,bk,bg,lim,hg,q⟩:=h
 obtain rfl:=N3 cz.ns_Reader h.kr
 show M7 K _ _ [some (.ref r),some (.int i),some (.str g),some (.str n),none,none] H
 unfold M7
 walk_at"12"
 have l1:=lim.P
 have l2:=lim.W
 have l3:=lim.M
 walk_at"9"
 lk
 refine⟨bv,some n,rs,rfl,hk.rws,?_⟩
 lk
 by_cases hs:E8 rs (some n)=none
 ·have ed:decide (oV (E8 rs (some n))=V.non)=true:=by rw[hs];rfl
  rw[ed]
  x_go
  show qb6 K _ _ _ _
  walk_at"3"
  refine⟨qB,kB,r,bv,a,st,i,g, "strange",rfl,h,by omega,by omega,fun H1 u1 g1=>?_⟩
  lk
  have eo:opS rs rk st i g n=qt8 st i g "strange":=by unfold opS;rw[if_pos hs]
  exact q a H1 (by rw[eo];exact u1) g1
 rw[Ah9 hs]
 k_go
 show qc3 K _ _ _ _
 have hrow:=xf5 hs
 walk_at"9"
 walk_at"3"
 refine⟨qB,kB,r,bv,a,st,b0,bs0,rfl,h,eb0,by omega,fun p H1 s1 hp=>?_⟩
 lk
 rw[<-hnm] at hp
 have hnl:=bg.nlen
 refine⟨bv,p,G4 st,n,rs,rk,rfl,(hk.same s1).rws,bk.B,bk.f,hp,by omega,hrow,bk.k n,fun w H2 s2 hw=>?_⟩
 have s12:=A9.tr s1 s2
 have h2:=h.same s12
 have hk2:=hk.same s12
 have drop:∀ rule:Str,xq3 rs rk (G4 st) n=.tuple [.str "drop",.str rule]->opS rs rk st i g n=qt8 st i g rule->R5 K qB {nx:=fun _ H'=>Q .non H',rt:=Q} [some (.ref r),some (.int i),some (.str g),some (.str n),some (.ref w),none] H2:=fun rule ep eo=>by
  rw[ep] at hw
  obtain⟨w',ws,e1,hwq,hwd⟩:=D9.mp hw
  cases e1
  rw[Dvs] at hwd;obtain⟨v0,r0,rfl,d0,hwd⟩:=hwd
  rw[Dvs] at hwd;obtain⟨v1,r1,rfl,d1,hwd⟩:=hwd
  rw[Dvs] at hwd;subst hwd
  obtain rfl:=G7.mp d0
  obtain rfl:=G7.mp d1
  lk
  refine G1 hwq (v:=.str "drop") rfl ?_
  lk
  x_go
  show qb7 K _ _ _ _
  walk_at"26"
  refine⟨r,_,_,rfl,h2.o,rfl,?_⟩
  lk
  refine G1 hwq (v:=.str rule) rfl ?_
  lk
  refine⟨qB,kB,r,bv,a,st,i,g,rule,rfl,h2,by omega,by omega,fun H3 u3 g3=>?_⟩
  lk
  exact q a H3 (by rw[eo];exact(h.up s12).tr u3 (A9.grow s12)) (C4.tr (A9.grow s12) g3)
 by_cases hbar:bar rs ((G4 st).take #[21].1) #[21].2=true
 ·exact drop "barred" (by unfold xq3;rw[if_pos hbar]) (by unfold opS;rw[if_neg hs,if_pos hbar])
 by_cases hdeep:20<#[21].1+#[21].2.length
 ·exact drop "deep" (by unfold xq3;rw[if_neg hbar,if_pos hdeep]) (by unfold opS;rw[if_neg hs,if_neg hbar,if_pos hdeep])
 have ep:xq3 rs rk (G4 st) n=.tuple [.str "open",.int #[21].1,.tuple (sDa #[21].2)]:=by unfold xq3;rw[if_neg hbar,if_neg hdeep]
 have eo:opS rs rk st i g n=(if E8 rs (some n)=some ("bare":Str) then lvS {(P7 (X5 rs st #[21].1 i "shut") #[21].2.dropLast i "frame") with bs:=qn9 (P7 (X5 rs st #[21].1 i "shut") #[21].2.dropLast i "frame").bs n} else{(P7 (X5 rs st #[21].1 i "shut") #[21].2.dropLast i "frame") with bs:=qn9 (P7 (X5 rs st #[21].1 i "shut") #[21].2.dropLast i "frame").bs n}):=by
  unfold opS;rw[if_neg hs,if_neg hbar,if_neg hdeep]
 have wok:=wp9 bk.B bk.f (ys:=G4 st) 13 n hrow (bk.k n)
 obtain⟨ps,hps⟩:=xf4 (rs:=rs) (rk:=rk) (ys:=G4 st) 13 n
 have hw1:=wok.k
 have hwm:=wok.m
 rw[ep] at hw
 clear drop hbar
 generalize M5 rs rk (G4 st) 13 n=wt at *
 obtain⟨w',ws,e1,hwq,hwd⟩:=D9.mp hw
 cases e1
 rw[Dvs] at hwd;obtain⟨v0,r0,rfl,d0,hwd⟩:=hwd
 rw[Dvs] at hwd;obtain⟨v1,r1,rfl,d1,hwd⟩:=hwd
 rw[Dvs] at hwd;obtain⟨v2,r2,rfl,d2,hwd⟩:=hwd
 rw[Dvs] at hwd;subst hwd
 obtain rfl:=G7.mp d0
 obtain rfl:=P1.mp d1
 obtain⟨pz,zs,rfl,hz,dz⟩:=D9.mp d2
 rw[qq4] at dz;subst dz
 have hkl:wt.1<st.bs.length:=by omega
 obtain⟨pre,bb,cl,eb,hpre,hcl,ecl⟩:=bg.split hkl
 have edl:wt.2.dropLast=ps:=by rw[hps,dropLast_concat]
 have ell:wt.2.length=ps.length+1:=by rw[hps];simp
 rw[edl] at eo
 have bc:=bg.cls (i:=i) (rule := "shut") hkl
 have bcl:#[57].bs.length=wt.1+1:=by rw[wq4,length_take];omega
 have hpm:∀ m∈ps,m.length<=4000/\∃ r∈rs,Row.name r=m:=fun m hm=>by
  have:=hwm m (by rw[hps];simp[hm])
  exact⟨bk.row this,this⟩
 have bp:∀ j,Bg rs (P+1) (W+20) (M+20+(ps.take j).length) D T (P7 #[57] (ps.take j) i "frame"):=fun j=>by
  have:(ps.take j).length<=ps.length:=by rw[length_take];omega
  exact bc.puts (by rw[bcl];omega) fun m hm=>hpm m (mem_of_mem_take hm)
 have bpl:∀ j,(P7 #[57] (ps.take j) i "frame").bs.length=wt.1+1+(ps.take j).length:=fun j=>by rw[wq3,bcl]
 show R5 K _ _ _ _
 lk
 refine G1 hwq (v:=.str "open") rfl ?_
 lk
 k_go
 show qc2 K _ _ _ _
 walk_at"26"
 refine⟨r,_,_,rfl,h2.o,rfl,?_⟩
 lk
 refine G1 hwq (v:=.int wt.1) rfl ?_
 lk
 refine⟨qB,kB,r,bv,a,st,rs,pre,cl,bb,i, "shut",by rw[hpre];rfl,h2,hk2,eb,by omega,bg.cond #[0] #[0],by omega,fun a3 H3 u3 g3=>?_⟩
 rw[<-ecl i "shut"] at u3
 have tk3:=u3.tupK h2
 have hwq3:=tk3.sqT hwq
 have hz3:=tk3.sqT hz
 show qc1 K _ _ _ _
 lk
 refine G1 hwq3 (v:=.ref pz) rfl ?_
 walk_at"21"
 refine⟨-1,rfl,?_⟩
 refine ym7 hz3 fun c H4 s4 hc=>?_
 rw[hps,zp4] at hc
 have h4:=u3.ok.same s4
 have hk4:=(hk2.tupK tk3).same s4
 refine yp8 hc (fun j σ H'=>∃ a' x5,σ=[some (.ref r),some (.int i),some (.str g),some (.str n),some (.ref w),x5]/\Rup K qB kB r bv H4 a3 H' a' (P7 #[57] (ps.take j) i "frame")/\C4 H4 H') ?_ ?_ ?_ ?_
 ·exact⟨a3,none,rfl,.keep h4 fun c o e _=>e,fun z hz=>hz⟩
 ·rintro j σ H' _ ⟨a',x5,rfl,uj,gj⟩
  exact(uj.tupK h4).sqT hc
 ·rintro j v σ H' hv ⟨a',x5,rfl,uj,gj⟩
  obtain⟨m,hm,rfl⟩:=qd6 hv
  refine D6 ?_
  show qb8 K _ _ _ _
  walk_at"26"
  refine⟨r,_,_,rfl,uj.ok.o,rfl,?_⟩
  lk
  have bj:=bp j
  have bjl:=bpl j
  have hjl:(ps.take j).length<=ps.length:=by rw[length_take];omega
  have em:P7 #[57] (ps.take (j+1)) i "frame"=xf3 (P7 #[57] (ps.take j) i "frame") m i "frame":=by rw[qt6 hm,xr3]
  rw[PAt,em]
  generalize P7 #[57] (ps.take j) i "frame"=sj at *
  obtain⟨lb,b9,e1,e2,e3,e4⟩:=bj.snoc
  have h3:=e4.ps
  have h5:=bj.m
  have h6:=bj.l
  rw[e1,length_append,length_singleton] at h6
  refine⟨qB,kB,r,bv,a',sj,m,i, "frame",lb,b9,rfl,uj.ok,e1,by omega,by omega,by omega,by omega,(hpm m (mem_of_getElem? hm)).1,fun a6 H6 u6 g6=>?_⟩
  refine⟨a6,_,rfl,?_,C4.tr gj g6⟩
  rw[za4 e2]
  exact uj.tr u6 gj
 rintro σ H5 ⟨a5,x5,rfl,u5,g5⟩
 have bj:=bp ps.length
 have bjl:=bpl ps.length
 rw[B7] at u5
 rw[take_length] at u5 bj bjl
 show qc0 K _ _ _ _
 walk_at"26"
 refine⟨r,_,_,rfl,u5.ok.o,rfl,?_⟩
 lk
 generalize P7 #[57] ps i "frame"=sj at *
 obtain⟨lb,b9,e1,e2,e3,e4⟩:=bj.snoc
 have h3:=e4.ps
 have h6:=bj.l
 rw[e1,length_append,length_singleton] at h6
 refine⟨qB,kB,r,bv,a5,sj,n,lb,b9,rfl,u5.ok,e1,by omega,by omega,by omega,fun a6 H6 u6 g6=>?_⟩
 have g12:=A9.grow s12
 have uu:=((((h.up s12).tr u3 g12).tr (u3.ok.up s4) (C4.tr g12 g3)).tr u5 (C4.tr (C4.tr g12 g3) (A9.grow s4))).tr u6 (C4.tr (C4.tr (C4.tr g12 g3) (A9.grow s4)) g5)
 have gg:=C4.tr (C4.tr (C4.tr (C4.tr g12 g3) (A9.grow s4)) g5) g6
 have hk6:=hk.tupK (uu.tupK h)
 rw[<-zx6 e2] at u6 uu
 show qb9 K _ _ _ _
 walk_at"23"
 refine⟨r,_,a6.x,_,_,rfl,u6.ok.o,cz.cl_Reader,cz.na_Reader_book,rfl,?_⟩
 lk
 refine⟨bv,some n,rs,rfl,hk6.rws,?_⟩
 lk
 refine yw5 ?_
 lk
 by_cases hbare:E8 rs (some n)=some ("bare":Str)
 ·rw[decide_eq_true hbare]
  x_go
  walk_at"26"
  refine⟨r,_,_,rfl,u6.ok.o,rfl,?_⟩
  lk
  have e7:qn9 sj.bs n=lb++[b9,xw0 b9 n]:=by unfold qn9;rw[e2,e1];simp
  refine⟨qB,kB,r,bv,a6,_,lb,b9,xw0 b9 n,rfl,u6.ok,e7,by omega,fun a7 H7 u7 g7=>?_⟩
  refine q a7 H7 ?_ (C4.tr gg g7)
  rw[eo,if_pos hbare]
  unfold lvS
  show Rup _ _ _ _ _ _ _ _ _ {sj with bs:=lvB (qn9 sj.bs n)}
  rw[e7,xr1]
  exact uu.tr u7 gg
 ·rw[decide_eq_false hbare]
  k_go
  refine q a6 H6 ?_ gg
  rw[eo,if_neg hbare]
  exact uu
section
variable{kR kB r:Addr}{bv:V}{a:RAd}{st:Rst}
theorem Rup.waitO{m2:List BA}{x:BA}(h:RdO K H kR kB r bv a st)(ea:a.as=m1++x::m2)(eb:st.bs=l1++b::l2)(hl:m1.length=l1.length)(s1:A9 H H1)(hw0:H w=none)(hw:H1 w=some #[24,ws]) :
 Rup K kR kB r bv H a (upd H1 x.o (.ins kB x.x (bF {x with w:=w} b))) {a with as:=m1++{x with w:=w}::m2} {st with bs:=l1++{b with ws:=ws}::l2}:=by
 walk_at"25"
 have nwo:x.o≠w:=Z3 hw0 hx.o
 obtain⟨us,q1,q2⟩:=hx.q
 have nwq:x.q≠w:=Z3 hw0 q1
 have tk:U1 H (upd H1 x.o (.ins kB x.x (bF {x with w:=w} b))):=zp2 s1.tupK (Q4 (.inr ⟨_,_,_,s1 _ _ hx.o⟩))
 refine Rup.swap h ea eb hl (fun z u e n=>E2 (s1 _ _ e) fun y=>n (by rw[y];simp[BA.fp])) ⟨A8,tk.sqT hx.p,⟨us,E2 (s1 _ _ q1) (Ne.symm no),Dvs.tupK tk _ _ (qa5 _) q2⟩,E2 hw (Ne.symm nwo)⟩ (fun z hz=>?_) ?_ rfl
 ·simp only[BA.fp,mem_cons,not_mem_nil,or_false] at hz ⊢
  rcases hz with rfl|rfl|rfl
  ·exact .inl (.inl rfl)
  ·exact .inl (.inr (.inl rfl))
  ·exact .inr hw0
 ·simp[BA.fp,no,nwo,nwq]
end
abbrev qc4(K:Fg)(qB:Addr):TS :=
 (G5 (N6 qB "drop" (J9 K) [] E0 (A7 0) (A3 (A7 1) (A3 (A7 2) (A3 (tC (.str "late")) B1)))))
abbrev qc5(K:Fg)(qB:Addr):TS :=
 (B9 (wk1 K (A7 5) (C3 (qf0 K) [] E0 (A3 (R4 K (A7 5) "waiting") #[3,3])) "waiting")
 (qc4 K qB))
abbrev qc6(K:Fg)(qB:Addr):TS :=
 (G5 (N6 qB "drop" (J9 K) [] E0 (A7 0) (A3 (A7 1) (A3 (A7 2) (A3 (tC (.str "stray")) B1)))))
abbrev qc7(K:Fg)(qB:Addr):TS :=
 (B9 (G5 (N6 qB "close_behind" (J4 K) [] E0 (A7 0) (A3 (tOp (E7 K) (A7 4) #[1,1]) (A3 (A7 1) (A3 (tC (.str "left")) B1)))))
 (G5 (N6 qB "leave" (O9 K) [] E0 (A7 0) B1)))
abbrev qc8(K:Fg)(qB:Addr):TS :=
 (N1 (C5 (tOp (qt0 K false) (A7 3) (R4 K (A7 5) "waiting")))
 (qc5 K qB) (qc6 K qB))
abbrev N9(K:Fg)(qB:Addr):TS :=
 (N1 (C5 (tOp qq6 (A7 4) (tC .non)))
 (qc7 K qB) (qc8 K qB))
abbrev qc9(K:Fg)(qB:Addr):TS :=
 (B9 (C8 (N6 qB "last_wall" (L9 K) [] E0 (A7 0) B1) (B3 5))
 (N9 K qB))
def O6(K:Fg):Sp:=fun vs H Q _=>∃ (kR kB r:Addr) (bv:V) (a:RAd) (st:Rst) (rs:List Row) (rk:Str->Nat) (P W M D T:Nat) (i:Int) (g n:Str),vs=[.ref r,.int i,.str g,.str n]/\RdO K H kR kB r bv a st/\BkO K H bv rs/\Bok rs rk/\Bg rs P W M D T st/\Lim P W M D T/\g.length<=100000/\∀ a' H',Rup K kR kB r bv H a H' a' (wj4 rs rk st i g n)->C4 H H'->Q .non H'
def M8(K:Fg)(qB:Addr):TS :=
 (B9 (C8 (C3 (qt3 K) [] E0 (A3 (R4 K (A7 0) "book") (A3 #[70] #[3,3]))) (B3 4))
 (qc9 K qB))
theorem qz3(cz:Cz K qA qB)(h:O6 K vs H Q E):M8 K qB {nx:=fun _ H'=>Q .non H',rt:=Q} (C9 ["self","start","signs","name","number","wall"] vs) H:=by
 obtain⟨kR,kB,r,bv,a,st,rs,rk,P,W,M,D,T,i,g,n,rfl,h,hk,bk,bg,lim,hg,q⟩:=h
 walk_at"4"
 show M8 K _ _ [some (.ref r),some (.int i),some (.str g),some (.str n),none,none] H
 unfold M8
 walk_at"12"
 have hnl:=bg.nlen
 have l1:=lim.P
 have l2:=lim.W
 have l3:=lim.M
 walk_at"9"
 walk_at"3"
 refine⟨qB,qA,r,bv,a,st,b0,bs0,rfl,h,eb0,by omega,fun p H1 s1 hp=>?_⟩
 lk
 rw[<-hnm] at hp
 have h1:=h.same s1
 have hk1:=hk.same s1
 refine⟨bv,p,G4 st,n,rs,rk,rfl,hk1.rws,bk.f,.inr hp,by omega,?_⟩
 show qc9 K _ _ _ _
 walk_at"26"
 refine⟨r,_,_,rfl,h1.o,rfl,?_⟩
 lk
 refine⟨qB,qA,r,bv,a,st,rs,rfl,h1,hk1,bg.ne,by omega,fun m1 m2 x k1 k2 bb H2 s2 ea eb hm lw=>?_⟩
 have s12:=A9.tr s1 s2
 have h2:=h.same s12
 have hk2:=hk.same s12
 have g12:=A9.grow s12
 have hb2:=h2.b
 rw[ea,eb] at hb2
 have hx:=(hb2.split hm).2.1
 show N9 K _ _ _ _
 cases hc:clo rs rk (G4 st) n (G4 st).length with
 | some k =>
   have hkl:=xq2 hc
   have eo:wj4 rs rk st i g n=lvS (X5 rs st (k+1) i "left"):=by unfold wj4;rw[hc]
   show N9 K _ _ [some (.ref r),some (.int i),some (.str g),some (.str n),some (.int (k:Int)),some (.ref x.o)] _
   lk
   x_go
   show qc7 K _ _ _ _
   walk_at"26"
   refine⟨r,_,_,rfl,h2.o,rfl,?_⟩
   lk
   have hkl2:k+1<st.bs.length:=by omega
   obtain⟨pre,b3,cl,e3,hpre,hcl,ecl⟩:=bg.split hkl2
   have bc:=bg.cls (i:=i) (rule := "left") hkl2
   have bcl:(X5 rs st (k+1) i "left").bs.length=k+2:=by rw[wq4,length_take];omega
   refine⟨qB,qA,r,bv,a,st,rs,pre,cl,b3,i, "left",by rw[hpre];rfl,h2,hk2,e3,by omega,bg.cond #[0] #[0],by omega,fun a3 H3 u3 g3=>?_⟩
   rw[<-ecl i "left"] at u3
   walk_at"26"
   refine⟨r,_,_,rfl,u3.ok.o,rfl,?_⟩
   lk
   generalize X5 rs st (k+1) i "left"=sj at *
   obtain⟨lb,b5,b6,e5⟩:=yw7 (bs:=sj.bs) #[0]
   have hb5:=(bc.c b5 (by rw[e5];simp)).ps
   refine⟨qB,qA,r,bv,a3,sj,lb,b5,b6,rfl,u3.ok,e5,by omega,fun a4 H4 u4 g4=>?_⟩
   refine q a4 H4 ?_ (C4.tr (C4.tr g12 g3) g4)
   rw[eo]
   unfold lvS
   rw[e5,xr1]
   exact((h.up s12).tr u3 g12).tr u4 (C4.tr g12 g3)
 | none =>
   show N9 K _ _ [some (.ref r),some (.int i),some (.str g),some (.str n),some .non,some (.ref x.o)] _
   lk
   k_go
   show qc8 K _ _ _ _
   have elw:lwS rs st.bs=bb.ws:=by rw[eb];exact yg4 lw
   have hbb:=bg.c bb (by rw[eb];simp)
   have hbw:=hbb.ws
   walk_at"23"
   refine⟨x.o,_,x.x,_,_,rfl,hx.o,cz.cl_Branch,cz.na_Branch_waiting,rfl,?_⟩
   refine .inl (xj9 (.inl #[59,hx.w]) rfl (P8 _) ?_)
   rw[S3]
   lk
   by_cases hin:n∈bb.ws
   ·rw[decide_eq_true hin]
    x_go
    have eo:wj4 rs rk st i g n={(qt8 st i g "late") with bs:=wUp rs (fun ws=>woL ws n) st.bs}:=by unfold wj4;rw[hc,elw];exact if_pos hin
    have ewu:wUp rs (fun ws=>woL ws n) st.bs=k1++{bb with ws:=woL bb.ws n}::k2:=by rw[eb];exact wv7 lw
    show qc5 K _ _ _ _
    refine qf6 (ql9 ?_)
    walk_at"23"
    refine⟨x.o,_,x.x,_,_,rfl,hx.o,cz.cl_Branch,cz.na_Branch_waiting,rfl,?_⟩
    lk
    refine⟨x.w,bb.ws,n,rfl,hx.w,hin,by omega,fun w H3 s3 hw0 hw=>?_⟩
    lk
    refine⟨x.o,_,x.x,_,rfl,s3 _ _ hx.o,cz.cl_Branch,cz.na_Branch_waiting,by unfold bF;simp,?_⟩
    unfold bF
    rw[Ab2]
    have u3:=Rup.waitO (ws:=woL bb.ws n) h2 ea eb hm s3 hw0 hw
    rw[<-ewu] at u3
    have g3:C4 H2 (upd H3 x.o #[50]):=C4.tr (A9.grow s3) C4.upd
    have u3':Rup K qB qA r bv H2 a (upd H3 x.o #[50]) {a with as:=m1++{x with w:=w}::m2} {st with bs:=wUp rs (fun ws=>woL ws n) st.bs}:=u3
    generalize upd H3 x.o #[50]=H4 at *
    show qc4 K _ _ _ _
    walk_at"26"
    refine⟨r,_,_,rfl,u3'.ok.o,rfl,?_⟩
    lk
    refine⟨qB,qA,r,bv,_,_,i,g, "late",rfl,u3'.ok,by show st.ms.length<=_;omega,by omega,fun H5 u5 g5=>?_⟩
    refine q {a with as:=m1++{x with w:=w}::m2} H5 ?_ (C4.tr (C4.tr g12 g3) g5)
    rw[eo]
    exact((h.up s12).tr u3' g12).tr u5 (C4.tr g12 g3)
   ·rw[decide_eq_false hin]
    k_go
    have eo:wj4 rs rk st i g n=qt8 st i g "stray":=by unfold wj4;rw[hc,elw];exact if_neg hin
    show qc6 K _ _ _ _
    walk_at"26"
    refine⟨r,_,_,rfl,h2.o,rfl,?_⟩
    lk
    refine⟨qB,qA,r,bv,a,st,i,g, "stray",rfl,h2,by omega,by omega,fun H5 u5 g5=>?_⟩
    refine q a H5 ?_ (C4.tr g12 g5)
    rw[eo]
    exact(h.up s12).tr u5 g12
theorem zp5{k n:Nat}(h:k∈qd9 l n):l[k]?=some 60\/l[k]?=some 38:=by
 unfold qd9 at h
 have:=(mem_filter.mp h).2
 unfold yo8 at this
 rw[Bool.or_eq_true,Bool.and_eq_true,decide_eq_true_eq,decide_eq_true_eq] at this
 exact this.imp id fun h=>h.1
theorem Ai0:zg0 ⟨#[60]⟩ = "&l;":=by rw[O8];rfl
theorem Ai1:zg0 ⟨#[38]⟩ = "&a;":=by rw[O8];rfl
theorem xr4{ns:List Nat}(h:(Y2 ns)[j]?=some v):∃ k,ns[j]?=some k/\v=.int (k:Int):=by
 unfold Y2 at h
 rw[List.getElem?_map] at h
 obtain⟨k,hk,e⟩:=Option.map_eq_some_iff.mp h
 exact⟨k,hk,e.symm⟩
abbrev qj5(K:Fg)(qB:Addr):TS :=
 (G5 (N6 qB "put_in" (O2 K) [] E0 (A7 0) (A3 (A7 5) (A3 (A7 1) (A3 (tC (.str "host")) B1)))))
abbrev qj6(K:Fg):TS :=
 (G5 (tBM K "list" M3 (R4 K (A7 0) "mends") (A3 (X3 (A3 (A7 7) (A3 (tOp (E7 K) (A7 7) #[1,1]) (A3 (C3 (wf2 K) [] E0 (A3 (tOp (D2 K) (A7 2) (A7 6)) B1)) (A3 (tC (.str "sign")) B1))))) B1)))
abbrev qj7(K:Fg)(qB:Addr):TS :=
 (G5 (N6 qB "add_text" (T1 K) [] E0 (A7 0) (A3 (A7 1) (A3 (A7 2) #[3,3]))))
abbrev qj8(K:Fg)(qB:Addr):TS :=
 (B9 (qf4 (qq7 K (C3 (qr2 K) [] E0 #[3,2])) (B3 6)
 (B9 (C8 (tOp (E7 K) (A7 1) (A7 6)) (B3 7))
 (qj6 K)))
 (qj7 K qB))
abbrev qj9(K:Fg)(qB:Addr):TS :=
 (B9 (G5 (N6 qB "put_in_waiting" (N5 K) [] E0 (A7 0) #[3,1]))
 (qj8 K qB))
abbrev qk0(K:Fg)(qB:Addr):TS :=
 (G5 (N6 qB "drop" (J9 K) [] E0 (A7 0) (A3 (A7 1) (A3 (A7 2) (A3 (tC (.str "deep")) B1)))))
abbrev qk1(K:Fg)(qB:Addr):TS :=
 (B9 (qf4 (qq7 K (A7 4)) (B3 5)
 (qj5 K qB))
 (qj9 K qB))
abbrev qk2(K:Fg)(qB:Addr):TS :=
 (G5 (N6 qB "drop" (J9 K) [] E0 (A7 0) (A3 (A7 1) (A3 (A7 2) (A3 (tC (.str "blank")) B1)))))
abbrev qk3(K:Fg)(qB:Addr):TS :=
 (N1 (C5 (tOp xo5 (A7 4) (tC .non)))
 (qk0 K qB) (qk1 K qB))
abbrev qk4(K:Fg)(qB:Addr):TS :=
 (N1 (qm7 (tB (N6 qB "is_in_frame" (P0 K) [] E0 (A7 0) B1)) (C5 (tOp (P9 K) (tBM K "str" ye4 (A7 3) (A3 (tC (.str " \n")) B1)) (tC (.str "")))))
 (qk2 K qB) (qk3 K qB))
theorem RdO.nop{r:Addr}{a:RAd}(h:RdO K H kR kB r bv a st)(hp:H p=none):p∉RAd.fp r a:=fun hz=>h.dom p hz hp
theorem zp6{r:Addr}{a:RAd}(cz:Cz K qA qB){D T:Nat}{c:Addr}(h:RdO K H qB qA r bv a st)(hk:BkO K H bv rs)(bk:Bok rs rk)(bg:Bg rs P W M D T st)(lim:Lim P W M D T)(hg:g.length<=10000)(ht:t.length<=10000)(hc:SqT K H c (B4 (Q5 rs st)))(hlen:¬20<(G4 st).length+(Q5 rs st).length)(q:∀ a' H',Rup K qB qA r bv H a H' a' (txS (xa7 (qz0 rs i (P7 st (Q5 rs st) i "host")) i g) i g t)->C4 H H'->Q .non H') :
 qk1 K qB {nx:=fun _ H'=>Q .non H',rt:=Q} [some (.ref r),some (.int i),some (.str g),some (.str t),some (.ref c),none,none,none] H:=by
 have hnl:=bg.nlen
 have l1:=lim.P
 have l2:=lim.W
 have l3:=lim.M
 have l4:=lim.D
 have l5:=lim.T
 have hhl:(Q5 rs st).length<=12:=ql2 rs 12 _
 have hpm:∀ m∈Q5 rs st,m.length<=4000/\∃ r∈rs,Row.name r=m:=fun m hm=>by
  have:=wa7 bk.B 12 _ m hm
  exact⟨bk.row this,this⟩
 have bp:∀ j,Bg rs P W (M+((Q5 rs st).take j).length) D T (P7 st ((Q5 rs st).take j) i "host"):=fun j=>by
  have:((Q5 rs st).take j).length<=(Q5 rs st).length:=by rw[length_take];omega
  exact bg.puts #[0] fun m hm=>hpm m (mem_of_mem_take hm)
 lk
 refine yp8 hc (fun j σ H'=>∃ a' x5,σ=[some (.ref r),some (.int i),some (.str g),some (.str t),some (.ref c),x5,none,none]/\Rup K qB qA r bv H a H' a' (P7 st ((Q5 rs st).take j) i "host")/\C4 H H') ?_ ?_ ?_ ?_
 ·exact⟨a,none,rfl,.keep h fun c o e _=>e,fun z hz=>hz⟩
 ·rintro j σ H' _ ⟨a',x5,rfl,uj,gj⟩
  exact(uj.tupK h).sqT hc
 ·rintro j v σ H' hv ⟨a',x5,rfl,uj,gj⟩
  obtain⟨m,hm,rfl⟩:=qd6 hv
  refine D6 ?_
  show qj5 K _ _ _ _
  walk_at"26"
  refine⟨r,_,_,rfl,uj.ok.o,rfl,?_⟩
  lk
  have bj:=bp j
  have hjl:((Q5 rs st).take j).length<=(Q5 rs st).length:=by rw[length_take];omega
  have em:P7 st ((Q5 rs st).take (j+1)) i "host"=xf3 (P7 st ((Q5 rs st).take j) i "host") m i "host":=by rw[qt6 hm,xr3]
  rw[PAt,em]
  generalize P7 st ((Q5 rs st).take j) i "host"=sj at *
  obtain⟨lb,b9,e1,e2,e3,e4⟩:=bj.snoc
  have h3:=e4.ps
  have h5:=bj.m
  have h6:=bj.l
  rw[e1,length_append,length_singleton] at h6
  refine⟨qB,qA,r,bv,a',sj,m,i, "host",lb,b9,rfl,uj.ok,e1,by omega,by omega,by omega,by omega,(hpm m (mem_of_getElem? hm)).1,fun a6 H6 u6 g6=>?_⟩
  refine⟨a6,_,rfl,?_,C4.tr gj g6⟩
  rw[za4 e2]
  exact uj.tr u6 gj
 rintro σ H5 ⟨a5,x5,rfl,u5,g5⟩
 have bj:=bp (Q5 rs st).length
 rw[B7] at u5
 rw[take_length] at u5 bj
 have hk5:=hk.tupK (u5.tupK h)
 show qj9 K _ _ _ _
 walk_at"26"
 refine⟨r,_,_,rfl,u5.ok.o,rfl,?_⟩
 lk
 generalize P7 st (Q5 rs st) i "host"=sj at *
 refine⟨qB,qA,r,bv,a5,sj,rs,rk,i,P,W,M+(Q5 rs st).length,D,T,rfl,u5.ok,hk5,bk,bj,by omega,by omega,by omega,fun a6 H6 u6 g6=>?_⟩
 have b6:=bj.anews (i:=i) bk.n
 have u56:=u5.tr u6 g5
 have g56:=C4.tr g5 g6
 generalize qz0 rs i sj=s6 at *
 show qj8 K _ _ _ _
 lk
 refine⟨g,rfl,by omega,fun p7 H7 s7 hp70 hp7=>?_⟩
 have h7:=u6.ok.same s7
 have np:p7∉RAd.fp r a6:=u6.ok.nop hp70
 have gl:g.cps.toList.length=g.length:=Array.length_toList
 have lol:=xe7 g.cps.toList g.cps.toList.length
 have h6m:=b6.m
 refine wy4 #[59,hp7] (fun j σ H'=>∃ x6 x7,σ=[some (.ref r),some (.int i),some (.str g),some (.str t),some (.ref c),x5,x6,x7]/\Rup K qB qA r bv H7 a6 H' a6 {s6 with ms:=s6.ms++(#[64].take j).map (zw9 i g)}/\C4 H7 H') ?_ ?_ ?_ ?_
 ·refine⟨none,none,rfl,?_,fun z hz=>hz⟩
  rw[take_zero,map_nil,append_nil]
  exact .keep h7 fun c o e _=>e
 ·rintro j σ H' _ ⟨x6,x7,rfl,uj,gj⟩
  exact SqL.of (uj.bt _ _ hp7 np)
 ·rintro j v σ H' hv ⟨x6,x7,rfl,uj,gj⟩
  obtain⟨k,hkk,rfl⟩:=xr4 hv
  have hlo:=zp5 (mem_of_getElem? hkk)
  obtain⟨cc,hcc⟩:∃ cc,g.cps.toList[k]?=some cc:=by rcases hlo with e|e <;> exact⟨_,e⟩
  refine D6 ?_
  lk
  show qj6 K _ _ _
  obtain⟨us,m1,m2⟩:=uj.ok.m
  have hul:=RdO.ms_len m2
  have hul2:us.length=s6.ms.length+(#[64].take j).length:=by rw[hul];show(s6.ms++_).length=_;rw[length_append,length_map]
  have htl:(#[64].take j).length<=#[64].length:=by rw[length_take];omega
  walk_at"23"
  refine⟨r,_,a6.x,_,_,rfl,uj.ok.o,cz.cl_Reader,cz.na_Reader_mends,rfl,?_⟩
  lk
  refine⟨.inl ⟨rfl,_,SqL.of m1⟩,?_⟩
  lk
  refine zk7 #[71] (D3 hcc) ?_
  lk
  refine⟨⟨#[cc]⟩,rfl,by show 1<=30000;decide,?_⟩
  have ee:zg0 ⟨#[cc]⟩=(zw9 i g k).t:=by
   show _=if g.cps.toList[k]?=some 60 then _ else _
   rcases hlo with e|e
   ·rw[if_pos e]
    rw[e] at hcc
    obtain rfl:=Option.some.inj hcc
    exact Ai0
   ·rw[if_neg (by rw[e];decide)]
    rw[e] at hcc
    obtain rfl:=Option.some.inj hcc
    exact Ai1
  rw[ee]
  walk_at"14"
  lk
  have s8:=A9.new hp (.tup [.int (i+k),.int (i+k+1),.str (zw9 i g k).t,.str "sign"])
  refine M1 (s8 _ _ m1) (by rw[hul2,sizeLine_eq];omega) ?_
  have u8:=Rup.mend uj.ok s8 (SqT.of A8) m2
  refine⟨_,_,rfl,?_,C4.tr gj (C4.tr C4.upd C4.upd)⟩
  rw[qt6 hkk,map_append,<-append_assoc]
  exact uj.tr u8 gj
 rintro σ H8 ⟨x6,x7,rfl,u8,g8⟩
 have el:#[64].take (Y2 #[64]).length=qd9 g.cps.toList g.cps.toList.length:=by
  unfold Y2;rw[length_map];exact take_length
 rw[el] at u8
 have u8':Rup K qB qA r bv H7 a6 H8 a6 (xa7 s6 i g):=u8
 have b8:=b6.sign (i:=i) (g:=g)
 generalize xa7 s6 i g=s8 at *
 show qj7 K _ _ _ _
 walk_at"26"
 refine⟨r,_,_,rfl,u8'.ok.o,rfl,?_⟩
 lk
 obtain⟨lb,b9,e1,e2,e3,e4⟩:=b8.snoc
 have h3:=e4.ps
 have h4:=e4.t
 have h5:=b8.d
 have h6:=b8.l
 rw[e1,length_append,length_singleton] at h6
 refine⟨qB,qA,r,bv,a6,s8,lb,b9,i,g,t,rfl,u8'.ok,e1,by omega,by omega,by omega,by omega,fun a9 H9 u9 g9=>?_⟩
 refine q a9 H9 ?_ (C4.tr (C4.tr (C4.tr g56 (A9.grow s7)) g8) g9)
 have et:txS s8 i g t={s8 with bs:=lb++[{b9 with ps:=adP b9.ps t}],ls:=s8.ls++[⟨i,g,b9.pl++[(adN b9.ps:Int)],adA b9.ps⟩]}:=by
  unfold txS
  rw[e2,e1,dropLast_concat]
 rw[et]
 exact(((u56.tr (u6.ok.up s7) g56).tr u8' (C4.tr g56 (A9.grow s7)))).tr u9 (C4.tr (C4.tr g56 (A9.grow s7)) g8)
def T2(K:Fg):Sp:=fun vs H Q _=>∃ (kR kB r:Addr) (bv:V) (a:RAd) (st:Rst) (rs:List Row) (rk:Str->Nat) (P W M D T:Nat) (i:Int) (g t:Str),vs=[.ref r,.int i,.str g,.str t]/\RdO K H kR kB r bv a st/\BkO K H bv rs/\Bok rs rk/\Bg rs P W M D T st/\Lim P W M D T/\g.length<=10000/\t.length<=10000/\∀ a' H',Rup K kR kB r bv H a H' a' (qz1 rs st i g t)->C4 H H'->Q .non H'
def P5(K:Fg)(qB:Addr):TS :=
 (B9 (C8 (C3 (qq9 K) [] E0 (A3 (R4 K (A7 0) "book") (A3 #[70] B1))) (B3 4))
 (qk4 K qB))
theorem wm6(cz:Cz K qA qB)(h:T2 K vs H Q E):P5 K qB {nx:=fun _ H'=>Q .non H',rt:=Q} (C9 ["self","start","signs","told","hosts","host","number","place"] vs) H:=by
 obtain⟨kR,kB,r,bv,a,st,rs,rk,P,W,M,D,T,i,g,t,rfl,h,hk,bk,bg,lim,hg,ht,q⟩:=h
 walk_at"4"
 show P5 K _ _ [some (.ref r),some (.int i),some (.str g),some (.str t),none,none,none,none] H
 unfold P5
 walk_at"12"
 have l3:=lim.M
 walk_at"9"
 walk_at"3"
 refine⟨qB,qA,r,bv,a,st,b0,bs0,rfl,h,eb0,by omega,fun p H1 s1 hp=>?_⟩
 lk
 rw[<-hnm] at hp
 have rest:∀ (v:V) (H2:Hp),A9 H H2->((20<(G4 st).length+(Q5 rs st).length/\v=.non)\/(¬20<(G4 st).length+(Q5 rs st).length/\∃ c,v=.ref c/\SqT K H2 c (B4 (Q5 rs st))))->qk4 K qB {nx:=fun _ H'=>Q .non H',rt:=Q} [some (.ref r),some (.int i),some (.str g),some (.str t),some v,none,none,none] H2:=fun v H2 s2 hv=>by
  have h2:=h.same s2
  have hk2:=hk.same s2
  walk_at"26"
  refine⟨r,_,_,rfl,h2.o,rfl,?_⟩
  lk
  refine⟨qB,qA,r,bv,a,st,b0,bs0,rs,rfl,h2,hk2,eb0,by omega,fun H3 s3=>?_⟩
  rw[<-hnm]
  have s23:=A9.tr s2 s3
  have h3:=h.same s23
  have hk3:=hk.same s23
  have g3:=A9.grow s23
  have stay:¬(E8 rs (some (G8 (G4 st)))=some #[15]/\yw6 t=true)->qk3 K qB {nx:=fun _ H'=>Q .non H',rt:=Q} [some (.ref r),some (.int i),some (.str g),some (.str t),some v,none,none,none] H3:=fun hn=>by
   rcases hv with⟨hd,rfl⟩|⟨hd,c,rfl,hc⟩
   ·have eo:qz1 rs st i g t=qt8 st i g "deep":=by unfold qz1;rw[if_neg hn,if_pos hd]
    lk
    x_go
    show qk0 K _ _ _ _
    walk_at"26"
    refine⟨r,_,_,rfl,h3.o,rfl,?_⟩
    lk
    refine⟨qB,qA,r,bv,a,st,i,g, "deep",rfl,h3,by omega,by omega,fun H5 u5 g5=>?_⟩
    refine q a H5 ?_ (C4.tr g3 g5)
    rw[eo]
    exact(h.up s23).tr u5 g3
   ·have eo:qz1 rs st i g t=txS (xa7 (qz0 rs i (P7 st (Q5 rs st) i "host")) i g) i g t:=by unfold qz1;rw[if_neg hn,if_neg hd]
    lk
    k_go
    refine zp6 cz h3 hk3 bk bg lim hg ht (s3.sqT hc) hd fun a' H' u' g'=>q a' H' ?_ (C4.tr g3 g')
    rw[eo]
    exact(h.up s23).tr u' g3
  lk
  by_cases hf:E8 rs (some (G8 (G4 st)))=some #[15]
  ·rw[decide_eq_true hf]
   x_go
   lk
   refine⟨rfl,?_⟩
   lk
   refine⟨t, " \n",rfl,rfl,by omega,?_⟩
   lk
   by_cases hb:yw6 t=true
   ·have e1:=of_decide_eq_true hb
    rw[decide_eq_true e1]
    x_go
    have eo:qz1 rs st i g t=qt8 st i g "blank":=by unfold qz1;rw[if_pos ⟨hf,hb⟩]
    show qk2 K _ _ _ _
    walk_at"26"
    refine⟨r,_,_,rfl,h3.o,rfl,?_⟩
    lk
    refine⟨qB,qA,r,bv,a,st,i,g, "blank",rfl,h3,by omega,by omega,fun H5 u5 g5=>?_⟩
    refine q a H5 ?_ (C4.tr g3 g5)
    rw[eo]
    exact(h.up s23).tr u5 g3
   ·have e1:=of_decide_eq_false (Bool.eq_false_iff.mpr hb)
    rw[decide_eq_false e1]
    k_go
    exact stay fun z=>hb z.2
  ·rw[decide_eq_false hf]
   k_go
   first|exact stay fun z=>hf z.1|(refine qg6 ?_;exact stay fun z=>hf z.1)
 refine⟨bv,p,G4 st,rs,rfl,(hk.same s1).rws,bk.B,.inr hp,fun hd H2 s2=>?_,fun hd c H2 s2 hc=>?_⟩
 ·exact rest _ _ (A9.tr s1 s2) (.inl ⟨hd,rfl⟩)
 ·exact rest _ _ (A9.tr s1 s2) (.inr ⟨hd,c,rfl,hc⟩)
abbrev qx3(K:Fg)(qB:Addr):TS :=
 (G5 (N6 qB "read_closing" (O6 K) [] E0 (A7 0) (A3 (A7 2) (A3 (A7 3) #[3,4]))))
abbrev qx4(K:Fg)(qB:Addr):TS :=
 (G5 (N6 qB "read_run" (T2 K) [] E0 (A7 0) (A3 (A7 2) (A3 (A7 3) #[3,4]))))
abbrev qx5(K:Fg)(qB:Addr):TS :=
 (G5 (N6 qB "read_opening" (O5 K) [] E0 (A7 0) (A3 (A7 2) (A3 (A7 3) #[3,4]))))
abbrev qx6(K:Fg)(qB:Addr):TS :=
 (N1 (C5 (tOp (P9 K) (A7 1) (tC (.str "close"))))
 (qx3 K qB) (qx4 K qB))
def qb0(K:Fg):Sp:=fun vs H Q _=>∃ (kR kB r:Addr) (bv:V) (a:RAd) (st:Rst) (rs:List Row) (rk:Str->Nat) (P W M D T:Nat) (kind:Str) (i:Int) (g t:Str),vs=[.ref r,.str kind,.int i,.str g,.str t]/\RdO K H kR kB r bv a st/\BkO K H bv rs/\Bok rs rk/\Bg rs P W M D T st/\Lim P W M D T/\g.length<=10000/\t.length<=10000/\∀ a' H',Rup K kR kB r bv H a H' a' (qq3 rs rk st kind i g t)->C4 H H'->Q .non H'
def X0(K:Fg)(qB:Addr):TS :=
 (N1 (C5 (tOp (P9 K) (A7 1) (tC (.str "open"))))
 (qx5 K qB) (qx6 K qB))
theorem xf8(cz:Cz K qA qB)(h:qb0 K vs H Q E):X0 K qB {nx:=fun _ H'=>Q .non H',rt:=Q} (C9 ["self","kind","start","signs","told"] vs) H:=by
 obtain⟨kR,kB,r,bv,a,st,rs,rk,P,W,M,D,T,kind,i,g,t,rfl,h,hk,bk,bg,lim,hg,ht,q⟩:=h
 obtain rfl:=N3 cz.ns_Reader h.kr
 show X0 K _ _ [some (.ref r),some (.str kind),some (.int i),some (.str g),some (.str t)] H
 unfold X0
 lk
 by_cases ho:kind=("open":Str)
 ·rw[decide_eq_true ho]
  x_go
  show qx5 K _ _ _ _
  have eo:qq3 rs rk st kind i g t=opS rs rk st i g t:=by unfold qq3;rw[if_pos ho]
  rw[eo] at q
  walk_at"3"
  exact⟨qB,kB,r,bv,a,st,rs,rk,P,W,M,D,T,i,g,t,rfl,h,hk,bk,bg,lim,by omega,q⟩
 rw[decide_eq_false ho]
 k_go
 show qx6 K _ _ _ _
 lk
 by_cases hc:kind=("close":Str)
 ·rw[decide_eq_true hc]
  x_go
  show qx3 K _ _ _ _
  have eo:qq3 rs rk st kind i g t=wj4 rs rk st i g t:=by unfold qq3;rw[if_neg ho,if_pos hc]
  rw[eo] at q
  walk_at"3"
  exact⟨qB,kB,r,bv,a,st,rs,rk,P,W,M,D,T,i,g,t,rfl,h,hk,bk,bg,lim,by omega,q⟩
 ·rw[decide_eq_false hc]
  k_go
  show qx4 K _ _ _ _
  have eo:qq3 rs rk st kind i g t=qz1 rs st i g t:=by unfold qq3;rw[if_neg ho,if_neg hc]
  rw[eo] at q
  walk_at"3"
  exact⟨qB,kB,r,bv,a,st,rs,rk,P,W,M,D,T,i,g,t,rfl,h,hk,bk,bg,lim,hg,ht,q⟩
inductive TkC(l:List Nat):Nat->List PyData->Prop
 | nil {p:Nat}:p=l.length->TkC l p []
 | cons {p e:Nat} {kind t:Str} {ds:List PyData}:p<e->e<=l.length->t.length<=e-p->TkC l e ds->TkC l p (.tuple [.str kind,.int (p:Int),.int (e:Int),.str t]::ds)
theorem xb2:∀ (k:Nat) (l:List Nat),(TX.told k l).length<=l.length
 | _,[]=>by simp[TX.told]
 | k+1,c::l=>by rw[TX.told];have:=xb2 k l;simp;omega
 | 0,c::l=>by
   rw[TX.told]
   have h0:=xb2 0 l
   have h2:=xb2 2 l
   split
   ·simp;omega
   ·split <;> (simp;omega)
theorem wq5(l:List Nat):(TX.ofL l).length=l.length:=by unfold TX.ofL;simp[PySem.Str.length]
theorem xr5{k:Nat}(h:s<=k)(hk:k<=l.length)(hd:TkC l k ds):TkC l s (TX.runs l s k++ds):=by
 unfold TX.runs
 by_cases e:s<k
 ·rw[if_pos e]
  unfold TX.runD
  refine .cons e hk ?_ hd
  rw[wq5]
  have:=xb2 0 ((l.drop s).take (k-s))
  rw[length_take,length_drop] at this
  omega
 ·rw[if_neg e]
  obtain rfl:s=k:=by omega
  exact hd
theorem yg8(l:List Nat):∀ (n k s:Nat),s<=k->k<=l.length->TkC l s (TX.cutAt l n k s)
 | 0,k,s,h,hk=>by
   rw[TX.cutAt]
   have:=xr5 (l:=l) (s:=s) (k:=l.length) #[0] #[11] (.nil rfl)
   simpa using this
 | n+1,k,s,h,hk=>by
   rw[TX.cutAt]
   by_cases e:l.length<=k
   ·rw[if_pos e]
    have:=xr5 (l:=l) (s:=s) (k:=l.length) #[0] #[11] (.nil rfl)
    simpa using this
   ·rw[if_neg e]
    cases ht:TX.tagAt l k with
    | none=>exact yg8 l n (k+1) s #[0] #[0]
    | some fe =>
      obtain⟨f,e2⟩:=fe
      obtain⟨h1,h2,h3,h4,_⟩:=TX.tagAt_gt ht
      refine xr5 h hk ?_
      unfold TX.tagD
      refine .cons h1 h2 ?_ (yg8 l n e2 e2 #[11] h2)
      rw[wq5,length_take,length_drop]
      have:k<f:=by rw[h3];unfold TX.nst;split <;> omega
      omega
theorem yp9(l:List Nat):TkC l 0 (TX.toks l 0 0):=yg8 l _ 0 0 #[11] (Nat.zero_le _)
def st0:Rst:=⟨[yg3],[],[]⟩
def xl1(rs:List Row)(rk:Str->Nat)(z:Str)(st:Rst):PyData->Rst
 | .tuple [.str kind,.int i,.int e,.str t]=>qq3 rs rk st kind i (qh0 z (some i) (some e)) t
 | _=>st
def xj3(rs:List Row)(rk:Str->Nat)(z:Str):Rst:=#[22].foldl (xl1 rs rk z) st0
def rdS(rs:List Row)(rk:Str->Nat)(z:Str):Rst:=X5 rs (xj3 rs rk z) 0 z.length "end"
def rtS(st:Rst):List Tr:=(st.bs.headD yg3).ps
theorem zp7(z:Str)(lo hi:Option Int):(qh0 z lo hi).length<=z.length:=by
 unfold qh0
 show(List.toArray _).size<=z.cps.size
 rw[size_toArray,length_take,length_drop,Array.length_toList]
 omega
theorem zg4(z:Str){p:Nat}(h1:p<=e)(h2:e<=z.length):(qh0 z (some (p:Int)) (some (e:Int))).length=e-p:=by
 have gl:z.cps.toList.length=z.length:=Array.length_toList
 unfold qh0
 show(List.toArray _).size=_
 rw[size_toArray,length_take,length_drop,HT.wd5,HT.wd5]
 omega
theorem bg0(rs:List Row):Bg rs 0 0 0 0 0 st0:=by
 refine⟨fun c hc=>?_,rfl,fun c hc=>(by cases hc),by unfold st0;simp,by unfold st0;simp,Nat.le_refl _,Nat.le_refl _⟩
 rw[mem_singleton.mp hc]
 exact⟨by show(0:Nat)<=_;omega,Nat.le_refl _,Nat.le_refl _,fun n hn=>(by cases hn),Nat.le_refl _⟩
theorem za6{rs:List Row}{rk:Str->Nat}{z:Str}(b:Bok rs rk):∀ (ds:List PyData) (p j:Nat) (st:Rst),TkC z.cps.toList p ds->j<=p->Bg rs (2*j) (20*j) (60*j+p) j p st->∀ i,i<=ds.length->∃ p',p<=p'/\p'<=z.length/\j+i<=p'/\TkC z.cps.toList p' (ds.drop i)/\Bg rs (2*(j+i)) (20*(j+i)) (60*(j+i)+p') (j+i) p' ((ds.take i).foldl (xl1 rs rk z) st)
 | [],p,j,st,h,hj,hb,i,hi=>by
   obtain rfl:i=0:=by simpa using hi
   cases h with
   | nil e=>exact⟨p,Nat.le_refl _,by rw[e];exact Nat.le_of_eq Array.length_toList,hj,.nil e,hb⟩
 | d :: ds,p,j,st,h,hj,hb,0,_=>by
   refine⟨p,Nat.le_refl _,?_,hj,h,hb⟩
   cases h with
   | cons h1 h2 _ _ =>
     have:z.cps.toList.length=z.length:=Array.length_toList
     omega
 | d :: ds,p,j,st,h,hj,hb,i+1,hi=>by
   cases h with
   | cons h1 h2 h3 h4 =>
     rename_i e kind t
     have gl:z.cps.toList.length=z.length:=Array.length_toList
     have hs:=hb.step (rk:=rk) (kind:=kind) (i:=(p:Int)) (g:=qh0 z (some (p:Int)) (some (e:Int))) (t:=t) b
     rw[zg4 z #[0] #[0]] at hs
     have hs2:=hs.mono (P':=2*(j+1)) (W':=20*(j+1)) (M':=60*(j+1)+e) (D':=j+1) (T':=e) #[0] #[0] #[0] #[0] #[0]
     obtain⟨p',q1,q2,q3,q4,q5⟩:=za6 b ds e (j+1) _ h4 #[0] hs2 i (by simpa using hi)
     refine⟨p',by omega,q2,by omega,q4,?_⟩
     rw[show j+(i+1)=j+1+i by omega]
     exact q5
theorem yg9(b:Bok rs rk)(i:Nat)(hi:i<=#[22].length):∃ p,p<=z.length/\i<=p/\TkC z.cps.toList p (#[22].drop i)/\Bg rs (2*i) (20*i) (60*i+p) i p ((#[22].take i).foldl (xl1 rs rk z) st0):=by
 obtain⟨p,_,h1,h2,h3,h4⟩:=za6 (z:=z) b #[22] 0 0 st0 (yp9 _) #[11] (bg0 rs) i hi
 rw[Nat.zero_add] at h2 h4
 exact⟨p,h1,h2,h3,h4⟩
abbrev ws6(K:Fg)(qB:Addr):TS :=
 (G5 (N6 qB "read" (qb0 K) [] E0 (A7 2) (A3 (A7 3) (A3 (A7 4) (A3 (tSl (wu7 K) (A7 1) (Y3 (A7 4)) (Y3 (A7 5))) #[3,6])))))
abbrev ws7(K:Fg)(qB:Addr):TS :=
 (B9 (G5 (N6 qB "finish" (V8 K) [] E0 (A7 2) (A3 (tCB (O3 K) #[3,1]) B1)))
 (E3 (A7 2)))
abbrev ws8(K:Fg)(qB:Addr):TS :=
 (B9 (qf4 (qq7 K (C3 (qr4 K) [] E0 #[3,1])) (yk3 K 4 (qs7 (B3 3) (qs7 (B3 4) (qs7 (B3 5) (qs7 (B3 6) yr8)))))
 (ws6 K qB))
 (ws7 K qB))
def qr8(K:Fg):Sp:=fun vs H Q _=>∃ (bv:V) (z:Str) (rs:List Row) (rk:Str->Nat),vs=[bv,.str z]/\BkO K H bv rs/\Bok rs rk/\z.length<=10000/\∀ (kR kB r:Addr) (a:RAd) (H':Hp),RdO K H' kR kB r bv a (rdS rs rk z)->A9 H H'->(∀ x∈RAd.fp r a,H x=none)->Q (.ref r) H'
def qo0(K:Fg)(qB:Addr):TS :=
 (B9 (C8 (yk8 qB (qa7 K) [] E0 #[3,0]) (B3 2))
 (ws8 K qB))
theorem yh0(cz:Cz K qA qB)(h:qr8 K vs H Q E):qo0 K qB {nx:=fun _ H'=>Q .non H',rt:=Q} (C9 ["book","text","reader","kind","start","stop","told"] vs) H:=by
 obtain⟨bv,z,rs,rk,rfl,hk,bk,hz,q⟩:=h
 show qo0 K _ _ [some bv,some (.str z),none,none,none,none,none] H
 unfold qo0
 lk
 refine ye5 ?_
 lk
 intro r dx hr hdx ne
 have s0:A9 H (upd (upd H dx (.own r)) r (.ins qB dx [])):=fun c u e=>E2 (E2 e (Z3 hdx e)) (Z3 hr e)
 have e0:(upd (upd H dx (.own r)) r (.ins qB dx [])) r=some (.ins qB dx []):=A8
 have g0:C4 H (upd (upd H dx (.own r)) r (.ins qB dx [])):=C4.tr C4.upd C4.upd
 generalize upd (upd H dx (.own r)) r (.ins qB dx [])=H0 at *
 refine⟨qB,r,dx,bv,rfl,cz.ns_Reader,e0,fun kB a H1 h1 bt1 fr1 g1=>⟨rfl,?_⟩⟩
 have s1:A9 H H1:=fun c u e=>bt1 c u (s0 c u e) (by simp;exact Z3 hr e)
 have hk1:=hk.same s1
 have fr2:∀ x∈RAd.fp r a,H x=none:=fun x hx=>by
  rcases fr1 x hx with h|h
  ·rw[h];exact hr
  ·exact g0 _ h
 show ws8 K _ _ _ _
 lk
 refine⟨z,rfl,by omega,fun p us H2 s2 hp0 hp hd=>?_⟩
 have h2:=h1.same s2
 have hk2:=hk1.same s2
 have np:p∉RAd.fp r a:=h1.nop hp0
 have hul:=hd.length
 refine wy4 #[59,hp] (fun j σ H'=>∃ a' x3 x4 x5 x6,σ=[some bv,some (.str z),some (.ref r),x3,x4,x5,x6]/\Rup K qB kB r bv H2 a H' a' ((#[22].take j).foldl (xl1 rs rk z) st0)/\C4 H2 H') ?_ ?_ ?_ ?_
 ·exact⟨a,none,none,none,none,rfl,.keep h2 fun c o e _=>e,fun z hz=>hz⟩
 ·rintro j σ H' _ ⟨a',x3,x4,x5,x6,rfl,u,g⟩
  exact SqL.of (u.bt _ _ hp np)
 ·rintro j v σ H' hv ⟨a',x3,x4,x5,x6,rfl,u,g⟩
  have hj:j<us.length:=by rcases Nat.lt_or_ge j us.length with h|h;exact h;rw[List.getElem?_eq_none_iff.mpr h] at hv;cases hv
  have hj2:j<#[22].length:=by omega
  obtain⟨pp,hp1,hp2,hp3,bj⟩:=yg9 (z:=z) bk j #[0]
  have hjd:#[22][j]?=some (#[22][j]'hj2):=List.getElem?_eq_getElem _
  obtain⟨w,hw,dw⟩:=hd.get hjd
  rw[hv] at hw
  obtain rfl:=Option.some.inj hw
  have ef:(#[22].take (j+1)).foldl (xl1 rs rk z) st0=xl1 rs rk z ((#[22].take j).foldl (xl1 rs rk z) st0) (#[22][j]'hj2):=by
   rw[qt6 hjd,foldl_append];rfl
  rw[PAt,ef]
  generalize (#[22].take j).foldl (xl1 rs rk z) st0=sj at *
  rw[<-List.getElem_cons_drop (h:=hj2)] at hp3
  generalize #[22][j]'hj2=d at *
  cases hp3 with
  | cons c1 c2 c3 c4 =>
  rename_i e kind t
  have gl:z.cps.toList.length=z.length:=Array.length_toList
  have tk:=u.tupK h2
  obtain⟨q1,ws,rfl,hq,hwd⟩:=D9.mp dw
  rw[Dvs] at hwd;obtain⟨v0,r0,rfl,d0,hwd⟩:=hwd
  rw[Dvs] at hwd;obtain⟨v1,r1,rfl,d1,hwd⟩:=hwd
  rw[Dvs] at hwd;obtain⟨v2,r2,rfl,d2,hwd⟩:=hwd
  rw[Dvs] at hwd;obtain⟨v3,r3,rfl,d3,hwd⟩:=hwd
  rw[Dvs] at hwd;subst hwd
  obtain rfl:=G7.mp d0
  obtain rfl:=P1.mp d1
  obtain rfl:=P1.mp d2
  obtain rfl:=G7.mp d3
  refine⟨q1,_,rfl,tk.sqT hq,rfl,_,_,rfl,D6 ⟨_,_,rfl,D6 ⟨_,_,rfl,D6 ⟨_,_,rfl,D6 ⟨rfl,?_⟩⟩⟩⟩⟩
  show ws6 K _ _ _ _
  walk_at"26"
  refine⟨r,_,_,rfl,u.ok.o,rfl,?_⟩
  lk
  refine ya1 (D5 #[0]) ?_
  lk
  have hcl:=zp7 z (some (pp:Int)) (some (e:Int))
  refine⟨qB,kB,r,bv,a',sj,rs,rk,_,_,_,_,_,kind,pp,_,t,rfl,u.ok,hk2.tupK tk,bk,bj,⟨by omega,by omega,by omega,by omega,by omega⟩,by omega,by omega,fun a2 H3 u2 g2=>?_⟩
  exact⟨a2,_,_,_,_,rfl,u.tr u2 g,C4.tr g g2⟩
 ·rintro σ H' ⟨a',x3,x4,x5,x6,rfl,u,g⟩
  obtain⟨pp,hp1,hp2,hp3,bj⟩:=yg9 (z:=z) bk #[22].length #[11]
  rw[hul,take_length] at u
  rw[take_length] at bj
  have u':Rup K qB kB r bv H2 a H' a' (xj3 rs rk z):=u
  have bj':Bg rs _ _ _ _ _ (xj3 rs rk z):=bj
  have tk:=u'.tupK h2
  show ws7 K _ _ _ _
  walk_at"26"
  refine⟨r,_,_,rfl,u'.ok.o,rfl,?_⟩
  lk
  refine .inr (.inl ⟨z,rfl,D5 #[0],?_⟩)
  lk
  have erd:rdS rs rk z=X5 rs (xj3 rs rk z) 0 z.length "end":=rfl
  generalize xj3 rs rk z=sj at *
  obtain⟨b0,cl,eb⟩:=exists_cons_of_ne_nil bj'.ne
  have hl:=bj'.l
  have hm:=bj'.m
  have hcl:cl.length<=20:=by rw[eb] at hl;simp at hl;omega
  refine⟨qB,kB,r,bv,a',sj,rs,cl,b0,z.length,rfl,u'.ok,hk2.tupK tk,eb,by omega,bj'.cond #[0] #[0],by omega,fun a3 H3 u3 g3=>?_⟩
  lk
  have uu:=u'.tr u3 g
  have e5:=za5 (rs:=rs) (st:=sj) (pre:=[]) (cl:=cl) (b:=b0) (i:=z.length) (rule := "end") eb
  have e6:rdS rs rk z={sj with bs:=wUp rs (·++qb2 rs (cl.map Brn.n)) [{b0 with ps:=b0.ps++U8 cl}],ms:=sj.ms++cl.reverse.map (clM z.length "end")}:=erd.trans e5
  have u4:Rup K qB kB r bv H2 a H3 a3 (rdS rs rk z):=by rw[e6];exact uu
  refine q _ kB r a3 H3 u4.ok (fun c o e=>u4.bt c o (s2 c o (s1 c o e)) fun hc=>?_) fun x hx=>?_
  ·have:=fr2 c hc;rw[e] at this;cases this
  ·rcases u4.fr x hx with h|h
   ·exact fr2 x h
   ·exact(A9.grow s1) _ (A9.grow s2 _ h)
abbrev ws9(K:Fg)(qB:Addr):TS :=
 (E3 (X3 (A3 (N6 qB "root" (qa8 K) [] E0 (A7 2) B1) (A3 (R4 K (A7 2) "mends") B1))))
def qr9(K:Fg):Sp:=fun vs H Q _=>∃ (bv:V) (z:Str) (rs:List Row) (rk:Str->Nat),vs=[bv,.str z]/\BkO K H bv rs/\Bok rs rk/\z.length<=10000/\∀ (v1:V) (p q:Addr) (us:List V) (H':Hp),SqT K H' p [v1,.ref q]->Dv K H' (Tr.nd "" (rtS (rdS rs rk z))).da v1->H' q=some (.lst us)->Dvs K H' ((rdS rs rk z).ms.map Mnd.da) us->A9 H H'->H q=none->Q (.ref p) H'
def qo1(K:Fg)(qB:Addr):TS :=
 (B9 (C8 (C3 (qr8 K) [] E0 (A3 (A7 0) #[3,1])) (B3 2))
 (ws9 K qB))
theorem yh1(cz:Cz K qA qB)(h:qr9 K vs H Q E):qo1 K qB {nx:=fun _ H'=>Q .non H',rt:=Q} (C9 ["book","text","reader"] vs) H:=by
 obtain⟨bv,z,rs,rk,rfl,hk,bk,hz,q⟩:=h
 show qo1 K _ _ [some bv,some (.str z),none] H
 unfold qo1
 lk
 refine⟨bv,z,rs,rk,rfl,hk,bk,hz,fun kR kB r a H1 h1 s1 hn=>?_⟩
 obtain rfl:=N3 cz.ns_Reader h1.kr
 show ws9 K _ _ _ _
 walk_at"26"
 refine⟨r,_,_,rfl,h1.o,rfl,?_⟩
 lk
 have hne:(rdS rs rk z).bs≠[]:=yg5 (by simp)
 obtain⟨b',t',ebf⟩:=exists_cons_of_ne_nil hne
 have ert:rtS (rdS rs rk z)=b'.ps:=by unfold rtS;rw[ebf];rfl
 refine⟨qB,kB,r,bv,a,_,b',t',rfl,h1,ebf,fun v H2 s2 hv=>?_⟩
 rw[<-ert] at hv
 have h2:=h1.same s2
 obtain⟨us,m1,m2⟩:=h2.m
 walk_at"23"
 refine⟨r,_,a.x,_,_,rfl,h2.o,cz.cl_Reader,cz.na_Reader_mends,rfl,?_⟩
 walk_at"14"
 have s3:=A9.new hp (.tup [v,.ref a.M])
 exact q v p a.M us _ (SqT.of A8) (Dv.same s3 _ _ hv) (s3 _ _ m1) (Dvs.same s3 _ _ m2) (A9.tr (A9.tr s1 s2) s3) (hn _ (by simp[RAd.fp]))
mutual
theorem Ab3:∀ t:Tr,nd t.da=true
 | .tx s=>by rw[Tr.da,nd]
 | .nd n ps=>by rw[Tr.da,nd,nds,nd,nds,nd,nds,za7 ps];rfl
theorem za7:∀ ts:List Tr,nds (Tr.das ts)=true
 | []=>by rw[Tr.das,nds]
 | t::ts=>by rw[Tr.das,nds,Ab3 t,za7 ts];rfl
end
mutual
theorem yq0:∀ t:Tr,t.da.depth<=2*hgt t+4
 | .tx s=>by rw[Tr.da];simp[PyData.depth]
 | .nd n ps=>by
   have:=yb5 ps
   rw[Tr.da,hgt]
   simp[PyData.depth,PyData.depthAll] at this ⊢
   omega
theorem yb5:∀ ts:List Tr,PyData.depthAll (Tr.das ts)<=2*X4 ts+4
 | []=>by rw[Tr.das];simp[PyData.depthAll]
 | t::ts=>by
   have h1:=yq0 t
   have h2:=yb5 ts
   rw[Tr.das,X4]
   simp[PyData.depthAll] at h2 ⊢
   omega
end
def Bh(m:Nat)(bs:List Brn):Prop:=∀ (i:Nat) (c:Brn),bs[i]?=some c->X4 c.ps+i<=m
section
variable{m:Nat}{bs:List Brn}{rs:List Row}
theorem Bh.map{bs':List Brn}(h:Bh m bs)(e:bs'.map Brn.ps=bs.map Brn.ps):Bh m bs':=fun i c hc=>by
 have h1:(bs'.map Brn.ps)[i]?=some c.ps:=by rw[List.getElem?_map,hc];rfl
 rw[e,List.getElem?_map] at h1
 obtain⟨d,hd,ed⟩:=Option.map_eq_some_iff.mp h1
 rw[<-ed];exact h i d hd
theorem Bh.take(h:Bh m bs)(k:Nat):Bh m (bs.take k):=fun i c hc=>by
 rw[List.getElem?_take] at hc
 split at hc
 ·exact h i c hc
 ·cases hc
theorem Bh.snoc(h:Bh m bs)(hb:X4 b.ps+bs.length<=m):Bh m (bs++[b]):=fun i c hc=>by
 rcases Nat.lt_or_ge i bs.length with hi|hi
 ·rw[List.getElem?_append_left hi] at hc;exact h i c hc
 ·rw[List.getElem?_append_right hi] at hc
  rcases Nat.eq_zero_or_pos (i-bs.length) with h0|h0
  ·rw[h0] at hc
   obtain rfl:=Option.some.inj hc
   rw[show i=bs.length by omega];exact hb
  ·rw[List.getElem?_eq_none_iff.mpr (by simp;omega)] at hc;cases hc
theorem za8:∀ (C:List Brn) (j:Nat),(∀ i e,C[i]?=some e->X4 e.ps+(j+i)<=m)->j<=m+1->X4 (U8 C)+j<=m+1
 | [],j,_,hj=>by rw[U8,X4];omega
 | e::t,j,h,hj=>by
   have h0:=h 0 e rfl
   have h1:=za8 t (j+1) (fun i e he=>by have:=h (i+1) e (by simpa using he);omega) #[0]
   rw[U8,X4,X4,hgt,qt2]
   omega
theorem Bh.cls{k:Nat}(h:Bh m st.bs)(hk:k<st.bs.length)(hl:st.bs.length<=m+1):Bh m (X5 rs st k i rule).bs:=by
 have e:(X5 rs st k i rule).bs.map Brn.ps=(st.bs.take k++[{(st.bs[k]) with ps:=(st.bs[k]).ps++U8 (st.bs.drop (k+1))}]).map Brn.ps:=by
  show(wUp rs _ _).map Brn.ps=_
  rw[xa8 fun _ _=>rfl,yg6 hk]
 refine Bh.map ?_ e
 refine(h.take k).snoc ?_
 have h0:=h k _ (List.getElem?_eq_getElem hk)
 have h1:=za8 (m:=m) (st.bs.drop (k+1)) (k+1) (fun i e he=>by
  rw[List.getElem?_drop] at he
  exact h _ e he) #[0]
 show X4 (_++_)+_<=m
 rw[qt2,length_take];omega
theorem Bh.ent(h:Bh m bs)(hl:bs.length<=m):Bh m (qn9 bs n):=by
 unfold qn9
 refine h.snoc ?_
 show X4 []+_<=m
 rw[X4];omega
theorem Bh.puts:∀ {ns:List Str} {st:Rst} {i:Int} {rule:Str},Bh m st.bs->st.bs.length+ns.length<=m->Bh m (P7 st ns i rule).bs
 | [],st,i,rule,h,_=>h
 | n::ns,st,i,rule,h,hl=>by
   rw[length_cons] at hl
   exact Bh.puts (st:=xf3 st n i rule) (h.ent #[0]) (by rw[wb3];omega)
theorem Bh.lv(h:Bh m bs)(h2:2<=bs.length):Bh m (lvB bs):=by
 obtain⟨l,b1,b2,rfl⟩:=yw7 h2
 rw[xr1]
 have h1:=h l.length b1 (by simp)
 have h3:=h (l.length+1) b2 (by simp)
 have e:l++[b1,b2]=l++([b1]++[b2]):=rfl
 have hl:Bh m l:=fun i c hc=>h i c (by rw[List.getElem?_append_left (List.getElem?_eq_some_iff.mp hc).1];exact hc)
 refine hl.snoc ?_
 show X4 (b1.ps++[Tr.nd b2.n b2.ps])+_<=m
 rw[qt2,X4,X4,hgt];omega
theorem An5(ps:List Tr)(t:Str):X4 (adP ps t)<=max (X4 ps) (hgt (.tx t)):=by
 unfold adP
 split
 ·rename_i u e
  have hd:X4 ps.dropLast<=X4 ps:=by
   have e2:ps=ps.dropLast++[.tx u]:=by
    rcases eq_nil_or_concat ps with h|⟨q,x,h⟩
    ·rw[h] at e;cases e
    ·rw[concat_eq_append] at h
     rw[h,getLast?_concat] at e
     rw[h,dropLast_concat,Option.some.inj e]
   have h1:=qt2 ps.dropLast [.tx u]
   rw[<-e2] at h1
   omega
  rw[qt2,X4,X4,hgt,hgt];omega
 ·rw[qt2,X4,X4];omega
theorem Bh.tx(h:Bh m st.bs)(hne:st.bs≠[])(hl:st.bs.length<=m):Bh m (txS st i g t).bs:=by
 rcases eq_nil_or_concat st.bs with e|⟨l,b,e⟩
 ·exact absurd e hne
 ·rw[concat_eq_append] at e
  have e1:(txS st i g t).bs=l++[{b with ps:=adP b.ps t}]:=by
   show st.bs.dropLast++[{(Z4 st.bs) with ps:=adP (Z4 st.bs).ps t}]=_
   rw[e,qt9,dropLast_concat]
  rw[e1]
  rw[e] at h hl
  have h1:=h l.length b (by simp)
  have hl':Bh m l:=fun i c hc=>h i c (by rw[List.getElem?_append_left (List.getElem?_eq_some_iff.mp hc).1];exact hc)
  refine hl'.snoc ?_
  have:=An5 b.ps t
  rw[hgt] at this
  show X4 (adP b.ps t)+_<=m
  rw[length_append,length_singleton] at hl
  omega
theorem Bh.wup(h:Bh m bs):Bh m (wUp rs f bs):=h.map (xa8 #[65] bs)
theorem yh2{i:Int}:∀ (ws:List Str) (st:Rst),Bh 21 st.bs->st.bs.length<=21->st.bs≠[]->Bh 21 (ws.foldl (qg2 rs i) st).bs
 | [],st,h,_,_=>h
 | n::ws,st,h,hl,hne=>by
   rw[foldl_cons]
   have hp:0<st.bs.length:=length_pos_iff.mpr hne
   by_cases ha:ws5 rs (G4 st) n=true
   ·have e:qg2 rs i st n=xf3 st n i "anew":=by unfold qg2;rw[if_pos ha]
    rw[e]
    unfold ws5 at ha
    rw[Bool.and_eq_true,decide_eq_true_eq] at ha
    have hnl:(G4 st).length+1=st.bs.length:=by unfold G4;rw[length_map,length_tail];omega
    exact yh2 ws _ (h.ent hl) (by rw[wb3];omega) (by show qn9 st.bs n≠[];unfold qn9;simp)
   ·have e:qg2 rs i st n=st:=by unfold qg2;rw[if_neg ha]
    rw[e]
    exact yh2 ws st h hl hne
theorem Bh.step{D T:Nat}(b:Bok rs rk)(bg:Bg rs P W M D T st)(h:Bh 21 st.bs):Bh 21 (qq3 rs rk st kind i g t).bs:=by
 have hl:=bg.l
 have hnl:=bg.nlen
 unfold qq3
 split
 ·unfold opS
  split
  ·exact h
  rename_i hs
  split
  ·exact h
  split
  ·exact h
  rename_i hlen
  have hrow:=xf5 hs
  have w:=wp9 b.B b.f (ys:=G4 st) 13 t hrow (b.k t)
  obtain⟨ps,hps⟩:=xf4 (rs:=rs) (rk:=rk) (ys:=G4 st) 13 t
  have hw1:=w.k
  generalize M5 rs rk (G4 st) 13 t=wt at *
  have hk:wt.1<st.bs.length:=by omega
  have e1:wt.2.dropLast=ps:=by rw[hps,dropLast_concat]
  have e2:wt.2.length=ps.length+1:=by rw[hps];simp
  have hc:=h.cls (rs:=rs) (i:=i) (rule := "shut") hk #[0]
  have hcl:#[57].bs.length=wt.1+1:=by rw[wq4,length_take];omega
  have hp:=Bh.puts (ns:=ps) (i:=i) (rule := "frame") hc (by rw[hcl];omega)
  have hpl:=wq3 ps #[57] i "frame"
  rw[e1]
  dsimp only
  have he:=hp.ent (n:=t) #[0]
  split
  ·refine he.lv ?_
   show 2<=(qn9 _ t).length
   unfold qn9
   rw[length_append,hpl,hcl,length_singleton];omega
  ·exact he
 split
 ·unfold wj4
  split
  ·rename_i k hk
   have:=xq2 hk
   refine(h.cls (rs:=rs) #[0] #[0]).lv ?_
   rw[wq4,length_take];omega
  ·split
   ·exact h.wup
   ·exact h
 ·unfold qz1
  split
  ·exact h
  split
  ·exact h
  rename_i hlen
  have hh:(Q5 rs st).length<=12:=ql2 rs 12 _
  have hp:=Bh.puts (ns:=Q5 rs st) (i:=i) (rule := "host") h #[0]
  have hpb:=bg.puts (ns:=Q5 rs st) (i:=i) (rule := "host") #[0] fun m hm=>by
   have:=wa7 b.B 12 _ m hm
   exact⟨b.row this,this⟩
  have hA:=hpb.anews (i:=i) b.n
  refine Bh.tx ?_ hA.ne (by have:=hA.l;exact this)
  unfold xa7 qz0
  exact yh2 _ _ hp.wup (by show(wUp rs _ _).length<=21;rw[xa9];exact hpb.l) (yg5 hpb.ne)
theorem za9{rk:Str->Nat}{z:Str}(b:Bok rs rk):∀ (ds:List PyData) (p:Nat) (st:Rst) (P W M D T:Nat),TkC z.cps.toList p ds->Bg rs P W M D T st->Bh 21 st.bs->Bh 21 (ds.foldl (xl1 rs rk z) st).bs
 | [],_,_,_,_,_,_,_,_,_,h=>h
 | d::ds,p,st,P,W,M,D,T,hd,bg,h=>by
   cases hd with
   | cons _ _ _ h4=>exact za9 b ds _ _ _ _ _ _ _ h4 (bg.step b) (h.step b bg)
theorem zx7(b:Bok rs rk):hgt (Tr.nd "" (rtS (rdS rs rk z)))<=80:=by
 have h0:Bh 21 st0.bs:=fun i c hc=>by
  cases i with
  | zero=>simp[st0] at hc;subst hc;show X4 []+0<=21;rw[X4];omega
  | succ i=>simp[st0] at hc
 have h1:=za9 (z:=z) b _ 0 st0 _ _ _ _ _ (yp9 _) (bg0 rs) h0
 obtain⟨p,_,_,_,bj⟩:=yg9 (z:=z) b #[22].length #[11]
 rw[take_length] at bj
 have hp:0<(xj3 rs rk z).bs.length:=length_pos_iff.mpr bj.ne
 have hl:(xj3 rs rk z).bs.length<=21:=bj.l
 have h2:Bh 21 (rdS rs rk z).bs:=Bh.cls (rs:=rs) (i:=z.length) (rule := "end") h1 hp #[0]
 have hne:(rdS rs rk z).bs≠[]:=yg5 (by simp)
 obtain⟨c,t,e⟩:=exists_cons_of_ne_nil hne
 have h3:=h2 0 c (by rw[e];rfl)
 rw[hgt]
 unfold rtS
 rw[e]
 show 1+X4 c.ps<=80
 omega
end
theorem M4(z:Str):z.cps.toList.length=z.length:=Array.length_toList
theorem yh3(z:Str):TX.ofL z.cps.toList=z:=by unfold TX.ofL;cases z;simp
def rml(H:Hp)(ps:List Addr):Hp:=fun z=>if z∈ps then none else H z
theorem yx0{z:Addr}(h:z∈ps):rml H ps z=none:=if_pos h
theorem xb3{z:Addr}(h:z∉ps):rml H ps z=H z:=if_neg h
theorem yq1:A9 (rml H ps) H:=fun c o e=>by
 by_cases h:c∈ps
 ·rw[yx0 h] at e;cases e
 ·rw[xb3 h] at e;exact e
theorem A9.rml(s:A9 H0 H)(h:∀ z∈ps,H0 z=none):A9 H0 (rml H ps):=fun c o e=>by
 rw[xb3 fun hc=>by rw[h c hc] at e;cases e];exact s c o e
inductive HsB(K:Fg)(H:Hp):List Addr->List (List Tr)->Prop
 | nil:HsB K H [] []
 | cons {a:Addr} {w:List Tr} {us:List V} {as:List Addr} {ws:List (List Tr)}:H a=some (.lst us)->Dvs K H (Tr.das w) us->HsB K H as ws->HsB K H (a::as) (w::ws)
structure Hps(K:Fg)(H:Hp)(L:Addr)(as:List Addr)(ws:List (List Tr)):Prop where
 l:H L=some (.lst (as.map V.ref))
 b:HsB K H as ws
 nd:(L::as).Nodup
section
variable{H':Hp}{L:Addr}{as as2:List Addr}{ws ws2:List (List Tr)}{w:List Tr}{ps:List Addr}
theorem HsB.len(h:HsB K H as ws):as.length=ws.length:=by
 induction h with
 | nil=>rfl
 | cons _ _ _ ih=>simp[ih]
theorem HsB.but(h:HsB K H as ws)(bt:But ps H H')(tk:U1 H H')(hd:∀ z∈as,z∉ps):HsB K H' as ws:=by
 induction h with
 | nil=>exact .nil
 | cons h1 h2 _ ih=>exact .cons (bt _ _ h1 (hd _ (by simp))) (Dvs.tupK tk _ _ (qa5 _) h2) (ih fun z hz=>hd z (by simp[hz]))
theorem HsB.app(h:HsB K H as ws)(h2:HsB K H as2 ws2):HsB K H (as++as2) (ws++ws2):=by
 induction h with
 | nil=>exact h2
 | cons h1 h3 _ ih=>exact .cons h1 h3 ih
theorem HsB.snoc(h:HsB K H as (ws++[w])):∃ as' a us,as=as'++[a]/\HsB K H as' ws/\H a=some (.lst us)/\Dvs K H (Tr.das w) us:=by
 induction ws generalizing as with
 | nil=>cases h with|cons h1 h2 h3=>cases h3;exact⟨[],_,_,rfl,.nil,h1,h2⟩
 | cons c ws ih =>
   cases h with
   | cons h1 h2 h3 =>
     obtain⟨as',a,us,rfl,h4,h5,h6⟩:=ih h3
     exact⟨_::as',a,us,rfl,.cons h1 h2 h4,h5,h6⟩
theorem HsB.mut(h:HsB K H as ws):∀ z∈as,xp4 H z:=by
 induction h with
 | nil=>intro z hz;cases hz
 | cons h1 _ _ ih =>
   intro z hz
   rcases mem_cons.mp hz with rfl|hz
   ·exact .inl ⟨_,h1⟩
   ·exact ih z hz
theorem Hps.mut(h:Hps K H L as ws):∀ z∈L::as,xp4 H z:=fun z hz=>by
 rcases mem_cons.mp hz with rfl|hz
 ·exact .inl ⟨_,h.l⟩
 ·exact h.b.mut z hz
theorem xp4.some{z:Addr}(h:xp4 H z):H z≠none:=fun e=>by
 rcases h with⟨xs,e2⟩|⟨C,dx,fs,e2⟩ <;> rw[e] at e2 <;> cases e2
theorem Hps.but(h:Hps K H L as ws)(bt:But ps H H')(tk:U1 H H')(hd:∀ z∈L::as,z∉ps):Hps K H' L as ws :=
 ⟨bt _ _ h.l (hd _ (by simp)),h.b.but bt tk fun z hz=>hd z (by simp[hz]),h.nd⟩
theorem Hps.same(h:Hps K H L as ws)(s:A9 H H'):Hps K H' L as ws:=h.but (ps:=[]) (fun c o e _=>s c o e) s.tupK fun _ _ z=>by cases z
theorem Hps.upd(h:Hps K H L as ws)(hp:xp4 H p\/H p=none)(hn:p∉L::as):Hps K (upd H p o) L as ws :=
 h.but But.upd1 (hp.elim Q4 fun e=>(A9.new e o).tupK) fun z hz e=>hn (by rw[mem_singleton.mp e] at hz;exact hz)
theorem Hps.pop(h:Hps K H L as (ws++[w])):∃ as' a us,as=as'++[a]/\H L=some (.lst (as'.map V.ref++[.ref a]))/\Hps K (L2.upd H L (.lst (as'.map V.ref))) L as' ws/\(L2.upd H L (.lst (as'.map V.ref))) a=some (.lst us)/\Dvs K (L2.upd H L (.lst (as'.map V.ref))) (Tr.das w) us:=by
 obtain⟨as',a,us,rfl,h1,h2,h3⟩:=h.b.snoc
 have nd:=h.nd
 rw[nodup_cons,nodup_append] at nd
 have tk:U1 H (L2.upd H L (.lst (as'.map V.ref))):=Q4 (.inl ⟨_,h.l⟩)
 have nL:∀ z∈as'++[a],z≠L:=fun z hz e=>nd.1 (e▸hz)
 refine⟨as',a,us,rfl,by rw[h.l,map_append];rfl,⟨A8,h1.but But.upd1 tk fun z hz e=>nL z (by simp[hz]) (mem_singleton.mp e),?_⟩,E2 h2 (nL a (by simp)),Dvs.tupK tk _ _ (qa5 _) h3⟩
 rw[nodup_cons]
 exact⟨fun e=>nd.1 (by simp[e]),nd.2.1⟩
theorem Hps.top(h:Hps K H L as (ws++[w])):∃ as' a us,as=as'++[a]/\H a=some (.lst us)/\Dvs K H (Tr.das w) us/\H L=some (.lst (as'.map V.ref++[.ref a]))/\∀ w' us',Dvs K H (Tr.das w') us'->Hps K (L2.upd H a (.lst us')) L as (ws++[w']):=by
 obtain⟨as',a,us,rfl,h1,h2,h3⟩:=h.b.snoc
 have nd:=h.nd
 rw[nodup_cons,nodup_append] at nd
 refine⟨as',a,us,rfl,h2,h3,by rw[h.l,map_append];rfl,fun w' us' hd=>?_⟩
 have tk:U1 H (L2.upd H a (.lst us')):=Q4 (.inl ⟨_,h2⟩)
 refine⟨E2 h.l fun e=>nd.1 (by rw[e];simp),(h1.but But.upd1 tk fun z hz e=>nd.2.2.2 z hz a (by simp) (mem_singleton.mp e)).app (.cons A8 (Dvs.tupK tk _ _ (qa5 _) hd) .nil),h.nd⟩
theorem Hps.get(h:Hps K H L (as++[a]) (ws++[w])):∃ us,H a=some (.lst us)/\Dvs K H (Tr.das w) us:=by
 obtain⟨as',a',us,e,h1,h2,h3⟩:=h.b.snoc
 obtain⟨rfl,e2⟩:=append_inj' e rfl
 obtain rfl:=(List.cons.inj e2).1
 exact⟨us,h2,h3⟩
theorem Hps.put{w':List Tr}{us':List V}(h:Hps K H L (as++[a]) (ws++[w]))(hd:Dvs K H (Tr.das w') us'):Hps K (L2.upd H a (.lst us')) L (as++[a]) (ws++[w']):=by
 obtain⟨as',a',us,e,_,_,_,q⟩:=h.top
 obtain⟨rfl,e2⟩:=append_inj' e rfl
 obtain rfl:=(List.cons.inj e2).1
 exact q w' us' hd
theorem Hps.push(h:Hps K H L as ws)(hp:H p=none)(hd:Dvs K H (Tr.das w) us):Hps K (L2.upd (L2.upd H p (.lst us)) L (.lst (as.map V.ref++[.ref p]))) L (as++[p]) (ws++[w]):=by
 have nd:=h.nd
 have s:=A9.new hp (.lst us)
 have nL:p≠L:=fun e=>by rw[e,h.l] at hp;cases hp
 have na:∀ z∈as,z≠p:=fun z hz e=>(h.b.mut z hz).some (e▸hp)
 have h1:=h.same s
 have e1:(L2.upd H p (.lst us)) p=some (.lst us):=A8
 have d1:=Dvs.same s _ _ hd
 generalize L2.upd H p (.lst us)=H1 at *
 have tk:U1 H1 (L2.upd H1 L (.lst (as.map V.ref++[.ref p]))):=Q4 (.inl ⟨_,h1.l⟩)
 rw[nodup_cons] at nd
 refine⟨by rw[A8,map_append];rfl,(h1.b.but But.upd1 tk fun z hz e=>nd.1 (by rw[mem_singleton.mp e] at hz;exact hz)).app (.cons (E2 e1 nL) (Dvs.tupK tk _ _ (qa5 _) d1) .nil),?_⟩
 rw[nodup_cons,nodup_append]
 exact⟨fun e=>(mem_append.mp e).elim nd.1 fun e=>nL (mem_singleton.mp e).symm,nd.2,by simp,fun x hx y hy e=>na x hx (by rw[e];exact mem_singleton.mp hy)⟩
theorem Hps.one(h1:H p=some (.lst []))(h2:H L=some (.lst [.ref p])):Hps K H L [p] [[]] :=
 ⟨h2,.cons h1 (by rw[Tr.das];exact G9) .nil,by
  rw[nodup_cons]
  exact⟨fun e=>(by rw[mem_singleton.mp e,h1] at h2;cases h2),by simp⟩⟩
theorem Hps.first(h:Hps K H L as (w::ws)):∃ a as' us,as=a::as'/\H a=some (.lst us)/\Dvs K H (Tr.das w) us:=by
 have:=h.b
 cases this with
 | cons h1 h2 h3=>exact⟨_,_,_,rfl,h1,h2⟩
end
theorem zp8{w:List Tr}{t:Tr}(h:Dvs K H (Tr.das w) us)(hv:Dv K H t.da v):Dvs K H (Tr.das (w++[t])) (us++[v]):=by
 rw[X7,map_append,<-X7]
 exact Dvs.append h (Dvs.one hv)
section
variable{names:List Str}{c:Nat}{srt:Nat->Str}{rs:List Row}
theorem zx8(h:∀ ws,f ws=ws)(bs:List Brn):wUp rs f bs=bs:=by
 cases bs with
 | nil=>unfold wUp;split <;> rfl
 | cons c t =>
   obtain⟨l1,b,l2,e,h2⟩:=yp6 rs (bs:=c::t) (by simp)
   rw[e,wv7 h2,h]
theorem xf9{kept:Nat}(h:kept+1=st.bs.length):X5 rs st kept i rule=st:=by
 have e1:st.bs.drop (kept+1)=[]:=drop_eq_nil_of_le #[0]
 have e2:st.bs.take kept++[st.bs[kept]'#[0]]=st.bs:=by rw[<-qt6 (List.getElem?_eq_getElem #[0]),h,take_length]
 unfold X5
 rw[e1,yg6 #[0]]
 have e3:qb2 rs (([]:List Brn).map Brn.n)=[]:=rfl
 rw[e3,zx8 fun ws=>append_nil ws]
 show({bs:=st.bs.take kept++[{(st.bs[kept]'#[0]) with ps:=(st.bs[kept]'#[0]).ps++[]}],ms:=st.ms++[],ls:=st.ls}:Rst)=st
 rw[append_nil,append_nil]
 show({bs:=st.bs.take kept++[st.bs[kept]'#[0]],ms:=st.ms,ls:=st.ls}:Rst)=st
 rw[e2]
end
theorem zp9{l:List Brn}(e:st.bs=l++[b]):(txS st i g t).bs=l++[{b with ps:=adP b.ps t}]:=by
 show st.bs.dropLast++[{(Z4 st.bs) with ps:=adP (Z4 st.bs).ps t}]=_
 rw[e,qt9,dropLast_concat]
structure wr8(n:Str):Prop where
 n1:1<=n.length
 n8:n.length<=8
 lt:∀ c∈n.cps.toList,97<=c/\c<=122
variable{R:List Nat}
theorem Ai2{P:List Nat}(el:l=P++60::(n.cps.toList++62::R))(h:wr8 n):TX.tagAt l P.length=some (P.length+1,P.length+n.length+2)/\TX.tagD l P.length (P.length+1) (P.length+n.length+2)=.tuple [.str "open",.int (P.length:Int),.int ((P.length+n.length+2:Nat):Int),.str n]:=by
 have en:=M4 n
 have h1:=h.n1
 have h8:=h.n8
 have at0:l[P.length]?=some 60:=by rw[el];simp
 have dr:l.drop (P.length+1)=n.cps.toList++62::R:=by
  rw[el,drop_append,drop_eq_nil_of_le #[0],show P.length+1-P.length=1 by omega];rfl
 have hnm:TX.nm (l.drop (P.length+1))=some n.length:=by
  walk_at"20"
  rw[decide_eq_true this.1,decide_eq_true this.2];rfl
 have hns:TX.nst l P.length=P.length+1:=by
  unfold TX.nst
  rw[if_neg]
  intro e
  have e2:(l.drop (P.length+1))[0]?=some 47:=by rw[List.getElem?_drop];exact e
  rw[dr,List.getElem?_append_left #[0],List.getElem?_eq_getElem #[0]] at e2
  have:=h.lt _ (List.getElem_mem (show 0<n.cps.toList.length by omega))
  have e3:=Option.some.inj e2
  omega
 constructor
 ·unfold TX.tagAt
  rw[if_pos at0,hns,hnm]
  show some (P.length+1,P.length+1+n.length+1)=_
  rw[show P.length+1+n.length+1=P.length+n.length+2 by omega]
 ·unfold TX.tagD
  rw[if_pos rfl,dr,show P.length+n.length+2-1-(P.length+1)=n.cps.toList.length by omega,take_left' rfl,yh3]
theorem Ai3{P:List Nat}(el:l=P++60::47::(n.cps.toList++62::R))(h:wr8 n):TX.tagAt l P.length=some (P.length+2,P.length+n.length+3)/\TX.tagD l P.length (P.length+2) (P.length+n.length+3)=.tuple [.str "close",.int (P.length:Int),.int ((P.length+n.length+3:Nat):Int),.str n]:=by
 have en:=M4 n
 have h1:=h.n1
 have h8:=h.n8
 have at0:l[P.length]?=some 60:=by rw[el];simp
 have at1:l[P.length+1]?=some 47:=by rw[el,List.getElem?_append_right #[0]];simp
 have dr:l.drop (P.length+2)=n.cps.toList++62::R:=by
  rw[el,drop_append,drop_eq_nil_of_le #[0],show P.length+2-P.length=2 by omega];rfl
 have hnm:TX.nm (l.drop (P.length+2))=some n.length:=by
  walk_at"20"
  rw[decide_eq_true this.1,decide_eq_true this.2];rfl
 have hns:TX.nst l P.length=P.length+2:=by
  unfold TX.nst
  rw[if_pos at1]
 constructor
 ·unfold TX.tagAt
  rw[if_pos at0,hns,hnm]
  show some (P.length+2,P.length+2+n.length+1)=_
  rw[show P.length+2+n.length+1=P.length+n.length+3 by omega]
 ·unfold TX.tagD
  rw[if_neg #[0],dr,show P.length+n.length+3-1-(P.length+2)=n.cps.toList.length by omega,take_left' rfl,yh3]
theorem xb4(n:Str):(opn n).cps.toList=60::(n.cps.toList++[62]):=by unfold opn;simp only[PySem.Str.cps_append,Array.toList_append];rfl
theorem yh4(n:Str):(cls n).cps.toList=60::47::(n.cps.toList++[62]):=by unfold cls;simp only[PySem.Str.cps_append,Array.toList_append];rfl
inductive Pq
 | op (n:Str)
 | cl (n:Str)
 | rn (r t:Str)
def Pq.tx:Pq->List Nat
 | .op n=>60::(n.cps.toList++[62])
 | .cl n=>60::47::(n.cps.toList++[62])
 | .rn r _=>r.cps.toList
def txQ(ps:List Pq):List Nat:=ps.flatMap Pq.tx
def Ab4(r:Str):Prop:=∀ P R:List Nat,(R=[]\/∃ R',R=60::R')->∀ j,j<r.length->TX.tagAt (P++(r.cps.toList++R)) (P.length+j)=none
def Pq.ok:Pq->Prop
 | .op n=>wr8 n
 | .cl n=>wr8 n
 | .rn r t=>Ab4 r/\1<=r.length/\t=TX.ofL (TX.told 0 r.cps.toList)
def Pq.isR:Pq->Bool
 | .rn _ _=>true
 | _=>false
def yb6:Bool->List Pq->Prop
 | _,[]=>True
 | b,x::ps=>(b=true->x.isR=false)/\yb6 x.isR ps
def stQ(rs:List Row)(rk:Str->Nat)(p:Nat)(st:Rst):Pq->Rst
 | .op n=>opS rs rk st p (opn n) n
 | .cl n=>wj4 rs rk st p (cls n) n
 | .rn r t=>qz1 rs st p r t
def pq(rs:List Row)(rk:Str->Nat):Nat->List Pq->Rst->Rst
 | _,[],st=>st
 | p,x::ps,st=>pq rs rk (p+x.tx.length) ps (stQ rs rk p st x)
theorem Pq.len:∀ x:Pq,x.tx.length=(match x with | .op n=>n.length+2 | .cl n=>n.length+3 | .rn r _=>r.length)
 | .op n=>by simp[Pq.tx,M4];rfl
 | .cl n=>by simp[Pq.tx,M4];rfl
 | .rn r _=>M4 r
theorem xr6{l:List Nat}{s:Nat}:∀ (d k:Nat),k+d<=l.length->(∀ j,j<d->TX.tagAt l (k+j)=none)->TX.toks l k s=TX.toks l (k+d) s
 | 0,k,_,_=>rfl
 | d+1,k,h,hn=>by
   rw[TX.toks_none #[0] (show TX.tagAt l k=none from hn 0 #[0]),xr6 d (k+1) #[0] fun j hj=>by rw[show k+1+j=k+(j+1) by omega];exact hn (j+1) #[0]]
   congr 1;omega
theorem zq0{ps:List Pq}(h:∀ x t,ps=x::t->x.isR=false):txQ ps=[]\/∃ R',txQ ps=60::R':=by
 cases ps with
 | nil=>exact .inl rfl
 | cons x t =>
   have:=h x t rfl
   cases x with
   | op n=>exact .inr ⟨_,rfl⟩
   | cl n=>exact .inr ⟨_,rfl⟩
   | rn r u=>cases this
theorem yh5{rs:List Row}{rk:Str->Nat}{z:Str}:∀ (ps:List Pq) (Pz:List Nat) (s:Nat) (g t:Str) (st:Rst) (b:Bool),z.cps.toList=Pz++txQ ps->(∀ x∈ps,x.ok)->yb6 b ps->(s<Pz.length->b=true)->s<=Pz.length->Pz.drop s=g.cps.toList->t=TX.ofL (TX.told 0 g.cps.toList) ->
 (TX.toks z.cps.toList Pz.length s).foldl (xl1 rs rk z) st=pq rs rk Pz.length ps (if s<Pz.length then qz1 rs st s g t else st)
 | [],Pz,s,g,t,st,b,ez,_,_,_,hs,hg,ht=>by
   have ez':z.cps.toList=Pz:=by rw[ez];simp[txQ]
   have gl:=M4 z
   rw[TX.toks_end (by rw[ez'];exact Nat.le_refl _),pq]
   unfold TX.runs
   by_cases h:s<Pz.length
   ·rw[if_pos (by rw[ez'];exact h),if_pos h]
    have e0:((z.cps.toList).drop s).take (z.cps.toList.length-s)=g.cps.toList:=by rw[take_of_length_le (by rw[length_drop];exact Nat.le_refl _),ez',hg]
    have e1:TX.runD z.cps.toList s z.cps.toList.length=.tuple [.str "run",.int (s:Int),.int (z.cps.toList.length:Int),.str t]:=by
     unfold TX.runD;rw[e0,ht]
    have e2:qh0 z (some (s:Int)) (some (z.cps.toList.length:Int))=g:=by rw[O8,we9 rfl rfl,e0]
    rw[e1]
    show qq3 rs rk st "run" s (qh0 z (some (s:Int)) (some (z.cps.toList.length:Int))) t=_
    rw[e2];rfl
   ·rw[if_neg (by rw[ez'];exact h),if_neg h];rfl
 | x :: ps,Pz,s,g,t,st,b,ez,hok,hap,hsb,hs,hg,ht=>by
   have gl:=M4 z
   have ez2:z.cps.toList=(Pz++x.tx)++txQ ps:=by rw[ez];simp[txQ]
   have hzl:Pz.length+x.tx.length<=z.length:=by
    have:=congrArg List.length ez2
    rw[length_append,length_append] at this;omega
   have hx:=hok x (by simp)
   have hrest:∀ y∈ps,y.ok:=fun y hy=>hok y (by simp[hy])
   obtain⟨hap1,hap2⟩:=hap
   have hrun:∀ ds:List PyData,(TX.runs z.cps.toList s Pz.length++ds).foldl (xl1 rs rk z) st=ds.foldl (xl1 rs rk z) (if s<Pz.length then qz1 rs st s g t else st):=fun ds=>by
    unfold TX.runs
    by_cases h:s<Pz.length
    ·rw[if_pos h,if_pos h]
     have e0:((z.cps.toList).drop s).take (Pz.length-s)=g.cps.toList:=by
      rw[ez,drop_append,take_append,length_drop]
      rw[take_of_length_le (by rw[length_drop];exact Nat.le_refl _),show Pz.length-s-(Pz.length-s)=0 by omega,take_zero,append_nil,hg]
     have e1:TX.runD z.cps.toList s Pz.length=.tuple [.str "run",.int (s:Int),.int (Pz.length:Int),.str t]:=by
      unfold TX.runD;rw[e0,ht]
     have e2:qh0 z (some (s:Int)) (some (Pz.length:Int))=g:=by rw[O8,we9 rfl rfl,e0]
     rw[e1]
     show ds.foldl _ (qq3 rs rk st "run" s (qh0 z (some (s:Int)) (some (Pz.length:Int))) t)=_
     rw[e2];rfl
    ·rw[if_neg h,if_neg h];rfl
   have cutx:∀ v:Str,v.cps.toList=x.tx->qh0 z (some (Pz.length:Int)) (some ((Pz.length+x.tx.length:Nat):Int))=v:=fun v hv=>by
    rw[O8,we9 rfl rfl,ez2,append_assoc,drop_left' rfl,show Pz.length+x.tx.length-Pz.length=x.tx.length by omega,take_left' rfl,hv]
   have lenP:(Pz++x.tx).length=Pz.length+x.tx.length:=length_append
   cases x with
   | op n =>
     have hl:(Pq.op n).tx.length=n.length+2:=Pq.len (.op n)
     obtain⟨ht',hd⟩:=Ai2 (l:=z.cps.toList) (P:=Pz) (R:=txQ ps) (n:=n) (by rw[ez];simp[txQ,Pq.tx]) hx
     rw[TX.toks_some ht',hd,hrun,foldl_cons]
     have ih:=yh5 (rs:=rs) (rk:=rk) (z:=z) ps (Pz++(Pq.op n).tx) (Pz++(Pq.op n).tx).length "" "" (opS rs rk (if s<Pz.length then qz1 rs st s g t else st) Pz.length (opn n) n) false ez2 hrest hap2 (fun h=>absurd h (Nat.lt_irrefl _)) #[11] (by rw[drop_length];rfl) rfl
     rw[if_neg (Nat.lt_irrefl _),lenP,hl] at ih
     have hc:=cutx (opn n) (xb4 n)
     rw[hl] at hc
     show List.foldl _ (qq3 rs rk _ "open" Pz.length (qh0 z (some (Pz.length:Int)) (some ((Pz.length+n.length+2:Nat):Int))) n) _=_
     rw[show Pz.length+n.length+2=Pz.length+(n.length+2) by omega,hc]
     rw[pq,hl]
     exact ih
   | cl n =>
     have hl:(Pq.cl n).tx.length=n.length+3:=Pq.len (.cl n)
     obtain⟨ht',hd⟩:=Ai3 (l:=z.cps.toList) (P:=Pz) (R:=txQ ps) (n:=n) (by rw[ez];simp[txQ,Pq.tx]) hx
     rw[TX.toks_some ht',hd,hrun,foldl_cons]
     have ih:=yh5 (rs:=rs) (rk:=rk) (z:=z) ps (Pz++(Pq.cl n).tx) (Pz++(Pq.cl n).tx).length "" "" (wj4 rs rk (if s<Pz.length then qz1 rs st s g t else st) Pz.length (cls n) n) false ez2 hrest hap2 (fun h=>absurd h (Nat.lt_irrefl _)) #[11] (by rw[drop_length];rfl) rfl
     rw[if_neg (Nat.lt_irrefl _),lenP,hl] at ih
     have hc:=cutx (cls n) (yh4 n)
     rw[hl] at hc
     show List.foldl _ (qq3 rs rk _ "close" Pz.length (qh0 z (some (Pz.length:Int)) (some ((Pz.length+n.length+3:Nat):Int))) n) _=_
     rw[show Pz.length+n.length+3=Pz.length+(n.length+3) by omega,hc]
     rw[pq,hl]
     exact ih
   | rn r u =>
     have hl:(Pq.rn r u).tx.length=r.length:=M4 r
     obtain⟨hq,hr1,hu⟩:=hx
     have hns:¬s<Pz.length:=fun h=>by have:=hap1 (hsb h);cases this
     have es:s=Pz.length:=by omega
     have hsk:TX.toks z.cps.toList Pz.length s=TX.toks z.cps.toList (Pz.length+r.length) s:=by
      refine xr6 r.length _ #[0] fun j hj=>?_
      have:=hq Pz (txQ ps) (zq0 fun x t e=>by
       subst e
       exact hap2.1 rfl) j hj
      have e:Pz++(r.cps.toList++txQ ps)=z.cps.toList:=by rw[ez];simp[txQ,Pq.tx]
      rw[e] at this
      exact this
     have hgw:(Pz++(Pq.rn r u).tx).drop s=r.cps.toList:=by
      rw[es,drop_left' rfl];rfl
     have ih:=yh5 (rs:=rs) (rk:=rk) (z:=z) ps (Pz++(Pq.rn r u).tx) s r u st true ez2 hrest hap2 (fun _=>rfl) (by rw[lenP];omega) hgw hu
     rw[if_pos (by rw[lenP,hl];omega),lenP,hl] at ih
     rw[hsk,ih,pq,hl,if_neg hns,es]
     rfl
theorem zx9{ps:List Pq}(ez:z.cps.toList=txQ ps)(hok:∀ x∈ps,x.ok)(hap:yb6 false ps):xj3 rs rk z=pq rs rk 0 ps st0:=by
 have:=yh5 (rs:=rs) (rk:=rk) (z:=z) ps [] 0 "" "" st0 false ez hok hap (fun h=>by simp at h) #[11] rfl rfl
 rw[if_neg (show ¬0<([]:List Nat).length by simp)] at this
 exact this
theorem zb0{rs:List Row}{rk:Str->Nat}(x:Pq):∀ (ps:List Pq) (p:Nat) (st:Rst),pq rs rk p (ps++[x]) st=stQ rs rk (p+(txQ ps).length) (pq rs rk p ps st) x
 | [],p,st=>by simp[pq,txQ]
 | y::ps,p,st=>by
   rw[cons_append,pq,pq,zb0 x ps]
   congr 1
   simp[txQ];omega
theorem zq1(ps:List Pq)(x:Pq):txQ (ps++[x])=txQ ps++x.tx:=by unfold txQ;rw[flatMap_append];simp
theorem xr7{x:Pq}:∀ {ps:List Pq} {b:Bool},yb6 b ps->((ps.getLast?.map Pq.isR).getD b=true->x.isR=false)->yb6 b (ps++[x])
 | [],b,_,h=>⟨h,trivial⟩
 | y :: ps,b,⟨h1,h2⟩,h=>by
   refine⟨h1,xr7 h2 fun e=>h ?_⟩
   cases ps with
   | nil=>exact e
   | cons w t =>
     have:(y::w::t).getLast?=(w::t).getLast?:=by simp
     rw[this]
     cases hg:(w::t).getLast? with
     | none=>simp at hg
     | some q=>rw[hg] at e;exact e
theorem yq2{r:Str}(h:∀ c∈r.cps.toList,c≠60):Ab4 r:=fun P R _ j hj=>by
 unfold TX.tagAt
 rw[if_neg]
 intro e
 rw[List.getElem?_append_right #[0],show P.length+j-P.length=j by omega,List.getElem?_append_left (by rw[M4];exact hj)] at e
 exact h 60 (mem_of_getElem? e) rfl
section
variable{rs:List Row}{rk:Str->Nat}{st:Rst}{i:Int}{g x:Str}
theorem Ab5(hne:st.bs≠[]):(G4 st).length+1=st.bs.length:=by
 unfold G4
 rw[length_map,length_tail]
 have:0<st.bs.length:=length_pos_iff.mpr hne
 omega
def zv(b:Brn):Str×List Tr:=(b.n,b.ps)
structure Z6(zs:List (Str×List Tr))(st:Rst):Prop where
 v:st.bs.map zv=zs
 w:∀ c∈st.bs,c.ws=[]
 ne:st.bs≠[]
variable{zs pre:List (Str×List Tr)}{n a rule t:Str}{ps qs:List Tr}
theorem Z6.nms(z:Z6 zs st):G4 st=zs.tail.map Prod.fst:=by
 rw[<-z.v,<-map_tail,map_map];rfl
theorem Z6.ent(z:Z6 zs st):Z6 (zs++[(n,[])]) {st with bs:=qn9 st.bs n} :=
 ⟨by show(st.bs++[_]).map zv=_;rw[map_append,z.v];rfl,fun c hc=>by
  rcases mem_append.mp hc with hc|hc
  ·exact z.w c hc
  ·rw[mem_singleton.mp hc];rfl,by show _++[_]≠[];simp⟩
theorem yh6{bs:List Brn}(e:bs.map zv=pre++[(a,ps)]):∃ l b,bs=l++[b]/\l.map zv=pre/\b.n=a/\b.ps=ps:=by
 rcases eq_nil_or_concat bs with h|⟨l,b,h⟩
 ·rw[h] at e;simp at e
 ·rw[concat_eq_append] at h
  rw[h,map_append] at e
  obtain⟨e1,e2⟩:=append_inj' e rfl
  have e3:=(List.cons.inj e2).1
  exact⟨l,b,h,e1,congrArg Prod.fst e3,congrArg Prod.snd e3⟩
theorem Z6.lv(z:Z6 (pre++[(a,ps)]++[(n,qs)]) st):Z6 (pre++[(a,ps++[Tr.nd n qs])]) (lvS st):=by
 obtain⟨l,b2,e,h1,h2,h3⟩:=yh6 z.v
 obtain⟨l,b1,rfl,h4,h5,h6⟩:=yh6 h1
 have el:(lvS st).bs=l++[{b1 with ps:=b1.ps++[Tr.nd b2.n b2.ps]}]:=by
  show lvB st.bs=_
  rw[e,append_assoc];exact xr1 l b1 b2
 refine⟨by rw[el,map_append,h4,<-h5,<-h6,<-h2,<-h3];rfl,fun c hc=>?_,by rw[el];simp⟩
 rw[el] at hc
 rcases mem_append.mp hc with hc|hc
 ·exact z.w c (by rw[e];simp[hc])
 ·rw[mem_singleton.mp hc];exact z.w b1 (by rw[e];simp)
theorem Z6.tx(z:Z6 (pre++[(a,ps)]) st):Z6 (pre++[(a,adP ps t)]) (txS st i g t):=by
 obtain⟨l,b,e,h1,h2,h3⟩:=yh6 z.v
 have et:=zp9 (i:=i) (g:=g) (t:=t) e
 refine⟨by rw[et,map_append,h1,<-h2,<-h3];rfl,fun c hc=>?_,by rw[et];simp⟩
 rw[et] at hc
 rcases mem_append.mp hc with hc|hc
 ·exact z.w c (by rw[e];simp[hc])
 ·rw[mem_singleton.mp hc];exact z.w b (by rw[e];simp)
theorem Z6.anews(z:Z6 zs st):qz0 rs i st=st:=by
 obtain⟨l1,d,l2,e,hl⟩:=yp6 rs z.ne
 have hd:d.ws=[]:=z.w d (by rw[e];simp)
 have hB:lwS rs st.bs=[]:=by rw[e,yg4 hl,hd]
 have eW:wUp rs (fun _=>[]) st.bs=st.bs:=by rw[e,wv7 hl,show({d with ws:=[]}:Brn)=d by rw[<-hd]]
 unfold qz0
 rw[hB,eW];rfl
end
section
variable{nm:List Str}{L i:Nat}{x:Str}
theorem yx1:∀ {rs:List Row} {r:Row},(rs.map (·.name)).Nodup->r∈rs->N0 rs (some r.name)=some r
 | c::rs,r,nd,h=>by
   rw[map_cons,nodup_cons] at nd
   unfold N0
   rw[find?_cons]
   rcases mem_cons.mp h with rfl|h
   ·rw[decide_eq_true rfl]
   ·rw[decide_eq_false fun e=>nd.1 (by rw[Option.some.inj e];exact mem_map_of_mem h)]
    exact yx1 nd.2 h
end
def G6(rs:List Row)(rk:Str->Nat)(z:Str)(ms:List Mnd)(zs:List (Str×List Tr))(r:Bool):Prop:=∃ ps,z.cps.toList=txQ ps/\(∀ x∈ps,x.ok)/\yb6 false ps/\(ps.getLast?.map Pq.isR).getD false=r/\Z6 zs (pq rs rk 0 ps st0)/\(pq rs rk 0 ps st0).ms=ms
section
variable{rs:List Row}{rk:Str->Nat}{z z':Str}{ms dm:List Mnd}{zs zs' pre:List (Str×List Tr)}{r:Bool}{a:Str}{ps:List Tr}
theorem G6.nil:G6 rs rk "" [] [("",[])] false:=⟨[],rfl,fun x hx=>(by cases hx),trivial,rfl,⟨rfl,fun c hc=>by rw[mem_singleton.mp hc];rfl,by show[_]≠[];simp⟩,rfl⟩
theorem G6.step(g:G6 rs rk z ms zs r){x:Pq}(hx:x.ok)(hr:r=true->x.isR=false)(ez:z'.cps.toList=z.cps.toList++x.tx)(h:∀ st,Z6 zs st->st.ms=ms->Z6 zs' (stQ rs rk z.length st x)/\(stQ rs rk z.length st x).ms=ms++dm):G6 rs rk z' (ms++dm) zs' x.isR:=by
 obtain⟨ps,h1,h2,h3,h4,h5,h6⟩:=g
 have hp:pq rs rk 0 (ps++[x]) st0=stQ rs rk z.length (pq rs rk 0 ps st0) x:=by rw[zb0,<-h1,M4,Nat.zero_add]
 obtain⟨h7,h8⟩:=h _ h5 h6
 refine⟨ps++[x],by rw[ez,zq1,h1],fun y hy=>?_,xr7 h3 (by rw[h4];exact hr),by rw[getLast?_concat];rfl,by rw[hp];exact h7,by rw[hp];exact h8⟩
 rcases mem_append.mp hy with hy|hy
 ·exact h2 y hy
 ·rw[mem_singleton.mp hy];exact hx
theorem qz4(a b:Str):(a++b).cps.toList=a.cps.toList++b.cps.toList:=by rw[PySem.Str.cps_append,Array.toList_append]
end
section
variable{nm there:List Str}{L i:Nat}{z z' t:Str}{ms:List Mnd}{zs pre:List (Str×List Tr)}{r:Bool}{hs:List Str}{a:Str}{ps:List Tr}
theorem yq3(l:List Str)(x:Str):G8 (l++[x])=x:=by
 unfold G8 gd
 rw[length_append,length_singleton,Nat.add_sub_cancel]
 simp
end
theorem yq4(xs:List Str)(i:Nat)(x:Str):(B4 xs).set i (.str x)=B4 (xs.set i x):=by unfold B4;rw[map_set]
theorem zb1{n k:Nat}(h:k<n):ixN n ((k:Nat):Int)=some k:=by
 unfold ixN
 rw[if_pos #[0],if_pos #[0]]
 congr 1
def yq5(js:List Nat):List PyData:=js.map fun(j:Nat)=>.int (j:Int)
theorem qo2(js:List Nat):(Y2 js).length=js.length:=length_map _
theorem xr8(js:List Nat)(j:Nat):Y2 js++[V.int (j:Int)]=Y2 (js++[j]):=by simp[Y2]
theorem zb2{H:Hp}:∀ js:List Nat,Dvs K H (yq5 js) (Y2 js)
 | []=>G9
 | j::js=>C7 (P1.mpr rfl) (zb2 js)
theorem yb7:∀ js:List Nat,PyData.depthAll (yq5 js)=0
 | []=>by simp[yq5,PyData.depthAll]
 | j::js=>by
   have:=yb7 js
   show PyData.depthAll (.int (j:Int)::yq5 js)=0
   rw[PyData.depthAll,this];simp[PyData.depth]
theorem zy0(js:List Nat):PyData.eqv (.list (yq5 js)) (.list [])=decide (js=[]):=by
 cases js with
 | nil=>simp[yq5,PyData.eqv,PyData.eqvAll]
 | cons j js=>simp[yq5,PyData.eqv,PyData.eqvAll]
theorem wq6(js:List Nat):(Y2 js).all qw5=true:=by unfold Y2;rw[all_map];exact all_eq_true.mpr fun _ _=>rfl
theorem wm7(x:Nat):∀ xs:List Nat,inV (.int (x:Int)) (Y2 xs)=decide (x∈xs)
 | []=>by simp[Y2,inV]
 | y::ys=>by
   have ih:=wm7 x ys
   unfold inV at ih ⊢
   show(eqV (.int (y:Int)) (.int (x:Int)) || (Y2 ys).any fun z=>eqV z (.int (x:Int)))=_
   rw[ih]
   by_cases e:x=y
   ·subst e;simp[eqV]
   ·have e':¬((y:Int)=(x:Int)):=fun z=>e #[0]
    simp[eqV,e,e']
variable{js:List Nat}
theorem Ai4{i:Nat}(h:i<js.length):∃ j,j∈js/\atI (Y2 js) ((i:Nat):Int)=some (.int (j:Nat)):=⟨js[i],List.getElem_mem h,D3 (by unfold Y2;rw[List.getElem?_map,List.getElem?_eq_getElem h];rfl)⟩
section
variable{names S Hs:List Str}{T:List Nat}{c k:Nat}
theorem Srt.keep(g:Srt names c S Hs T k)(hk:k<c)(hf:gd S k≠#[15]):Srt names c S Hs T (k+1):=by
 refine⟨g.ls,g.lh,g.srt,fun i h1 h2 h3=>?_,fun i h1 h2=>?_,fun j hj=>?_,fun i i' a b e f g1 g2 g3=>?_,Nat.le_succ_of_le g.tl⟩
 ·by_cases e:i=k
  ·subst e;exact absurd h3 hf
  ·exact g.host i #[0] h2 h3
 ·rcases h2 with h2|h2
  ·exact g.no i h1 (.inl #[0])
  ·exact g.no i h1 (.inr h2)
 ·obtain⟨a,b,i,h1,h2,h3⟩:=g.tk j hj
  exact⟨a,b,i,h1,by omega,h3⟩
 ·have n1:i≠k:=fun z=>by rw[z] at g1;exact hf g1
  have n2:i'≠k:=fun z=>by rw[z] at g2;exact hf g2
  exact g.uq i i' #[0] #[0] e f g1 g2 g3
end
def xr9:List Str:=["plain","anew","frame","plain","room","frame","bare","anew","plain"]
theorem zq2:∀ x∈xr9,wm0 x:=by
 intro x hx
 simp only[xr9,mem_cons,not_mem_nil,or_false] at hx
 unfold wm0
 rcases hx with h|h|h|h|h|h|h|h|h <;> simp[h]
def xm8(K:Fg):TS :=
 (N1 (C5 (tOp (P9 K) (tOp (D2 K) (A7 4) (A7 7)) (tC (.str "frame"))))
 (B9 (C8 (tOp (D2 K) (A7 8) (tOp #[2] (C3 (J0 K) [] E0 (A3 (C3 (N7 K) [] E0 (A3 (A7 0) (A3 (tOp (E7 K) #[1,2] (A7 7)) B1))) (A3 #[1,2] B1))) (tCB (O3 K) #[3,8]))) (B3 9))
 (B9 (G5 (tBM K "list" M3 (A7 6) #[3,9]))
 (C8 (tOp (D2 K) (A7 1) (A7 9)) (ys0 (A7 5) (A7 7) xz8)))) J5)
def yh7(K:Fg):TS :=
 (B9 (N1 (qm7 (C5 (tOp (P9 K) (tOp (D2 K) (A7 4) (A7 7)) (tC (.str "frame")))) (C5 (tOp (P9 K) (A7 8) (T8 B1))))
 (C8 (tOp (D2 K) (T8 (A3 (tC (.str "room")) (A3 (tC (.str "plain")) B1))) (tCB xz5 (A3 (tOp (qt0 K false) (A7 7) (A7 6)) B1))) (ys0 (A7 4) (A7 7) xz8)) J5)
 (xm8 K))
structure Ap(H0:Hp)(pS pH pT:Addr):Prop where
 s0:H0 pS=none
 h0:H0 pH=none
 t0:H0 pT=none
 sh:pS≠pH
 st:pS≠pT
 ht:pH≠pT
section
variable{H0 H1:Hp}{pS pH pT:Addr}{S Hs:List Str}{T:List Nat}
theorem SH.lay(s:SH H0 pS pH pT S Hs T H)(hp:H p=none)(o:HO):SH H0 pS pH pT S Hs T (upd H p o) :=
 ⟨A9.tr s.sm (A9.new hp o),by rw[B5 (O4 s.hS hp)];exact s.hS,by rw[B5 (O4 s.hH hp)];exact s.hH,by rw[B5 (O4 s.hT hp)];exact s.hT⟩
theorem SH.setS(s:SH H0 pS pH pT S Hs T H)(A:Ap H0 pS pH pT)(S':List Str):SH H0 pS pH pT S' Hs T (upd H pS #[24,S']) :=
 ⟨A9.put s.sm A.s0 _,A8,by rw[B5 A.sh.symm];exact s.hH,by rw[B5 A.st.symm];exact s.hT⟩
theorem SH.setH(s:SH H0 pS pH pT S Hs T H)(A:Ap H0 pS pH pT)(Hs':List Str):SH H0 pS pH pT S Hs' T (upd H pH #[24,Hs']) :=
 ⟨A9.put s.sm A.h0 _,by rw[B5 A.sh];exact s.hS,A8,by rw[B5 A.ht.symm];exact s.hT⟩
theorem SH.setT(s:SH H0 pS pH pT S Hs T H)(A:Ap H0 pS pH pT)(T':List Nat):SH H0 pS pH pT S Hs T' (upd H pT (.lst (Y2 T'))) :=
 ⟨A9.put s.sm A.t0 _,by rw[B5 A.st];exact s.hS,by rw[B5 A.ht];exact s.hH,A8⟩
end
variable{a3 a9:Option V}{pH pS pT pa sc:Addr}
theorem wm8{nm:Addr}{k:Nat}(A:Ap H0 pS pH pT)(hS:SqL K H0 sc #[76])(hN:H0 nm=some #[24,names])(nN:Nms names)(hcn:c<=names.length)(hc:c<=12)(hk:k<c)(s:SH H0 pS pH pT S Hs T H)(g:Srt names c S Hs T k)(ha:H pa=some (.lst (Y2 js)))(hpa:H0 pa=none)(npT:pa≠pT)(npH:pa≠pH)(hjs:∀ j∈js,k<j/\j<c/\wz9 (gd S j)/\j∉T)(hne:gd S k=#[15]->js≠[])(hjl:js.length<=12)(q:∀ (S' Hs':List Str) (T':List Nat) (b8 b9:Option V) (H':Hp),SH H0 pS pH pT S' Hs' T' H'->Srt names c S' Hs' T' (k+1)->D.nx [some (.ref sc),some (.ref nm),some (.int c),a3,some (.ref pS),some (.ref pH),some (.ref pT),some (.int k),b8,b9] H') :
 xm8 K D [some (.ref sc),some (.ref nm),some (.int c),a3,some (.ref pS),some (.ref pH),some (.ref pT),some (.int k),some (.ref pa),a9] H:=by
 unfold xm8
 lk
 refine L7 #[59,s.hS] (qf7 (by rw[g.ls];exact hk)) ?_
 lk
 by_cases hf:gd S k=#[15]
 ·rw[decide_eq_true hf];refine qm9 ?_
  have hne:=hne hf
  have jl:0<js.length:=length_pos_iff.mpr hne
  lk
  refine⟨sc,ns,_,rfl,s.sm.sqL hS,by omega,fun c0=>?_⟩
  lk
  refine⟨c0,2,rfl,by decide,by decide,fun m hm=>?_⟩
  lk
  refine N8 (.inl #[59,ha]) ?_
  rw[qo2]
  refine yl8 #[0] ?_
  have m0:=Int.emod_nonneg m (show((js.length:Nat):Int)≠0 by omega)
  have m1:=Int.emod_lt_of_pos m (show(0:Int)<((js.length:Nat):Int) by omega)
  obtain⟨u,hu⟩:=Int.eq_ofNat_of_zero_le m0
  rw[hu]
  obtain⟨j,hj,ej⟩:=Ai4 (js:=js) (i:=u) #[0]
  refine L7 #[59,ha] ej ?_
  obtain⟨j1,j2,j3,j4⟩:=hjs j hj
  lk
  refine⟨.inl ⟨rfl,_,SqL.of s.hT⟩,?_⟩
  lk
  refine M1 s.hT (by rw[qo2,sizeLine_eq];have:=g.tl;omega) ?_
  rw[xr8]
  lk
  have s2:=s.setT A (T++[j])
  refine L7 #[59,s2.sm _ _ hN] (qf7 #[0]) ?_
  lk
  refine .inl (ye0 s2.hH (zb1 (by rw[B7,g.lh];exact hk)) ?_)
  rw[yq4]
  lk
  exact q _ _ _ _ _ _ (s2.setH A _) (g.take nN hcn hk hf j1 j2 j3 j4)
 ·rw[decide_eq_false hf];refine qg6 ?_
  lk
  exact q _ _ _ _ _ _ s (g.keep hk hf)
theorem yq6{nm:Addr}{k:Nat}(A:Ap H0 pS pH pT)(hS:SqL K H0 sc #[76])(hN:H0 nm=some #[24,names])(nN:Nms names)(hcn:c<=names.length)(hc:c<=12)(hk:k<c)(s:SH H0 pS pH pT S Hs T H)(g:Srt names c S Hs T k)(ha:H pa=some (.lst (Y2 js)))(hpa:H0 pa=none)(npT:pa≠pT)(npH:pa≠pH)(npS:pa≠pS)(hjs:∀ j∈js,k<j/\j<c/\wz9 (gd S j)/\j∉T)(hjl:js.length<=12)(q:∀ (S' Hs':List Str) (T':List Nat) (b8 b9:Option V) (H':Hp),SH H0 pS pH pT S' Hs' T' H'->Srt names c S' Hs' T' (k+1)->D.nx [some (.ref sc),some (.ref nm),some (.int c),a3,some (.ref pS),some (.ref pH),some (.ref pT),some (.int k),b8,b9] H') :
 yh7 K D [some (.ref sc),some (.ref nm),some (.int c),a3,some (.ref pS),some (.ref pH),some (.ref pT),some (.int k),some (.ref pa),a9] H:=by
 unfold yh7
 lk
 refine L7 #[59,s.hS] (qf7 (by rw[g.ls];exact hk)) ?_
 lk
 by_cases hf:gd S k=#[15]
 ·rw[decide_eq_true hf];refine qm9 ?_
  lk
  refine⟨D5 (by z_go),fun t ht=>?_⟩
  have s1:=s.lay ht (.lst [])
  have ha1:(upd H t (.lst [])) pa=some (.lst (Y2 js)):=by rw[B5 (O4 ha ht)];exact ha
  refine Am1 (d:=.list (yq5 js)) (e:=.list []) (qg9.mpr ⟨pa,_,rfl,SqL.of ha1,zb2 js⟩) (qg9.mpr ⟨t,[],rfl,SqL.of A8,G9⟩) (by rw[PyData.depth,yb7];decide) ?_
  rw[zy0]
  lk
  by_cases hj:js=[]
  ·rw[decide_eq_true hj];refine qm9 ?_
   lk
   refine⟨D5 (by z_go),fun t2 ht2=>?_⟩
   lk
   have s2:=s1.lay ht2 (.lst [.str "room",.str "plain"])
   refine .inl (xj9 (.inl #[59,s2.hT]) rfl (wq6 _) ?_)
   rw[wm7]
   lk
   have fin:∀ x:Str,wm0 x->x≠#[15]->(k∈T->wz9 x)->xz8 (.ref pS) (.int (k:Int)) (.str x) (upd (upd H t (.lst [])) t2 (.lst [.str "room",.str "plain"])) fun H3=>xm8 K D [some (.ref sc),some (.ref nm),some (.int c),a3,some (.ref pS),some (.ref pH),some (.ref pT),some (.int k),some (.ref pa),a9] H3:=by
    intro x h1 h2 h3
    refine .inl (ye0 s2.hS (zb1 (by rw[B7,g.ls];exact hk)) ?_)
    rw[yq4]
    have g2:=g.put hk x h1 hf h2 h3
    have nf:gd (S.set k x) k≠#[15]:=by rw[Z0 (by rw[g.ls];exact hk)];exact h2
    refine wm8 A hS hN nN hcn hc hk (s2.setS A _) g2 (js:=[]) ?_ hpa npT npH (by simp) (fun h=>absurd h nf) (by simp) q
    have n2:pa≠t2:=O4 ha1 ht2
    rw[B5 npS,B5 n2,ha1,hj]
   by_cases hT:k∈T
   ·rw[decide_eq_true hT]
    refine .inr ⟨true,rfl,?_⟩
    refine L7 #[59,A8] (v:=.str "plain") rfl ?_
    lk
    exact fin _ (.inr (.inl rfl)) #[10] fun _=>.inl rfl
   ·rw[decide_eq_false hT]
    refine .inr ⟨false,rfl,?_⟩
    refine L7 #[59,A8] (v:=.str "room") rfl ?_
    lk
    exact fin _ (.inr (.inr (.inr (.inl rfl)))) #[10] fun h=>absurd h hT
  ·rw[decide_eq_false hj];refine qg6 ?_
   lk
   exact wm8 A hS hN nN hcn hc hk s1 g ha1 hpa npT npH hjs (fun _=>hj) hjl q
 ·rw[decide_eq_false hf];refine qg6 ?_
  k_go
  lk
  exact wm8 A hS hN nN hcn hc hk s g ha hpa npT npH hjs (fun h=>absurd h hf) hjl q
theorem zy1{zs:List Str}(h0:0<=i)(h1:i<zs.length):∃ z∈zs,atI (B4 zs) i=some (.str z):=by
 obtain⟨k,rfl⟩:=Int.eq_ofNat_of_zero_le h0
 exact⟨gd zs k,xp7 #[0],qf7 #[0]⟩
theorem Ai5(n i:Nat):gd (List.replicate n ("":Str)) i=("":Str):=by
 unfold gd
 rw[getD_eq_getElem?_getD,List.getElem?_replicate]
 split <;> rfl
theorem zg5(h:S.length=c)(hs:∀ x∈S,wm0 x):Srt names c S (List.replicate c ("":Str)) [] 0 :=
 ⟨h,length_replicate,hs,fun i h=>by omega,fun i _ _=>Ai5 _ _,fun j h=>by simp at h,fun i _ h=>by omega,Nat.le_refl _⟩
def qm4(K:Fg):Sp:=fun vs H Q _=>∃ (sc nm:Addr) (ns:List Int) (names:List Str) (c:Nat),vs=[.ref sc,.ref nm,.int c]/\SqL K H sc #[76]/\H nm=some #[24,names]/\Nms names/\c<=names.length/\c<=12/\∀ (t pS pH pT:Addr) (S Hs:List Str) (T:List Nat) (H':Hp),A9 H H'->H' t=some (.tup [.ref pS,.ref pH,.ref pT])->H' pS=some #[24,S]->H' pH=some #[24,Hs]->H' pT=some (.lst (Y2 T))->Srt names c S Hs T c->Q (.ref t) H'
def qs0(K:Fg):TS :=
 (B9 (C8 (T8 (ya2 [("plain":Str),("anew":Str),#[15],("plain":Str),("room":Str),#[15],("bare":Str),("anew":Str),("plain":Str)])) (B3 3))
 (B9 (C8 (qq1 [some 3,some 0,none] (wj9 #[3,2]) (B3 2) tTT (tOp (D2 K) (A7 0) (tOp #[2] (C3 (J0 K) [] E0 (A3 (C3 (N7 K) [] E0 (A3 (A7 1) (A3 (tOp (E7 K) #[1,2] (A7 2)) B1))) (A3 #[1,1] B1))) #[1,9]))) (B3 4))
 (B9 (C8 (qq1 [none] (wj9 #[3,2]) (B3 0) tTT (tC (.str ""))) (B3 5))
 (B9 (C8 (T8 B1) (B3 6))
 (B9 (qf4 (wj9 #[3,2]) (B3 7)
 (B9 (C8 (qq1 [some 6,some 4,none] (yx9 (A3 (tOp (E7 K) (A7 7) #[1,1]) #[3,2])) (B3 2) (qm7 (C5 (tOp (qt0 K false) (tOp (D2 K) (A7 1) (A7 2)) (X3 (A3 (tC (.str "plain")) (A3 (tC (.str "frame")) B1))))) (C5 (tOp (qt0 K true) (A7 2) (A7 0)))) (A7 2)) (B3 8))
 (yh7 K)))
 (E3 (X3 (A3 (A7 4) (A3 (A7 5) #[3,6])))))))))
theorem xw3(h:qm4 K vs H Q E):qs0 K {nx:=fun _ H'=>Q .non H',rt:=Q} (C9 ["_law_script","_law_names_here","_law_count","_law_some","_law_sorts_here","_law_hosts_here","_law_taken","_law_k","_law_able","_law_j"] vs) H:=by
 obtain⟨sc,nm,ns,names,c,rfl,hS,hN,nN,hcn,hc,q⟩:=h
 show qs0 K _ [some (.ref sc),some (.ref nm),some (.int c),none,none,none,none,none,none,none] H
 unfold qs0
 lk
 refine⟨D5 (show(9:Nat)<=_ by decide),fun p9 h9=>?_⟩
 lk
 have s9:A9 H (upd H p9 #[24,xr9]):=A9.new h9 _
 refine xd6 #[0] #[0] (fun i ys H'=>H'=upd H p9 #[24,xr9]/\∃ zs:List Str,ys=B4 zs/\zs.length=i/\∀ x∈zs,wm0 x) ⟨rfl,[],rfl,rfl,by simp⟩ ?_ ?_ ?_
 ·rintro i ys H' hi ⟨_,zs,rfl,hz,_⟩
  rw[B7];exact D5 #[0]
 ·rintro i ys H' hi ⟨rfl,zs,rfl,hz,hzs⟩
  lk
  refine⟨sc,ns,_,rfl,s9.sqL hS,by omega,fun c0=>?_⟩
  lk
  refine⟨c0,1,rfl,by decide,by decide,fun m hm=>?_⟩
  lk
  obtain⟨z,hz1,hz2⟩:=zy1 (zs:=xr9) (Int.emod_nonneg m #[10]) (Int.emod_lt_of_pos m #[10])
  refine L7 #[59,A8] hz2 ?_
  refine⟨rfl,zs++[z],qd7 _ _,by simp[hz],fun x hx=>?_⟩
  rcases mem_append.mp hx with h|h
  ·exact hzs x h
  ·rw[mem_singleton.mp h];exact zq2 z hz1
 rintro ys H1 ⟨rfl,S,rfl,hSl,hSs⟩ pS hpS
 lk
 have hpS0:H pS=none:=A9.free s9 hpS
 have sS:A9 H (upd (upd H p9 #[24,xr9]) pS #[24,S]):=A9.tr s9 #[36,hpS]
 generalize hHS:upd (upd H p9 #[24,xr9]) pS #[24,S]=HS at *
 have hqS:HS pS=some #[24,S]:=by rw[<-hHS];exact A8
 refine xd6 #[0] #[0] (fun i ys H'=>H'=HS/\ys=B4 (List.replicate i ("":Str))) ⟨rfl,rfl⟩ ?_ ?_ ?_
 ·rintro i ys H' hi ⟨_,rfl⟩
  rw[B7,length_replicate];exact D5 #[0]
 ·rintro i ys H' hi ⟨rfl,rfl⟩
  lk
  exact⟨rfl,by rw[qd7,replicate_succ']⟩
 rintro ys H2 ⟨rfl,rfl⟩ pH hpH
 lk
 have hpH0:H pH=none:=A9.free sS hpH
 refine⟨D5 (by z_go),fun pT hpT=>?_⟩
 have hpT0:H pT=none:=A9.free (A9.tr sS #[36,hpH]) hpT
 have nSH:pS≠pH:=O4 hqS hpH
 have nST:pS≠pT:=O4 (show(upd H2 pH _) pS=_ by rw[B5 nSH];exact hqS) hpT
 have nHT:pH≠pT:=fun e=>by rw[<-e,A8] at hpT;cases hpT
 have A:Ap H pS pH pT:=⟨hpS0,hpH0,hpT0,nSH,nST,nHT⟩
 have eS:S.length=c:=by omega
 have ec:((c:Int)).toNat=c:=by omega
 rw[ec] at *
 lk
 refine wa1 #[0] #[0] (fun i σ H'=>∃ (a7 a8 a9:Option V) (S Hs:List Str) (T:List Nat),σ=[some (.ref sc),some (.ref nm),some (.int c),some (.ref p9),some (.ref pS),some (.ref pH),some (.ref pT),a7,a8,a9]/\SH H pS pH pT S Hs T H'/\Srt names c S Hs T i) ?_ ?_ ?_
 ·refine⟨none,none,none,S,List.replicate c ("":Str),[],rfl,⟨A9.tr sS (A9.tr #[36,hpH] #[36,hpT]),?_,?_,A8⟩,zg5 eS hSs⟩
  ·rw[B5 nST,B5 nSH];exact hqS
  ·rw[B5 nHT];exact A8
 ·rintro i σ H' hi ⟨a7,a8,a9,S,Hs,T,rfl,s,g⟩
  lk
  refine ze1 #[0] #[0] #[0] (fun m ys H''=>SH H pS pH pT S Hs T H''/\∃ js:List Nat,ys=Y2 js/\js.length<=m/\∀ j∈js,i<j/\j<c/\wz9 (gd S j)/\j∉T) ⟨s,[],rfl,Nat.le_refl _,by simp⟩ ?_ ?_ ?_
  ·rintro m ys H'' hm ⟨_,js,rfl,hl,_⟩
   rw[qo2];exact D5 #[0]
  ·rintro m ys H'' hm ⟨s',js,rfl,hl,hjs⟩
   have ej:(i:Int)+1+(m:Int)=((i+1+m:Nat):Int):=by omega
   rw[ej]
   lk
   refine L7 #[59,s'.hS] (qf7 (by rw[g.ls];omega)) ?_
   lk
   refine⟨D5 (by z_go),fun t ht=>?_⟩
   have s2:=s'.lay ht (.tup [.str "plain",.str "frame"])
   refine .inl (xj9 (xs:=B4 [("plain":Str),#[15]]) (.inr (SqT.of A8)) rfl (P8 _) ?_)
   rw[S3]
   lk
   by_cases hp:wz9 (gd S (i+1+m))
   ·rw[decide_eq_true (show gd S (i+1+m)∈[("plain":Str),#[15]] by rcases hp with h|h <;> rw[h] <;> simp)]
    x_go
    lk
    refine .inl (wy5 (.inl #[59,s2.hT]) rfl (wq6 _) ?_)
    rw[wm7]
    lk
    by_cases hT:(i+1+m)∈T
    ·rw[decide_eq_true hT]
     k_go
     exact⟨s2,js,rfl,by omega,hjs⟩
    ·rw[decide_eq_false hT]
     x_go
     lk
     refine⟨s2,js++[i+1+m],xr8 _ _,by rw[length_append,length_singleton];omega,fun j hj=>?_⟩
     rcases mem_append.mp hj with h|h
     ·exact hjs j h
     ·rw[mem_singleton.mp h];exact⟨by omega,by omega,hp,hT⟩
   ·rw[decide_eq_false (show ¬gd S (i+1+m)∈[("plain":Str),#[15]] from fun h=>hp (by simpa [wz9] using h))]
    k_go
    k_go
    exact⟨s2,js,rfl,by omega,hjs⟩
  rintro ys H3 ⟨s3,js,rfl,hl,hjs⟩ pa hpa
  lk
  refine yq6 A hS hN nN hcn hc #[0] (s3.lay hpa _) g A8 (A9.free s3.sm hpa) (O4 s3.hT hpa).symm (O4 s3.hH hpa).symm (O4 s3.hS hpa).symm hjs #[0] ?_
  intro S' Hs' T' b8 b9 H4 s4 g4
  exact⟨_,_,_,S',Hs',T',rfl,s4,g4⟩
 ·rintro σ H' ⟨a7,a8,a9,S,Hs,T,rfl,s,g⟩
  lk
  refine⟨D5 (by z_go),fun t ht=>?_⟩
  have s2:=s.lay ht (.tup [.ref pS,.ref pH,.ref pT])
  rw[ec] at g
  exact q t pS pH pT S Hs T _ s2.sm A8 s2.hS s2.hH s2.hT g
theorem zb3{H:Hp}{d:PyData}{v:V}(h:Dv K H d v):∀ {ds:List PyData} {vs:List V} (k:Nat),Dvs K H ds vs->Dvs K H (qn1 ds k d) (qn1 vs k v)
 | ds,vs,0,t=>by unfold qn1;simpa using C7 h t
 | [],vs,k+1,t=>by
   rw[Dvs] at t;subst t
   unfold qn1;simpa using C7 h G9
 | e::ds,vs,k+1,t=>by
   rw[Dvs] at t
   obtain⟨w,r,rfl,h1,h2⟩:=t
   have:=zb3 h k h2
   unfold qn1 at this ⊢
   simpa using C7 h1 this
variable{β:Type}
theorem zy2(f:α->β)(l:List α)(k:Nat)(x:α):qn1 (l.map f) k (f x)=(qn1 l k x).map f:=by
 unfold qn1;simp[map_take,map_drop]
theorem zq3(l:List α)(k:Nat)(x:α):(qn1 l k x).Perm (x::l):=by
 unfold qn1
 have:=perm_middle (l₁:=l.take k) (l₂:=l.drop k) (a:=x)
 rwa [take_append_drop] at this
theorem An6{nm:List Str}(hN:Nms nm)(hm:n∈nm):wr8 n:=by
 refine⟨?_,hN.le _ hm,hN.lt _ hm⟩
 have h0:=hN.ne _ hm
 have:n.length≠0:=fun e=>h0 ((O8 _ _).mpr (by
  have e2:=M4 n
  rw[e] at e2
  rw[eq_nil_of_length_eq_zero e2];rfl))
 omega
def qs1(K:Fg):Sp:=fun vs H Q _=>∃ (sc:Addr) (ns:List Int),vs=[.ref sc]/\SqL K H sc #[76]/\∀ (t:Addr) (us:List V) (rs:List Row) (H':Hp),A9 H H'->H' t=some (.tup us)->Dvs K H' (rs.map Row.da) us->Boo rs->(∀ r∈rs,wr8 r.name/\r.shuts.length<=12/\r.bars.length<=12)->Q (.ref t) H'
def qx7(K:Fg):TS :=
 (B9 (C8 (C3 (qm1 K) [] E0 (A3 (C3 (N7 K) [] E0 (A3 (A7 0) (A3 #[1,0] B1))) B1)) (B3 1))
 (B9 (C8 (tOp (E7 K) #[1,1] (tOp #[2] (C3 (N7 K) [] E0 (A3 (A7 0) (A3 #[1,1] B1))) #[1,12])) (B3 2))
 (B9 (C8 (C3 (qm4 K) [] E0 (A3 (A7 0) (A3 (A7 1) #[3,2]))) (yk3 K 3 (qs7 (B3 3) (qs7 (B3 4) (qs7 (B3 5) yr8)))))
 (B9 (C8 (T8 B1) (B3 6))
 (B9 (qf4 (wj9 #[3,2]) (B3 7)
 (B9 (C8 (C3 (N7 K) [] E0 (A3 (A7 0) (A3 (tOp (E7 K) #[1,2] (A7 7)) B1))) (B3 8))
 (B9 (C8 (qq1 [some 3,none] (wj9 #[3,2]) (B3 1) (C5 (tOp (qt0 K false) (tOp (D2 K) (A7 0) (A7 1)) (X3 (A3 (tC (.str "plain")) (A3 (tC (.str "anew")) B1))))) (A7 1)) (B3 9))
 (B9 (C8 (qq1 [some 1,some 5,some 7,some 8,none] (qq7 K (A7 9)) (B3 4) (qm7 (C5 (tOp (qt0 K true) (A7 4) (A7 1))) (qm7 (C5 (tOp (qt0 K true) (A7 2) (A7 1))) (C5 (tOp (P9 K) (tOp #[2] (C3 (J0 K) [] E0 (A3 (A7 3) (A3 (tOp (E7 K) #[1,3] (A7 4)) B1))) #[1,5]) #[1,0])))) (tOp (D2 K) (A7 0) (A7 4))) (B3 10))
 (B9 (C8 (qq1 [some 1,some 8,none] (qq7 K (A7 9)) (B3 2) (C5 (tOp (P9 K) (tOp #[2] (C3 (J0 K) [] E0 (A3 (A7 1) (A3 (tOp (E7 K) #[1,20] (A7 2)) B1))) #[1,8]) #[1,0])) (tOp (D2 K) (A7 0) (A7 2))) (B3 11))
 (B9 (C8 (X3 (A3 (tOp (D2 K) (A7 1) (A7 7)) (A3 (tOp (D2 K) (A7 3) (A7 7)) (A3 (tOp (D2 K) (A7 4) (A7 7)) (A3 (tCB (qa3 K) (A3 (tCB (wy3 K) #[3,10]) B1)) (A3 (tCB (qa3 K) (A3 (tCB (wy3 K) #[3,11]) B1)) B1)))))) (B3 12))
 (G5 (tBM K "list" xm2 (A7 6) (A3 (tOp #[2] (C3 (J0 K) [] E0 (A3 (A7 8) (A3 #[1,32] B1))) (tOp (E7 K) (A7 7) #[1,1])) #[3,12])))))))))
 (E3 (tCB (qa3 K) #[3,6])))))))
theorem yh8(h:qs1 K vs H Q E):qx7 K {nx:=fun _ H'=>Q .non H',rt:=Q} (C9 ["_law_script","_law_names_here","_law_count","_law_sorts_here","_law_hosts_here","_law_taken","_law_rows","_law_k","_law_own","_law_able","_law_shuts","_law_bars","_law_row_here"] vs) H:=by
 obtain⟨sc,ns,rfl,hS,q⟩:=h
 show qx7 K _ [some (.ref sc),none,none,none,none,none,none,none,none,none,none,none,none] H
 unfold qx7
 lk
 refine⟨sc,ns,0,rfl,hS,by decide,fun c0=>?_⟩
 lk
 refine⟨c0,rfl,fun nm names H1 s1 hn0 hN hN12 nN=>?_⟩
 lk
 refine⟨sc,ns,1,rfl,s1.sqL hS,by decide,fun c1=>?_⟩
 lk
 have m0:=Int.emod_nonneg c1 (show(12:Int)≠0 by decide)
 have m1:=Int.emod_lt_of_pos c1 (show(0:Int)<12 by decide)
 obtain⟨c,hc,hc1,hc12⟩:∃ c:Nat,(1:Int)+c1 % 12=(c:Int)/\1<=c/\c<=12:=⟨((1:Int)+c1 % 12).toNat,by omega,by omega,by omega⟩
 rw[hc]
 refine⟨sc,nm,ns,names,c,rfl,s1.sqL hS,hN,nN,by omega,hc12,fun t3 pS pH pT S Hs T H2 s2 ht3 hpS hpH hpT g=>?_⟩
 refine⟨t3,_,rfl,SqT.of ht3,rfl,_,_,rfl,D6 ⟨_,_,rfl,D6 ⟨_,_,rfl,D6 ⟨rfl,?_⟩⟩⟩⟩
 lk
 refine⟨D5 (by z_go),fun pr hpr=>?_⟩
 lk
 have sA:A9 H H2:=A9.tr s1 s2
 refine wa1 #[0] #[0] (fun i σ H'=>∃ (a7 a8 a9 a10 a11 a12:Option V) (us:List V) (rs l:List Row),σ=[some (.ref sc),some (.ref nm),some (.int c),some (.ref pS),some (.ref pH),some (.ref pT),some (.ref pr),a7,a8,a9,a10,a11,a12]/\A9 H2 H'/\H' pr=some (.lst us)/\Dvs K H' (rs.map Row.da) us/\rs.Perm l/\l.length=i/\(∀ j r,l[j]?=some r->RA names S Hs T c j r)/\∀ r∈l,r.shuts.length<=12/\r.bars.length<=12) ?_ ?_ ?_
 ·exact⟨none,none,none,none,none,none,[],[],[],rfl,A9.new hpr _,A8,G9,.nil,rfl,fun j r h=>(by simp at h),fun r h=>(by cases h)⟩
 ·rintro i σ H' hi ⟨a7,a8,a9,a10,a11,a12,us,rs,l,rfl,s3,hr,dv,pm,hl,ra,sb⟩
  have rl:us.length=i:=by rw[dv.length,length_map,pm.length_eq,hl]
  lk
  refine⟨sc,ns,_,rfl,s3.sqL (sA.sqL hS),by omega,fun own=>?_⟩
  lk
  refine xd6 #[0] #[0] (fun m ys H''=>A9 H' H''/\∃ js:List Nat,ys=Y2 js/\js.length<=m/\∀ j∈js,j<c) ⟨A9.refl _,[],rfl,Nat.le_refl _,by simp⟩ ?_ ?_ ?_
  ·rintro m ys H'' hm ⟨_,js,rfl,hjl,_⟩
   rw[qo2];exact D5 #[0]
  ·rintro m ys H'' hm ⟨s4,js,rfl,hjl,hjs⟩
   lk
   refine L7 #[59,s4 _ _ (s3 _ _ hpS)] (qf7 (by rw[g.ls];omega)) ?_
   lk
   refine⟨D5 (by z_go),fun t ht=>?_⟩
   refine .inl (xj9 (xs:=B4 [("plain":Str),("anew":Str)]) (.inr (SqT.of A8)) rfl (P8 _) ?_)
   rw[S3]
   lk
   by_cases hp:gd S m∈[("plain":Str),("anew":Str)]
   ·rw[decide_eq_true hp]
    x_go
    lk
    refine⟨A9.tr s4 #[36,ht],js++[m],xr8 _ _,by rw[length_append,length_singleton];omega,fun j hj=>?_⟩
    rcases mem_append.mp hj with h|h
    ·exact hjs j h
    ·rw[mem_singleton.mp h];omega
   ·rw[decide_eq_false hp]
    k_go
    exact⟨A9.tr s4 #[36,ht],js,rfl,by omega,hjs⟩
  rintro ys H3 ⟨s4,js,rfl,hjl,hjs⟩ pa hpa
  have jl:js.length<=12:=by omega
  lk
  have s5:A9 H' (upd H3 pa (.lst (Y2 js))):=A9.tr s4 #[36,hpa]
  have ha:(upd H3 pa (.lst (Y2 js))) pa=some (.lst (Y2 js)):=A8
  generalize upd H3 pa (.lst (Y2 js))=H4 at *
  refine wp4 (xs:=Y2 js) #[59,ha] (fun m ys H''=>H''=H4/\∃ zs:List Str,ys=B4 zs/\zs.length<=m/\∀ z∈zs,∃ i,i<c/\i∉T/\z=gd names i) ⟨rfl,[],rfl,Nat.le_refl _,by simp⟩ ?_ ?_ ?_ ?_
  ·rintro m ys H'' hm ⟨_,zs,rfl,hz,_⟩
   rw[qo2] at hm
   rw[B7];exact D5 #[0]
  ·rintro m ys H'' hm ⟨rfl,_⟩
   exact SqL.of ha
  ·rintro m x ys H'' hx ⟨rfl,zs,rfl,hz,hzT⟩
   obtain⟨j,hj,rfl⟩:=xr4 hx
   have hjc:=hjs j (mem_of_getElem? hj)
   have sT:H'' pT=some (.lst (Y2 T)):=s5 _ _ (s3 _ _ hpT)
   have stop:(fun H'=>H'=H''/\∃ zs':List Str,B4 zs=B4 zs'/\zs'.length<=m+1/\∀ z∈zs',∃ i,i<c/\i∉T/\z=gd names i) H'':=⟨rfl,zs,rfl,by omega,hzT⟩
   lk
   refine .inl (wy5 (.inl #[59,sT]) rfl (wq6 _) ?_)
   rw[wm7]
   lk
   by_cases h1:j∈T
   ·rw[decide_eq_true h1]
    k_go
    k_go
    exact stop
   ·rw[decide_eq_false h1]
    x_go
    lk
    refine .inl (wy5 (.inl #[59,sT]) rfl (wq6 _) ?_)
    rw[wm7]
    lk
    by_cases h2:i∈T
    ·rw[decide_eq_true h2]
     k_go
     k_go
     exact stop
    ·rw[decide_eq_false h2]
     x_go
     lk
     refine⟨own,_,rfl,by omega,by omega,fun n5 hn5=>?_⟩
     lk
     by_cases h3:n5 % 5=0
     ·rw[decide_eq_true h3]
      x_go
      lk
      refine L7 #[59,s5 _ _ (s3 _ _ (s2 _ _ hN))] (qf7 #[0]) ?_
      refine⟨rfl,zs++[gd names j],qd7 _ _,by rw[length_append,length_singleton];omega,fun z hz2=>?_⟩
      rcases mem_append.mp hz2 with h|h
      ·exact hzT z h
      ·exact⟨j,hjc,h1,mem_singleton.mp h⟩
     ·rw[decide_eq_false h3]
      k_go
      exact stop
  rintro ys H5 ⟨rfl,zs1,rfl,hz1,hz1T⟩ p10 hp10
  rw[qo2] at hz1
  lk
  have s6:A9 H' (upd H5 p10 #[24,zs1]):=A9.tr s5 #[36,hp10]
  have h10:(upd H5 p10 #[24,zs1]) p10=some #[24,zs1]:=A8
  have ha6:(upd H5 p10 #[24,zs1]) pa=some (.lst (Y2 js)):=by rw[B5 (O4 ha hp10)];exact ha
  generalize upd H5 p10 #[24,zs1]=H6 at *
  refine wp4 (xs:=Y2 js) #[59,ha6] (fun m ys H''=>H''=H6/\∃ zs:List Str,ys=B4 zs/\zs.length<=m) ⟨rfl,[],rfl,Nat.le_refl _⟩ ?_ ?_ ?_ ?_
  ·rintro m ys H'' hm ⟨_,zs,rfl,hz⟩
   rw[qo2] at hm
   rw[B7];exact D5 #[0]
  ·rintro m ys H'' hm ⟨rfl,_⟩
   exact SqL.of ha6
  ·rintro m x ys H'' hx ⟨rfl,zs,rfl,hz⟩
   obtain⟨j,hj,rfl⟩:=xr4 hx
   have hjc:=hjs j (mem_of_getElem? hj)
   lk
   refine⟨own,_,rfl,by omega,by omega,fun n5 hn5=>?_⟩
   lk
   by_cases h3:n5 % 8=0
   ·rw[decide_eq_true h3]
    x_go
    lk
    refine L7 #[59,s6 _ _ (s3 _ _ (s2 _ _ hN))] (qf7 #[0]) ?_
    exact⟨rfl,zs++[gd names j],qd7 _ _,by rw[length_append,length_singleton];omega⟩
   ·rw[decide_eq_false h3]
    k_go
    exact⟨rfl,zs,rfl,by omega⟩
  rintro ys H7 ⟨rfl,zs2,rfl,hz2⟩ p11 hp11
  rw[qo2] at hz2
  lk
  have s7:A9 H' (upd H7 p11 #[24,zs2]):=A9.tr s6 #[36,hp11]
  have h11:(upd H7 p11 #[24,zs2]) p11=some #[24,zs2]:=A8
  have h10b:(upd H7 p11 #[24,zs2]) p10=some #[24,zs1]:=by rw[B5 (O4 h10 hp11)];exact h10
  generalize upd H7 p11 #[24,zs2]=H8 at *
  refine L7 #[59,s7 _ _ (s3 _ _ (s2 _ _ hN))] (qf7 #[0]) ?_
  lk
  refine L7 #[59,s7 _ _ (s3 _ _ hpS)] (qf7 (by rw[g.ls];omega)) ?_
  lk
  refine L7 #[59,s7 _ _ (s3 _ _ hpH)] (qf7 (by rw[g.lh];omega)) ?_
  lk
  refine⟨p10,zs1,rfl,SqL.of h10b,by omega,fun q1 zs1' pe1 _ hq1=>?_⟩
  lk
  refine⟨q1,_,rfl,.inl ⟨SqL.of A8,fun t1 ht1=>?_⟩⟩
  lk
  have sB:A9 H8 (upd (upd H8 q1 #[24,zs1']) t1 (.tup (B4 zs1'))):=A9.tr #[36,hq1] #[36,ht1]
  have htt1:(upd (upd H8 q1 #[24,zs1']) t1 (.tup (B4 zs1'))) t1=some (.tup (B4 zs1')):=A8
  generalize upd (upd H8 q1 #[24,zs1']) t1 (.tup (B4 zs1'))=H9 at *
  refine⟨p11,zs2,rfl,SqL.of (sB _ _ h11),by omega,fun q2 zs2' pe2 _ hq2=>?_⟩
  lk
  refine⟨q2,_,rfl,.inl ⟨SqL.of A8,fun t2 ht2=>?_⟩⟩
  lk
  have sC:A9 H9 (upd (upd H9 q2 #[24,zs2']) t2 (.tup (B4 zs2'))):=A9.tr #[36,hq2] #[36,ht2]
  have htt2:(upd (upd H9 q2 #[24,zs2']) t2 (.tup (B4 zs2'))) t2=some (.tup (B4 zs2')):=A8
  have htt1c:=sC _ _ htt1
  generalize upd (upd H9 q2 #[24,zs2']) t2 (.tup (B4 zs2'))=H10 at *
  refine⟨D5 (by z_go),fun tr htr=>?_⟩
  have sD:A9 H10 (upd H10 tr #[66]):=A9.new htr _
  have htt:(upd H10 tr #[66]) tr=some #[66]:=A8
  have htt1d:=sD _ _ htt1c
  have htt2d:=sD _ _ htt2
  generalize upd H10 tr #[66]=H11 at *
  have sE:A9 H' H11:=A9.tr s7 (A9.tr sB (A9.tr sC sD))
  lk
  refine⟨.inl ⟨rfl,_,SqL.of (sE _ _ hr)⟩,?_⟩
  lk
  refine⟨own,32,rfl,by decide,by decide,fun n9 hn9=>?_⟩
  lk
  have i0:=Int.emod_nonneg n9 (show(i:Int)+1≠0 by omega)
  have i1:=Int.emod_lt_of_pos n9 (show(0:Int)<(i:Int)+1 by omega)
  have hr11:=sE _ _ hr
  refine zk9 hr11 i0 #[0] #[71] ?_
  lk
  have tkF:=wz1 (ys:=qn1 us (n9 % ((i:Int)+1)).toNat (V.ref tr)) hr11
  have dvr:Dv K H11 (Row.da ⟨gd names i,gd S i,gd Hs i,zs1',zs2'⟩) (.ref tr):=D9.mpr ⟨tr,_,rfl,SqT.of htt,C7 (G7.mpr rfl) (C7 (G7.mpr rfl) (C7 (G7.mpr rfl) (C7 (D9.mpr ⟨t1,_,rfl,SqT.of htt1d,qq4.mpr rfl⟩) (C7 (D9.mpr ⟨t2,_,rfl,SqT.of htt2d,qq4.mpr rfl⟩) G9))))⟩
  refine⟨_,_,_,_,_,_,_,qn1 rs (n9 % ((i:Int)+1)).toNat ⟨gd names i,gd S i,gd Hs i,zs1',zs2'⟩,l++[⟨gd names i,gd S i,gd Hs i,zs1',zs2'⟩],rfl,?_,A8,?_,?_,by simp[hl],fun j r hj=>?_,fun r hr=>?_⟩
  ·exact A9.put (A9.tr s3 sE) hpr _
  ·rw[<-zy2]
   exact zb3 (Dv.tupK tkF _ _ (yz8 _) dvr) _ (Dvs.tupK tkF _ _ (xp8 _) (Dvs.same sE _ _ dv))
  ·exact(zq3 _ _ _).trans ((List.Perm.cons _ pm).trans (perm_append_singleton _ _).symm)
  ·by_cases hj2:j<l.length
   ·rw[List.getElem?_append_left hj2] at hj;exact ra j r hj
   ·rw[List.getElem?_append_right #[0]] at hj
    have e0:j-l.length=0:=by
     have:=(List.getElem?_eq_some_iff.mp hj).1
     simp at this;omega
    rw[e0] at hj
    have:j=i:=by omega
    subst this
    cases hj
    exact⟨fun x hx=>hz1T x (pe1.mem_iff.mp hx),rfl,rfl,rfl⟩
  ·rcases mem_append.mp hr with h|h
   ·exact sb r h
   ·rw[mem_singleton.mp h]
    exact⟨by show zs1'.length<=12;rw[pe1.length_eq];omega,by show zs2'.length<=12;rw[pe2.length_eq];omega⟩
 ·rintro σ H' ⟨a7,a8,a9,a10,a11,a12,us,rs,l,rfl,s3,hr,dv,pm,hl,ra,sb⟩
  lk
  refine⟨pr,us,rfl,.inl ⟨SqL.of hr,fun t ht=>?_⟩⟩
  exact q t us rs _ (A9.tr sA (A9.tr s3 #[36,ht])) A8 (Dvs.same #[36,ht] _ _ dv) (Ah0 nN #[0] #[0] hc1 g pm #[0] ra) fun r hr=>by
   have hm:=pm.mem_iff.mp hr
   obtain⟨j,hj⟩:=mem_iff_getElem?.mp hm
   have hjl:=(List.getElem?_eq_some_iff.mp hj).1
   refine⟨?_,sb r hm⟩
   rw[(ra j r hj).name]
   exact An6 nN (xp7 #[0])
def M9(K:Fg):Sp:=qa4 K
def wv9(K:Fg):TS :=
 (B9 (qf4 (qq7 K (A7 0)) (B3 2)
 (N1 (C5 (tOp (P9 K) #[20,2] (A7 1)))
 (E3 (A7 2)) J5))
 (E3 (tC .non)))
theorem yq7(h:M9 K vs H Q E):wv9 K {nx:=fun _ H'=>Q .non H',rt:=Q} (C9 ["_law_book_here","_law_name","_law_row_here"] vs) H:=by
 exact ya7 h
def qe2(K:Fg):Sp:=fun vs H Q _=>∃ v n rs,vs=[v,.str n]/\Rws K H v rs/\Boo rs/\Q (.str (frS rs n)) H
def qh7(K:Fg):TS :=
 (B9 (qf4 (qq7 K (A7 0)) (B3 2)
 (N1 (qm7 (C5 (tOp (P9 K) (tOp (D2 K) (A7 2) #[1,2]) (A7 1))) (C5 (tOp (qq5 K) (A7 1) (tC (.str "")))))
 (E3 #[20,2]) J5))
 (E3 (tC (.str ""))))
theorem xw5(h:qe2 K vs H Q E):qh7 K {nx:=fun _ H'=>Q .non H',rt:=Q} (C9 ["_law_book_here","_law_name","_law_row_here"] vs) H:=by
 obtain⟨v,n,rs,rfl,⟨a,xs,rfl,hq,hd⟩,B,q⟩:=h
 show qh7 K _ [some (.ref a),some (.str n),none] H
 unfold qh7
 have hlen:xs.length=rs.length:=by have:=hd.length;simpa using this
 have ef:∀ r∈rs,n≠("":Str)->(decide (r.sort=#[15]) && decide (some r.host=some n))=decide (r.host=n):=fun r hr hn=>by
  by_cases h:r.host=n
  ·have:r.sort=#[15]:=by
    by_cases hs:r.sort=#[15]
    ·exact hs
    ·exact absurd ((B.noh r hr hs).symm.trans h).symm hn
   rw[decide_eq_true h,decide_eq_true this,decide_eq_true (by rw[h])];rfl
  ·rw[decide_eq_false h,decide_eq_false (fun e=>h (Option.some.inj e)),Bool.and_false]
 lk
 refine yd9 hq (fun i σ H'=>H'=H/\(∃ w,σ=[some (.ref a),some (.str n),w])/\(n≠("":Str)->∀ r∈rs.take i,(decide (r.sort=#[15]) && decide (some r.host=some n))=false)) ⟨rfl,⟨_,rfl⟩,by simp⟩ (fun hl i σ H' _ p=>p.1▸hl) (fun ht i σ H' _ p=>p.1▸ht) ?_ ?_
 ·rintro i x σ H' hx ⟨rfl,⟨w,rfl⟩,hn⟩
  walk_at"30"
  have hrm:r∈rs:=mem_of_getElem? hr
  obtain⟨b,sv,bv,rfl,hb,hsv,hbv⟩:=R7 hd2
  lk
  refine G1 hb rfl ?_
  lk
  by_cases e:r.host=n
  ·rw[decide_eq_true e];refine qm9 ?_
   lk
   by_cases h0:n=("":Str)
   ·rw[decide_eq_true h0,Bool.not_true]
    k_go
    lk
    exact⟨rfl,⟨_,rfl⟩,fun h=>absurd h0 h⟩
   ·rw[decide_eq_false h0,Bool.not_false]
    x_go
    lk
    refine G1 hb rfl ?_
    have:frS rs n=r.name:=by
     unfold frS
     rw[if_neg h0]
     unfold I9
     rw[qh1 hr (hn h0) (by rw[ef r hrm h0,decide_eq_true e])];rfl
    rw[this] at q;exact q
  ·rw[decide_eq_false e];refine qg6 ?_
   k_go
   lk
   refine⟨rfl,⟨_,rfl⟩,fun h0=>wl9 hr (hn h0) (by rw[ef r hrm h0,decide_eq_false e])⟩
 ·rintro σ H' ⟨rfl,⟨w,rfl⟩,hn⟩
  lk
  have:frS rs n=("":Str):=by
   unfold frS
   by_cases h0:n=("":Str)
   ·rw[if_pos h0]
   ·rw[if_neg h0]
    have:I9 rs (some n)=none:=by
     unfold I9
     rw[find?_eq_none.mpr]
     ·rfl
     ·intro r hr
      have h1:=hn h0
      rw[hlen,take_length] at h1
      rw[h1 r hr];exact Bool.false_ne_true
    rw[this];rfl
  rw[this] at q;exact q
def qm5(K:Fg):Sp:=fun vs H Q _=>∃ v n rs,vs=[v,.str n]/\Rws K H v rs/\∀ H',A9 H H'->Q (.bl (S5 rs n)) H'
def qh8(K:Fg):TS :=
 (B9 (C8 (C3 (M9 K) [] E0 (A3 (A7 0) #[3,1])) (B3 2))
 (E3 (wr9 (tOp qq6 (A7 2) (tC .non)) (tOp (qt0 K false) #[39,2] (X3 (A3 (tC (.str "room")) (A3 (tC (.str "frame")) B1)))))))
theorem xw6(h:qm5 K vs H Q E):qh8 K {nx:=fun _ H'=>Q .non H',rt:=Q} (C9 ["_law_book_here","_law_name","_law_row_here"] vs) H:=by
 obtain⟨v,n,rs,rfl,hR,q⟩:=h
 show qh8 K _ [some v,some (.str n),none] H
 unfold qh8
 lk
 refine⟨v,some n,rs,rfl,hR,fun h=>?_,fun r u h hu=>?_⟩
 ·lk
  have:S5 rs n=false:=by unfold S5;rw[h]
  rw[this] at q
  k_go
  exact q H (A9.refl _)
 ·obtain⟨b,sv,bv,rfl,hb,hsv,hbv⟩:=R7 hu
  lk
  rw[show decide (V.ref b=V.non)=false by simp,Bool.not_false]
  x_go
  lk
  refine G1 hb rfl ?_
  lk
  refine⟨D5 (by z_go),fun t ht=>?_⟩
  refine .inl (xj9 (xs:=B4 [("room":Str),#[15]]) (.inr (SqT.of A8)) rfl (P8 _) ?_)
  rw[S3]
  have:S5 rs n=decide (r.sort∈[("room":Str),#[15]]):=by unfold S5;rw[h]
  rw[this] at q
  exact q _ #[36,ht]
def qs2(K:Fg):Sp:=fun vs H Q _=>∃ v a ys rs,vs=[v,.ref a]/\Rws K H v rs/\(SqL K H a (B4 ys)\/SqT K H a (B4 ys))/\ys.length<=1000/\∀ p H',A9 H H'->H p=none->H' p=some #[24,R3 rs ys]->Q (.ref p) H'
def qo3(K:Fg):TS :=
 (B9 (C8 (T8 B1) (B3 2))
 (B9 (qf4 (qq7 K (A7 1)) (B3 3)
 (B9 (G5 (tBM K "list" M3 (A7 2) #[3,3]))
 (N1 (tB (C3 (qm5 K) [] E0 (A3 (A7 0) #[3,3])))
 (C8 (T8 B1) (B3 2)) J5)))
 (E3 (A7 2))))
theorem yi0(h:qs2 K vs H Q E):qo3 K {nx:=fun _ H'=>Q .non H',rt:=Q} (C9 ["_law_book_here","_law_names_here","_law_near_here","_law_name"] vs) H:=by
 obtain⟨v,a,ys,rs,rfl,hR,hq,hl,q⟩:=h
 show qo3 K _ [some v,some (.ref a),none,none] H
 unfold qo3
 walk_at"39"
 refine wa3 hq #[36,hd] (fun i σ H'=>∃ (p:Addr) (w:Option V),σ=[some v,some (.ref a),some (.ref p),w]/\A9 H H'/\H p=none/\H' p=some #[24,R3 rs (ys.take i)]) ⟨d,none,rfl,A9.new hd _,hd,A8⟩ ?_ ?_ ?_
 ·rintro i σ H' ⟨p,w,rfl,s,hp,_⟩
  exact s
 ·rintro i x σ H' hx ⟨p,w,rfl,s,hp,hpp⟩
  obtain⟨y,hy,rfl⟩:=qd6 hx
  have etk:ys.take (i+1)=ys.take i++[y]:=by rw[take_add_one,hy];rfl
  have nl:=qn3 rs (ys.take i).length (ys.take i) rfl
  rw[length_take] at nl
  lk
  refine⟨.inl ⟨rfl,_,SqL.of hpp⟩,?_⟩
  lk
  refine M1 hpp (by rw[B7,sizeLine_eq];omega) ?_
  rw[qd7]
  lk
  refine⟨v,y,rs,rfl,(hR.same (A9.put s hp _)),fun H2 s2=>?_⟩
  lk
  have s3:=A9.tr (A9.put s hp #[24,R3 rs (ys.take i)++[y]]) s2
  cases hw:S5 rs y with
  | true =>
    x_go
    lk
    refine⟨D5 (by z_go),fun d2 hd2=>?_⟩
    lk
    exact⟨d2,_,rfl,A9.tr s3 #[36,hd2],A9.free s3 hd2,by rw[etk,qs5,if_pos hw];exact A8⟩
  | false =>
    k_go
    lk
    exact⟨p,_,rfl,s3,hp,by rw[etk,qs5,if_neg (by rw[hw];exact Bool.false_ne_true)];exact s2 _ _ A8⟩
 ·rintro σ H' ⟨p,w,rfl,s,hp,hpp⟩
  lk
  rw[B7,take_length] at hpp
  exact q p H' s hp hpp
def zq4(K:Fg):TS :=
 (B9 (qf4 (qq7 K (C3 (qs2 K) [] E0 (A3 (A7 0) #[3,1]))) (B3 5)
 (N1 (tOr (C5 (tOp (qt0 K false) (A7 5) (tOp (D2 K) (A7 3) #[1,3]))) (C5 (tOp (qt0 K false) (A7 5) (tOp (D2 K) (A7 3) #[1,4]))))
 (E3 (tC (.bl false))) J5))
 (E3 (tC (.bl true))))
def zq5(K:Fg):TS :=
 (B9 (N1 (qm7 (C5 (tOp (qq5 K) (A7 4) (tC (.str "")))) (qm7 (C5 (tOp (P9 K) (tOp (D2 K) (C3 (M9 K) [] E0 (A3 (A7 0) #[3,4])) #[1,1]) (tC (.str "frame")))) (C5 (tOp (qq5 K) (tOp (D2 K) (C3 (M9 K) [] E0 (A3 (A7 0) #[3,4])) #[1,2]) (A7 2)))))
 (E3 (tC (.bl false))) J5)
 (zq4 K))
def zq6(K:Fg):TS :=
 (B9 (N1 (qm7 (C5 (tOp (qq5 K) (C3 (qe2 K) [] E0 (A3 (A7 0) #[3,2])) (tC (.str "")))) (C5 (tOp (qq5 K) (C3 (qe2 K) [] E0 (A3 (A7 0) #[3,2])) (A7 4))))
 (E3 (tC (.bl false))) J5)
 (zq5 K))
def yq8(K:Fg):TS :=
 (B9 (N1 (tOr (C5 (tOp xo5 (A7 3) (tC .non))) (C5 (tOp wq9 (tCB (O3 K) #[3,1]) #[1,19])))
 (E3 (tC (.bl false))) J5)
 (zq6 K))
section
variable{D:V5}{v:V}{a b ps pb:Addr}{ys:List Str}{n:Str}{rs:List Row}{r:Row}
theorem Ai6{a4:Option V}(hR:Rws K H v rs)(hq:SqL K H a (B4 ys)\/SqT K H a (B4 ys))(hl:ys.length<=19)(hb:SqT K H b [.str r.name,.str r.sort,.str r.host,.ref ps,.ref pb])(h1:SqT K H ps (B4 r.shuts))(h2:SqT K H pb (B4 r.bars))(q:∀ H',A9 H H'->D.rt (.bl (qp0 rs ys r)) H') :
 zq4 K D [some v,some (.ref a),some (.str n),some (.ref b),a4,a5] H:=by
 unfold zq4
 lk
 refine⟨v,a,ys,rs,rfl,hR,hq,by omega,fun p H1 s1 hp hp1=>?_⟩
 refine wa3 (H0:=H1) (.inl #[59,hp1]) (A9.refl _) (fun i σ H'=>H'=H1/\(∃ w,σ=[some v,some (.ref a),some (.str n),some (.ref b),a4,w])/\∀ y∈(R3 rs ys).take i,y∉r.shuts/\y∉r.bars) ⟨rfl,⟨_,rfl⟩,by simp⟩ (fun i σ H' p=>p.1▸A9.refl _) ?_ ?_
 ·rintro i x σ H' hx ⟨rfl,⟨w,rfl⟩,hcl⟩
  obtain⟨y,hy,rfl⟩:=qd6 hx
  have bad:(y∈r.shuts\/y∈r.bars)->qp0 rs ys r=false:=fun h=>by
   unfold qp0
   rw[all_eq_false]
   exact⟨y,mem_of_getElem? hy,by rcases h with h|h <;> simp[h]⟩
  lk
  refine G1 (s1.sqT hb) rfl ?_
  refine .inl (xj9 (.inr (s1.sqT h1)) rfl (P8 _) ?_)
  rw[S3]
  lk
  by_cases e1:y∈r.shuts
  ·rw[decide_eq_true e1]
   x_go
   x_go
   lk
   rw[bad (.inl e1)] at q
   exact q _ s1
  ·rw[decide_eq_false e1]
   k_go
   lk
   refine G1 (s1.sqT hb) rfl ?_
   refine .inl (xj9 (.inr (s1.sqT h2)) rfl (P8 _) ?_)
   rw[S3]
   lk
   by_cases e2:y∈r.bars
   ·rw[decide_eq_true e2]
    x_go
    lk
    rw[bad (.inr e2)] at q
    exact q _ s1
   ·rw[decide_eq_false e2]
    k_go
    lk
    exact⟨rfl,⟨_,rfl⟩,wl9 hy hcl ⟨e1,e2⟩⟩
 ·rintro σ H' ⟨rfl,⟨w,rfl⟩,hcl⟩
  lk
  rw[B7,take_length] at hcl
  have:qp0 rs ys r=true:=by
   unfold qp0
   rw[all_eq_true]
   intro y hy
   obtain⟨e1,e2⟩:=hcl y hy
   simp[e1,e2]
  rw[this] at q
  exact q _ s1
theorem Ai7{lst:Str}(B:Boo rs)(hR:Rws K H v rs)(hq:SqL K H a (B4 ys)\/SqT K H a (B4 ys))(hl:ys.length<=19)(hb:SqT K H b [.str r.name,.str r.sort,.str r.host,.ref ps,.ref pb])(h1:SqT K H ps (B4 r.shuts))(h2:SqT K H pb (B4 r.bars))(hlst:lst=("":Str)\/∃ r∈rs,r.name=lst)(q:∀ H',A9 H H'->D.rt (.bl (qe9 rs lst n && qp0 rs ys r)) H') :
 zq5 K D [some v,some (.ref a),some (.str n),some (.ref b),some (.str lst),a5] H:=by
 unfold zq5
 lk
 have fin:=fun(a4:Option V) (h:qe9 rs lst n=true)=>Ai6 (n:=n) (a4:=a4) (a5:=a5) (D:=D) hR hq hl hb h1 h2 fun H' s=>by have:=q H' s;rwa [h,Bool.true_and] at this
 by_cases h0:lst=("":Str)
 ·rw[decide_eq_true h0,Bool.not_true]
  k_go
  k_go
  lk
  have hnone:N0 rs (some ("":Str))=none:=by
   cases e:N0 rs (some ("":Str)) with
   | none=>rfl
   | some r=>obtain⟨hr,hn⟩:=wm1 e;exact absurd hn (B.ne r hr)
  exact fin _ (by unfold qe9;rw[h0,hnone])
 ·rw[decide_eq_false h0,Bool.not_false]
  x_go
  obtain⟨r2,e2,m2,n2⟩:=yf2 (hlst.resolve_left h0)
  lk
  refine⟨v,some lst,rs,rfl,hR,fun e=>(by rw[e2] at e;cases e),fun r3 u e hu=>?_⟩
  rw[e2] at e
  injection e with e
  subst e
  obtain⟨b3,p3,p4,rfl,hb3,_,_⟩:=wp8 hu
  lk
  refine G1 hb3 rfl ?_
  lk
  by_cases hf:r2.sort=#[15]
  ·rw[decide_eq_true hf]
   x_go
   lk
   refine⟨v,some lst,rs,rfl,hR,fun e=>(by rw[e2] at e;cases e),fun r4 u e hu=>?_⟩
   rw[e2] at e
   injection e with e
   subst e
   obtain⟨b4,p5,p6,rfl,hb4,_,_⟩:=wp8 hu
   lk
   refine G1 hb4 rfl ?_
   lk
   by_cases hh:r2.host=n
   ·rw[decide_eq_true hh,Bool.not_true]
    k_go
    lk
    exact fin _ (by unfold qe9;rw[e2];simp[hh])
   ·rw[decide_eq_false hh,Bool.not_false]
    x_go
    lk
    have:qe9 rs lst n=false:=by unfold qe9;rw[e2];simp[hh,hf]
    rw[this,Bool.false_and] at q
    exact q _ (A9.refl _)
  ·rw[decide_eq_false hf]
   k_go
   k_go
   lk
   exact fin _ (by unfold qe9;rw[e2];simp[hf])
theorem Ai8{lst:Str}(B:Boo rs)(hR:Rws K H v rs)(hq:SqL K H a (B4 ys)\/SqT K H a (B4 ys))(hl:ys.length<=19)(hb:SqT K H b [.str r.name,.str r.sort,.str r.host,.ref ps,.ref pb])(h1:SqT K H ps (B4 r.shuts))(h2:SqT K H pb (B4 r.bars))(hlst:lst=("":Str)\/∃ r∈rs,r.name=lst)(q:∀ H',A9 H H'->D.rt (.bl (qd8 rs lst n && (qe9 rs lst n && qp0 rs ys r))) H') :
 zq6 K D [some v,some (.ref a),some (.str n),some (.ref b),some (.str lst),a5] H:=by
 unfold zq6
 lk
 refine⟨v,n,rs,rfl,hR,B,?_⟩
 lk
 have fin:=fun(h:qd8 rs lst n=true)=>Ai7 (n:=n) (a5:=a5) (D:=D) B hR hq hl hb h1 h2 hlst fun H' s=>by have:=q H' s;rwa [h,Bool.true_and] at this
 by_cases h0:frS rs n=("":Str)
 ·rw[decide_eq_true h0,Bool.not_true]
  k_go
  k_go
  lk
  exact fin (by unfold qd8;simp[h0])
 ·rw[decide_eq_false h0,Bool.not_false]
  x_go
  lk
  refine⟨v,n,rs,rfl,hR,B,?_⟩
  lk
  by_cases hh:frS rs n=lst
  ·rw[decide_eq_true hh,Bool.not_true]
   k_go
   lk
   exact fin (by unfold qd8;simp[hh])
  ·rw[decide_eq_false hh,Bool.not_false]
   x_go
   lk
   have:qd8 rs lst n=false:=by unfold qd8;simp[h0,hh]
   rw[this,Bool.false_and] at q
   exact q _ (A9.refl _)
end
def qx8(K:Fg):Sp:=fun vs H Q _=>∃ v a ys n rs,vs=[v,.ref a,.str n]/\Rws K H v rs/\Boo rs/\(SqL K H a (B4 ys)\/SqT K H a (B4 ys))/\ys.length<=1000/\(∀ y∈ys,∃ r∈rs,r.name=y)/\∀ H',A9 H H'->Q (.bl (wr2 rs ys n)) H'
def qu1(K:Fg):TS :=
 (B9 (C8 (C3 (M9 K) [] E0 (A3 (A7 0) #[3,2])) (B3 3))
 (B9 (C8 (tC (.str "")) (B3 4))
 (B9 (N1 (C5 (tOp wq9 (tCB (O3 K) #[3,1]) #[1,0]))
 (C8 #[44,1] (B3 4)) J5)
 (yq8 K))))
theorem yq9(h:qx8 K vs H Q E):qu1 K {nx:=fun _ H'=>Q .non H',rt:=Q} (C9 ["_law_book_here","_law_names_here","_law_name","_law_row_here","_law_last","_law_other"] vs) H:=by
 obtain⟨v,a,ys,n,rs,rfl,hR,B,hq,hl,hy,q⟩:=h
 show qu1 K _ [some v,some (.ref a),some (.str n),none,none,none] H
 unfold qu1
 lk
 have t2:∀ (u:V) (lst:Str),lst=G8 ys->#[67]->(lst=("":Str)\/∃ r∈rs,r.name=lst)->yq8 K {nx:=fun _ H'=>Q .non H',rt:=Q} [some v,some (.ref a),some (.str n),some u,some (.str lst),none] H:=by
  intro u lst elst hu hlst
  unfold yq8
  lk
  rcases hu with⟨rfl,en⟩|⟨b,r,ps,pb,rfl,en,hb,h1,h2⟩
  ·rw[decide_eq_true rfl]
   x_go
   x_go
   lk
   have:wr2 rs ys n=false:=by unfold wr2;rw[en]
   rw[this] at q
   exact q _ (A9.refl _)
  ·rw[show decide (V.ref b=V.non)=false by simp]
   k_go
   lk
   refine N8 hq ?_
   rw[B7]
   lk
   by_cases h19:(19:Int)<(ys.length:Int)
   ·rw[decide_eq_true h19]
    x_go
    lk
    have:wr2 rs ys n=false:=by unfold wr2;rw[en];simp;omega
    rw[this] at q
    exact q _ (A9.refl _)
   ·rw[decide_eq_false h19]
    k_go
    lk
    have e3:wr2 rs ys n=(qd8 rs lst n && (qe9 rs lst n && qp0 rs ys r)):=by
     unfold wr2;rw[en,elst]
     dsimp only
     rw[decide_eq_true (show ys.length<=19 by omega),Bool.true_and]
    rw[e3] at q
    exact Ai8 B hR hq #[0] hb h1 h2 hlst q
 have t1:∀ u:V,#[67] ->
  (if decide ((0:Int)<(ys.length:Int))=true then(C8 #[44,1] (B3 4)) {nx:=yq8 K {nx:=fun _ H'=>Q .non H',rt:=Q},rt:=Q} [some v,some (.ref a),some (.str n),some u,some (.str ""),none] H else J5 {nx:=yq8 K {nx:=fun _ H'=>Q .non H',rt:=Q},rt:=Q} [some v,some (.ref a),some (.str n),some u,some (.str ""),none] H):=by
  intro u hu
  by_cases h0:(0:Int)<(ys.length:Int)
  ·rw[decide_eq_true h0]
   x_go
   walk_at"21"
   have e1:(B4 ys)[(B4 ys).length-1]?=some (.str (gd ys (ys.length-1))):=by
    rw[B7];unfold B4;rw[List.getElem?_map,we5 #[0]];rfl
   have e2:=ye8 (by rw[B7];omega) e1
   have hy2:=hy _ (xp7 (l:=ys) (i:=ys.length-1) #[0])
   rcases hq with hq|hq
   ·refine L7 hq e2 ?_
    lk
    exact t2 _ _ rfl hu (.inr hy2)
   ·refine G1 hq e2 ?_
    lk
    exact t2 _ _ rfl hu (.inr hy2)
  ·rw[decide_eq_false h0]
   k_go
   lk
   have:ys=[]:=length_eq_zero_iff.mp #[0]
   exact t2 _ _ (by rw[this];rfl) hu (.inl rfl)
 refine⟨v,some n,rs,rfl,hR,fun h=>?_,fun r u h hu=>?_⟩
 ·lk
  refine N8 hq ?_
  rw[B7]
  lk
  exact t1 _ (.inl ⟨rfl,h⟩)
 ·obtain⟨b,ps,pb,rfl,hb,h1,h2⟩:=wp8 hu
  lk
  refine N8 hq ?_
  rw[B7]
  lk
  exact t1 _ (.inr ⟨b,r,ps,pb,rfl,h,hb,h1,h2⟩)
theorem xb5:∀ l:List Nat,TX.told 0 (esc l)=l
 | []=>rfl
 | c :: l=>by
   rw[esc]
   by_cases h1:c=60
   ·subst h1
    show TX.told 0 (38::108::59::esc l)=_
    rw[TX.told_l,xb5 l]
   ·by_cases h2:c=38
    ·subst h2
     show TX.told 0 (38::97::59::esc l)=_
     rw[TX.told_a,xb5 l]
    ·rw[if_neg h1,if_neg h2]
     show TX.told 0 (c::esc l)=_
     rw[TX.told_n (TX.ne_pre h2) (TX.ne_pre h2),xb5 l]
theorem xs3:∀ l:List Nat,60∉esc l
 | []=>by simp[esc]
 | c :: l=>by
   rw[esc]
   intro h
   rcases mem_append.mp h with h|h
   ·by_cases h1:c=60
    ·rw[if_pos h1] at h;exact absurd h #[10]
    ·rw[if_neg h1] at h
     by_cases h2:c=38
     ·rw[if_pos h2] at h;exact absurd h #[10]
     ·rw[if_neg h2] at h;exact h1 (mem_singleton.mp h).symm
   ·exact xs3 l h
def Ab6(d:List Nat):Prop:=∀ r,d=38::r->r.take 2=[108,59]\/r.take 2=[97,59]
theorem zb4:∀ (l:List Nat) (i:Nat),Ab6 ((esc l).drop i)
 | [],i=>by simp[esc,Ab6]
 | c :: l,i=>by
   have ih:=zb4 l
   rw[esc]
   by_cases h1:c=60
   ·rw[if_pos h1]
    match i with
    | 0=>intro r e;injection e with _ e;subst e;exact .inl rfl
    | 1=>intro r e;injection e with e _;exact absurd e #[10]
    | 2=>intro r e;injection e with e _;exact absurd e #[10]
    | i+3=>exact ih i
   ·rw[if_neg h1]
    by_cases h2:c=38
    ·rw[if_pos h2]
     match i with
     | 0=>intro r e;injection e with _ e;subst e;exact .inr rfl
     | 1=>intro r e;injection e with e _;exact absurd e #[10]
     | 2=>intro r e;injection e with e _;exact absurd e #[10]
     | i+3=>exact ih i
    ·rw[if_neg h2]
     match i with
     | 0=>intro r e;injection e with e _;exact absurd e h2
     | i+1=>exact ih i
theorem zg6(l:List Nat)(n:Nat):qd9 (esc l) n=[]:=by
 unfold qd9
 rw[filter_eq_nil_iff]
 intro i _ h
 unfold yo8 at h
 cases hg:(esc l)[i]? with
 | none=>rw[hg] at h;simp at h
 | some c =>
   rw[hg] at h
   have h60:c≠60:=fun e=>xs3 l (e▸mem_of_getElem? hg)
   by_cases h38:c=38
   ·subst h38
    have:=zb4 l i _ (wq0 hg)
    rcases this with e|e
    ·rw[e] at h;simp at h
    ·rw[e] at h;simp at h
   ·simp[h60,h38] at h
theorem yi2:∀ l:List Nat,(esc l).length<=3*l.length
 | []=>by simp[esc]
 | c::l=>by
   have:=yi2 l
   rw[esc,length_append,length_cons]
   by_cases h1:c=60
   ·rw[if_pos h1];show 3+_<=_;omega
   ·rw[if_neg h1]
    by_cases h2:c=38
    ·rw[if_pos h2];show 3+_<=_;omega
    ·rw[if_neg h2];show 1+_<=_;omega
theorem zy3:esc l=[]↔l=[]:=by
 cases l with
 | nil=>simp[esc]
 | cons c l =>
   rw[esc]
   by_cases h1:c=60
   ·simp[h1]
   ·by_cases h2:c=38 <;> simp[h1,h2]
theorem zq7(l:List Nat)(c:Nat):esc (l++[c])=esc l++(if c=60 then TX.El else if c=38 then TX.Ea else[c]):=by
 induction l with
 | nil=>simp[esc]
 | cons d l ih=>rw[cons_append,esc,esc,ih,append_assoc]
theorem yr0(ys sh:List Str):∀ m k,(∀ j,k<=j->j<k+m->gd ys j∉sh)->kpt ys sh k m=k+m
 | 0,k,_=>rfl
 | m+1,k,h=>by rw[kpt,if_neg (h k #[11] #[0]),yr0 ys sh m (k+1) (fun j h1 h2=>h j #[0] #[0])];omega
theorem zy4{xs:List α}(h:xs≠[]):∃ ys y,xs=ys++[y]:=⟨xs.dropLast,xs.getLast h,(dropLast_concat_getLast h).symm⟩
theorem zb5(rs:List Row):∀ (n:Nat) (ys:List Str),ys.length=n->R3 rs ys=ys.drop (ys.length-(R3 rs ys).length)
 | 0,ys,h=>by rw[length_eq_zero_iff.mp h];rfl
 | n+1,ys,h=>by
   obtain⟨zs,z,rfl⟩:=zy4 (xs:=ys) (fun e=>by rw[e] at h;cases h)
   have hz:zs.length=n:=by rw[length_append,length_singleton] at h;omega
   have ih:=zb5 rs n zs hz
   have nl:=qn3 rs n zs hz
   rw[qs5]
   by_cases hw:S5 rs z=true
   ·rw[if_pos hw];simp
   ·rw[if_neg hw,length_append,length_append,length_singleton,show zs.length+1-((R3 rs zs).length+1)=zs.length-(R3 rs zs).length by omega,drop_append_of_le_length #[0],<-ih]
section
variable{rs:List Row}{rk:Str->Nat}{ys:List Str}{n:Str}{st:Rst}{zs pre:List (Str×List Tr)}{i:Int}{g t a:Str}{ps:List Tr}
theorem yi3(h:wr2 rs ys n=true):∃ r,N0 rs (some n)=some r/\ys.length<=19/\qd8 rs (G8 ys) n=true/\qe9 rs (G8 ys) n=true/\qp0 rs ys r=true:=by
 unfold wr2 at h
 cases e:N0 rs (some n) with
 | none=>rw[e] at h;cases h
 | some r =>
   rw[e] at h
   simp only[Bool.and_eq_true,decide_eq_true_eq] at h
   exact⟨r,rfl,h.1,h.2.1,h.2.2.1,h.2.2.2⟩
theorem yr1(h:qp0 rs ys r=true)(hy:y∈R3 rs ys):y∉r.shuts/\y∉r.bars:=by
 unfold qp0 at h
 have:=all_eq_true.mp h y hy
 simp only[Bool.and_eq_true,Bool.not_eq_true',decide_eq_false_iff_not] at this
 exact this
theorem zq8 (B:Boo rs) (h:wr2 rs ys n=true):M5 rs rk ys 13 n=(ys.length,[n])/\bar rs ys [n]=false:=by
 obtain⟨r,er,h19,hf,hh,hc⟩:=yi3 h
 have hn:n≠("":Str):=by
  have hr:=mem_of_find?_eq_some er
  have:=find?_some er
  have e:r.name=n:=Option.some.inj (of_decide_eq_true this)
  rw[<-e];exact B.ne r hr
 have ebar:wm2 rs n=r.bars:=by unfold wm2;rw[er]
 have esh:qr0 rs n=r.shuts:=by unfold qr0;rw[er]
 refine⟨?_,?_⟩
 ·rw [M5,xa1]
  unfold qd8 at hf
  unfold frS at hf
  rw[if_neg hn] at hf
  cases ef:I9 rs (some n) with
  | some f =>
    rw[ef] at hf
    have f0:f≠("":Str):=by
     unfold I9 at ef
     obtain⟨r',h1,rfl⟩:=Option.map_eq_some_iff.mp ef
     exact B.ne r' (mem_of_find?_eq_some h1)
    have hl:f=G8 ys:=by
     simp only[Option.getD_some,Bool.or_eq_true,decide_eq_true_eq] at hf
     exact hf.resolve_left f0
    obtain⟨k,hk⟩:∃ k,ys.length=k+1:=by
     cases ys with
     | nil=>exact absurd hl f0
     | cons y ys=>exact⟨ys.length,rfl⟩
    have:clo rs rk ys f ys.length=some k:=by
     rw[hk,clo,if_pos]
     rw[hl]
     unfold G8
     rw[hk];rfl
    show(match clo rs rk ys f ys.length with|some k=>(k+1,[n])|none=>_)=_
    rw[this,hk]
  | none =>
    show qp1 _ _ _=_
    unfold qp1
    have hh':L8 rs (G8 ys)=[]:=we6 (by
     unfold Q0
     unfold qe9 at hh
     cases el:N0 rs (some (G8 ys)) with
     | none=>rfl
     | some l =>
       rw[el] at hh
       show(if l.sort=#[15] then some l.host else none)=none
       by_cases hs:l.sort=#[15]
       ·simp only[hs,decide_true,Bool.not_true,Bool.false_or,decide_eq_true_eq] at hh
        exfalso
        unfold I9 at ef
        rw[Option.map_eq_none_iff,find?_eq_none] at ef
        exact ef l (mem_of_find?_eq_some el) (by simp[hs,hh])
       ·rw[if_neg hs])
    rw[hh',if_pos rfl]
    unfold xj1
    have hnl:=qn3 rs ys.length ys rfl
    have hst:=zb5 rs ys.length ys rfl
    rw[esh,yr0]
    ·congr 1;omega
    ·intro j h1 h2
     refine(yr1 hc ?_).1
     rw[hst]
     have hj:j<ys.length:=by omega
     rw[mem_iff_getElem?]
     exact⟨j-(ys.length-(R3 rs ys).length),by rw[List.getElem?_drop,show ys.length-(R3 rs ys).length+(j-(ys.length-(R3 rs ys).length))=j by omega];exact we5 hj⟩
 ·rw[bar,ebar]
  have:(R3 rs ys).any (fun y=>decide (y∈r.bars))=false:=by
   rw[any_eq_false]
   intro y hy
   simp[(yr1 hc hy).2]
  rw[this];rfl
theorem zq9(B:Boo rs)(hne:st.bs≠[])(h:wr2 rs (G4 st) n=true):opS rs rk st i g n=if E8 rs (some n)=some ("bare":Str) then lvS {st with bs:=qn9 st.bs n} else{st with bs:=qn9 st.bs n}:=by
 obtain⟨r,er,h19,_⟩:=yi3 h
 obtain⟨e1,e2⟩:=zq8 (rk:=rk) B h
 unfold opS
 rw[e1,if_neg (by unfold E8;rw[er];simp)]
 show(if bar rs ((G4 st).take (G4 st).length) [n]=true then _ else _)=_
 rw[take_length,e2,if_neg #[10]]
 show(if 20<(G4 st).length+1 then _ else _)=_
 rw[if_neg #[0]]
 show(if _ then lvS {(P7 (X5 rs st (G4 st).length i "shut") [] i "frame") with bs:=qn9 (P7 (X5 rs st (G4 st).length i "shut") [] i "frame").bs n} else{(P7 (X5 rs st (G4 st).length i "shut") [] i "frame") with bs:=qn9 (P7 (X5 rs st (G4 st).length i "shut") [] i "frame").bs n})=_
 rw[xf9 (Ab5 hne)];rfl
theorem zr0(e:G4 st=ys++[n])(hne:st.bs≠[]):wj4 rs rk st i g n=lvS st:=by
 have:clo rs rk (G4 st) n (G4 st).length=some ys.length:=by
  rw[e,length_append,length_singleton,clo,if_pos]
  unfold gd
  simp
 unfold wj4
 rw[this]
 show lvS (X5 rs st (ys.length+1) i "left")=_
 rw[xf9]
 have:=Ab5 hne
 rw[e,length_append,length_singleton] at this
 omega
theorem Z6.runE(z:Z6 zs st)(hs:E8 rs (some (G8 (G4 st)))≠some #[15])(hh:Q5 rs st=[])(hl:(G4 st).length<=20)(hg:qd9 g.cps.toList g.cps.toList.length=[]):qz1 rs st i g t=txS st i g t:=by
 unfold qz1
 rw[if_neg fun e=>hs e.1,hh,if_neg (by simp;omega)]
 show txS (xa7 (qz0 rs i st) i g) i g t=_
 rw[z.anews]
 unfold xa7
 rw[hg]
 congr 1
 cases st
 simp
mutual
def wP(rs:List Row):Tr->List Nat
 | .tx u=>esc u.cps.toList
 | .nd n ps=>if E8 rs (some n)=some ("bare":Str) then 60::(n.cps.toList++[62]) else 60::(n.cps.toList++62::(wL rs ps++60::47::(n.cps.toList++[62])))
def wL(rs:List Row):List Tr->List Nat
 | []=>[]
 | t::ts=>wP rs t++wL rs ts
end
theorem xs4(rs:List Row):∀ a b:List Tr,wL rs (a++b)=wL rs a++wL rs b
 | [],b=>by rw[wL];rfl
 | t::a,b=>by rw[cons_append,wL,xs4 rs a b,wL,append_assoc]
theorem xg0(rs:List Row)(t:Tr):wL rs [t]=wP rs t:=by rw[wL,wL,append_nil]
def zX(rs:List Row):List (Str×List Tr)->List Nat
 | []=>[]
 | (_,h)::r=>wL rs h++r.flatMap fun p=>60::(p.1.cps.toList++62::wL rs p.2)
theorem zb6(x:List Tr):∀ (pre:List (Str×List Tr)) (a:Str) (h:List Tr),zX rs (pre++[(a,h++x)])=zX rs (pre++[(a,h)])++wL rs x
 | [],a,h=>by show wL rs (h++x)++[]=(wL rs h++[])++_;rw[xs4];simp
 | (b,k)::pre,a,h=>by
   show wL rs k++(pre++[(a,h++x)]).flatMap _=(wL rs k++(pre++[(a,h)]).flatMap _)++_
   rw[flatMap_append,flatMap_append,flatMap_singleton,flatMap_singleton,xs4]
   simp
theorem zr1(hz:zs≠[])(n:Str):zX rs (zs++[(n,[])])=zX rs zs++60::(n.cps.toList++[62]):=by
 obtain⟨⟨a,h⟩,r,rfl⟩:=exists_cons_of_ne_nil hz
 show wL rs h++(r++[(n,[])]).flatMap _=(wL rs h++r.flatMap _)++_
 rw[flatMap_append,flatMap_singleton]
 simp[wL]
theorem Ab7(hb:E8 rs (some n)≠some ("bare":Str))(pre:List (Str×List Tr))(a:Str)(h q:List Tr):zX rs (pre++[(a,h)]++[(n,q)])++60::47::(n.cps.toList++[62])=zX rs (pre++[(a,h++[Tr.nd n q])]):=by
 rw[zb6,xg0,wP,if_neg hb]
 cases pre with
 | nil =>
   show(wL rs h++[(n,q)].flatMap _)++_=(wL rs h++[])++_
   rw[flatMap_singleton]
   simp
 | cons p pre =>
   obtain⟨b,k⟩:=p
   show(wL rs k++(pre++[(a,h)]++[(n,q)]).flatMap _)++_=(wL rs k++(pre++[(a,h)]).flatMap _)++_
   rw[flatMap_append,flatMap_singleton]
   simp
structure W0(rs:List Row)(rk:Str->Nat)(zs:List (Str×List Tr)):Prop where
 g:∃ z r,G6 rs rk z [] zs r/\z.cps.toList=zX rs zs/\(r=true->∃ pre a h u,zs=pre++[(a,h++[Tr.tx u])])
theorem An7(z:Z6 zs st):zs≠[]:=fun e=>z.ne (by have:=z.v;rw[e] at this;exact map_eq_nil_iff.mp this)
theorem G6.ne{ms:List Mnd}{r:Bool}(h:G6 rs rk z ms zs r):zs≠[]:=by
 obtain⟨_,_,_,_,_,q,_⟩:=h;exact An7 q
theorem W0.nil:W0 rs rk [("",[])]:=⟨"",false,G6.nil,rfl,fun e=>by cases e⟩
theorem P2(l:List Nat):(TX.ofL l).cps.toList=l:=by unfold TX.ofL;simp
theorem W0.op(B:Boo rs)(w:W0 rs rk zs)(hn:wr8 n)(h:wr2 rs (zs.tail.map Prod.fst) n=true)(hb:E8 rs (some n)≠some ("bare":Str)):W0 rs rk (zs++[(n,[])]):=by
 obtain⟨z,r,g,ez,_⟩:=w.g
 have g2:=g.step (x:=.op n) (z':=z++opn n) (zs':=zs++[(n,[])]) (dm:=[]) hn (fun _=>rfl) (by rw[qz4,xb4];rfl) fun st q em=>by
  show Z6 _ (opS _ _ _ _ _ _)/\(opS _ _ _ _ _ _).ms=_
  rw[zq9 B q.ne (by rw[q.nms];exact h),if_neg hb]
  exact⟨q.ent,by rw[em];rfl⟩
 exact⟨_,_,g2,by rw[qz4,xb4,ez,zr1 g.ne],fun e=>by cases e⟩
theorem W0.bare(B:Boo rs)(w:W0 rs rk (pre++[(a,ps)]))(hn:wr8 n)(h:wr2 rs ((pre++[(a,ps)]).tail.map Prod.fst) n=true)(hb:E8 rs (some n)=some ("bare":Str)):W0 rs rk (pre++[(a,ps++[.nd n []])]):=by
 obtain⟨z,r,g,ez,_⟩:=w.g
 have g2:=g.step (x:=.op n) (z':=z++opn n) (zs':=pre++[(a,ps++[.nd n []])]) (dm:=[]) hn (fun _=>rfl) (by rw[qz4,xb4];rfl) fun st q em=>by
  show Z6 _ (opS _ _ _ _ _ _)/\(opS _ _ _ _ _ _).ms=_
  rw[zq9 B q.ne (by rw[q.nms];exact h),if_pos hb]
  exact⟨q.ent.lv,by show st.ms=_;rw[em];rfl⟩
 exact⟨_,_,g2,by rw[qz4,xb4,ez,zb6,xg0,wP,if_pos hb],fun e=>by cases e⟩
theorem W0.cl(w:W0 rs rk (pre++[(a,ps)]++[(n,q')]))(hn:wr8 n)(hb:E8 rs (some n)≠some ("bare":Str)):W0 rs rk (pre++[(a,ps++[.nd n q'])]):=by
 obtain⟨z,r,g,ez,_⟩:=w.g
 have g2:=g.step (x:=.cl n) (z':=z++cls n) (zs':=pre++[(a,ps++[.nd n q'])]) (dm:=[]) hn (fun _=>rfl) (by rw[qz4,yh4];rfl) fun st q em=>by
  show Z6 _ (wj4 _ _ _ _ _ _)/\(wj4 _ _ _ _ _ _).ms=_
  rw[zr0 (ys:=((pre++[(a,ps)]).tail.map Prod.fst)) (by rw[q.nms,tail_append_of_ne_nil (by simp),map_append];rfl) q.ne]
  exact⟨q.lv,by show st.ms=_;rw[em];rfl⟩
 exact⟨_,_,g2,by rw[qz4,yh4,ez,Ab7 hb],fun e=>by cases e⟩
theorem W0.word(w:W0 rs rk (pre++[(a,ps)]))(hu:1<=u.length)(hl:(pre++[(a,ps)]).tail.length<=20)(hs:E8 rs (some (G8 ((pre++[(a,ps)]).tail.map Prod.fst)))≠some #[15])(hp:∀ v,ps.getLast?≠some (.tx v)):W0 rs rk (pre++[(a,ps++[.tx u])]):=by
 obtain⟨z,r,g,ez,hr⟩:=w.g
 have hr0:r=false:=by
  cases r with
  | false=>rfl
  | true =>
    obtain⟨pre',a',h',v,e⟩:=hr rfl
    have:=(append_inj' e rfl).2
    have e2:ps=h'++[.tx v]:=congrArg Prod.snd (List.cons.inj this).1
    exact absurd (by rw[e2,getLast?_concat]) (hp v)
 subst hr0
 have ee:(TX.ofL (esc u.cps.toList)).cps.toList=esc u.cps.toList:=P2 _
 have hh:L8 rs (G8 ((pre++[(a,ps)]).tail.map Prod.fst))=[]:=we6 (by
  unfold Q0
  unfold E8 at hs
  cases e:N0 rs (some (G8 ((pre++[(a,ps)]).tail.map Prod.fst))) with
  | none=>rfl
  | some r =>
    rw[e] at hs
    show(if r.sort=#[15] then some r.host else none)=none
    rw[if_neg fun z=>hs (by rw[<-z];rfl)])
 have ok:Pq.ok (.rn (TX.ofL (esc u.cps.toList)) u):=by
  refine⟨yq2 fun c hc e=>?_,?_,?_⟩
  ·rw[ee] at hc;rw[e] at hc;exact xs3 _ hc
  ·rw[<-M4,ee]
   have h1:=M4 u
   cases hx:esc u.cps.toList with
   | nil=>rw[zy3.mp hx] at h1;simp at h1;omega
   | cons=>simp
  ·rw[ee,xb5,yh3]
 have g2:=g.step (x:=.rn (TX.ofL (esc u.cps.toList)) u) (z':=z++TX.ofL (esc u.cps.toList)) (zs':=pre++[(a,ps++[.tx u])]) (dm:=[]) ok (fun e=>by cases e) (qz4 _ _) fun st q em=>by
  show Z6 _ (qz1 _ _ _ _ _)/\(qz1 _ _ _ _ _).ms=_
  rw[q.runE (by rw[q.nms];exact hs) (by unfold Q5;rw[q.nms];exact hh) (by rw[q.nms,length_map];exact hl) (by rw[ee];exact zg6 _ _)]
  have:=q.tx (i:=z.length) (g:=TX.ofL (esc u.cps.toList)) (t:=u)
  have ea:adP ps u=ps++[.tx u]:=by
   unfold adP
   cases e:ps.getLast? with
   | none=>rfl
   | some x=>cases x with
     | tx v=>exact absurd e (hp v)
     | nd=>rfl
  rw[ea] at this
  exact⟨this,by show st.ms=_;rw[em];rfl⟩
 exact⟨_,_,g2,by rw[qz4,ee,ez,zb6,xg0,wP],fun _=>⟨_,_,_,_,rfl⟩⟩
variable{h:List Tr}
theorem W0.fin(w:W0 rs rk [("",h)]):rtS (rdS rs rk (TX.ofL (wL rs h)))=h/\(rdS rs rk (TX.ofL (wL rs h))).ms=[]:=by
 obtain⟨z,r,g,ez,_⟩:=w.g
 have e:z=TX.ofL (wL rs h):=by
  rw[O8,ez,P2]
  show wL rs h++[]=_
  simp
 rw[<-e]
 obtain⟨qs,h1,h2,h3,h4,h5,h6⟩:=g
 unfold rdS
 rw[zx9 h1 h2 h3]
 generalize pq rs rk 0 qs st0=st at *
 have hl:st.bs.length=1:=by have:=congrArg List.length h5.v;rw[length_map] at this;exact this
 rw[xf9 #[0]]
 refine⟨?_,h6⟩
 obtain⟨b,eb⟩:=length_eq_one_iff.mp hl
 have:=h5.v
 rw[eb] at this
 unfold rtS
 rw[eb]
 exact congrArg Prod.snd (List.cons.inj this).1
end
abbrev xs5(K:Fg):TS :=
 (C8 (tOp #[40] (tOp (rI0 fun i j=>.int (i-j)) (A7 0) #[1,1]) #[1,95]) (B3 0))
abbrev xs6(K:Fg):TS :=
 (B9 (C8 (tOp (E7 K) (A7 2) (tOp (D2 K) (A7 1) (tOp #[2] (tOp (rI0 fun i j=>.int (i-j)) (A7 0) #[1,1]) #[1,95]))) (B3 2))
 (xs5 K))
abbrev xs7(K:Fg):TS :=
 (B9 (qf4 (wj9 (A3 #[1,9] B1)) (B3 3)
 (N1 (C5 (tOp wq9 (A7 0) #[1,0]))
 (xs6 K) J5))
 (E3 (A7 2)))
def qe3(K:Fg):Sp:=fun vs H Q _=>∃ x:Int,vs=[.int x]/\∀ u:Str,u.length<=9->Q (.str u) H
def qh9(K:Fg):TS :=
 (B9 (C8 (tC (.str (" !\"#$&'()*+,-./0123456789:;<=>?@ABCDEFGHIJKLMNOPQRSTUVWXYZ[\\]^_`abcdefghijklmnopqrstuvwxyz{|}~\n":Str))) (B3 1))
 (B9 (C8 (tC (.str "")) (B3 2))
 (xs7 K)))
theorem xw8(h:qe3 K vs H Q E):qh9 K {nx:=fun _ H'=>Q .non H',rt:=Q} (C9 ["_law_number","_law_some","_law_text","_law_k"] vs) H:=by
 obtain⟨x,rfl,q⟩:=h
 show qh9 K _ [some (.int x),none,none,none] H
 unfold qh9
 lk
 refine wa1 #[10] #[10] (fun i σ H'=>H'=H/\∃ (x:Int) (u:Str) (a:Option V),u.length<=i/\σ=[some (.int x),some (.str (" !\"#$&'()*+,-./0123456789:;<=>?@ABCDEFGHIJKLMNOPQRSTUVWXYZ[\\]^_`abcdefghijklmnopqrstuvwxyz{|}~\n":Str)),some (.str u),a]) ⟨rfl,x, "",none,Nat.le_refl _,rfl⟩ ?_ ?_
 ·rintro i σ H' hi ⟨rfl,x,u,a,hu,rfl⟩
  lk
  by_cases hx:0<x
  ·rw[decide_eq_true (by exact hx)]
   x_go
   lk
   have h0:=Int.emod_nonneg (x-1) (show(95:Int)≠0 by decide)
   have h1:=Int.emod_lt_of_pos (x-1) (show(0:Int)<95 by decide)
   obtain⟨k,hk⟩:=Int.eq_ofNat_of_zero_le h0
   rw[hk] at h1 ⊢
   have hl:k<((" !\"#$&'()*+,-./0123456789:;<=>?@ABCDEFGHIJKLMNOPQRSTUVWXYZ[\\]^_`abcdefghijklmnopqrstuvwxyz{|}~\n":Str):Str).cps.toList.length:=by
    have:((" !\"#$&'()*+,-./0123456789:;<=>?@ABCDEFGHIJKLMNOPQRSTUVWXYZ[\\]^_`abcdefghijklmnopqrstuvwxyz{|}~\n":Str):Str).cps.toList.length=95:=by decide +kernel
    omega
   refine zk7 #[17] (D3 (List.getElem?_eq_getElem hl)) ?_
   refine xd8 (by rw[sizeLine_eq];show _+1<=_;omega) ?_
   lk
   exact⟨rfl,_,_,_,by rw[wz2];show _+1<=_;omega,rfl⟩
  ·rw[decide_eq_false (by exact hx)]
   k_go
   exact⟨rfl,_,_,_,by omega,rfl⟩
 ·rintro σ H' ⟨rfl,x,u,a,hu,rfl⟩
  lk
  exact q u hu
abbrev xw9(K:Fg):TS :=
 (E3 (tOp (E7 K) (tOp (D2 K) (A7 3) (tOp #[2] (A7 1) #[1,13])) (tOp (D2 K) (A7 3) (tOp #[2] (tOp #[40] (A7 1) #[1,16]) #[1,13]))))
abbrev wt0(K:Fg):TS :=
 (B9 (C8 (T8 (ya2 [("a":Str),("b c":Str),(" ":Str),("x<y":Str),("&":Str),("tea &l;":Str),("\n":Str),("<p>":Str),("</p>":Str),(">":Str),("0  1":Str),("&a;":Str),("q":Str)])) (B3 3))
 (xw9 K))
abbrev wt1(K:Fg):TS :=
 (B9 (N1 (qm7 (C5 (tOp (P9 K) (tOp #[2] (tOp #[40] (A7 1) #[1,256]) #[1,2]) #[1,1])) (C5 (tOp (qq5 K) (A7 2) (tC (.str "")))))
 (E3 (A7 2)) J5)
 (wt0 K))
def qs3(K:Fg):Sp:=fun vs H Q _=>∃ c n:Int,vs=[.int c,.int n]/\∀ (u:Str) (H':Hp),1<=u.length->u.length<=18->A9 H H'->Q (.str u) H'
def qx9(K:Fg):TS :=
 (B9 (C8 (tOp (E7 K) (C3 (qe3 K) [] E0 (A3 (C3 (J0 K) [] E0 (A3 (A7 0) (A3 #[1,3] B1))) B1)) (C3 (qe3 K) [] E0 (A3 (C3 (J0 K) [] E0 (A3 (A7 0) (A3 #[1,4] B1))) B1))) (B3 2))
 (wt1 K))
theorem yi4(h:qs3 K vs H Q E):qx9 K {nx:=fun _ H'=>Q .non H',rt:=Q} (C9 ["_law_cell","_law_number","_law_text","_law_some"] vs) H:=by
 obtain⟨c,n,rfl,q⟩:=h
 show qx9 K _ [some (.int c),some (.int n),none,none] H
 unfold qx9
 lk
 refine⟨c,3,rfl,by decide,by decide,fun n3 _=>?_⟩
 lk
 refine⟨n3,rfl,fun u1 h1=>?_⟩
 lk
 refine⟨c,4,rfl,by decide,by decide,fun n4 _=>?_⟩
 lk
 refine⟨n4,rfl,fun u2 h2=>?_⟩
 refine xd8 #[71] ?_
 refine D6 ?_
 have hl:=wz2 u1 u2
 generalize u1++u2=u at *
 have word:wt0 K {nx:=fun _ H'=>Q .non H',rt:=Q} [some (.int c),some (.int n),some (.str u),none] H:=by
  lk
  refine⟨D5 (by rw[B7];decide),fun l hl=>?_⟩
  have s1:=A9.new hl (.lst #[47])
  have e1:(upd H l (.lst #[47])) l=_:=A8
  generalize upd H l (.lst #[47])=H1 at *
  lk
  have at13:∀ j:Int,∃ w:Str,atI #[47] (j % 13)=some (.str w)/\1<=w.length/\w.length<=7:=fun j=>by
   have h0:=Int.emod_nonneg j (show(13:Int)≠0 by decide)
   have h1:=Int.emod_lt_of_pos j (show(0:Int)<13 by decide)
   obtain⟨k,hk⟩:=Int.eq_ofNat_of_zero_le h0
   rw[hk] at h1 ⊢
   have hk13:k<13:=by omega
   refine⟨gd [("a":Str), "b c"," ","x<y","&","tea &l;","\n","<p>","</p>",">","0  1","&a;","q"] k,qf7 (by show k<13;exact hk13),?_⟩
   have:∀ k,k<13->1<=(gd [("a":Str), "b c"," ","x<y","&","tea &l;","\n","<p>","</p>",">","0  1","&a;","q"] k).length/\(gd [("a":Str), "b c"," ","x<y","&","tea &l;","\n","<p>","</p>",">","0  1","&a;","q"] k).length<=7:=by decide +kernel
   exact this k hk13
  obtain⟨w1,a1,b1,c1⟩:=at13 n
  obtain⟨w2,a2,b2,c2⟩:=at13 (n / 16)
  refine L7 #[59,e1] a1 ?_
  lk
  refine L7 #[59,e1] a2 ?_
  refine xd8 #[71] ?_
  exact q _ _ (by rw[wz2];omega) (by rw[wz2];omega) s1
 show wt1 K _ [some (.int c),some (.int n),some (.str u),none] H
 refine qf6 ?_
 refine wg8 ?_
 refine qo8 ?_
 lk
 by_cases h1:n / 256 % 2=1
 ·rw[decide_eq_true h1]
  x_go
  lk
  by_cases h2:u=("":Str)
  ·rw[decide_eq_true h2]
   k_go
   exact word
  ·rw[decide_eq_false h2]
   x_go
   lk
   refine q u H ?_ #[0] (A9.refl H)
   have:u.length≠0:=fun e=>h2 ((O8 _ _).mpr (by
    have e2:=M4 u
    rw[e] at e2
    rw[eq_nil_of_length_eq_zero e2];rfl))
   omega
 ·rw[decide_eq_false h1]
  k_go
  k_go
  exact word
abbrev xg1(K:Fg):TS :=
 (C8 (tOp (E7 K) (A7 1) (yt8 (zz5 [((tC (.str "<")),(tC (.str "&l;"))),((tC (.str "&")),(tC (.str "&a;")))]) (A7 2) (A7 2))) (B3 1))
def qf1(K:Fg):Sp:=fun vs H Q _=>∃ z:Str,vs=[.str z]/\z.length<=30000/\∀ H',A9 H H'->Q (.str (TX.ofL (esc z.cps.toList))) H'
def qi0(K:Fg):TS :=
 (B9 (C8 (tC (.str "")) (B3 1))
 (B9 (qf4 (zl4 (A7 0)) (B3 2)
 (xg1 K))
 (E3 (A7 1))))
theorem xl2(h:qf1 K vs H Q E):qi0 K {nx:=fun _ H'=>Q .non H',rt:=Q} (C9 ["_law_text","_law_told","_law_sign"] vs) H:=by
 obtain⟨z,rfl,hz,q⟩:=h
 show qi0 K _ [some (.str z),none,none] H
 unfold qi0
 lk
 have hl:z.cps.toList.length=z.cps.size:=Array.length_toList
 have hz':z.cps.size<=30000:=hz
 refine zv0 (fun i σ H'=>A9 H H'/\∃ (w:Str) (a:Option V),σ=[some (.str z),some (.str w),a]/\w.cps.toList=esc (z.cps.toList.take i)) ⟨A9.refl H, "",none,rfl,rfl⟩ ?_ ?_
 ·rintro i c σ H' hc ⟨s,w,a,rfl,hw⟩
  have hi:i<z.cps.toList.length:=(List.getElem?_eq_some_iff.mp hc).1
  have wl:w.length<=90000:=by
   have h1:=yi2 (z.cps.toList.take i)
   rw[<-hw,Array.length_toList] at h1
   have h2:(z.cps.toList.take i).length<=z.cps.toList.length:=by rw[length_take];omega
   have h3:w.cps.size<=90000:=by omega
   exact h3
  have tk:z.cps.toList.take (i+1)=z.cps.toList.take i++[c]:=by rw[take_add_one,hc];rfl
  have e1:(⟨#[c]⟩:Str) = "<"↔c=60:=by
   rw[O8];show[c]=[60]↔_;simp
  have e2:(⟨#[c]⟩:Str) = "&"↔c=38:=by
   rw[O8];show[c]=[38]↔_;simp
  lk
  unfold yt8
  intro p hp
  unfold xd3
  lk
  unfold xd3
  lk
  unfold xd3
  refine⟨A8,[(.inr ("<":Str),.str "&l;"),(.inr ("&":Str),.str "&a;")],rfl,by decide,?_⟩
  have s2:=A9.new hp (.dK #[73])
  have ed:upd (upd H' p (.dK [])) p (.dK #[73])=upd H' p (.dK #[73]):=zr5
  rw[ed]
  refine⟨p,rfl,.inl ⟨_,.inl A8⟩,?_⟩
  lk
  refine⟨_,yl4.k (k:=.inr ⟨#[c]⟩) A8,?_⟩
  have ev:(qs8 #[73] (Sum.inr (⟨#[c]⟩:Str):Key)).getD (.str ⟨#[c]⟩)=.str (TX.ofL (if c=60 then TX.El else if c=38 then TX.Ea else[c])):=by
   show(qs8 (wj2 (wj2 [] (.inr ("<":Str)) (.str "&l;")) (.inr ("&":Str)) (.str "&a;")) (Sum.inr (⟨#[c]⟩:Str):Key)).getD _=_
   rw[yl2,yl2]
   by_cases h1:c=60
   ·subst h1;rfl
   ·rw[if_neg h1]
    by_cases h2:c=38
    ·subst h2;rfl
    ·rw[if_neg h2,if_neg (fun e=>h2 (e2.mp (Sum.inr.inj e))),if_neg (fun e=>h1 (e1.mp (Sum.inr.inj e)))];rfl
  rw[ev]
  have hw3:(TX.ofL (if c=60 then TX.El else if c=38 then TX.Ea else[c])).length<=3:=by
   rw[<-M4,P2]
   split
   ·decide
   split
   ·decide
   ·simp
  refine xd8 #[71] ?_
  lk
  refine⟨A9.tr s s2,_,_,rfl,?_⟩
  rw[tk,zq7,qz4,hw,P2]
 ·rintro σ H' ⟨s,w,a,rfl,hw⟩
  lk
  rw[take_of_length_le (by rw[hl];exact Nat.le_refl _)] at hw
  have:w=TX.ofL (esc z.cps.toList):=by rw[O8,hw,P2]
  rw[this]
  exact q _ s
theorem xs9:∀ {ts:List Tr} {t:Tr},t∈ts->hgt t<=X4 ts
 | u::ts,t,h=>by
   rw[X4]
   rcases mem_cons.mp h with rfl|h
   ·exact Nat.le_max_left _ _
   ·exact Nat.le_trans (xs9 h) (Nat.le_max_right _ _)
mutual
def rwT(rs:List Row):Tr->Prop
 | .tx _=>True
 | .nd n ps=>(∃ r,N0 rs (some n)=some r)/\qu2 rs ps
def qu2(rs:List Row):List Tr->Prop
 | []=>True
 | t::ts=>rwT rs t/\qu2 rs ts
end
theorem yr2{rs:List Row}:∀ {ts:List Tr} {t:Tr},qu2 rs ts->t∈ts->rwT rs t
 | u::ts,t,h,hm=>by
   rw[qu2] at h
   rcases mem_cons.mp hm with rfl|hm
   ·exact h.1
   ·exact yr2 h.2 hm
theorem xt0{rs:List Row}:∀ {a b:List Tr},qu2 rs a->qu2 rs b->qu2 rs (a++b)
 | [],b,_,h=>h
 | t::a,b,h,h2=>by
   rw[qu2] at h
   rw[cons_append,qu2]
   exact⟨h.1,xt0 h.2 h2⟩
theorem zr2:∀ l:List Nat,l.length<=(esc l).length
 | []=>Nat.le_refl _
 | c::l=>by
   have:=zr2 l
   rw[esc,length_append,length_cons]
   split
   ·show _<=3+_;omega
   split
   ·show _<=3+_;omega
   ·show _<=1+_;omega
theorem zy5(z:Str)(w:List Nat):TX.ofL w++z=TX.ofL (w++z.cps.toList):=by rw[O8,qz4,P2,P2]
theorem qu3{w:List Nat}(hz:w.length+x.length<=100000)(h:Q (.str (TX.ofL (w++x.cps.toList))) H):E7 K (.str (TX.ofL w)) (.str x) H Q:=xd8 (by rw[wq5,sizeLine_eq];omega) (by rw[zy5];exact h)
abbrev xg3(K:Fg):TS :=
 (C8 (tOp (E7 K) (tOp (E7 K) (tOp (E7 K) (A7 2) (tC (.str "<"))) #[20,3]) (tC (.str ">"))) (B3 2))
abbrev xg4(K:Fg)(spr:Sp):TS :=
 (C8 (tOp (E7 K) (tOp (E7 K) (tOp (E7 K) (tOp (E7 K) (tOp (E7 K) (tOp (E7 K) (tOp (E7 K) (A7 2) (tC (.str "<"))) #[20,3]) (tC (.str ">"))) (C3 spr [] E0 (A3 (A7 0) #[3,3]))) (tC (.str "</"))) #[20,3]) (tC (.str ">"))) (B3 2))
abbrev xg5(K:Fg)(spr:Sp):TS :=
 (N1 (C5 (tOp (P9 K) (tOp (D2 K) (C3 (M9 K) [] E0 (A3 (A7 0) (A3 #[20,3] B1))) #[1,1]) (tC (.str "bare"))))
 (xg3 K) (xg4 K spr))
abbrev xg6(K:Fg)(spr:Sp):TS :=
 (N1 (tB (tCB (wy6 K) (A3 (A7 3) (A3 (tC (.ty "str")) B1))))
 (C8 (tOp (E7 K) (A7 2) (C3 (qf1 K) [] E0 #[3,3])) (B3 2)) (xg5 K spr))
abbrev xg7(K:Fg)(spr:Sp):TS :=
 (B9 (qf4 (qq7 K #[39,1]) (B3 3)
 (xg6 K spr))
 (E3 (A7 2)))
def U9(n:Nat)(K:Fg):Sp:=fun vs H Q _=>∃ (bv v:V) (rs:List Row) (k:Str) (ps:List Tr),vs=[bv,v]/\Rws K H bv rs/\Dv K H (Tr.nd k ps).da v/\qu2 rs ps/\hgt (Tr.nd k ps)<=n/\(wL rs ps).length<=9000/\∀ H',A9 H H'->Q (.str (TX.ofL (wL rs ps))) H'
def wh0(K:Fg):Sp:=U9 85 K
def T3(K:Fg):Nat->Sp
 | 0=>fun _ _ _ _=>False
 | n+1=>U9 n K
def Z7(K:Fg)(spr:Sp):TS :=
 (B9 (C8 (tC (.str "")) (B3 2))
 (xg7 K spr))
theorem wh1(n:Nat)(h:U9 n K vs H Q E):Z7 K (T3 K n) {nx:=fun _ H'=>Q .non H',rt:=Q} (C9 ["_law_book_here","_law_tree","_law_text","_law_part"] vs) H:=by
 obtain⟨bv,v,rs,k,ps,rfl,hR,hd,hrw,hh,hw,q⟩:=h
 show Z7 K _ _ [some bv,some v,none,none] H
 unfold Z7
 obtain⟨a,bq,us,rfl,ha,hb,hus⟩:=wz3 hd
 obtain⟨m,rfl⟩:∃ m,n=m+1:=⟨n-1,by rw[hgt] at hh;omega⟩
 rw[hgt] at hh
 lk
 refine G1 ha (v:=.ref bq) (D3 (j:=1) rfl) ?_
 refine wa3 (H0:=H) (xs:=us) (.inr hb) (A9.refl H) (fun i σ H'=>∃ x,σ=[some bv,some (.ref a),some (.str (TX.ofL (wL rs (ps.take i)))),x]/\A9 H H') ⟨none,by rw[take_zero,wL];rfl,A9.refl H⟩ (fun i σ H' ⟨_,_,s⟩=>s) ?_ ?_
 ·rintro i v σ H1 hv ⟨x,rfl,s1⟩
  obtain⟨d,h1,h2⟩:=hus.get' hv
  rw[X7,List.getElem?_map] at h1
  obtain⟨t,ht,rfl⟩:=Option.map_eq_some_iff.mp h1
  have hm:=mem_of_getElem? ht
  have dv:=Dv.same s1 _ _ h2
  have et:wL rs (ps.take (i+1))=wL rs (ps.take i)++wP rs t:=by rw[qt6 ht,xs4,xg0]
  have hl:(wL rs (ps.take i)).length+(wP rs t).length<=9000:=by
   have:wL rs ps=wL rs (ps.take (i+1))++wL rs (ps.drop (i+1)):=by rw[<-xs4,take_append_drop]
   rw[this,et,length_append,length_append] at hw
   omega
  have hl0:(wL rs (ps.take i)).length<=9000:=by omega
  refine D6 ?_
  refine wg8 ?_
  lk
  refine ye9 dv ?_
  lk
  cases t with
  | tx u =>
    rw[Aa9 dv]
    x_go
    rw[wP] at hl
    have hul:=zr2 u.cps.toList
    rw[M4] at hul
    lk
    refine⟨u,rfl,by omega,fun H2 s2=>?_⟩
    refine qu3 (by rw[wq5];omega) ?_
    refine D6 ?_
    refine⟨some (.str u),?_,A9.tr s1 s2⟩
    rw[et,wP,P2];rfl
  | nd k ps' =>
    k_go
    obtain⟨⟨r,er⟩,hrw'⟩:(∃ r,N0 rs (some k)=some r)/\qu2 rs ps':=by have:=yr2 hrw hm;rw[rwT] at this;exact this
    obtain⟨a',bq',us',rfl,ha',hb',hus'⟩:=wz3 dv
    have hgt':=xs9 hm
    have hk:=M4 k
    have es:E8 rs (some k)=some r.sort:=by unfold E8;rw[er];rfl
    refine wg8 ?_
    lk
    refine G1 ha' (v:=.str k) (D3 (j:=0) rfl) ?_
    lk
    refine⟨bv,some k,rs,rfl,hR.same s1,fun e=>(by rw[er] at e;cases e),fun r' u e du=>?_⟩
    rw[er] at e
    obtain rfl:=Option.some.inj e
    obtain⟨rb,_,_,rfl,hrb,_,_⟩:=R7 du
    lk
    refine G1 hrb (v:=.str r.sort) (D3 (j:=1) rfl) ?_
    lk
    have hkl:k.length<=9000:=by
     have:k.length<=(wP rs (Tr.nd k ps')).length:=by
      rw[wP]
      have:=M4 k
      split
      ·rw[length_cons,length_append];omega
      ·rw[length_cons,length_append];omega
     omega
    by_cases hb:r.sort=("bare":Str)
    ·rw[decide_eq_true hb]
     x_go
     have ew:wP rs (Tr.nd k ps')=60::(k.cps.toList++[62]):=by rw[wP,if_pos (by rw[es,hb])]
     rw[ew] at hl et
     walk_at"29"
     refine D6 ?_
     refine⟨some (.ref a'),?_,s1⟩
     rw[et,append_assoc,append_assoc];rfl
    ·rw[decide_eq_false hb]
     k_go
     have ew:wP rs (Tr.nd k ps')=60::(k.cps.toList++62::(wL rs ps'++60::47::(k.cps.toList++[62]))):=by rw[wP,if_neg (by rw[es];exact fun e=>hb (Option.some.inj e))]
     rw[ew] at hl et
     have hl2:(wL rs (ps.take i)).length+(k.length+2+(wL rs ps').length+k.length+3)<=9000:=by
      have:=M4 k
      simp only[length_cons,length_append,length_nil] at hl
      omega
     walk_at"29"
     lk
     refine⟨bv,.ref a',rs,k,ps',rfl,hR.same s1,dv,hrw',by omega,by omega,fun H2 s2=>?_⟩
     refine qu3 (by simp only[length_append,wq5,hk];show _+1+_+1+_<=_;omega) ?_
     lk
     refine qu3 (by simp only[length_append,P2,hk];show _+1+_+1+_+2<=_;omega) ?_
     lk
     refine G1 (s2.sqT ha') (v:=.str k) (D3 (j:=0) rfl) ?_
     refine qu3 (by simp only[length_append,P2,hk];show _+1+_+1+_+2+_<=_;omega) ?_
     lk
     refine qu3 (by simp only[length_append,P2,hk];show _+1+_+1+_+2+_+1<=_;omega) ?_
     refine D6 ?_
     refine⟨some (.ref a'),?_,A9.tr s1 s2⟩
     rw[et,P2]
     simp only[append_assoc];rfl
 ·rintro σ H1 ⟨x,rfl,s1⟩
  have:us.length=ps.length:=qm0 hus
  rw[this,take_length]
  lk
  exact q _ s1
abbrev xg8(K:Fg)(spr:Sp):TS :=
 (N1 (qm7 (ww9 (tB (tCB (wy6 K) (A3 (A7 1) (A3 (tC (.ty "str")) B1))))) (ww9 (tB (C3 spr [] E0 #[3,1]))))
 (E3 (tC (.bl false))) J5)
abbrev xg9(K:Fg)(spr:Sp):TS :=
 (B9 (qf4 (qq7 K #[39,0]) (B3 1)
 (xg8 K spr))
 (E3 (tC (.bl true))))
abbrev xh0(K:Fg)(spr:Sp):TS :=
 (B9 (N1 (ww9 (tB (tCB (wy6 K) (A3 #[39,0] (A3 (tC (.ty "tuple")) B1)))))
 (E3 (tC (.bl false))) J5)
 (xg9 K spr))
def V0(n:Nat)(K:Fg):Sp:=fun vs H Q _=>∃ (v:V) (k:Str) (ps:List Tr),vs=[v]/\Dv K H (Tr.nd k ps).da v/\hgt (Tr.nd k ps)<=n/\Q (.bl true) H
def wh2(K:Fg):Sp:=V0 85 K
def T4(K:Fg):Nat->Sp
 | 0=>fun _ _ _ _=>False
 | n+1=>V0 n K
def Z8(K:Fg)(spr:Sp):TS :=
 (B9 (N1 (tOr (ww9 (tB (tCB (wy6 K) (A3 (A7 0) (A3 (tC (.ty "tuple")) B1))))) (tOr (C5 (tOp (qq5 K) (tCB (O3 K) #[3,0]) #[1,2])) (ww9 (tB (tCB (wy6 K) (A3 #[20,0] (A3 (tC (.ty "str")) B1)))))))
 (E3 (tC (.bl false))) J5)
 (xh0 K spr))
theorem wh3(n:Nat)(h:V0 n K vs H Q E):Z8 K (T4 K n) {nx:=fun _ H'=>Q .non H',rt:=Q} (C9 ["_law_found","_law_part"] vs) H:=by
 obtain⟨v,k,ps,rfl,hd,hh,q⟩:=h
 show Z8 K _ _ [some v,none] H
 unfold Z8
 obtain⟨a,bq,us,rfl,ha,hb,hus⟩:=wz3 hd
 obtain⟨m,rfl⟩:∃ m,n=m+1:=⟨n-1,by rw[hgt] at hh;omega⟩
 rw[hgt] at hh
 lk
 refine ye1 ha (b:=true) rfl ?_
 lk
 k_go
 lk
 refine N8 (.inr ha) ?_
 lk
 rw[show decide ((([V.str k,V.ref bq].length:Nat):Int)=2)=true from rfl]
 k_go
 lk
 refine G1 ha (v:=.str k) (D3 (j:=0) rfl) ?_
 lk
 refine zl1 (.str _) (b:=true) rfl ?_
 lk
 k_go
 lk
 refine G1 ha (v:=.ref bq) (D3 (j:=1) rfl) ?_
 lk
 refine ye1 hb (b:=true) rfl ?_
 lk
 k_go
 lk
 refine G1 ha (v:=.ref bq) (D3 (j:=1) rfl) ?_
 refine wa3 (H0:=H) (xs:=us) (.inr hb) (A9.refl H) (fun i σ H'=>∃ x,σ=[some (.ref a),x]/\H'=H) ⟨none,rfl,rfl⟩ (fun i σ H' ⟨_,_,e⟩=>e▸A9.refl H) ?_ ?_
 ·rintro i v σ H1 hv ⟨x,rfl,rfl⟩
  obtain⟨d,h1,h2⟩:=hus.get' hv
  rw[X7,List.getElem?_map] at h1
  obtain⟨t,ht,rfl⟩:=Option.map_eq_some_iff.mp h1
  have hm:=mem_of_getElem? ht
  refine D6 ?_
  lk
  refine ye9 h2 ?_
  lk
  cases t with
  | tx u =>
    k_go
    k_go
    exact⟨_,rfl,rfl⟩
  | nd k' ps' =>
    x_go
    lk
    refine⟨v,k',ps',rfl,h2,?_,?_⟩
    ·have:=xs9 hm;omega
    ·lk
     exact⟨_,rfl,rfl⟩
 ·rintro σ H1 ⟨x,rfl,rfl⟩
  lk
  exact q
structure I0(rs:List Row)(rk:Str->Nat)(zs:List (Str×List Tr))(ys:List Str)(hs:List (List Tr))(made j:Nat):Prop where
 e:zs.map Prod.fst=("":Str)::ys
 e2:zs.map Prod.snd=hs
 w:W0 rs rk zs
 b:(zX rs zs).length+11*ys.length<=21*made+60*j
 c:∀ h∈hs,h.length+ys.length<=made+j
 r:∀ h∈hs,qu2 rs h
 y:∀ y∈ys,∃ r,N0 rs (some y)=some r/\r.sort≠("bare":Str)/\wr8 y
 l:ys.length<=20
section
variable{rs:List Row}{rk:Str->Nat}{zs:List (Str×List Tr)}{ys:List Str}{hs ws:List (List Tr)}{h w1 w2:List Tr}{made j:Nat}{n:Str}{r:Row}
theorem I0.tail(i:I0 rs rk zs ys hs made j):zs.tail.map Prod.fst=ys:=by rw[map_tail,i.e];rfl
theorem I0.last(i:I0 rs rk zs ys (hs++[h]) made j):∃ pre a,zs=pre++[(a,h)]/\pre.map Prod.snd=hs:=by
 obtain⟨pre,q,e1,e2,e3⟩:=map_eq_append_iff.mp i.e2
 obtain⟨x,q',rfl,rfl,e4⟩:=map_eq_cons_iff.mp e3
 have:=map_eq_nil_iff.mp e4
 subst this
 exact⟨pre,x.1,e1,e2⟩
theorem I0.nil:I0 rs rk [("",[])] [] [[]] 0 0 :=
 ⟨rfl,rfl,W0.nil,by show(wL rs []++[]).length+_<=_;rw[wL];simp,fun h hh=>by rw[mem_singleton.mp hh];simp,fun h hh=>by rw[mem_singleton.mp hh,qu2];trivial,fun y hy=>(by cases hy),Nat.zero_le _⟩
theorem I0.mono(i:I0 rs rk zs ys hs made j):I0 rs rk zs ys hs made (j+1):=⟨i.e,i.e2,i.w,by have:=i.b;omega,fun h hh=>by have:=i.c h hh;omega,i.r,i.y,i.l⟩
theorem xm9(hr:N0 rs (some n)=some r):E8 rs (some n)=some ("bare":Str)↔r.sort=("bare":Str):=by
 unfold E8
 rw[hr]
 exact⟨fun e=>Option.some.inj e,fun e=>by show some r.sort=_;rw[e]⟩
theorem I0.op(B:Boo rs)(i:I0 rs rk zs ys hs made j)(hn:wr8 n)(hm:wr2 rs ys n=true)(hr:N0 rs (some n)=some r)(nb:r.sort≠("bare":Str)):I0 rs rk (zs++[(n,[])]) (ys++[n]) (hs++[[]]) (made+1) j:=by
 have hne:zs≠[]:=fun e=>by have:=i.e;rw[e] at this;cases this
 obtain⟨h0,hh0⟩:∃ h,h∈hs:=by
  rw[<-i.e2]
  obtain⟨x,q,rfl⟩:=exists_cons_of_ne_nil hne
  exact⟨x.2,by simp⟩
 have c0:=i.c h0 hh0
 obtain⟨_,_,h19,_⟩:=yi3 hm
 refine⟨by rw[map_append,i.e];rfl,by rw[map_append,i.e2];rfl,i.w.op B hn (by rw[i.tail];exact hm) (fun e=>nb ((xm9 hr).mp e)),?_,fun h hh=>?_,fun h hh=>?_,fun y hy=>?_,by simp;omega⟩
 ·rw[zr1 hne]
  simp only[length_append,length_cons,length_nil,M4]
  have:=i.b
  have:=hn.n8
  omega
 ·rw[length_append,length_singleton]
  rcases mem_append.mp hh with hh|hh
  ·have:=i.c h hh;omega
  ·rw[mem_singleton.mp hh];simp;omega
 ·rcases mem_append.mp hh with hh|hh
  ·exact i.r h hh
  ·rw[mem_singleton.mp hh,qu2];trivial
 ·rcases mem_append.mp hy with hy|hy
  ·exact i.y y hy
  ·rw[mem_singleton.mp hy];exact⟨r,hr,nb,hn⟩
theorem I0.upd{pre:List (Str×List Tr)}{a:Str}{x:List Tr}{j' made':Nat}(i:I0 rs rk (pre++[(a,h)]) ys (hs++[h]) made j)(ep:pre.map Prod.snd=hs)(w:W0 rs rk (pre++[(a,h++x)]))(hx:qu2 rs x)(hl:x.length<=1)(hb:(wL rs x).length+21*made+60*j<=21*made'+60*j')(hj:made+j+1<=made'+j'):I0 rs rk (pre++[(a,h++x)]) ys (hs++[h++x]) made' j':=by
 have ei:=i.e
 rw[map_append] at ei
 refine⟨by rw[map_append];exact ei,by rw[map_append,ep];rfl,w,?_,fun k hk=>?_,fun k hk=>?_,i.y,i.l⟩
 ·rw[zb6,length_append]
  have:=i.b
  omega
 ·rcases mem_append.mp hk with hk|hk
  ·have:=i.c k (by simp[hk]);omega
  ·rw[mem_singleton.mp hk,length_append]
   have:=i.c h (by simp);omega
 ·rcases mem_append.mp hk with hk|hk
  ·exact i.r k (by simp[hk])
  ·rw[mem_singleton.mp hk]
   exact xt0 (i.r h (by simp)) hx
theorem I0.bare(B:Boo rs)(i:I0 rs rk zs ys (hs++[h]) made j)(hn:wr8 n)(hm:wr2 rs ys n=true)(hr:N0 rs (some n)=some r)(nb:r.sort=("bare":Str)):∃ zs',I0 rs rk zs' ys (hs++[h++[.nd n []]]) (made+1) j:=by
 obtain⟨pre,a,rfl,ep⟩:=i.last
 refine⟨_,i.upd ep (i.w.bare B hn (by rw[i.tail];exact hm) ((xm9 hr).mpr nb)) ?_ (by simp) ?_ #[0]⟩
 ·rw[qu2,rwT,qu2];exact⟨⟨⟨r,hr⟩,trivial⟩,trivial⟩
 ·rw[xg0,wP,if_pos ((xm9 hr).mpr nb)]
  simp only[length_append,length_cons,length_nil,M4]
  have:=hn.n8
  omega
theorem I0.word(i:I0 rs rk zs ys (hs++[h]) made j)(hu:1<=u.length)(hu2:u.length<=18)(hs':E8 rs (some (G8 ys))≠some #[15])(hp:∀ v,h.getLast?≠some (.tx v)):∃ zs',I0 rs rk zs' ys (hs++[h++[.tx u]]) made (j+1):=by
 obtain⟨pre,a,rfl,ep⟩:=i.last
 have ht:=i.tail
 have hl:(pre++[(a,h)]).tail.length=ys.length:=by have:=congrArg List.length ht;rw[length_map] at this;exact this
 refine⟨_,i.upd ep (i.w.word hu (by rw[hl];exact i.l) (by rw[ht];exact hs') hp) ?_ (by simp) ?_ #[0]⟩
 ·rw[qu2,rwT,qu2];exact⟨trivial,trivial⟩
 ·rw[xg0,wP]
  have:=yi2 u.cps.toList
  rw[M4] at this
  omega
theorem I0.cl{ns:List Str}(i:I0 rs rk zs (ns++[n]) (ws++[w1,w2]) made j):∃ zs',I0 rs rk zs' ns (ws++[w1++[.nd n w2]]) made j:=by
 have i2:I0 rs rk zs (ns++[n]) ((ws++[w1])++[w2]) made j:=by rw[append_assoc];exact i
 obtain⟨pre,a,rfl,ep⟩:=i2.last
 obtain⟨pre',q,e1,e2,e3⟩:=map_eq_append_iff.mp ep
 obtain⟨x,q',rfl,e5,e4⟩:=map_eq_cons_iff.mp e3
 have:=map_eq_nil_iff.mp e4
 subst this
 subst e1
 obtain⟨b,w1'⟩:=x
 have e5:w1'=w1:=e5
 subst e5
 have en:=i.e
 rw[map_append] at en
 have en':List.map Prod.fst (pre'++[(b,w1')])++[a]=((("":Str)::ns)++[n]):=en
 obtain⟨en1,en2⟩:=append_inj' en' rfl
 have ea:a=n:=(List.cons.inj en2).1
 subst ea
 obtain⟨r,hr,nb,hn⟩:=i.y a (by simp)
 have hb:E8 rs (some a)≠some ("bare":Str):=fun e=>nb ((xm9 hr).mp e)
 have ebb:=i.b
 rw[length_append,length_singleton] at ebb
 refine⟨pre'++[(b,w1'++[.nd a w2])],?_,by rw[map_append,e2];rfl,i.w.cl hn hb,?_,fun k hk=>?_,fun k hk=>?_,fun y hy=>i.y y (by simp[hy]),by have:=i.l;rw[length_append] at this;omega⟩
 ·rw[<-en1,map_append,map_append];rfl
 ·rw[<-Ab7 hb]
  simp only[length_append,length_cons,length_nil,M4] at ebb ⊢
  have:=hn.n8
  omega
 ·have hc:∀ k∈ws++[w1',w2],k.length+ns.length+1<=made+j:=fun k hk=>by have:=i.c k hk;rw[length_append,length_singleton] at this;omega
  rcases mem_append.mp hk with hk|hk
  ·have:=hc k (by simp[hk]);omega
  ·rw[mem_singleton.mp hk,length_append,length_singleton]
   have:=hc w1' (by simp);omega
 ·rcases mem_append.mp hk with hk|hk
  ·exact i.r k (by simp[hk])
  ·rw[mem_singleton.mp hk]
   refine xt0 (i.r w1' (by simp)) ?_
   rw[qu2,rwT,qu2]
   exact⟨⟨⟨r,hr⟩,i.r w2 (by simp)⟩,trivial⟩
theorem I0.fin(Bk:Bok rs rk)(i:I0 rs rk zs [] hs made j)(hm:made<=60)(hj:j<=100):∃ h,hs=[h]/\rtS (rdS rs rk (TX.ofL (wL rs h)))=h/\(rdS rs rk (TX.ofL (wL rs h))).ms=[]/\qu2 rs h/\(wL rs h).length<=9000/\hgt (Tr.nd "" h)<=80:=by
 have e:=i.e
 obtain⟨x,q,rfl,e1,e2⟩:=map_eq_cons_iff.mp e
 have:=map_eq_nil_iff.mp e2
 subst this
 obtain⟨a,h⟩:=x
 have e1:a = "":=e1
 subst e1
 obtain⟨f1,f2⟩:=i.w.fin
 have e3:=i.e2
 have hg:=zx7 (rs:=rs) (rk:=rk) (z:=TX.ofL (wL rs h)) Bk
 rw[f1] at hg
 have hb:(wL rs h++[]).length+11*0<=21*made+60*j:=i.b
 rw[append_nil] at hb
 exact⟨h,e3.symm,f1,f2,i.r h (by rw[<-e3];simp),by omega,hg⟩
end
theorem zy6(B:Boo rs)(h:∀ r∈rs,wr8 r.name/\r.shuts.length<=12/\r.bars.length<=12):∃ rk,Bok rs rk:=by
 obtain⟨rk,h1,h2⟩:=B.rk
 refine⟨fun x=>min (rk x) 13,B,fun x y e=>?_,fun x=>Nat.min_le_right _ _,fun r hr=>by have:=(h r hr).1.n8;omega,fun r hr=>⟨by have:=(h r hr).2.1;omega,by have:=(h r hr).2.2;omega⟩⟩
 unfold I9 at e
 obtain⟨r,hf,rfl⟩:=Option.map_eq_some_iff.mp e
 have hr:=mem_of_find?_eq_some hf
 have hs:=find?_some hf
 simp only[Bool.and_eq_true,decide_eq_true_eq] at hs
 have a1:=h1 r hr
 have a2:=(h2 r hr hs.1).2
 have e3:r.host=x:=Option.some.inj hs.2
 rw[e3] at a2
 show min (rk r.name) 13<min (rk x) 13
 omega
structure A0(K:Fg)(H0 H:Hp)(N L:Addr)(as:List Addr)(ys:List Str)(hs:List (List Tr)):Prop where
 s:A9 H0 H
 h:Hps K H L as hs
 t:H N=some #[24,ys]
 nd:N∉L::as
 nw:∀ z∈N::L::as,H0 z=none
section
variable{H0 H':Hp}{N L:Addr}{as:List Addr}{ys:List Str}{hs:List (List Tr)}{h w1 w2:List Tr}{n:Str}
theorem A0.same(a:A0 K H0 H N L as ys hs)(s:A9 H H'):A0 K H0 H' N L as ys hs:=⟨A9.tr a.s s,a.h.same s,s _ _ a.t,a.nd,a.nw⟩
theorem A0.up{t:Tr}{x:Addr}{as':List Addr}(a:A0 K H0 H N L (as'++[x]) ys (hs++[h]))(hx:H x=some (.lst us))(hd:Dvs K H (Tr.das h) us)(hv:Dv K H t.da v):A0 K H0 (upd H x (.lst (us++[v]))) N L (as'++[x]) ys (hs++[h++[t]]):=by
 refine⟨A9.put a.s (a.nw x (by simp)) _,a.h.put (zp8 hd hv),E2 a.t fun e=>a.nd (by rw[e];simp),a.nd,a.nw⟩
theorem A0.push(a:A0 K H0 H N L as ys hs)(hp:(upd H N #[24,ys++[n]]) p=none):A0 K H0 (upd (upd (upd H N #[24,ys++[n]]) p (.lst [])) L (.lst (as.map V.ref++[.ref p]))) N L (as++[p]) (ys++[n]) (hs++[[]]):=by
 have hp0:=(Q3 hp).2
 have hpN:=(Q3 hp).1
 have h1:=a.h.upd (p:=N) (o:=.lst (B4 (ys++[n]))) (.inl (.inl ⟨_,a.t⟩)) a.nd
 have h2:=h1.push (w:=[]) (us:=[]) hp (by rw[Tr.das];exact G9)
 have nNL:N≠L:=fun e=>a.nd (by rw[e];simp)
 have sN:A9 H0 (upd H N #[24,ys++[n]]):=A9.put a.s (a.nw N (by simp)) _
 have g0:H0 p=none:=A9.grow a.s _ hp0
 refine⟨A9.put (A9.put sN g0 _) (a.nw L (by simp)) _,h2,?_,fun z=>?_,fun z hz=>?_⟩
 ·rw[B5 nNL,B5 (Ne.symm hpN)];exact A8
 ·rcases mem_cons.mp z with z|z
  ·exact nNL z
  ·rcases mem_append.mp z with z|z
   ·exact a.nd (by simp[z])
   ·exact hpN (mem_singleton.mp z).symm
 ·simp only[mem_cons,mem_append,not_mem_nil,or_false] at hz
  rcases hz with z|z|z|z
  ·exact a.nw _ (by simp[z])
  ·exact a.nw _ (by simp[z])
  ·exact a.nw _ (by simp[z])
  ·rw[z];exact g0
end
abbrev wm9(K:Fg):TS :=
 (C8 (C3 (M9 K) [] E0 (A3 (A7 2) (A3 (tOp (D2 K) (C3 (M9 K) [] E0 (A3 (A7 2) (A3 #[44,3] B1))) #[1,2]) B1))) (B3 8))
abbrev qi1(K:Fg):TS :=
 (G5 (tBM K "list" M3 #[44,4] (A3 (X3 (A3 (yd3 K "list" yd4 (A7 3)) (A3 (tCB (qa3 K) #[3,12]) B1))) B1)))
abbrev wn0(K:Fg):TS :=
 (B9 (G5 (tBM K "list" M3 (A7 3) (A3 #[20,8] B1)))
 (G5 (tBM K "list" M3 (A7 4) (A3 (T8 B1) B1))))
abbrev wn1(K:Fg):TS :=
 (N1 (qm7 (C5 (tOp (P9 K) (tOp #[2] (A7 7) #[1,8]) #[1,4])) (C5 (tOp (qq5 K) (A7 3) (T8 B1))))
 (B9 (C8 (yd3 K "list" yd4 (A7 4)) (B3 12))
 (qi1 K)) J5)
abbrev wn2(K:Fg):TS :=
 (G5 (tBM K "list" M3 #[44,4] (A3 (X3 (A3 #[20,8] (A3 (X3 B1) B1))) B1)))
abbrev qu4(K:Fg):TS :=
 (N1 (qm7 (C5 (tOp xo4 (tOp #[2] (A7 7) #[1,8]) #[1,4])) (tB (A7 11)))
 (wn0 K) (wn1 K))
abbrev qu5(K:Fg):TS :=
 (N1 (qm7 (C5 (tOp xo4 (tOp #[2] (A7 7) #[1,8]) #[1,4])) (qm7 (tB (A7 11)) (C5 (tOp (P9 K) #[39,8] (tC (.str "bare"))))))
 (wn2 K) (qu4 K))
abbrev wn3(K:Fg):TS :=
 (B9 (C8 (tOp (E7 K) (A7 5) (tCB xz5 (A3 (wr9 (A7 11) (tOp xo4 (tOp #[2] (A7 7) #[1,8]) #[1,4])) B1))) (B3 5))
 (qu5 K))
abbrev qu6(K:Fg):TS :=
 (B9 (C8 (wr9 (tOp xo4 (A7 5) #[1,60]) (C3 (qx8 K) [] E0 (A3 (A7 2) (A3 (A7 3) (A3 #[20,8] B1))))) (B3 11))
 (wn3 K))
abbrev wn4(K:Fg):TS :=
 (B9 (N1 (qm7 (C5 (tOp (qq5 K) (A7 3) (T8 B1))) (C5 (tOp (P9 K) (tOp (D2 K) (C3 (M9 K) [] E0 (A3 (A7 2) (A3 #[44,3] B1))) #[1,1]) (tC (.str "frame")))))
 (wm9 K) J5)
 (qu6 K))
abbrev wh4(K:Fg):TS :=
 (G5 (tBM K "list" M3 #[44,4] (A3 (C3 (qs3 K) [] E0 (A3 (A7 6) (A3 (tOp #[40] (A7 7) #[1,32]) B1))) B1)))
abbrev wh5(K:Fg):TS :=
 (N1 (qm7 (C5 (tOp wq9 (tOp #[2] (A7 7) #[1,8]) #[1,4])) (qm7 (ww9 (tB (A7 13))) (tOr (C5 (tOp (P9 K) #[44,4] (T8 B1))) (ww9 (tB (tCB (wy6 K) (A3 (tOp (D2 K) #[44,4] #[12]) (A3 (tC (.ty "str")) B1))))))))
 (wh4 K) J5)
abbrev wh6(K:Fg):TS :=
 (B9 (C8 (wr9 (tOp (qq5 K) (A7 3) (T8 B1)) (tOp (P9 K) (tOp (D2 K) (C3 (M9 K) [] E0 (A3 (A7 2) (A3 #[44,3] B1))) #[1,1]) (tC (.str "frame")))) (B3 13))
 (wh5 K))
abbrev wh7(K:Fg):TS :=
 (B9 (C8 (tOp (D2 K) (T8 (A3 #[1,1] (A3 #[1,1] (A3 #[1,1] (A3 #[1,22] B1))))) (tOp #[2] (tOp #[40] (A7 7) #[1,4096]) #[1,4])) (B3 9))
 (B9 (qf4 (wj9 #[3,9]) (B3 10)
 (wn4 K))
 (wh6 K)))
abbrev xl3(K:Fg):TS :=
 (B9 (C8 (tOp (D2 K) (A7 2) (tOp #[2] (tOp #[40] (A7 7) #[1,8]) (tCB (O3 K) #[3,2]))) (B3 8))
 (wh7 K))
abbrev wh8(K:Fg):TS :=
 (B9 (C8 (C3 (J0 K) [] E0 (A3 (A7 6) (A3 #[1,11] B1))) (B3 7))
 (xl3 K))
abbrev wh9(K:Fg):TS :=
 (E3 (X3 (A3 (tC (.str "")) (A3 (tCB (qa3 K) (A3 #[20,4] B1)) B1))))
abbrev wi0(K:Fg):TS :=
 (B9 (qy6 (C5 (tOp (qq5 K) (A7 3) (T8 B1)))
 (B9 (C8 (yd3 K "list" yd4 (A7 4)) (B3 12))
 (qi1 K)))
 (wh9 K))
abbrev xl4(K:Fg):TS :=
 (B9 (qf4 (qq7 K (tSl (wu7 K) (A7 0) (Y3 (A7 1)) (Y3 #[1,63]))) (B3 6)
 (wh8 K))
 (wi0 K))
abbrev xl5(K:Fg):TS :=
 (B9 (C8 (T8 (A3 (T8 B1) B1)) (B3 4))
 (B9 (C8 #[1,0] (B3 5))
 (xl4 K)))
variable{L N:Addr}{as:List Addr}{x10 x11 x12 x13 x6 x8 x9:Option V}
theorem zb7{made:Nat}{x7:Option V}{ns:List Str}{ws:List (List Tr)}{w1 w2:List Tr}(A:A0 K H0 H N L as (ns++[n]) (ws++[w1,w2]))(hl:w1.length<=8000000)(q:∀ as' x12 H',A0 K H0 H' N L as' ns (ws++[w1++[Tr.nd n w2]])->D.nx [some (.ref sc),some (.int 15),some bv,some (.ref N),some (.ref L),some #[48],x6,x7,x8,x9,x10,x11,x12,x13] H') :
 (B9 (C8 (yd3 K "list" yd4 (A7 4)) (B3 12)) (qi1 K)) D [some (.ref sc),some (.int 15),some bv,some (.ref N),some (.ref L),some #[48],x6,x7,x8,x9,x10,x11,x12,x13] H:=by
 have hh0:Hps K H L as ((ws++[w1])++[w2]):=by rw[append_assoc];exact A.h
 obtain⟨as1,a,us,ea,hL,hh1,ha,hd⟩:=hh0.pop
 have nT:=A.nd
 have nTL:N≠L:=fun e=>nT (by rw[e];simp)
 have ht1:=E2 (o:=.lst (as1.map V.ref)) A.t nTL
 have sA:A9 H0 (upd H L (.lst (as1.map V.ref))):=A9.put A.s (A.nw L (by simp)) _
 lk
 refine⟨.inl ⟨rfl,_,SqL.of hL⟩,?_⟩
 refine yz4 hL ?_
 generalize upd H L (.lst (as1.map V.ref))=H1 at *
 obtain⟨as2,x,us2,ea2,hx,hxd,hL2,_⟩:=hh1.top
 refine D6 ?_
 show qi1 K _ _ _
 walk_at"21"
 refine L7 #[59,hL2] (v:=.ref x) (qe8 (n:=as2.length) (by simp) (by simp)) ?_
 lk
 refine⟨.inl ⟨rfl,_,SqL.of hx⟩,?_⟩
 lk
 have et:B4 (ns++[n])=B4 ns++[.str n]:=by simp[B4]
 rw[et] at ht1
 have nTa:N∉L::as1:=fun e=>nT (by rw[ea];rcases mem_cons.mp e with e|e;exact e▸(by simp);simp[e])
 refine⟨.inl ⟨rfl,_,SqL.of ht1⟩,?_⟩
 refine yz4 ht1 ?_
 have hh2:=hh1.upd (p:=N) (o:=.lst (B4 ns)) (.inl (.inl ⟨_,ht1⟩)) nTa
 have tk2:U1 H1 (upd H1 N #[24,ns]):=Q4 (.inl ⟨_,ht1⟩)
 have na:a≠N:=fun e=>nT (by rw[<-e,ea];simp)
 have ha2:=E2 (o:=.lst (B4 ns)) ha na
 have hd2:=Dvs.tupK tk2 _ _ (qa5 _) hd
 have ht2:(upd H1 N #[24,ns]) N=_:=A8
 have sB:A9 H0 (upd H1 N #[24,ns]):=A9.put sA (A.nw N (by simp)) _
 generalize upd H1 N #[24,ns]=H2 at *
 lk
 refine⟨_,_,rfl,.inl ⟨SqL.of ha2,fun l hl=>?_⟩⟩
 walk_at"14"
 have s4:=A9.tr (A9.new hl (.tup us)) (A9.new hp (.tup [.str n,.ref l]))
 have s4b:=A9.new hp (.tup [.str n,.ref l])
 have dt:Dv K _ (Tr.nd n w2).da (.ref p):=yn8 (SqT.of (A8 (H:=upd H2 l (.tup us)) (a:=p) (o:=.tup [.str n,.ref l]))) (s4b.sqT (SqT.of A8)) (Dvs.same s4 _ _ hd2)
 generalize upd (upd H2 l (.tup us)) p (.tup [.str n,.ref l])=H4 at *
 have A4:A0 K H0 H4 N L (as2++[x]) ns (ws++[w1]):=⟨A9.tr sB s4,by have:=hh2.same s4;rw[ea2] at this;exact this,s4 _ _ ht2,by rw[<-ea2];exact nTa,fun z hz=>A.nw z (by rw[ea,ea2];simp only[mem_cons,mem_append] at hz ⊢;rcases hz with h|h|h;exact .inl h;exact .inr (.inl h);exact .inr (.inr (.inl h)))⟩
 obtain⟨us4,hx4,hxd4⟩:=A4.h.get
 have hul:=qm0 hxd4
 lk
 refine M1 hx4 (by rw[hul,sizeLine_eq];omega) ?_
 exact q _ _ _ (A4.up hx4 hxd4 dt)
variable{hs:List (List Tr)}
theorem A0.back{u:V}(a:A0 K H0 H N L as ys hs)(d:Dv K H r.da u):A0 K (rml H (N::L::as)) H N L as ys hs/\Dv K (rml H (N::L::as)) r.da u/\A9 H0 (rml H (N::L::as)):=by
 have hm:∀ z∈N::L::as,xp4 H z:=fun z hz=>by
  rcases mem_cons.mp hz with rfl|hz
  ·exact .inl ⟨_,a.t⟩
  ·exact a.h.mut z hz
 have nt:∀ z∈N::L::as,∀ o,H z=some o->(∀ xs,o≠.tup xs)/\∀ q xs,o≠.frz q (.tup xs):=fun z hz o e=>by
  rcases hm z hz with⟨xs,e2⟩|⟨C,dx,fs,e2⟩
  ·rw[e] at e2;cases e2;exact⟨fun _ h=>(by cases h),fun _ _ h=>(by cases h)⟩
  ·rw[e] at e2;cases e2;exact⟨fun _ h=>(by cases h),fun _ _ h=>(by cases h)⟩
 have tk:U1 H (rml H (N::L::as)):=⟨fun c xs e=>by rw[xb3 fun hc=>(nt c hc _ e).1 xs rfl];exact e,fun c o xs e=>by rw[xb3 fun hc=>(nt c hc _ e).2 o xs rfl];exact e⟩
 exact⟨⟨yq1,a.h,a.t,a.nd,fun z hz=>yx0 hz⟩,Dv.tupK tk _ _ (Row.fix r) d,A9.rml a.s a.nw⟩
theorem xb6(h:N0 rs (some n)=some r):r∈rs/\r.name=n :=
 ⟨mem_of_find?_eq_some h,by have:=find?_some h;exact Option.some.inj (of_decide_eq_true this)⟩
theorem xn0(hb:Rws K H bv rs)(hr:N0 rs (some n)=some r)(q:∀ u,Dv K H r.da u->Q u H):M9 K [bv,.str n] H Q E :=
 ⟨bv,some n,rs,rfl,hb,fun e=>(by rw[hr] at e;cases e),fun r' u e du=>(by rw[hr] at e;cases e;exact q u du)⟩
theorem xb7{e0:Addr}(ht:H N=some #[24,ys])(he:H e0=some (.lst []))(q:Q (.bl (!ys.isEmpty)) H):qq5 K (.ref N) (.ref e0) H Q:=by
 refine An1 (ds:=sDa ys) (qg9.mpr ⟨N,_,rfl,SqL.of ht,qq4.mpr rfl⟩) he ?_
 have:(sDa ys).isEmpty=ys.isEmpty:=by cases ys <;> rfl
 rw[this];exact q
variable{Hb:Hp}{num:Int}{v8:V}{zs:List (Str×List Tr)}
theorem g_3{made:Nat}(A:A0 K Hb H N L as ys hs)(I:I0 rs rk zs ys hs made j)(hm:made<=60)(hj:j<=100)(q:∀ as' ys' hs' zs' (made':Nat) x11 x12 H',A0 K Hb H' N L as' ys' hs'->I0 rs rk zs' ys' hs' made' j->made'<=60->D.nx [some (.ref sc),some (.int 15),some bv,some (.ref N),some (.ref L),some (.int (made':Nat)),x6,some (.int num),some v8,x9,x10,x11,x12,x13] H') :
 wn1 K D [some (.ref sc),some (.int 15),some bv,some (.ref N),some (.ref L),some #[48],x6,some (.int num),some v8,x9,x10,x11,x12,x13] H:=by
 refine wg8 ?_
 refine qo8 ?_
 lk
 by_cases h4:num % 8=4
 ·rw [decide_eq_true h4]
  x_go
  walk_at"19"
  lk
  rcases eq_nil_or_concat ys with rfl|⟨ns,n,rfl⟩
  ·k_go
   exact q as [] hs zs made _ _ _ A1 I hm
  ·rw[concat_eq_append] at A1 I ⊢
   have e1:(!(ns++[n]).isEmpty)=true:=by simp
   rw[e1]
   x_go
   obtain⟨ws,w1,w2,rfl⟩:∃ ws w1 w2,hs=ws++[w1,w2]:=by
    have hl:hs.length=ns.length+2:=by
     have h1:=congrArg List.length I.e
     have h2:=congrArg List.length I.e2
     rw[length_map] at h1 h2
     rw[<-h2,h1];simp
    rcases eq_nil_or_concat hs with rfl|⟨ws,w2,rfl⟩
    ·simp at hl
    ·rcases eq_nil_or_concat ws with rfl|⟨ws,w1,rfl⟩
     ·simp at hl
     ·exact⟨ws,w1,w2,by simp[concat_eq_append]⟩
   have hc:=I.c w1 (by simp)
   obtain⟨zs',I'⟩:=I.cl
   exact zb7 A1 #[0] fun as' x12 H' A'=>q as' ns _ zs' made _ _ _ A' I' hm
 ·rw[decide_eq_false h4]
  k_go
  k_go
  exact q as ys hs zs made _ _ _ A I hm
theorem g_8{made:Nat}(B:Boo rs)(hn:∀ r∈rs,wr8 r.name)(hb:Rws K Hb bv rs)(A:A0 K Hb H N L as ys hs)(I:I0 rs rk zs ys hs made j)(hm:made<=60)(hj:j<=100)(hr:r∈rs)(dr:Dv K Hb r.da v8)(q:∀ as' ys' hs' zs' (made':Nat) x11 x12 H',A0 K Hb H' N L as' ys' hs'->I0 rs rk zs' ys' hs' made' j->made'<=60->D.nx [some (.ref sc),some (.int 15),some bv,some (.ref N),some (.ref L),some (.int (made':Nat)),x6,some (.int num),some v8,x9,x10,x11,x12,x13] H') :
 qu6 K D [some (.ref sc),some (.int 15),some bv,some (.ref N),some (.ref L),some #[48],x6,some (.int num),some v8,x9,x10,x11,x12,x13] H:=by
 have er:N0 rs (some r.name)=some r:=yx1 B.nd hr
 have l20:=I.l
 obtain⟨rb,sv,bvv,rfl,hrb,_,_⟩:=R7 dr
 obtain⟨hs',h,rfl⟩:∃ hs' h,hs=hs'++[h]:=by
  have:hs≠[]:=fun e=>by have:=I.e2;rw[e] at this;have:=map_eq_nil_iff.mp this;have h2:=I.e;rw[this] at h2;cases h2
  exact⟨_,_,(dropLast_concat_getLast this).symm⟩
 have hc:=I.c h (by simp)
 have g7:∀ (mh:Bool) (H1:Hp),A0 K Hb H1 N L as ys (hs'++[h])->(mh=true->made<60/\wr2 rs ys r.name=true)->wn3 K D [some (.ref sc),some (.int 15),some bv,some (.ref N),some (.ref L),some #[48],x6,some (.int num),some (.ref rb),x9,x10,some (.bl mh),x12,x13] H1:=fun mh H1 A1 hmh=>by
  have no:(mh=true->¬num % 8<4)->qu5 K D [some (.ref sc),some (.int 15),some bv,some (.ref N),some (.ref L),some #[48],x6,some (.int num),some (.ref rb),x9,x10,some (.bl mh),x12,x13] H1:=fun hno=>by
   have g5:qu4 K D [some (.ref sc),some (.int 15),some bv,some (.ref N),some (.ref L),some #[48],x6,some (.int num),some (.ref rb),x9,x10,some (.bl mh),x12,x13] H1:=by
    refine wg8 ?_
    refine qo8 ?_
    lk
    by_cases h4:num % 8<4
    ·rw[decide_eq_true h4]
     x_go
     cases mh with
     | true=>exact absurd h4 (hno rfl)
     | false =>
       refine ze2 ?_
       refine' we1 ?ev ?_
       case ev=>exact rfl
       refine⟨false,rfl,?_⟩
       k_go
       exact g_3 A1 I hm hj q
    ·rw[decide_eq_false h4]
     k_go
     k_go
     exact g_3 A1 I hm hj q
   refine wg8 ?_
   refine qo8 ?_
   lk
   by_cases h4:num % 8<4
   ·rw[decide_eq_true h4]
    x_go
    refine qo8 ?_
    cases mh with
    | true=>exact absurd h4 (hno rfl)
    | false =>
      refine ze2 ?_
      refine' we1 ?ev ?_
      case ev=>exact rfl
      refine⟨false,rfl,?_⟩
      k_go
      k_go
      exact g5
   ·rw[decide_eq_false h4]
    k_go
    k_go
    exact g5
  have yes:∀ c:Int,c=((made+1:Nat):Int)->mh=true->num % 8<4->qu5 K D [some (.ref sc),some (.int 15),some bv,some (.ref N),some (.ref L),some (.int c),x6,some (.int num),some (.ref rb),x9,x10,some (.bl mh),x12,x13] H1:=by
   rintro c rfl rfl h4
   obtain⟨h60,hmay⟩:=hmh rfl
   obtain⟨as',x,us,rfl,hx,hxd,hL,_⟩:=A1.h.top
   have hul:=qm0 hxd
   refine wg8 ?_
   refine qo8 ?_
   lk
   rw[decide_eq_true h4]
   x_go
   refine qo8 ?_
   refine ze2 ?_
   refine' we1 ?ev ?_
   case ev=>exact rfl
   refine⟨true,rfl,?_⟩
   x_go
   lk
   refine G1 (A1.s.sqT hrb) (v:=.str r.sort) (D3 (j:=1) rfl) ?_
   lk
   by_cases hbr:r.sort=("bare":Str)
   ·rw[decide_eq_true hbr]
    x_go
    show wn2 K _ _ _
    walk_at"21"
    refine L7 #[59,hL] (v:=.ref x) (qe8 (n:=as'.length) (by simp) (by simp)) ?_
    lk
    refine⟨.inl ⟨rfl,_,SqL.of hx⟩,?_⟩
    lk
    refine G1 (A1.s.sqT hrb) (v:=.str r.name) (D3 (j:=0) rfl) ?_
    lk
    refine⟨D5 (by z_go),fun p1 hp1=>?_⟩
    have u1:=A9.new hp1 (.tup [])
    have f1:(upd H1 p1 (.tup [])) p1=_:=A8
    lk
    refine⟨D5 (by z_go),fun p2 hp2=>?_⟩
    have u2:=A9.new hp2 (.tup [.str r.name,.ref p1])
    have dt:Dv K _ (Tr.nd r.name []).da (.ref p2):=yn8 (us:=[]) (SqT.of (A8 (H:=upd H1 p1 (.tup [])) (a:=p2) (o:=.tup [.str r.name,.ref p1]))) (u2.sqT (SqT.of f1)) (by rw[Tr.das];exact G9)
    have A2:=A1.same (A9.tr u1 u2)
    have hx2:=(A9.tr u1 u2) _ _ hx
    have hxd2:=Dvs.same (A9.tr u1 u2) _ _ hxd
    generalize upd (upd H1 p1 (.tup [])) p2 (.tup [.str r.name,.ref p1])=H2 at *
    lk
    refine M1 hx2 (by rw[hul,sizeLine_eq];omega) ?_
    obtain⟨zs',I'⟩:=I.bare B (hn r hr) hmay er hbr
    exact q _ ys _ zs' (made+1) _ _ _ (A2.up hx2 hxd2 dt) I' #[0]
   ·rw[decide_eq_false hbr]
    k_go
    show qu4 K _ _ _
    refine wg8 ?_
    refine qo8 ?_
    lk
    rw[decide_eq_true h4]
    x_go
    refine ze2 ?_
    refine' we1 ?ev ?_
    case ev=>exact rfl
    refine⟨true,rfl,?_⟩
    x_go
    show wn0 K _ _ _
    lk
    refine⟨.inl ⟨rfl,_,SqL.of A1.t⟩,?_⟩
    lk
    refine G1 (A1.s.sqT hrb) (v:=.str r.name) (D3 (j:=0) rfl) ?_
    lk
    refine M1 A1.t (by rw[B7,sizeLine_eq];omega) ?_
    have es:B4 ys++[V.str r.name]=B4 (ys++[r.name]):=by simp[B4]
    rw[es]
    have nNL:N≠L:=fun e=>A1.nd (by rw[e];simp)
    have hL1:=E2 (o:=.lst (B4 (ys++[r.name]))) A1.h.l (Ne.symm nNL)
    lk
    refine⟨.inl ⟨rfl,_,SqL.of hL1⟩,?_⟩
    lk
    refine⟨D5 (by z_go),fun p1 hp1=>?_⟩
    lk
    have hal:(as'++[x]).length<=30:=by
     have h1:=A1.h.b.len
     have h2:=congrArg List.length I.e
     have h3:=congrArg List.length I.e2
     rw[length_map] at h2 h3
     rw[h1,<-h3,h2];simp;omega
    refine M1 ((A9.new hp1 (.lst [])) _ _ hL1) (by rw[length_map,sizeLine_eq];omega) ?_
    exact q _ _ _ _ (made+1) _ _ _ (A1.push hp1) (I.op B (hn r hr) hmay er hbr) #[0]
  lk
  cases mh with
  | false =>
    k_go
    refine zk1 ?_
    refine .inr ⟨_,rfl,?_⟩
    refine xd7 ?_
    refine D6 ?_
    have e0:((made:Nat):Int)+(if false=true then(1:Int) else 0)=(made:Nat):=by simp
    rw[e0]
    exact no fun e=>by cases e
  | true =>
    x_go
    lk
    refine .inr ⟨_,rfl,?_⟩
    refine xd7 ?_
    refine D6 ?_
    by_cases h4:num % 8<4
    ·rw[decide_eq_true h4]
     exact yes _ (by simp) rfl h4
    ·rw[decide_eq_false h4]
     have e0:((made:Nat):Int)+(if false=true then(1:Int) else 0)=(made:Nat):=by simp
     rw[e0]
     exact no fun _=>h4
 lk
 by_cases h60:made<60
 ·rw[decide_eq_true #[0]]
  x_go
  lk
  refine G1 (A.s.sqT hrb) (v:=.str r.name) (D3 (j:=0) rfl) ?_
  lk
  refine⟨bv,N,ys,r.name,rs,rfl,hb.same A.s,B,.inl #[59,A.t],by omega,fun y hy=>?_,fun H2 s2=>?_⟩
  ·obtain⟨r',h1,_⟩:=I.y y hy
   exact⟨r',xb6 h1⟩
  ·refine D6 ?_
   exact g7 _ _ (A.same s2) fun e=>⟨h60,e⟩
 ·rw[decide_eq_false #[0]]
  k_go
  refine D6 ?_
  exact g7 false _ A fun e=>by cases e
theorem yi5{ns:List Str}(h:H N=some #[24,ns++[y]])(q:Q (.str y) H):D2 K (.ref N) (.int (-1)) H Q :=
 L7 #[59,h] (v:=.str y) (qe8 (n:=ns.length) (by rw[B7];simp) (by unfold B4;simp)) q
theorem g_9{made:Nat}(B:Boo rs)(hn:∀ r∈rs,wr8 r.name)(hb:Rws K Hb bv rs)(A:A0 K Hb H N L as ys hs)(I:I0 rs rk zs ys hs made j)(hm:made<=60)(hj:j<=100)(hr:r∈rs)(dr:Dv K Hb r.da v8)(q:∀ Hb' as' ys' hs' zs' (made':Nat) r' v8' x11 x12 H',A9 Hb Hb'->A0 K Hb' H' N L as' ys' hs'->I0 rs rk zs' ys' hs' made' j->made'<=60->r'∈rs->Dv K Hb' (Row.da r') v8'->D.nx [some (.ref sc),some (.int 15),some bv,some (.ref N),some (.ref L),some (.int (made':Nat)),x6,some (.int num),some v8',x9,x10,x11,x12,x13] H') :
 wn4 K D [some (.ref sc),some (.int 15),some bv,some (.ref N),some (.ref L),some #[48],x6,some (.int num),some v8,x9,x10,x11,x12,x13] H:=by
 refine qf6 ?_
 refine wg8 ?_
 refine qo8 ?_
 walk_at"19"
 refine⟨_,rfl,?_⟩
 have go:∀ H2,A0 K Hb H2 N L as ys hs->qu6 K D [some (.ref sc),some (.int 15),some bv,some (.ref N),some (.ref L),some #[48],x6,some (.int num),some v8,x9,x10,x11,x12,x13] H2:=fun H2 A2=>g_8 B hn hb A2 I hm hj hr dr fun as' ys' hs' zs' made' x11 x12 H' A' I' hm'=>q Hb as' ys' hs' zs' made' r v8 x11 x12 H' (A9.refl Hb) A' I' hm' hr dr
 rcases eq_nil_or_concat ys with rfl|⟨ns,y,rfl⟩
 ·k_go
  k_go
  exact go _ A1
 ·rw[concat_eq_append] at A1 I go ⊢
  have e1:(!(ns++[y]).isEmpty)=true:=by simp
  rw[e1]
  x_go
  obtain⟨r1,hr1,_,_⟩:=I.y y (by simp)
  walk_at"21"
  refine yi5 A1.t ?_
  lk
  refine xn0 (hb.same A1.s) hr1 fun u1 du1=>?_
  obtain⟨rb,_,_,rfl,hrb,_,_⟩:=R7 du1
  lk
  refine G1 hrb (v:=.str r1.sort) (D3 (j:=1) rfl) ?_
  lk
  by_cases hf:r1.sort=#[15]
  ·rw[decide_eq_true hf]
   x_go
   show wm9 K _ _ _
   obtain⟨rk0,_,h2⟩:=B.rk
   obtain⟨⟨r2,hr2,e2,_⟩,_⟩:=h2 r1 (xb6 hr1).1 hf
   have er2:N0 rs (some r1.host)=some r2:=by rw[<-e2];exact yx1 B.nd hr2
   walk_at"21"
   refine yi5 A1.t ?_
   lk
   refine xn0 (hb.same A1.s) hr1 fun u2 du2=>?_
   obtain⟨rb2,_,_,rfl,hrb2,_,_⟩:=R7 du2
   lk
   refine G1 hrb2 (v:=.str r1.host) (D3 (j:=2) rfl) ?_
   lk
   refine xn0 (hb.same A1.s) er2 fun u3 du3=>?_
   refine D6 ?_
   obtain⟨A2,d2,sb⟩:=A1.back du3
   exact g_8 B hn (hb.same sb) A2 I hm hj hr2 d2 fun as' ys' hs' zs' made' x11 x12 H' A' I' hm'=>q _ as' ys' hs' zs' made' r2 u3 x11 x12 H' sb A' I' hm' hr2 d2
  ·rw[decide_eq_false hf]
   k_go
   exact go _ A1
theorem zr3{lo hi:Option Int}{i:Nat}{x:V}(h:(qg5 #[76] lo hi)[i]?=some x):∃ n,x=.int n:=by
 have:=mem_of_getElem? h
 unfold qg5 at this
 have:=mem_of_mem_drop (mem_of_mem_take this)
 obtain⟨n,_,e⟩:=mem_map.mp this
 exact⟨n,e.symm⟩
variable{cell:Int}
theorem An8{made:Nat}{fb:Bool}(A:A0 K Hb H N L as ys hs)(I:I0 rs rk zs ys hs made j)(hm:made<=60)(hj:j<=99)(hfb:fb=false->E8 rs (some (G8 ys))≠some #[15])(q:∀ as' hs' zs' H',A0 K Hb H' N L as' ys hs'->I0 rs rk zs' ys hs' made (j+1)->D.nx [some (.ref sc),some (.int 15),some bv,some (.ref N),some (.ref L),some #[48],some (.int cell),some (.int num),x8,x9,x10,x11,x12,some (.bl fb)] H') :
 wh5 K D [some (.ref sc),some (.int 15),some bv,some (.ref N),some (.ref L),some #[48],some (.int cell),some (.int num),x8,x9,x10,x11,x12,some (.bl fb)] H:=by
 obtain⟨hs',h,rfl⟩:∃ hs' h,hs=hs'++[h]:=by
  have:hs≠[]:=fun e=>by have:=I.e2;rw[e] at this;have:=map_eq_nil_iff.mp this;have h2:=I.e;rw[this] at h2;cases h2
  exact⟨_,_,(dropLast_concat_getLast this).symm⟩
 have hc:=I.c h (by simp)
 have no:∀ H1,A0 K Hb H1 N L as ys (hs'++[h])->D.nx [some (.ref sc),some (.int 15),some bv,some (.ref N),some (.ref L),some #[48],some (.int cell),some (.int num),x8,x9,x10,x11,x12,some (.bl fb)] H1:=fun H1 A1=>q _ _ zs H1 A1 I.mono
 have word:∀ H1,A0 K Hb H1 N L as ys (hs'++[h])->fb=false->(∀ v,h.getLast?≠some (.tx v))->wh4 K D [some (.ref sc),some (.int 15),some bv,some (.ref N),some (.ref L),some #[48],some (.int cell),some (.int num),x8,x9,x10,x11,x12,some (.bl fb)] H1:=fun H1 A1 hf hv=>by
  obtain⟨as',x,us,rfl,hx,hxd,hL,_⟩:=A1.h.top
  have hul:=qm0 hxd
  walk_at"21"
  refine L7 #[59,hL] (v:=.ref x) (qe8 (n:=as'.length) (by simp) (by simp)) ?_
  lk
  refine⟨.inl ⟨rfl,_,SqL.of hx⟩,?_⟩
  lk
  refine⟨cell,_,rfl,fun u H2 h1 h18 s2=>?_⟩
  lk
  refine M1 (s2 _ _ hx) (by rw[hul,sizeLine_eq];omega) ?_
  obtain⟨zs',I'⟩:=I.word h1 h18 (hfb hf) hv
  exact q _ _ zs' _ ((A1.same s2).up (s2 _ _ hx) (Dvs.same s2 _ _ hxd) (G7.mpr rfl)) I'
 refine wg8 ?_
 refine qo8 ?_
 lk
 by_cases h4:4<num % 8
 ·rw [decide_eq_true (by exact h4)]
  x_go
  refine qo8 ?_
  refine yu1 ?_
  refine ze2 ?_
  refine' we1 ?ev ?_
  case ev=>exact rfl
  refine⟨fb,rfl,?_⟩
  cases fb with
  | true =>
    k_go
    k_go
    exact no _ A
  | false =>
    x_go
    refine zz8 ?_
    obtain⟨as',x,us,rfl,hx,hxd,hL,_⟩:=A.h.top
    walk_at"21"
    refine L7 #[59,hL] (v:=.ref x) (qe8 (n:=as'.length) (by simp) (by simp)) ?_
    lk
    refine⟨D5 (by z_go),fun e0 he0=>?_⟩
    have s1:=A9.new he0 (.lst [])
    have A1:=A.same s1
    have hx1:=s1 _ _ hx
    have hxd1:=Dvs.same s1 _ _ hxd
    have hL1:=s1 _ _ hL
    lk
    refine Aa8 (ds:=Tr.das h) (qg9.mpr ⟨x,_,rfl,SqL.of hx1,hxd1⟩) A8 ?_
    generalize upd H e0 (.lst [])=H1 at *
    refine⟨_,rfl,?_⟩
    rcases eq_nil_or_concat h with rfl|⟨h',t,rfl⟩
    ·have e1:(Tr.das []).isEmpty=true:=by rw[Tr.das];rfl
     rw[e1]
     x_go
     x_go
     exact word _ A1 rfl fun v e=>by cases e
    ·rw[concat_eq_append] at *
     have e1:(Tr.das (h'++[t])).isEmpty=false:=by rw[X7,map_append];simp
     rw[e1]
     k_go
     refine yu1 ?_
     walk_at"21"
     refine L7 #[59,hL1] (v:=.ref x) (qe8 (n:=as'.length) (by simp) (by simp)) ?_
     walk_at"21"
     have hul:=qm0 hxd1
     obtain⟨ut,eu,du⟩:=yz6 hxd1 (i:=h'.length) (t:=t) (by simp)
     refine L7 #[59,hx1] (v:=ut) (qe8 (n:=h'.length) (by rw[hul];simp) eu) ?_
     lk
     refine ye9 du ?_
     refine⟨_,rfl,?_⟩
     cases t with
     | tx u =>
       k_go
       exact no _ A1
     | nd k ps =>
       x_go
       exact word _ A1 rfl fun v e=>by rw[getLast?_concat] at e;cases e
 ·rw[decide_eq_false (by exact h4)]
  k_go
  k_go
  exact no _ A
theorem Ao7{made:Nat}(B:Boo rs)(hb:Rws K Hb bv rs)(A:A0 K Hb H N L as ys hs)(I:I0 rs rk zs ys hs made j)(hm:made<=60)(hj:j<=99)(q:∀ fb as' hs' zs' H',A0 K Hb H' N L as' ys hs'->I0 rs rk zs' ys hs' made (j+1)->D.nx [some (.ref sc),some (.int 15),some bv,some (.ref N),some (.ref L),some #[48],some (.int cell),some (.int num),x8,x9,x10,x11,x12,some (.bl fb)] H') :
 wh6 K D [some (.ref sc),some (.int 15),some bv,some (.ref N),some (.ref L),some #[48],some (.int cell),some (.int num),x8,x9,x10,x11,x12,x13] H:=by
 refine qf6 ?_
 refine zj9 ?_
 refine yz2 ?_
 walk_at"19"
 refine⟨_,rfl,?_⟩
 rcases eq_nil_or_concat ys with rfl|⟨ns,y,rfl⟩
 ·k_go
  refine D6 ?_
  refine An8 (fb:=false) A1 I hm hj (fun _=>?_) (q false)
  unfold E8
  cases e:N0 rs (some (G8 [])) with
  | none=>intro h;cases h
  | some r=>exact absurd (xb6 e).2 (B.ne r (xb6 e).1)
 ·rw[concat_eq_append] at *
  have e1:(!(ns++[y]).isEmpty)=true:=by simp
  rw[e1]
  x_go
  obtain⟨r1,hr1,_,_⟩:=I.y y (by simp)
  walk_at"21"
  refine yi5 A1.t ?_
  lk
  refine xn0 (hb.same A1.s) hr1 fun u1 du1=>?_
  obtain⟨rb,_,_,rfl,hrb,_,_⟩:=R7 du1
  lk
  refine G1 hrb (v:=.str r1.sort) (D3 (j:=1) rfl) ?_
  refine Ae9 ?_
  refine ym3 ?_
  refine D6 ?_
  refine An8 (fb:=decide (r1.sort=#[15])) A1 I hm hj (fun e=>?_) (q _)
  rw[yq3]
  unfold E8
  rw[hr1]
  exact fun z=>of_decide_eq_false e (Option.some.inj z)
def qm6(K:Fg):Sp:=fun vs H Q _=>∃ (sc t:Addr) (ns:List Int) (bs:List V) (rs:List Row) (rk:Str->Nat),vs=[.ref sc,.int 15,.ref t]/\SqL K H sc #[76]/\ns.length<=63/\SqT K H t bs/\Dvs K H (rs.map Row.da) bs/\Bok rs rk/\(∀ r∈rs,wr8 r.name)/\∀ (v:V) (h:List Tr) (H':Hp),A9 H H'->Dv K H' (Tr.nd "" h).da v->rtS (rdS rs rk (TX.ofL (wL rs h)))=h->(rdS rs rk (TX.ofL (wL rs h))).ms=[]->qu2 rs h->(wL rs h).length<=9000->hgt (Tr.nd "" h)<=80->Q v H'
def qi2(K:Fg):TS :=
 (B9 (C8 (T8 B1) (B3 3))
 (xl5 K))
theorem xx1(h:qm6 K vs H Q E):qi2 K {nx:=fun _ H'=>Q .non H',rt:=Q} (C9 ["_law_script","_law_start","_law_book_here","_law_names_here","_law_heaps","_law_made_so_far","_law_cell","_law_number","_law_row_here","_law_times","_law_k","_law_may_here","_law_heap","_law_frame_here"] vs) H:=by
 obtain⟨sc,t,ns,bs,rs,rk,rfl,hS,hn63,hbt,hbd,Bk,hok,q⟩:=h
 show qi2 K _ [some (.ref sc),some (.int 15),some (.ref t),none,none,none,none,none,none,none,none,none,none,none] H
 unfold qi2
 have B:=Bk.B
 lk
 refine⟨D5 (by z_go),fun N hN=>?_⟩
 have s1:=A9.new hN (.lst [])
 have f1:(upd H N (.lst [])) N=_:=A8
 generalize upd H N (.lst [])=H1 at *
 walk_at"14"
 have s2:=A9.new hp (.lst [])
 have f2:(upd H1 p (.lst [])) p=_:=A8
 generalize upd H1 p (.lst [])=H2 at *
 lk
 refine⟨D5 (by z_go),fun L hL=>?_⟩
 have s3:=A9.new hL (.lst [.ref p])
 have f3:(upd H2 L (.lst [.ref p])) L=_:=A8
 generalize upd H2 L (.lst [.ref p])=H3 at *
 have s13:=A9.tr (A9.tr s1 s2) s3
 have g1:=s3 _ _ (s2 _ _ f1)
 have g2:=s3 _ _ f2
 have npN:p≠N:=fun z=>by rw[z,f1] at hp;cases hp
 have nLN:L≠N:=fun z=>by rw[z,s2 _ _ f1] at hL;cases hL
 have nd:N∉L::[p]:=by simp;exact⟨Ne.symm nLN,Ne.symm npN⟩
 have nw:∀ z∈N::L::[p],H z=none:=fun z hz=>by
  simp only[mem_cons,not_mem_nil,or_false] at hz
  rcases hz with rfl|rfl|rfl
  ·exact hN
  ·exact A9.grow (A9.tr s1 s2) _ hL
  ·exact A9.grow s1 _ hp
 have so:∀ z∈N::L::[p],H3 z≠none:=fun z hz=>by
  simp only[mem_cons,not_mem_nil,or_false] at hz
  rcases hz with rfl|rfl|rfl
  ·rw[g1];simp
  ·rw[f3];simp
  ·rw[g2];simp
 lk
 refine yz3 (s13.sqL hS) (fun c hc=>?_)
 have s4:=A9.new hc (.lst (qg5 #[76] (some 15) (some 63)))
 have e4:(upd H3 c (.lst (qg5 #[76] (some 15) (some 63)))) c=_:=A8
 have hcl:(qg5 #[76] (some 15) (some 63)).length<=63:=by
  have:=wk4 #[76] (some 15) (some 63)
  rw[length_map] at this;omega
 have hci:∀ i x,(qg5 #[76] (some 15) (some 63))[i]?=some x->∃ n,x=V.int n:=fun i x h=>zr3 h
 generalize qg5 #[76] (some 15) (some 63)=cells at *
 generalize upd H3 c (.lst cells)=H4 at *
 have A4:A0 K (rml H4 [N,L,p]) H4 N L [p] [] [[]]:=⟨yq1,(Hps.one g2 f3).same s4,s4 _ _ g1,nd,fun z hz=>yx0 hz⟩
 have sb:A9 H (rml H4 [N,L,p]):=A9.rml (A9.tr s13 s4) nw
 have hcb:(rml H4 [N,L,p]) c=some (.lst cells):=by rw[xb3 fun h=>so c h hc];exact e4
 generalize rml H4 [N,L,p]=Hb at *
 have hbv:Rws K Hb (.ref t) rs:=⟨t,bs,rfl,.inr (sb.sqT hbt),Dvs.same sb _ _ hbd⟩
 have hbl:bs.length=rs.length:=by have:=hbd.length;rw[length_map] at this;exact this
 have hrl:=B.l1
 refine wa3 (H0:=Hb) (xs:=cells) (.inl #[59,hcb]) A4.s (fun i σ H'=>∃ (Hb':Hp) (as:List Addr) (ys:List Str) (hs:List (List Tr)) (zs:List (Str×List Tr)) (made:Nat) (x6 x7 x8 x9 x10 x11 x12 x13:Option V),σ=[some (.ref sc),some (.int 15),some (.ref t),some (.ref N),some (.ref L),some #[48],x6,x7,x8,x9,x10,x11,x12,x13]/\A9 Hb Hb'/\A0 K Hb' H' N L as ys hs/\I0 rs rk zs ys hs made i/\made<=60) ⟨Hb,[p],[],[[]],[("",[])],0,none,none,none,none,none,none,none,none,rfl,A9.refl Hb,A4,I0.nil,Nat.zero_le _⟩ (fun i σ H' ⟨Hb',_,_,_,_,_,_,_,_,_,_,_,_,_,_,s,A,_,_⟩=>A9.tr s A.s) ?_ ?_
 ·rintro i v σ H5 hv ⟨Hb',as,ys,hs,zs,made,x6,x7,x8,x9,x10,x11,x12,x13,rfl,sb',A,I,hm⟩
  obtain⟨cell,rfl⟩:=hci i v hv
  have hi:i<63:=by have:=(List.getElem?_eq_some_iff.mp hv).1;omega
  have hb':=hbv.same sb'
  refine D6 ?_
  show wh8 K _ [some (.ref sc),some (.int 15),some (.ref t),some (.ref N),some (.ref L),some #[48],some (.int cell),x7,x8,x9,x10,x11,x12,x13] _
  lk
  refine⟨cell,11,rfl,by decide,by decide,fun num hnum=>?_⟩
  lk
  have sT:=A.s.sqT (sb'.sqT (sb.sqT hbt))
  refine N8 (.inr sT) ?_
  have hpos:(0:Int)<(bs.length:Nat):=by rw[hbl];omega
  refine yl8 hpos ?_
  have y0:=Int.emod_nonneg (num / 8) (show((bs.length:Nat):Int)≠0 by omega)
  have y1:=Int.emod_lt_of_pos (num / 8) hpos
  obtain⟨k,hk⟩:=Int.eq_ofNat_of_zero_le y0
  rw[hk] at y1 ⊢
  have hkl:k<bs.length:=by omega
  have hkr:k<rs.length:=by omega
  refine G1 sT (v:=bs[k]) (D3 (List.getElem?_eq_getElem hkl)) ?_
  have dr:Dv K Hb' (rs[k]).da bs[k]:=by
   obtain⟨d,h1,h2⟩:=(Dvs.same (A9.tr sb sb') _ _ hbd).get' (List.getElem?_eq_getElem hkl)
   rw[List.getElem?_map,List.getElem?_eq_getElem hkr] at h1
   have:(rs[k]).da=d:=Option.some.inj h1
   rw[this];exact h2
  have hr:rs[k]∈rs:=List.getElem_mem hkr
  generalize rs[k]=r at *
  generalize bs[k]=v8 at *
  refine D6 ?_
  show wh7 K _ [some (.ref sc),some (.int 15),some (.ref t),some (.ref N),some (.ref L),some #[48],some (.int cell),some (.int num),some v8,x9,x10,x11,x12,x13] _
  lk
  refine⟨D5 (by z_go),fun l4 hl4=>?_⟩
  have s5:=A9.new hl4 (.lst [.int 1,.int 1,.int 1,.int 22])
  have A5:=A.same s5
  lk
  have z0:=Int.emod_nonneg (num / 4096) (show(4:Int)≠0 by decide)
  have z1:=Int.emod_lt_of_pos (num / 4096) (show(0:Int)<4 by decide)
  obtain⟨m,hm22,hat⟩:∃ m:Nat,m<=22/\atI [V.int 1,V.int 1,V.int 1,V.int 22] (num / 4096 % 4)=some (.int (m:Int)):=by
   obtain⟨k4,hk4⟩:=Int.eq_ofNat_of_zero_le z0
   rw[hk4] at z1 ⊢
   have:k4=0\/k4=1\/k4=2\/k4=3:=by omega
   rcases this with rfl|rfl|rfl|rfl
   ·exact⟨1,by omega,D3 (j:=0) rfl⟩
   ·exact⟨1,by omega,D3 (j:=1) rfl⟩
   ·exact⟨1,by omega,D3 (j:=2) rfl⟩
   ·exact⟨22,by omega,D3 (j:=3) rfl⟩
  refine L7 #[59,A8] hat ?_
  generalize upd H5 l4 (.lst [.int 1,.int 1,.int 1,.int 22])=H6 at *
  lk
  refine wa1 #[0] #[0] (fun _ σ H'=>∃ (Hb2:Hp) (as:List Addr) (ys:List Str) (hs:List (List Tr)) (zs:List (Str×List Tr)) (made:Nat) (r:Row) (v8:V) (x10 x11 x12:Option V),σ=[some (.ref sc),some (.int 15),some (.ref t),some (.ref N),some (.ref L),some #[48],some (.int cell),some (.int num),some v8,some (.int (m:Int)),x10,x11,x12,x13]/\A9 Hb' Hb2/\A0 K Hb2 H' N L as ys hs/\I0 rs rk zs ys hs made i/\made<=60/\r∈rs/\Dv K Hb2 r.da v8) ⟨Hb',as,ys,hs,zs,made,r,v8,_,_,_,rfl,A9.refl Hb',A5,I,hm,hr,dr⟩ ?_ ?_
  ·rintro k σ H7 hk ⟨Hb2,as,ys,hs,zs,made,r,v8,x10,x11,x12,rfl,sb2,A,I,hm,hr,dr⟩
   refine D6 ?_
   exact g_9 B hok (hb'.same sb2) A I hm #[0] hr dr fun Hb3 as' ys' hs' zs' made' r' v8' x11 x12 H' s3 A' I' hm' hr' dr'=>⟨Hb3,as',ys',hs',zs',made',r',v8',_,_,_,rfl,A9.tr sb2 s3,A',I',hm',hr',dr'⟩
  ·rintro σ H7 ⟨Hb2,as,ys,hs,zs,made,r,v8,x10,x11,x12,rfl,sb2,A,I,hm,hr,dr⟩
   exact Ao7 B (hb'.same sb2) A I hm #[0] fun fb as' hs' zs' H' A' I'=>⟨Hb2,as',ys,hs',zs',made,_,_,_,_,_,_,_,_,rfl,A9.tr sb' sb2,A',I',hm⟩
 ·rintro σ H5 ⟨Hb',as,ys,hs,zs,made,x6,x7,x8,x9,x10,x11,x12,x13,rfl,sb',A,I,hm⟩
  show wi0 K _ _ _
  refine qf6 ?_
  refine ya8 (fun σ H'=>∃ (as:List Addr) (ys:List Str) (hs:List (List Tr)) (zs:List (Str×List Tr)) (x12:Option V),σ=[some (.ref sc),some (.int 15),some (.ref t),some (.ref N),some (.ref L),some #[48],x6,x7,x8,x9,x10,x11,x12,x13]/\A0 K Hb' H' N L as ys hs/\I0 rs rk zs ys hs made cells.length) (fun _ H'=>match H' N with|some (.lst us)=>us.length|_=>0) ⟨as,ys,hs,zs,x12,rfl,A,I⟩ ?_
  rintro σ H6 ⟨as,ys,hs,zs,x12,rfl,A,I⟩
  lk
  refine⟨D5 (by z_go),fun e0 he0=>?_⟩
  have s6:=A9.new he0 (.lst [])
  have A6:=A.same s6
  lk
  refine xb7 A6.t A8 ?_
  generalize upd H6 e0 (.lst [])=H7 at *
  refine⟨_,rfl,?_⟩
  rcases eq_nil_or_concat ys with rfl|⟨yn,n,rfl⟩
  ·k_go
   obtain⟨h,rfl,r1,r2,r3,r4,r5⟩:=I.fin Bk hm #[0]
   obtain⟨a,as',us,rfl,ha,hd⟩:=A6.h.first
   show wh9 K _ _ _
   lk
   refine L7 #[59,A6.h.l] (v:=.ref a) (D3 (j:=0) rfl) ?_
   lk
   refine⟨_,_,rfl,.inl ⟨SqL.of ha,fun l hl=>?_⟩⟩
   have u1:=A9.new hl (.tup us)
   lk
   refine⟨D5 (by z_go),fun p8 hp8=>?_⟩
   have u2:=A9.new hp8 (.tup [.str "",.ref l])
   refine q _ h _ (A9.tr sb (A9.tr sb' (A9.tr A6.s (A9.tr u1 u2)))) (yn8 (SqT.of A8) (u2.sqT (SqT.of A8)) (Dvs.same (A9.tr u1 u2) _ _ hd)) r1 r2 r3 r4 r5
  ·rw[concat_eq_append] at *
   have e1:(!(yn++[n]).isEmpty)=true:=by simp
   rw[e1]
   x_go
   obtain⟨ws,w1,w2,rfl⟩:∃ ws w1 w2,hs=ws++[w1,w2]:=by
    have hl:hs.length=yn.length+2:=by
     have h1:=congrArg List.length I.e
     have h2:=congrArg List.length I.e2
     rw[length_map] at h1 h2
     rw[<-h2,h1];simp
    rcases eq_nil_or_concat hs with rfl|⟨ws,w2,rfl⟩
    ·simp at hl
    ·rcases eq_nil_or_concat ws with rfl|⟨ws,w1,rfl⟩
     ·simp at hl
     ·exact⟨ws,w1,w2,by simp[concat_eq_append]⟩
   have hc:=I.c w1 (by simp)
   obtain⟨zs',I'⟩:=I.cl
   refine⟨fun σ' H'=>∃ (as:List Addr) (hs:List (List Tr)) (zs:List (Str×List Tr)) (x12:Option V),σ'=[some (.ref sc),some (.int 15),some (.ref t),some (.ref N),some (.ref L),some #[48],x6,x7,x8,x9,x10,x11,x12,x13]/\A0 K Hb' H' N L as yn hs/\I0 rs rk zs yn hs made cells.length,?_,zb7 A6 #[0] fun as' x12 H' A'=>⟨as',_,zs',_,rfl,A',I'⟩⟩
   rintro σ' H' ⟨as,hs,zs,x12,rfl,A',I'⟩
   refine⟨_,?_,rfl,as,yn,hs,zs,x12,rfl,A',I'⟩
   show(match H' N with|some (.lst us)=>us.length|_=>0)<(match H6 N with|some (.lst us)=>us.length|_=>0)
   rw[A'.t,A.t]
   show(B4 yn).length<(B4 (yn++[n])).length
   rw[B7,B7];simp
abbrev zy7(K:Fg):TS :=
 (E3 (wr9 (tOp (P9 K) #[20,3] (A7 2)) (wr9 (tCB (wy6 K) (A3 #[39,3] (A3 (tC (.ty "list")) B1))) (tOp (P9 K) #[39,3] (T8 B1)))))
abbrev zy8(K:Fg):TS :=
 (B9 (N1 (tOr (ww9 (tB (tCB (wy6 K) (A3 (A7 3) (A3 (tC (.ty "tuple")) B1))))) (tOr (C5 (tOp (qq5 K) (tCB (O3 K) #[3,3]) #[1,2])) (ww9 (tB (C3 (wh2 K) [] E0 (A3 #[20,3] B1))))))
 (E3 (tC (.bl false))) J5)
 (zy7 K))
abbrev zy9(K:Fg):TS :=
 (B9 (C8 (C3 (qr9 K) [] E0 (A3 (A7 1) (A3 (C3 (wh0 K) [] E0 (A3 (A7 1) #[3,2])) B1))) (B3 3))
 (zy8 K))
abbrev zz0(K:Fg):TS :=
 (B9 (C8 (C3 (qm6 K) [] E0 (A3 (A7 0) (A3 #[1,15] #[3,1]))) (B3 2))
 (zy9 K))
def xh1(K:Fg):Sp:=fun vs H Q _=>∃ (a:Addr) (ns:List Int),vs=[.ref a]/\SqL K H a #[76]/\ns.length<=63/\∀ H',Q (.bl true) H'
def yr3(K:Fg):TS :=
 (B9 (C8 (C3 (qs1 K) [] E0 #[3,0]) (B3 1))
 (zz0 K))
theorem Ai9(h:xh1 K vs H Q E):yr3 K {nx:=fun _ H'=>Q .non H',rt:=Q} (C9 ["_law_script","_law_book_here","_law_tree","_law_found"] vs) H:=by
 obtain⟨sc,ns,rfl,hS,hn63,q⟩:=h
 show yr3 K _ [some (.ref sc),none,none,none] H
 unfold yr3
 lk
 refine⟨sc,ns,rfl,hS,fun t us rs H1 s1 ht hd B hok=>?_⟩
 obtain⟨rk,Bk⟩:=zy6 B hok
 lk
 refine⟨sc,t,ns,us,rs,rk,rfl,s1.sqL hS,hn63,SqT.of ht,hd,Bk,fun r hr=>(hok r hr).1,fun v h H2 s2 dv r1 r2 r3 r4 r5=>?_⟩
 have hR:Rws K H2 (.ref t) rs:=⟨t,us,rfl,.inr (s2.sqT (SqT.of ht)),Dvs.same s2 _ _ hd⟩
 have hB:BkO K H2 (.ref t) rs:=⟨t,us,rfl,s2.sqT (SqT.of ht),Dvs.same s2 _ _ hd⟩
 lk
 refine⟨.ref t,v,rs, "",h,rfl,hR,dv,r3,by omega,r4,fun H3 s3=>?_⟩
 lk
 refine⟨.ref t,TX.ofL (wL rs h),rs,rk,rfl,hB.same s3,Bk,by rw[wq5];omega,fun v1 p9 q9 us9 H4 hp9 hv9 hq9 hu9 s4 _=>?_⟩
 rw[r1] at hv9
 rw[r2] at hu9
 have dv4:=Dv.same (A9.tr s3 s4) _ _ dv
 lk
 refine ye1 hp9 (b:=true) rfl ?_
 lk
 k_go
 lk
 refine N8 (.inr hp9) ?_
 lk
 rw[show decide ((([v1,V.ref q9].length:Nat):Int)=2)=true from rfl]
 k_go
 lk
 refine G1 hp9 (v:=v1) (D3 (j:=0) rfl) ?_
 lk
 refine⟨v1, "",h,rfl,hv9,by omega,?_⟩
 lk
 k_go
 lk
 refine G1 hp9 (v:=v1) (D3 (j:=0) rfl) ?_
 lk
 refine Aa1 hv9 dv4 ?_ ?_
 ·have:=yq0 (Tr.nd "" h)
  omega
 rw[wy0 _ (Ab3 _)]
 refine⟨true,rfl,?_⟩
 x_go
 lk
 refine G1 hp9 (v:=.ref q9) (D3 (j:=1) rfl) ?_
 lk
 refine zl1 (.lst hq9) (b:=true) rfl ?_
 refine⟨true,rfl,?_⟩
 x_go
 lk
 refine G1 hp9 (v:=.ref q9) (D3 (j:=1) rfl) ?_
 lk
 refine⟨D5 (by z_go),fun e0 he0=>?_⟩
 have s5:=A9.new he0 (.lst [])
 lk
 refine Aa8 (ds:=[]) (qg9.mpr ⟨q9,us9,rfl,SqL.of (s5 _ _ hq9),Dvs.same s5 _ _ hu9⟩) A8 ?_
 exact q _
end
variable{X:Cx}{pos:Pos}{mg:Str->Option Value}
section
open PyProof.Rows
set_option maxHeartbeats 0
def top(i:Nat):Stmt:=PySem.Challenge.pw_tagmend_k40_texts_without_mends.main.body.getD i (.Pass ⟨0,0,0,0⟩)
def qk5(s:Stmt)(j:Nat):Stmt:=match s with
 | .ClassDef _ _ _ b _ _ _ _ _ _ _=>b.getD j (.Pass ⟨0,0,0,0⟩)
 | _=>.Pass ⟨0,0,0,0⟩
abbrev R0:Stmt:=top 8
abbrev xt2:Stmt:=top 9
abbrev xh2:Stmt:=top 10
abbrev xh3:Stmt:=top 11
abbrev xh4:Stmt:=top 12
abbrev ww0:Stmt:=top 13
abbrev xh5:Stmt:=top 14
abbrev xh6:Stmt:=top 17
abbrev ql4:Stmt:=top 18
abbrev xh7:Stmt:=top 19
abbrev qi3:Stmt:=top 21
abbrev xh8:Stmt:=top 24
abbrev xh9:Stmt:=top 25
abbrev wn5:Stmt:=top 26
abbrev xt3:Stmt:=top 27
abbrev qi4:Stmt:=top 28
abbrev qp2:Stmt:=top 29
abbrev qu7:Stmt:=top 30
abbrev wn6:Stmt:=top 31
abbrev xi0:Stmt:=top 35
abbrev xi1:Stmt:=top 36
abbrev qy0:Stmt:=top 37
abbrev wn7:Stmt:=top 41
abbrev ql5:Stmt:=top 42
abbrev wn8:Stmt:=top 43
abbrev wf5:Stmt:=top 44
abbrev ww1:Stmt:=top 45
abbrev qz5:Stmt:=top 46
abbrev qu8:Stmt:=top 47
abbrev wf6:Stmt:=top 48
abbrev wf7:Stmt:=top 49
abbrev wn9:Stmt:=top 52
abbrev wo0:Stmt:=top 53
abbrev qi5:Stmt:=top 56
abbrev qu9:Stmt:=top 57
abbrev qp3:Stmt:=top 58
abbrev qv0:Stmt:=top 60
abbrev wf8:Stmt:=top 61
abbrev qv1:Stmt:=top 62
abbrev qi6:Stmt:=top 63
abbrev qb1:Stmt:=top 64
abbrev qg3:Stmt:=top 65
abbrev ww2:Stmt:=top 66
abbrev wf9:Stmt:=top 67
abbrev wg0:Stmt:=top 68
abbrev wo1:Stmt:=top 70
abbrev ww3:Stmt:=top 71
abbrev wg1:Stmt:=top 72
abbrev wo2:Stmt:=top 73
abbrev wg2:Stmt:=top 74
abbrev qv2:Stmt:=top 75
abbrev qv3:Stmt:=top 76
abbrev qv4:Stmt:=top 77
abbrev yb8:Stmt:=top 78
abbrev qp4:Stmt:=qk5 (top 54) 0
abbrev qp5:Stmt:=qk5 (top 55) 0
abbrev qp6:Stmt:=qk5 (top 55) 1
abbrev qp7:Stmt:=qk5 (top 55) 2
abbrev qi7:Stmt:=qk5 (top 55) 3
abbrev V1:Stmt:=qk5 (top 55) 4
abbrev V2:Stmt:=qk5 (top 55) 5
abbrev qd2:Stmt:=qk5 (top 55) 6
abbrev R1:Stmt:=qk5 (top 55) 7
abbrev V9:Stmt:=qk5 (top 55) 8
abbrev T5:Stmt:=qk5 (top 55) 9
abbrev ql6:Stmt:=qk5 (top 55) 10
abbrev ql7:Stmt:=qk5 (top 55) 11
abbrev qp8:Stmt:=qk5 (top 55) 12
abbrev qi8:Stmt:=qk5 (top 55) 13
abbrev V3:Stmt:=qk5 (top 55) 14
abbrev R6:Stmt:=qk5 (top 55) 15
abbrev qd3:Stmt:=qk5 (top 55) 16
set_option genInjectivity false in
structure Fa where
 a:Addr
 d:FuncData
structure Fok(K:Fg)(mg:Str->Option Value)(x:Str)(st:Stmt)(ps:List Str)(f:Fa):Prop where
 F:Fun K x x st f.a f.d
 b:T7 K f.d ps []
 m:mg x=some (.ref f.a)
theorem zcl{CX:CXT}{k:Nat}{fa:Fa}{st:Stmt}{ps:List Str}{sp:Sp}{p:Pos}{e:Expr}{es:List Expr}{t:TA}(F:E1 X.prog X.w X.K X.mg X.base CX k fa.a fa.d ps sp)(hr:qk8 j X.A)(f:Fok X.K X.mg x st ps fa)(hx:wk2 CX X E)(ha:PA X (e::es) t)(hk:k<=j:=by walk_at "le")(hg:autoParam (Gl X x) zAr)(hdb:autoParam #[35] zAd)(he:autoParam #[16] zAr)(hpl:autoParam #[43,pos] zAr):PE X (.Call (.Name x p) (e::es) [] pos) (C3 sp [] E t):=zs6 F (hr.mono hk) hg f.m f.F.kp f.b .nil hx ha hdb he hpl
theorem zst{P:List Str}{sc:Scope}{i:Nat}{e:Expr}{pos':Pos}(S:C0 X.N P sc)(he:PE X e te)(hi:autoParam (X.N[i]?=some x) zAr)(hx:Loc X.env.scope x:=by exact Or.inl rfl)(hs:autoParam (swapsWith e (some (.Name x pos')) pos.line X.env=pure false) zAr)(hf:X.fn x=true\/X.env.scope.names.lookup x=some .local:=by walk_at "or"):PS X (.Assign [.Name x pos'] e pos) (C8 te (B3 i)):=X2 S.nd hi hx he hs hf
set_option genInjectivity false in
structure Adr where
 za:Fa
 zb:Fa
 zc:Fa
 zd:Fa
 ze:Fa
 zf:Fa
 zh:Fa
 zi:Fa
 zj:Fa
 zk:Fa
 zm:Fa
 zn:Fa
 zo:Fa
 zp:Fa
 zr:Fa
 zt:Fa
 zu:Fa
 zw:Fa
 zx:Fa
 zy:Fa
 zz:Fa
 ya:Fa
 yb:Fa
 yc:Fa
 yd:Fa
 ye:Fa
 yf:Fa
 yg:Fa
 yh:Fa
 yi:Fa
 yj:Fa
 yk:Fa
 yl:Fa
 ym:Fa
 yo:Fa
 yp:Fa
 yq:Fa
 yr:Fa
 yt:Fa
 yu:Fa
 yw:Fa
 yx:Fa
 yy:Fa
 yz:Fa
 xa:Fa
 xb:Fa
 xc:Fa
 xf:Fa
 xg:Fa
 xh:Fa
 xi:Fa
 xj:Fa
 xk:Fa
 xl:Fa
 a_c19:Addr
 d_c19:FuncData
 a_c18:Addr
 d_c18:FuncData
 a_c22:Addr
 d_c22:FuncData
 a_c21:Addr
 d_c21:FuncData
 a_c15:Addr
 d_c15:FuncData
 a_c6:Addr
 d_c6:FuncData
 a_c7:Addr
 d_c7:FuncData
 a_c13:Addr
 d_c13:FuncData
 a_c10:Addr
 d_c10:FuncData
 a_c9:Addr
 d_c9:FuncData
 a_c11:Addr
 d_c11:FuncData
 a_c17:Addr
 d_c17:FuncData
 a_c16:Addr
 d_c16:FuncData
 a_c20:Addr
 d_c20:FuncData
 a_c14:Addr
 d_c14:FuncData
 a_c8:Addr
 d_c8:FuncData
 a_c5:Addr
 d_c5:FuncData
 a_c12:Addr
 d_c12:FuncData
 c_WALL_SORTS:Addr
 v_LONGEST_NAME:Value
 v_NAME:Value
 v_SORT:Value
 v_HOST:Value
 v_SHUTS:Value
 v_BARS:Value
 v_ROOT_NAME:Value
 v_MOST_OPEN:Value
 c_TOLD_FOR:Addr
 c_ESCAPED:Addr
 v_START:Value
 v_STOP:Value
 v_BLANKS:Value
 qA:Addr
 qB:Addr
structure Txt(K:Fg)(mg:Str->Option Value)(t:Adr):Prop where
 za:Fok K mg "has_letters_of_name" R0 ["word"] t.za
 zb:Fok K mg "row_of" xt2 ["rows","name"] t.zb
 zc:Fok K mg "sort_of" xh2 ["book","name"] t.zc
 zd:Fok K mg "is_wall" xh3 ["book","name"] t.zd
 ze:Fok K mg "host_of" xh4 ["book","name"] t.ze
 zf:Fok K mg "frame_of" ww0 ["book","name"] t.zf
 zh:Fok K mg "belongs" xh5 ["book","name","frame"] t.zh
 zi:Fok K mg "is_text" xh6 ["part"] t.zi
 zj:Fok K mg "straight_above" ql4 ["names"] t.zj
 zk:Fok K mg "near_of" xh7 ["book","names"] t.zk
 zm:Fok K mg "share_a_name" qi3 ["names","others"] t.zm
 zn:Fok K mg "closing" xh8 ["book","names","name"] t.zn
 zo:Fok K mg "opening" xh9 ["book","names","name"] t.zo
 zp:Fok K mg "hosts_for" wn5 ["book","names"] t.zp
 zr:Fok K mg "wanted" xt3 ["book","names","name"] t.zr
 zt:Fok K mg "wanted_by_guest" qi4 ["book","names","name"] t.zt
 zu:Fok K mg "kept_by_shuts" qp2 ["book","names","name"] t.zu
 zw:Fok K mg "hosts_within" qu7 ["book","name"] t.zw
 zx:Fok K mg "is_barred" wn6 ["book","kept","put"] t.zx
 zy:Fok K mg "escaped" xi0 ["text"] t.zy
 zz:Fok K mg "told_by" xi1 ["run"] t.zz
 ya:Fok K mg "lone_ones" qy0 ["run"] t.ya
 yb:Fok K mg "tokens_of" wn7 ["text"] t.yb
 yc:Fok K mg "settled_tokens" ql5 ["text","settled","searched"] t.yc
 yd:Fok K mg "tags_from" wn8 ["text","searched"] t.yd
 ye:Fok K mg "name_start" wf5 ["text","start"] t.ye
 yf:Fok K mg "tag_stop" ww1 ["text","start"] t.yf
 yg:Fok K mg "tag_between" qz5 ["text","start","stop"] t.yg
 yh:Fok K mg "runs_between" qu8 ["text","start","stop"] t.yh
 yi:Fok K mg "opening_of" wf6 ["name"] t.yi
 yj:Fok K mg "closing_of" wf7 ["name"] t.yj
 yk:Fok K mg "read_text" wn9 ["book","text"] t.yk
 yl:Fok K mg "reader_of" wo0 ["book","text"] t.yl
 ym:Fok K mg "those_that_wait" qi5 ["book","closed"] t.ym
 yo:Fok K mg "without_last" qu9 ["names","name"] t.yo
 yp:Fok K mg "may_come_anew" qp3 ["book","names","name"] t.yp
 yq:Fok K mg "_law_cell_at" qv0 ["_law_script","_law_k"] t.yq
 yr:Fok K mg "_law_mixed" wf8 ["_law_cell","_law_k"] t.yr
 yt:Fok K mg "_law_letters" qv1 ["_law_number"] t.yt
 yu:Fok K mg "_law_names" qi6 ["_law_cell"] t.yu
 yw:Fok K mg "_law_sorts" qb1 ["_law_script","_law_names_here","_law_count"] t.yw
 yx:Fok K mg "_law_book" qg3 ["_law_script"] t.yx
 yy:Fok K mg "_law_row" ww2 ["_law_book_here","_law_name"] t.yy
 yz:Fok K mg "_law_frame" wf9 ["_law_book_here","_law_name"] t.yz
 xa:Fok K mg "_law_fence" wg0 ["_law_book_here","_law_name"] t.xa
 xb:Fok K mg "_law_near" wo1 ["_law_book_here","_law_names_here"] t.xb
 xc:Fok K mg "_law_may" ww3 ["_law_book_here","_law_names_here","_law_name"] t.xc
 xf:Fok K mg "_law_signs" wg1 ["_law_number"] t.xf
 xg:Fok K mg "_law_word" wo2 ["_law_cell","_law_number"] t.xg
 xh:Fok K mg "_law_grown" wg2 ["_law_script","_law_start","_law_book_here"] t.xh
 xi:Fok K mg "_law_escaped" qv2 ["_law_text"] t.xi
 xj:Fok K mg "_law_written" qv3 ["_law_book_here","_law_tree"] t.xj
 xk:Fok K mg "_law_is_tree" qv4 ["_law_found"] t.xk
 xl:Fok K mg "law" yb8 ["_law_script"] t.xl
 F_c19:Fun K "__init__" "Branch.__init__" qp4 t.a_c19 t.d_c19
 b_c19:T7 K t.d_c19 ["self","name","place"] []
 m_c19:Mk K t.qA t.a_c19
 F_c18:Fun K "__init__" "Reader.__init__" qp5 t.a_c18 t.d_c18
 b_c18:T7 K t.d_c18 ["self","book"] []
 m_c18:Mk K t.qB t.a_c18
 F_c22:Fun K "root" "Reader.root" qp6 t.a_c22 t.d_c22
 b_c22:T7 K t.d_c22 ["self"] []
 m_c22:wd4 K t.qB "root" t.a_c22
 F_c21:Fun K "read" "Reader.read" qp7 t.a_c21 t.d_c21
 b_c21:T7 K t.d_c21 ["self","kind","start","signs","told"] []
 m_c21:wd4 K t.qB "read" t.a_c21
 F_c15:Fun K "finish" "Reader.finish" qi7 t.a_c15 t.d_c15
 b_c15:T7 K t.d_c15 ["self","size"] []
 m_c15:wd4 K t.qB "finish" t.a_c15
 F_c6:Fun K "read_opening" "Reader.read_opening" V1 t.a_c6 t.d_c6
 b_c6:T7 K t.d_c6 ["self","start","signs","name"] []
 m_c6:wd4 K t.qB "read_opening" t.a_c6
 F_c7:Fun K "read_closing" "Reader.read_closing" V2 t.a_c7 t.d_c7
 b_c7:T7 K t.d_c7 ["self","start","signs","name"] []
 m_c7:wd4 K t.qB "read_closing" t.a_c7
 F_c13:Fun K "read_run" "Reader.read_run" qd2 t.a_c13 t.d_c13
 b_c13:T7 K t.d_c13 ["self","start","signs","told"] []
 m_c13:wd4 K t.qB "read_run" t.a_c13
 F_c10:Fun K "open_names" "Reader.open_names" R1 t.a_c10 t.d_c10
 b_c10:T7 K t.d_c10 ["self"] []
 m_c10:wd4 K t.qB "open_names" t.a_c10
 F_c9:Fun K "is_in_frame" "Reader.is_in_frame" V9 t.a_c9 t.d_c9
 b_c9:T7 K t.d_c9 ["self"] []
 m_c9:wd4 K t.qB "is_in_frame" t.a_c9
 F_c11:Fun K "last_wall" "Reader.last_wall" T5 t.a_c11 t.d_c11
 b_c11:T7 K t.d_c11 ["self"] []
 m_c11:wd4 K t.qB "last_wall" t.a_c11
 F_c17:Fun K "enter" "Reader.enter" ql6 t.a_c17 t.d_c17
 b_c17:T7 K t.d_c17 ["self","name"] []
 m_c17:wd4 K t.qB "enter" t.a_c17
 F_c16:Fun K "leave" "Reader.leave" ql7 t.a_c16 t.d_c16
 b_c16:T7 K t.d_c16 ["self"] []
 m_c16:wd4 K t.qB "leave" t.a_c16
 F_c20:Fun K "drop" "Reader.drop" qp8 t.a_c20 t.d_c20
 b_c20:T7 K t.d_c20 ["self","start","signs","rule"] []
 m_c20:wd4 K t.qB "drop" t.a_c20
 F_c14:Fun K "put_in" "Reader.put_in" qi8 t.a_c14 t.d_c14
 b_c14:T7 K t.d_c14 ["self","name","start","rule"] []
 m_c14:wd4 K t.qB "put_in" t.a_c14
 F_c8:Fun K "close_behind" "Reader.close_behind" V3 t.a_c8 t.d_c8
 b_c8:T7 K t.d_c8 ["self","kept","start","rule"] []
 m_c8:wd4 K t.qB "close_behind" t.a_c8
 F_c5:Fun K "put_in_waiting" "Reader.put_in_waiting" R6 t.a_c5 t.d_c5
 b_c5:T7 K t.d_c5 ["self","start"] []
 m_c5:wd4 K t.qB "put_in_waiting" t.a_c5
 F_c12:Fun K "add_text" "Reader.add_text" qd3 t.a_c12 t.d_c12
 b_c12:T7 K t.d_c12 ["self","start","signs","told"] []
 m_c12:wd4 K t.qB "add_text" t.a_c12
 g_WALL_SORTS:mg "WALL_SORTS"=some (.ref t.c_WALL_SORTS)
 q_WALL_SORTS:∀ H:Hp,SqT K H t.c_WALL_SORTS [.str "room",.str "frame"]
 g_LONGEST_NAME:mg "LONGEST_NAME"=some t.v_LONGEST_NAME/\E9 (.int 8) t.v_LONGEST_NAME
 g_NAME:mg "NAME"=some t.v_NAME/\E9 (.int 0) t.v_NAME
 g_SORT:mg "SORT"=some t.v_SORT/\E9 (.int 1) t.v_SORT
 g_HOST:mg "HOST"=some t.v_HOST/\E9 (.int 2) t.v_HOST
 g_SHUTS:mg "SHUTS"=some t.v_SHUTS/\E9 (.int 3) t.v_SHUTS
 g_BARS:mg "BARS"=some t.v_BARS/\E9 (.int 4) t.v_BARS
 g_ROOT_NAME:mg "ROOT_NAME"=some t.v_ROOT_NAME/\E9 (.str "") t.v_ROOT_NAME
 g_MOST_OPEN:mg "MOST_OPEN"=some t.v_MOST_OPEN/\E9 (.int 20) t.v_MOST_OPEN
 g_TOLD_FOR:mg "TOLD_FOR"=some (.ref t.c_TOLD_FOR)
 q_TOLD_FOR:∀ H:Hp,SqT K H t.c_TOLD_FOR [.str "&l;",.str "&a;"]
 g_ESCAPED:mg "ESCAPED"=some (.ref t.c_ESCAPED)
 q_ESCAPED:∀ H:Hp,SqT K H t.c_ESCAPED [.str "<",.str "&"]
 g_START:mg "START"=some t.v_START/\E9 (.int 1) t.v_START
 g_STOP:mg "STOP"=some t.v_STOP/\E9 (.int 2) t.v_STOP
 g_BLANKS:mg "BLANKS"=some t.v_BLANKS/\E9 (.str " \n") t.v_BLANKS
 z_all:mg "all"=none
 z_any:mg "any"=none
 z_enumerate:mg "enumerate"=none
 z_int:mg "int"=none
 z_isinstance:mg "isinstance"=none
 z_len:mg "len"=none
 z_list:mg "list"=none
 z_range:mg "range"=none
 z_reversed:mg "reversed"=none
 z_sorted:mg "sorted"=none
 z_str:mg "str"=none
 z_tuple:mg "tuple"=none
 n_Branch:mg "Branch"=some (.ref t.qA)
 n_Reader:mg "Reader"=some (.ref t.qB)
 cz:Cz K t.qA t.qB
section
variable{P:Program}{w:World}{base:Heap}{t:Adr}
theorem qi9:C0 ["word"] ["word"] (B2 R0):=by walk_at "k"
theorem yb9:C0 ["rows","name","row"] ["rows","name"] (B2 xt2):=by walk_at "k"
theorem xt4:C0 ["book","name","row"] ["book","name"] (B2 xh2):=by walk_at "k"
theorem xt5:C0 ["book","name"] ["book","name"] (B2 xh3):=by walk_at "k"
theorem xt6:C0 ["book","name","row"] ["book","name"] (B2 xh4):=by walk_at "k"
theorem xj4:C0 ["book","name","row"] ["book","name"] (B2 ww0):=by walk_at "k"
theorem xt7:C0 ["book","name","frame","above"] ["book","name","frame"] (B2 xh5):=by walk_at "k"
theorem xt8:C0 ["part"] ["part"] (B2 xh6):=by walk_at "k"
theorem qy1:C0 ["names"] ["names"] (B2 ql4):=by walk_at "k"
theorem xt9:C0 ["book","names","start","number","name"] ["book","names"] (B2 xh7):=by walk_at "k"
theorem wi1:C0 ["names","others"] ["names","others"] (B2 qi3):=by walk_at "k"
theorem xu0:C0 ["book","names","name","number"] ["book","names","name"] (B2 xh8):=by walk_at "k"
theorem xu1:C0 ["book","names","name","plan","kept","put"] ["book","names","name"] (B2 xh9):=by walk_at "k"
theorem xb8:C0 ["book","names","hosts"] ["book","names"] (B2 wn5):=by walk_at "k"
theorem wq7:C0 ["book","names","name","frame","number","plan"] ["book","names","name"] (B2 xt3):=by walk_at "k"
theorem qv5:C0 ["book","names","name","hosts"] ["book","names","name"] (B2 qi4):=by walk_at "k"
theorem wb8:C0 ["book","names","name","shuts","first_near","number"] ["book","names","name"] (B2 qp2):=by walk_at "k"
theorem wi2:C0 ["book","name","hosts","host"] ["book","name"] (B2 qu7):=by walk_at "k"
theorem xb9:C0 ["book","kept","put","number","name","near"] ["book","kept","put"] (B2 wn6):=by walk_at "k"
theorem xu2:C0 ["text"] ["text"] (B2 xi0):=by walk_at "k"
theorem xu3:C0 ["run"] ["run"] (B2 xi1):=by walk_at "k"
theorem xc0:C0 ["run"] ["run"] (B2 qy0):=by walk_at "k"
theorem xc1:C0 ["text","tokens","settled"] ["text"] (B2 wn7):=by walk_at "k"
theorem qy2:C0 ["text","settled","searched","tokens","tag"] ["text","settled","searched"] (B2 ql5):=by walk_at "k"
theorem xc2:C0 ["text","searched","tags","start","stop"] ["text","searched"] (B2 wn8):=by walk_at "k"
theorem wt2:C0 ["text","start"] ["text","start"] (B2 wf5):=by walk_at "k"
theorem xj5:C0 ["text","start","first","end"] ["text","start"] (B2 ww1):=by walk_at "k"
theorem wo3:C0 ["text","start","stop","first","kind"] ["text","start","stop"] (B2 qz5):=by walk_at "k"
theorem wi3:C0 ["text","start","stop"] ["text","start","stop"] (B2 qu8):=by walk_at "k"
theorem wt3:C0 ["name"] ["name"] (B2 wf6):=by walk_at "k"
theorem wt4:C0 ["name"] ["name"] (B2 wf7):=by walk_at "k"
theorem xc3:C0 ["book","text","reader"] ["book","text"] (B2 wn9):=by walk_at "k"
theorem xc4:C0 ["book","text","reader","kind","start","stop","told"] ["book","text"] (B2 wo0):=by walk_at "k"
theorem qv6:C0 ["book","closed","waiting","name"] ["book","closed"] (B2 qi5):=by walk_at "k"
theorem wi4:C0 ["names","name","number"] ["names","name"] (B2 qu9):=by walk_at "k"
theorem wb9:C0 ["book","names","name","row","unfit"] ["book","names","name"] (B2 qp3):=by walk_at "k"
theorem wi5:C0 ["_law_script","_law_k"] ["_law_script","_law_k"] (B2 qv0):=by walk_at "k"
theorem wt5:C0 ["_law_cell","_law_k","_law_half","_law_number"] ["_law_cell","_law_k"] (B2 wf8):=by walk_at "k"
theorem wi6:C0 ["_law_number","_law_signs_here","_law_width","_law_j"] ["_law_number"] (B2 qv1):=by walk_at "k"
theorem wt6:C0 ["_law_cell","_law_letters_here","_law_names_here","_law_k","_law_signs_here","_law_name","_law_spare"] ["_law_cell"] (B2 qi6):=by walk_at "k"
theorem wt7:C0 ["_law_script","_law_names_here","_law_count","_law_some","_law_sorts_here","_law_hosts","_law_taken","_law_k","_law_able","_law_j"] ["_law_script","_law_names_here","_law_count"] (B2 qb1):=by walk_at "k"
theorem xc5:C0 ["_law_script","_law_names_here","_law_count","_law_sorts_here","_law_hosts","_law_taken","_law_rows","_law_k","_law_own","_law_able","_law_shuts","_law_bars","_law_row_here"] ["_law_script"] (B2 qg3):=by walk_at "k"
theorem xj6:C0 ["_law_book_here","_law_name","_law_row_here"] ["_law_book_here","_law_name"] (B2 ww2):=by walk_at "k"
theorem wt8:C0 ["_law_book_here","_law_name","_law_row_here"] ["_law_book_here","_law_name"] (B2 wf9):=by walk_at "k"
theorem wt9:C0 ["_law_book_here","_law_name","_law_row_here"] ["_law_book_here","_law_name"] (B2 wg0):=by walk_at "k"
theorem xc6:C0 ["_law_book_here","_law_names_here","_law_near_here","_law_name"] ["_law_book_here","_law_names_here"] (B2 wo1):=by walk_at "k"
theorem xj7:C0 ["_law_book_here","_law_names_here","_law_name","_law_row_here","_law_last","_law_other"] ["_law_book_here","_law_names_here","_law_name"] (B2 ww3):=by walk_at "k"
theorem wu0:C0 ["_law_number","_law_some","_law_text","_law_k"] ["_law_number"] (B2 wg1):=by walk_at "k"
theorem xc7:C0 ["_law_cell","_law_number","_law_text","_law_some"] ["_law_cell","_law_number"] (B2 wo2):=by walk_at "k"
theorem wu1:C0 ["_law_script","_law_start","_law_book_here","_law_names_here","_law_heaps","_law_made_so_far","_law_cell","_law_number","_law_row_here","_law_times","_law_k","_law_may_here","_law_heap","_law_frame_here"] ["_law_script","_law_start","_law_book_here"] (B2 wg2):=by walk_at "k"
theorem wi7:C0 ["_law_text","_law_told","_law_sign"] ["_law_text"] (B2 qv2):=by walk_at "k"
theorem qf2:C0 ["_law_book_here","_law_tree","_law_text","_law_part"] ["_law_book_here","_law_tree"] (B2 qv3):=by walk_at "k"
theorem qf3:C0 ["_law_found","_law_part"] ["_law_found"] (B2 qv4):=by walk_at "k"
theorem zr4:C0 ["_law_script","_law_book_here","_law_tree","_law_found"] ["_law_script"] (B2 yb8):=by walk_at "k"
theorem wc0:C0 ["self","name","place"] ["self","name","place"] (B2 qp4):=by walk_at "k"
theorem wc1:C0 ["self","book"] ["self","book"] (B2 qp5):=by walk_at "k"
theorem wc2:C0 ["self"] ["self"] (B2 qp6):=by walk_at "k"
theorem wc3:C0 ["self","kind","start","signs","told"] ["self","kind","start","signs","told"] (B2 qp7):=by walk_at "k"
theorem qv7:C0 ["self","size"] ["self","size"] (B2 qi7):=by walk_at "k"
theorem qe4:C0 ["self","start","signs","name","plan","put"] ["self","start","signs","name"] (B2 V1):=by walk_at "k"
theorem qe5:C0 ["self","start","signs","name","number","wall"] ["self","start","signs","name"] (B2 V2):=by walk_at "k"
theorem qo4:C0 ["self","start","signs","told","hosts","host","number","place"] ["self","start","signs","told"] (B2 qd2):=by walk_at "k"
theorem qj0:C0 ["self"] ["self"] (B2 R1):=by walk_at "k"
theorem qg4:C0 ["self"] ["self"] (B2 V9):=by walk_at "k"
theorem qk6:C0 ["self","walls"] ["self"] (B2 T5):=by walk_at "k"
theorem qy3:C0 ["self","name","above"] ["self","name"] (B2 ql6):=by walk_at "k"
theorem qy4:C0 ["self","branch"] ["self"] (B2 ql7):=by walk_at "k"
theorem wc4:C0 ["self","start","signs","rule"] ["self","start","signs","rule"] (B2 qp8):=by walk_at "k"
theorem qv8:C0 ["self","name","start","rule"] ["self","name","start","rule"] (B2 qi8):=by walk_at "k"
theorem qe6:C0 ["self","kept","start","rule","closed","name"] ["self","kept","start","rule"] (B2 V3):=by walk_at "k"
theorem Z9:C0 ["self","start","wall","names","name"] ["self","start"] (B2 R6):=by walk_at "k"
theorem qo5:C0 ["self","start","signs","told","branch","ahead"] ["self","start","signs","told"] (B2 qd3):=by walk_at "k"
local macro_rules|`(tactic|walk_at "v")=>`(tactic|first
 |((with_reducible show PSs _ _ (B9 _ _));refine C1 ?_ ?_)
 |((with_reducible show PSs _ _ J5);exact T9)
 |((with_reducible show PSs _ _ _);first|refine C6 ?_|refine C1 ?_ ?_)
 |((with_reducible show PA _ _ (A3 _ _));refine B0 ?_ ?_)
 |((with_reducible show PA _ _ B1);exact B8)
 |((with_reducible show PA _ _ _);first|exact zl7|refine Y6 ?_)
 |((with_reducible show PE _ _ (A7 _));exact pv _)
 |((with_reducible show PE _ _ (tC _));first|exact C2|exact G3|exact ww8|exact xn1|exact qa0 rfl T.z_list boot_list rfl|exact qa0 rfl T.z_str boot_str rfl|exact qa0 rfl T.z_tuple boot_tuple rfl)
 |((with_reducible show PE _ _ (tOp (D2 _) _ _));refine L3 (D0 (D7 hr)) ?_ ?_ (fun _ _=>rfl))
 |((with_reducible show PE _ _ (tOp (E7 _) _ _));refine D1 D4 ?_ ?_)
 |((with_reducible show PE _ _ (tOp (qw7 _) _ _));refine D1 wy7 ?_ ?_)
 |((with_reducible show PE _ _ (tOp (rI wx0 _) _ _));refine D1 xm0 ?_ ?_)
 |((with_reducible show PE _ _ (tOp (rI zc3 _) _ _));refine D1 zh5 ?_ ?_)
 |((with_reducible show PE _ _ (tOp (rI0 _) _ _));refine D1 Ac7 ?_ ?_)
 |((with_reducible show PE _ _ (tOp qw6 _ _));refine D1 wy1 ?_ ?_)
 |((with_reducible show PE _ _ (tOp (rI _ _) _ _));first|refine D1 qd0 ?_ ?_|refine D1 zh6 ?_ ?_)
 |((with_reducible show PE _ _ (tOp (P9 _) _ _));refine qa1 (qo7 (wk9 hr)) ?_ ?_ (L5 _))
 |((with_reducible show PE _ _ (tOp (qt0 _ false) _ _));refine qa1 (wl2 (D7 hr)) ?_ ?_ #[25])
 |((with_reducible show PE _ _ (tOp (qt0 _ true) _ _));refine qa1 (ql0 (D7 hr)) ?_ ?_ #[25])
 |((with_reducible show PE _ _ (tOp (qq5 _) _ _));refine qa1 (xo3 (wk9 hr)) ?_ ?_ (L5 _))
 |((with_reducible show PE _ _ (tOp zd9 _ _));refine qa1 zj4 ?_ ?_ (L5 _))
 |((with_reducible show PE _ _ (tOp wq9 _ _));refine qa1 yd7 ?_ ?_ (L5 _))
 |((with_reducible show PE _ _ (tOp xo5 _ _));refine qa1 yd8 ?_ ?_ (L5 _))
 |((with_reducible show PE _ _ (tOp qq6 _ _));refine qa1 wp1 ?_ ?_ (L5 _))
 |((with_reducible show PE _ _ (tOp xo4 _ _));refine qa1 zj3 ?_ ?_ (L5 _))
 |((with_reducible show PT _ _ (C5 (tOp (P9 _) _ _)));refine E4 (qo7 (wk9 hr)) ?_ ?_ (L5 _))
 |((with_reducible show PT _ _ (C5 (tOp (qt0 _ false) _ _)));refine E4 (wl2 (D7 hr)) ?_ ?_ #[25])
 |((with_reducible show PT _ _ (C5 (tOp (qt0 _ true) _ _)));refine E4 (ql0 (D7 hr)) ?_ ?_ #[25])
 |((with_reducible show PT _ _ (C5 (tOp (qq5 _) _ _)));refine E4 (xo3 (wk9 hr)) ?_ ?_ (L5 _))
 |((with_reducible show PT _ _ (C5 (tOp zd9 _ _)));refine E4 zj4 ?_ ?_ (L5 _))
 |((with_reducible show PT _ _ (C5 (tOp wq9 _ _)));refine E4 yd7 ?_ ?_ (L5 _))
 |((with_reducible show PT _ _ (C5 (tOp xo5 _ _)));refine E4 yd8 ?_ ?_ (L5 _))
 |((with_reducible show PT _ _ (C5 (tOp qq6 _ _)));refine E4 wp1 ?_ ?_ (L5 _))
 |((with_reducible show PT _ _ (C5 (tOp xo4 _ _)));refine E4 zj3 ?_ ?_ (L5 _))
 |((with_reducible show PT _ _ (tB _));refine qg7 ?_)
 |((with_reducible show PT _ _ (ww9 _));refine qs6 ?_)
 |((with_reducible show PT _ _ (qm7 _ _));refine PW.pt ?_)
 |((with_reducible show PT _ _ (tOr _ _));refine PW.pt ?_)
 |((with_reducible show PW _ _ (qm7 _ _));refine wd1 ?_ ?_)
 |((with_reducible show PW _ _ (tOr _ _));refine yk0 ?_ ?_)
 |((with_reducible show PW _ _ _);first|refine qw4 ?_|refine yr6 ?_)
 |((with_reducible show PE _ _ (R4 _ _ _));refine wu4 ?_ rfl)
 |((with_reducible show PE _ _ (X3 _));refine qk9 ?_)
 |((with_reducible show PE _ _ (T8 _));refine qy7 ?_)
 |((with_reducible show PE _ _ (tUn _ _));refine yy0 yc4 ?_)
 |((with_reducible show PE _ _ (tIf _ _ _));refine yk1 ?_ ?_ ?_)
 |((with_reducible show PE _ _ (yx8 _));refine Ac3 ?_)
 |((with_reducible show PE _ _ (tSl (wu7 _) _ _ _));refine wk3 xo6 ?_ ?_ ?_)
 |((with_reducible show PE _ _ (tSl (ym6 _) _ _ _));refine wk3 zv3 ?_ ?_ ?_)
 |((with_reducible show PE _ _ (yd3 _ _ yd4 _));refine Ad6 PySem.F.plainAttrs_list PySem.F.slot_list_pop PySem.F.type_list_pop Ad7 ?_)
 |((with_reducible show PE _ _ (tBM _ _ (zj6 _) _ _));refine wg6 PySem.F.plainAttrs_str PySem.F.slot_str_join PySem.F.type_str_join yy9 ?_ ?_)
 |((with_reducible show PE _ _ (tBM _ _ M3 _ _));refine wg6 PySem.F.plainAttrs_list PySem.F.slot_list_append PySem.F.type_list_append xd2 ?_ ?_)
 |((with_reducible show PE _ _ (tBM _ _ wx5 _ _));refine wg6 PySem.F.plainAttrs_list PySem.F.slot_list_extend PySem.F.type_list_extend zd3 ?_ ?_)
 |((with_reducible show PE _ _ (tBM _ _ xo7 _ _));refine wg6 PySem.F.plainAttrs_str PySem.F.slot_str_find PySem.F.type_str_find zl8 ?_ ?_)
 |((with_reducible show PE _ _ (tBM _ _ yu5 _ _));refine wg6 PySem.F.plainAttrs_str PySem.F.slot_str_find PySem.F.type_str_find zl9 ?_ ?_)
 |((with_reducible show PE _ _ (tBM _ _ xm2 _ _));refine wg6 PySem.F.plainAttrs_list PySem.F.slot_list_insert PySem.F.type_list_insert xz7 ?_ ?_)
 |((with_reducible show PE _ _ (tBM _ _ ye2 _ _));refine wg6 PySem.F.plainAttrs_str PySem.F.slot_str_startswith PySem.F.type_str_startswith ze7 ?_ ?_)
 |((with_reducible show PE _ _ (tBM _ _ ye4 _ _));refine wg6 PySem.F.plainAttrs_str PySem.F.slot_str_strip PySem.F.type_str_strip zf4 ?_ ?_)
 |((with_reducible show PE _ _ (tCB (wy6 _) _));refine L1 G2 rfl T.z_isinstance boot_isinstance ?_)
 |((with_reducible show PE _ _ (tCB (O3 _) _));refine L1 qs4 rfl T.z_len boot_len ?_)
 |((with_reducible show PE _ _ (tCB (wy3 _) _));refine L1 we0 rfl T.z_sorted boot_sorted ?_)
 |((with_reducible show PE _ _ (tCB (qa3 _) _));refine qa2 qn0 rfl T.z_tuple boot_tuple ?_)
 |((with_reducible show PE _ _ (tCB xz5 _));refine qa2 wp2 rfl T.z_int boot_int ?_)
 |((with_reducible show PS _ _ (N1 _ _ _));refine qg0 ?_ ?_ ?_)
 |((with_reducible show PS _ _ (E3 _));refine M0 ?_)
 |((with_reducible show PS _ _ yk2);exact zr7)
 |((with_reducible show PS _ _ (G5 _));refine xl9 ?_)
 |((with_reducible show PS _ _ (C8 _ _));first|refine X2 S.nd rfl #[49] ?_ rfl ?_|refine X2 S.nd rfl (Or.inr rfl) ?_ rfl ?_|refine xc9 ?_ ?_)
 |((with_reducible show PS _ _ (qf4 _ _ _));refine wd3 PassesOwn.never rfl ?_ ?_ ?_)
 |((with_reducible show PS _ _ (qy6 _ _));refine zh3 PassesOwn.never ?_ ?_)
 |((with_reducible show PS _ _ _);first|refine Ad0 ?_ ?_ rfl|exact zh1)
 |((with_reducible show PG _ _ (B3 _));first|exact J6 S.nd rfl #[49]|exact J6 S.nd rfl (Or.inr rfl))
 |((with_reducible show PG _ _ (yk3 _ _ _));refine yr9 rfl ?_)
 |((with_reducible show PG _ _ (ys0 _ _ _));refine xn2 ?_ ?_ (wl1 (D7 hr)))
 |((with_reducible show PGs _ _ _);first|refine qz8 ?_ ?_|exact yc2)
 |((with_reducible show PI _ _ _ _);first|refine qs9 ?_|refine xm3 ?_|refine ym2 rfl T.z_enumerate ?_|refine zm3 rfl T.z_enumerate ?_|refine qk7 rfl T.z_range ?_|refine xy2 rfl T.z_range ?_|refine zf2 rfl T.z_range ?_|refine zv7 rfl T.z_reversed ?_)
 |((with_reducible show PO _ _ _);first|refine wx3 ?_|exact yc7)
 |((with_reducible show PE _ _ _);first|refine zh0 ?_ ?_|refine pe_or ?_ ?_|refine zg9 ?_)
 |((with_reducible show _\/_);walk_at "or")|fail)
theorem wg3(T:Txt K mg t):E1 P w K mg base CX0 1 t.za.a t.za.d ["word"] (P6 K):=by
 refine T.za.F.ok qi9 #[4] (fun cdv A outer s H vs Q E hr h=>⟨Q8 K,?_,wf1 h⟩)
 have S:=qi9
 refine C6 ?_
 refine M0 ?_
 exact(zh0 (yk6 yd6 yd6 C2 (L1 qs4 rfl T.z_len boot_len #[46,0]) (L6 rfl T.g_LONGEST_NAME.1 T.g_LONGEST_NAME.2)) (zg9 (L1 (zf0 rfl) rfl T.z_all boot_all (B0 (wp0 rfl (O1 (osc:=B2 R0) (ON:=["word"]) (N:=["sign"]) (fr:=[none]) #[17] rfl rfl) (xm3 (pv 0)) (fun _ _ _ _ _ _=>(J6 (i:=0) (show List.Nodup (["sign"]:List Str) by decide +kernel) rfl #[49])) qe7 (fun _ _ _ _ _ _=>wo8) (fun _ _ _ _ _ _=>(yk6 yd6 yd6 G3 (pv 0) G3))) B8))))
theorem wc5(T:Txt K mg t):E1 P w K mg base CX0 1 t.zb.a t.zb.d ["rows","name"] (qa4 K):=by
 refine T.zb.F.ok yb9 (yu9 K) (fun cdv A outer s H vs Q E hr h=>⟨wl8 K,?_,ya7 h⟩)
 have S:=yb9
 unfold wl8
 repeat' (first|(walk_at "v")|exact L6 rfl T.g_NAME.1 T.g_NAME.2)
theorem wo4(T:Txt K mg t):E1 P w K mg base CX0 1 t.zf.a t.zf.d ["book","name"] (qg1 K):=by
 refine T.zf.F.ok xj4 #[4] (fun cdv A outer s H vs Q E hr h=>⟨we2 K,?_,yn1 h⟩)
 have S:=xj4
 unfold we2
 repeat' (first|(walk_at "v")|exact L6 rfl T.g_HOST.1 T.g_HOST.2|exact L6 rfl T.g_NAME.1 T.g_NAME.2|exact L6 rfl T.g_SORT.1 T.g_SORT.2)
theorem yx2(T:Txt K mg t):E1 P w K mg base CX0 1 t.zi.a t.zi.d ["part"] (we4 K):=by
 refine T.zi.F.ok xt8 #[4] (fun cdv A outer s H vs Q E hr h=>⟨wa4 K,?_,yv3 h⟩)
 have S:=xt8
 unfold wa4
 repeat' walk_at "v"
theorem qj1(T:Txt K mg t):E1 P w K mg base CX0 1 t.zj.a t.zj.d ["names"] (O7 K):=by
 refine T.zj.F.ok qy1 #[4] (fun cdv A outer s H vs Q E hr h=>⟨U5 K,?_,xa0 h⟩)
 have S:=qy1
 unfold U5
 repeat' (first|(walk_at "v")|exact L6 rfl T.g_ROOT_NAME.1 T.g_ROOT_NAME.2)
theorem wi8(T:Txt K mg t):E1 P w K mg base CX0 1 t.zm.a t.zm.d ["names","others"] (W5 K):=by
 refine T.zm.F.ok wi1 #[4] (fun cdv A outer s H vs Q E hr h=>⟨qh3 K,?_,xk7 h⟩)
 have S:=wi1
 refine C6 ?_
 refine M0 ?_
 exact(L1 (zf1 rfl) rfl T.z_any boot_any (B0 (wp0 rfl (O1 (osc:=B2 qi3) (ON:=["names","others"]) (N:=["others","name"]) (fr:=[some 1,none]) #[17] rfl rfl) (qs9 (pv 0)) (fun _ _ _ _ _ _=>(J6 (i:=1) (show List.Nodup (["others","name"]:List Str) by decide +kernel) rfl #[49])) qe7 (fun _ _ _ _ _ _=>wo8) (fun _ _ _ _ _ _=>(qa1 (wl2 (D7 hr)) (pv 1) (pv 0) #[25]))) B8))
theorem yx3(T:Txt K mg t):E1 P w K mg base CX0 1 t.zy.a t.zy.d ["text"] (wf2 K):=by
 refine T.zy.F.ok xu2 #[4] (fun cdv A outer s H vs Q E hr h=>⟨wq2 K,?_,yw4 h⟩)
 have S:=xu2
 refine C6 ?_
 exact(M0 (xm4 (xm4 (pv 0))))
theorem yx4(T:Txt K mg t):E1 P w K mg base CX0 1 t.zz.a t.zz.d ["run"] (wf0 K):=by
 refine T.zz.F.ok xu3 #[4] (fun cdv A outer s H vs Q E hr h=>⟨wq1 K,?_,yw2 h⟩)
 have S:=xu3
 refine C6 ?_
 exact(M0 (xm4 (xm4 (pv 0))))
theorem yi6(T:Txt K mg t):E1 P w K mg base CX0 1 t.ya.a t.ya.d ["run"] (qr2 K):=by
 refine T.ya.F.ok xc0 #[4] (fun cdv A outer s H vs Q E hr h=>⟨qw8 K t.c_TOLD_FOR t.c_ESCAPED,?_,yf5 T.q_TOLD_FOR T.q_ESCAPED h⟩)
 have S:=xc0
 refine C6 ?_
 refine M0 ?_
 exact(wp0 rfl (O1 (osc:=B2 qy0) (ON:=["run"]) (N:=["run","number","sign"]) (fr:=[some 0,none,none]) #[17] rfl rfl) (ym2 rfl T.z_enumerate #[46,0]) (fun _ _ _ _ _ _=>(yr9 rfl (qz8 (J6 (i:=1) (show List.Nodup (["run","number","sign"]:List Str) by decide +kernel) rfl #[49]) (qz8 (J6 (i:=2) (show List.Nodup (["run","number","sign"]:List Str) by decide +kernel) rfl #[49]) yc2)))) (Ae5 (yy7 rfl (yy7 rfl Ae4))) (fun _ _ _ _ _ _=>(wd8 (PW.pt (wd1 (E4 (wl2 (D7 hr)) (pv 2) (L6 rfl T.g_ESCAPED rfl) #[25]) (qw4 (E4 (ql0 (D7 hr)) (wk3 xo6 (pv 0) (wx3 (pv 1)) (wx3 (D1 D4 (pv 1) C2))) (L6 rfl T.g_TOLD_FOR rfl) #[25])))))) (fun _ _ _ _ _ _=>(pv 1)))
theorem wu2(T:Txt K mg t):E1 P w K mg base CX0 1 t.ye.a t.ye.d ["text","start"] (qe0 K):=by
 refine T.ye.F.ok wt2 #[4] (fun cdv A outer s H vs Q E hr h=>⟨qh4 K,?_,xv5 h⟩)
 have S:=wt2
 unfold qh4
 repeat' walk_at "v"
theorem xx2(T:Txt K mg t):E1 P w K mg base CX0 1 t.yi.a t.yi.d ["name"] (qm2 K):=by
 refine T.yi.F.ok wt3 #[4] (fun cdv A outer s H vs Q E hr h=>⟨qr5 K,?_,xv8 h⟩)
 have S:=wt3
 refine C6 ?_
 exact(M0 (Aa6 (pv 0)))
theorem xx3(T:Txt K mg t):E1 P w K mg base CX0 1 t.yj.a t.yj.d ["name"] (qm3 K):=by
 refine T.yj.F.ok wt4 #[4] (fun cdv A outer s H vs Q E hr h=>⟨qr6 K,?_,xv9 h⟩)
 have S:=wt4
 refine C6 ?_
 exact(M0 (Aa6 (pv 0)))
theorem xl6(T:Txt K mg t):E1 P w K mg base CX0 1 t.yo.a t.yo.d ["names","name"] (qf0 K):=by
 refine T.yo.F.ok wi4 #[4] (fun cdv A outer s H vs Q E hr h=>⟨Z5 K,?_,xl0 h⟩)
 have S:=wi4
 unfold Z5
 repeat' walk_at "v"
theorem X1(T:Txt K mg t):E1 P w K mg base CX0 1 t.yq.a t.yq.d ["_law_script","_law_k"] (N7 K):=by
 refine T.yq.F.ok wi5 #[4] (fun cdv A outer s H vs Q E hr h=>⟨Y8 K,?_,xk4 h⟩)
 have S:=wi5
 unfold Y8
 repeat' walk_at "v"
theorem N2(T:Txt K mg t):E1 P w K mg base CX0 1 t.yr.a t.yr.d ["_law_cell","_law_k"] (J0 K):=by
 refine T.yr.F.ok wt5 #[4] (fun cdv A outer s H vs Q E hr h=>⟨qh2 K,?_,xv0 h⟩)
 have S:=wt5
 unfold qh2
 repeat' walk_at "v"
theorem qp9(T:Txt K mg t):E1 P w K mg base CX0 1 t.yt.a t.yt.d ["_law_number"] (R8 K):=by
 refine T.yt.F.ok wi6 #[4] (fun cdv A outer s H vs Q E hr h=>⟨Y9 K,?_,xk5 h⟩)
 have S:=wi6
 unfold Y9
 repeat' walk_at "v"
theorem qo6(T:Txt K mg t):E1 P w K mg base CX0 1 t.yy.a t.yy.d ["_law_book_here","_law_name"] (M9 K):=by
 refine T.yy.F.ok xj6 #[4] (fun cdv A outer s H vs Q E hr h=>⟨wv9 K,?_,yq7 h⟩)
 have S:=xj6
 unfold wv9
 repeat' walk_at "v"
theorem xx4(T:Txt K mg t):E1 P w K mg base CX0 1 t.yz.a t.yz.d ["_law_book_here","_law_name"] (qe2 K):=by
 refine T.yz.F.ok wt8 #[4] (fun cdv A outer s H vs Q E hr h=>⟨qh7 K,?_,xw5 h⟩)
 have S:=wt8
 unfold qh7
 repeat' walk_at "v"
theorem wu3(T:Txt K mg t):E1 P w K mg base CX0 1 t.xf.a t.xf.d ["_law_number"] (qe3 K):=by
 refine T.xf.F.ok wu0 #[4] (fun cdv A outer s H vs Q E hr h=>⟨qh9 K,?_,xw8 h⟩)
 have S:=wu0
 unfold qh9
 repeat' walk_at "v"
theorem wi9(T:Txt K mg t):E1 P w K mg base CX0 1 t.xi.a t.xi.d ["_law_text"] (qf1 K):=by
 refine T.xi.F.ok wi7 #[4] (fun cdv A outer s H vs Q E hr h=>⟨qi0 K,?_,xl2 h⟩)
 have S:=wi7
 walk_at"35"
 ·refine zst (i:=1) S ?_
  exact G3
 walk_at"35"
 ·refine wd3 PassesOwn.never rfl ?_ ?_ ?_
  ·exact(xm3 (pv 0))
  ·exact(J6 (i:=2) S.nd rfl #[49])
  ·refine C6 ?_
   refine zst (i:=1) S ?_
   exact(D1 D4 (pv 1) (zi8 (D7 hr) (zt5 (yl5 G3 G3 (yl5 G3 G3 zt4)) rfl rfl (by simp) #[10]) (pv 2) (pv 2) m2))
 refine C6 ?_
 exact(M0 (pv 1))
theorem wc6(T:Txt K mg t):E1 P w K mg base CX0 1 t.a_c19 t.d_c19 ["self","name","place"] (U2 K):=by
 refine T.F_c19.ok wc0 #[4] (fun cdv A outer s H vs Q E hr h=>⟨W2 K,?_,xd9 T.cz h⟩)
 have S:=wc0
 unfold W2
 repeat' walk_at "v"
theorem xi2(T:Txt K mg t):E1 P w K mg base CX0 1 t.a_c22 t.d_c22 ["self"] (qa8 K):=by
 refine T.F_c22.ok wc2 #[4] (fun cdv A outer s H vs Q E hr h=>⟨W8 K,?_,xf2 T.cz h⟩)
 have S:=wc2
 unfold W8
 repeat' (first|(walk_at "v")|exact L6 rfl T.g_ROOT_NAME.1 T.g_ROOT_NAME.2)
theorem L0(T:Txt K mg t):E1 P w K mg base CX0 1 t.a_c10 t.d_c10 ["self"] (D8 K):=by
 refine T.F_c10.ok qj0 #[4] (fun cdv A outer s H vs Q E hr h=>⟨Q9 K,?_,wf3 T.cz h⟩)
 have S:=qj0
 refine C6 ?_
 exact(M0 (qa2 qn0 rfl T.z_tuple boot_tuple (B0 (wp0 rfl (O1 (osc:=B2 R1) (ON:=["self"]) (N:=["branch"]) (fr:=[none]) #[17] rfl rfl) (qs9 (wk3 xo6 (wu4 (pv 0) rfl) (wx3 C2) yc7)) (fun _ _ _ _ _ _=>(J6 (i:=0) (show List.Nodup (["branch"]:List Str) by decide +kernel) rfl #[49])) qe7 (fun _ _ _ _ _ _=>wo8) (fun _ _ _ _ _ _=>(wu4 (pv 0) rfl))) B8)))
theorem qj2(T:Txt K mg t):E1 P w K mg base CX0 1 t.a_c16 t.d_c16 ["self"] (O9 K):=by
 refine T.F_c16.ok qy4 #[4] (fun cdv A outer s H vs Q E hr h=>⟨U7 K,?_,xa6 T.cz h⟩)
 have S:=qy4
 unfold U7
 repeat' walk_at "v"
theorem ql8(T:Txt K mg t):E1 P w K mg base CX0 1 t.a_c20 t.d_c20 ["self","start","signs","rule"] (J9 K):=by
 refine T.F_c20.ok wc4 #[4] (fun cdv A outer s H vs Q E hr h=>⟨W3 K,?_,xe0 T.cz h⟩)
 have S:=wc4
 unfold W3
 repeat' walk_at "v"
theorem wg4(T:Txt K mg t):E1 P w K mg base CX0 2 t.zc.a t.zc.d ["book","name"] (Y7 K):=by
 refine T.zc.F.ok xt4 #[4] (fun cdv A outer s H vs Q E hr h=>⟨wp5 K,?_,yv0 h⟩)
 have S:=xt4
 unfold wp5
 repeat' (first|(walk_at "v")|refine zcl (wc5 T) hr T.zb B6 ?_|exact L6 rfl T.g_SORT.1 T.g_SORT.2)
theorem yx5(T:Txt K mg t):E1 P w K mg base CX0 2 t.ze.a t.ze.d ["book","name"] (qt1 K):=by
 refine T.ze.F.ok xt6 #[4] (fun cdv A outer s H vs Q E hr h=>⟨wp6 K,?_,yv1 h⟩)
 have S:=xt6
 unfold wp6
 repeat' (first|(walk_at "v")|refine zcl (wc5 T) hr T.zb B6 ?_|exact L6 rfl T.g_HOST.1 T.g_HOST.2|exact L6 rfl T.g_SORT.1 T.g_SORT.2)
theorem yx6(T:Txt K mg t):E1 P w K mg base CX0 2 t.zh.a t.zh.d ["book","name","frame"] (we3 K):=by
 refine T.zh.F.ok xt7 #[4] (fun cdv A outer s H vs Q E hr h=>⟨wp7 K,?_,yv2 h⟩)
 have S:=xt7
 unfold wp7
 repeat' (first|(walk_at "v")|refine zcl (wo4 T) hr T.zf B6 ?_)
theorem yr4(T:Txt K mg t):E1 P w K mg base CX0 2 t.yf.a t.yf.d ["text","start"] (qw9 K):=by
 refine T.yf.F.ok xj5 #[4] (fun cdv A outer s H vs Q E hr h=>⟨qt5 K,?_,yp0 h⟩)
 have S:=xj5
 unfold qt5
 repeat' (first|(walk_at "v")|refine zcl (wg3 T) hr T.za B6 ?_|refine zcl (wu2 T) hr T.ye B6 ?_|exact L6 rfl T.g_LONGEST_NAME.1 T.g_LONGEST_NAME.2)
theorem xu4(T:Txt K mg t):E1 P w K mg base CX0 2 t.yg.a t.yg.d ["text","start","stop"] (qh5 K):=by
 refine T.yg.F.ok wo3 #[4] (fun cdv A outer s H vs Q E hr h=>⟨qe1 K,?_,xq6 h⟩)
 have S:=wo3
 unfold qe1
 repeat' (first|(walk_at "v")|refine zcl (wu2 T) hr T.ye B6 ?_)
theorem wj0(T:Txt K mg t):E1 P w K mg base CX0 2 t.yh.a t.yh.d ["text","start","stop"] (R9 K):=by
 refine T.yh.F.ok wi3 #[4] (fun cdv A outer s H vs Q E hr h=>⟨Z2 K,?_,xk9 h⟩)
 have S:=wi3
 unfold Z2
 repeat' (first|(walk_at "v")|refine zcl (yx4 T) hr T.zz B6 ?_)
theorem xx5(T:Txt K mg t):E1 P w K mg base CX0 2 t.yu.a t.yu.d ["_law_cell"] (qm1 K):=by
 refine T.yu.F.ok wt6 #[4] (fun cdv A outer s H vs Q E hr h=>⟨qq8 K,?_,xv1 h⟩)
 have S:=wt6
 walk_at"35"
 ·refine X2 (i:=1) S.nd rfl (Or.inr rfl) ?_ rfl ?_
  ·exact G3
  ·walk_at "or"
 walk_at"35"
 ·refine X2 (i:=2) S.nd rfl (Or.inr rfl) ?_ rfl ?_
  ·exact(qy7 B8)
  ·walk_at "or"
 walk_at"35"
 ·refine wd3 PassesOwn.never rfl ?_ ?_ ?_
  ·exact(qk7 rfl T.z_range (B0 C2 B8))
  ·exact(J6 (i:=3) S.nd rfl #[49])
  ·refine C1 ?_ ?_
   ·refine X2 (i:=4) S.nd rfl #[49] ?_ rfl ?_
    ·refine zcl (qp9 T) hr T.yt B6 ?_
     refine B0 ?_ ?_
     ·exact(D1 qd0 (D1 zh6 (D1 xm0 (pv 0) C2) (D1 wy1 C2 (pv 3))) (D1 zh5 C2 C2))
     exact B8
    ·walk_at "or"
   walk_at"35"
   ·refine qg0 ?_ ?_ ?_
    ·exact(E4 (qo7 (wk9 hr)) (D1 qd0 (pv 0) C2) C2 (L5 _))
    ·refine C1 ?_ ?_
     ·refine X2 (i:=4) S.nd rfl #[49] ?_ rfl ?_
      ·refine zcl (qp9 T) hr T.yt B6 ?_
       refine B0 ?_ ?_
       ·exact(zcl (N2 T) hr T.yr B6 (B0 (pv 0) (B0 C2 B8)))
       exact B8
      ·walk_at "or"
     refine C6 ?_
     exact(xc9 (D1 qd0 (D1 D4 (L3 (D0 (D7 hr)) (pv 4) (yy0 yc4 C2) #[65]) (pv 3)) C2) (xn2 (pv 4) (yy0 yc4 C2) (wl1 (D7 hr))))
    ·exact T9
   walk_at"35"
   ·refine qg0 ?_ ?_ ?_
    ·exact(E4 (qo7 (wk9 hr)) (D1 qd0 (pv 0) C2) C2 (L5 _))
    ·refine C1 ?_ ?_
     ·refine zst (i:=4) S ?_
      exact(wk3 xo6 (zcl (qp9 T) hr T.yt B6 (B0 (D1 D4 C2 (D1 wy1 C2 (zcl (N2 T) hr T.yr B6 (B0 (pv 0) (B0 C2 B8))))) B8)) yc7 (wx3 (D1 D4 (D1 qd0 (pv 3) C2) C2)))
     refine C6 ?_
     exact(xc9 (D1 qd0 (D1 D4 #[8,4] (qa2 wp2 rfl T.z_int boot_int (B0 (qa1 yd7 (pv 3) C2 (L5 _)) B8))) C2) (xn2 (pv 4) C2 (wl1 (D7 hr))))
    ·exact T9
   walk_at"35"
   ·refine zst (i:=5) S ?_
    exact(wg6 PySem.F.plainAttrs_str PySem.F.slot_str_join PySem.F.type_str_join yy9 G3 (B0 (wp0 rfl (O1 (osc:=B2 qi6) (ON:=["_law_cell","_law_letters_here","_law_names_here","_law_k","_law_signs_here","_law_name","_law_spare"]) (N:=["_law_letters_here","_law_j"]) (fr:=[some 1,none]) #[17] rfl rfl) (qs9 (pv 4)) (fun _ _ _ _ _ _=>(J6 (i:=1) (show List.Nodup (["_law_letters_here","_law_j"]:List Str) by decide +kernel) rfl #[49])) qe7 (fun _ _ _ _ _ _=>wo8) (fun _ _ _ _ _ _=>(L3 (D0 (D7 hr)) (pv 0) (pv 1) #[65]))) B8))
   walk_at"35"
   ·exact(wd9 (i:=6) S.nd rfl rfl rfl (O1 (osc:=B2 qi6) (ON:=["_law_cell","_law_letters_here","_law_names_here","_law_k","_law_signs_here","_law_name","_law_spare"]) (N:=["_law_names_here","_law_letter"]) (fr:=[some 2,none]) #[17] rfl rfl) (xm3 (pv 1)) (fun _ _ _ _ _ _=>(J6 (i:=1) (show List.Nodup (["_law_names_here","_law_letter"]:List Str) by decide +kernel) rfl #[49])) qe7 (fun _ _ _ _ _ _=>(wd8 (E4 (ql0 (D7 hr)) (D1 wy1 (pv 1) C2) (pv 0) #[25]))) (fun _ _ _ _ _ _=>(D1 wy1 (pv 1) C2)))
   refine C6 ?_
   exact(xl9 (wg6 PySem.F.plainAttrs_list PySem.F.slot_list_append PySem.F.type_list_append xd2 (pv 2) (B0 (L3 (D0 (D7 hr)) (qy7 (B0 (pv 5) (B0 #[8,6] B8))) (qa2 wp2 rfl T.z_int boot_int (B0 (qa1 (wl2 (D7 hr)) (pv 5) (D1 D4 (pv 2) (qy7 (B0 G3 (B0 G3 B8)))) #[25]) B8)) #[65]) B8)))
 refine C6 ?_
 exact(M0 (pv 2))
theorem xx6 (T:Txt K mg t):E1 P w K mg base CX0 2 t.yw.a t.yw.d ["_law_script","_law_names_here","_law_count"] (qm4 K):=by
 refine T.yw.F.ok wt7 #[4] (fun cdv A outer s H vs Q E hr h=>⟨qs0 K,?_,xw3 h⟩)
 have S:=wt7
 walk_at"35"
 ·refine X2 (i:=3) ?_ ?_ ?_ ?_ ?_ ?_
  ·exact S.nd
  ·rfl
  ·exact(Or.inr rfl)
  ·refine qy7 ?_
   with_reducible refine Y6 ?_
   with_reducible refine Y6 ?_
   with_reducible refine Y6 ?_
   with_reducible refine Y6 ?_
   with_reducible refine Y6 ?_
   with_reducible refine Y6 ?_
   with_reducible refine Y6 ?_
   with_reducible refine Y6 ?_
   with_reducible refine Y6 ?_
   exact zl7
  ·exact rfl
  ·walk_at "or"
 walk_at"35"
 ·refine X2 (i:=4) S.nd rfl (Or.inr rfl) ?_ rfl ?_
  ·exact(wp0 rfl (O1 (osc:=B2 qb1) (ON:=["_law_script","_law_names_here","_law_count","_law_some","_law_sorts_here","_law_hosts","_law_taken","_law_k","_law_able","_law_j"]) (N:=["_law_some","_law_script","_law_k"]) (fr:=[some 3,some 0,none]) #[17] rfl rfl) (qk7 rfl T.z_range #[46,2]) (fun _ _ _ _ _ _=>(J6 (i:=2) (show List.Nodup (["_law_some","_law_script","_law_k"]:List Str) by decide +kernel) rfl #[49])) qe7 (fun _ _ _ _ _ _=>wo8) (fun _ _ _ _ _ _=>(L3 (D0 (D7 hr)) (pv 0) (D1 qd0 (zcl (N2 T) hr T.yr B6 (B0 (zcl (X1 T) hr T.yq B6 (B0 (pv 1) (B0 (D1 D4 C2 (pv 2)) B8))) (B0 C2 B8))) C2) #[65])))
  ·walk_at "or"
 walk_at"35"
 ·exact(wd9 (i:=5) S.nd rfl rfl rfl (O1 (osc:=B2 qb1) (ON:=["_law_script","_law_names_here","_law_count","_law_some","_law_sorts_here","_law_hosts","_law_taken","_law_k","_law_able","_law_j"]) (N:=["_law_k"]) (fr:=[none]) #[17] rfl rfl) (qk7 rfl T.z_range #[46,2]) (fun _ _ _ _ _ _=>(J6 (i:=0) (show List.Nodup (["_law_k"]:List Str) by decide +kernel) rfl #[49])) qe7 (fun _ _ _ _ _ _=>wo8) (fun _ _ _ _ _ _=>G3))
 walk_at"35"
 ·refine X2 (i:=6) S.nd rfl (Or.inr rfl) ?_ rfl ?_
  ·exact(qy7 B8)
  ·walk_at "or"
 walk_at"35"
 ·refine wd3 PassesOwn.never rfl ?_ ?_ ?_
  ·exact(qk7 rfl T.z_range #[46,2])
  ·exact(J6 (i:=7) S.nd rfl #[49])
  ·refine C1 ?_ ?_
   ·exact(wd9 (i:=8) S.nd rfl rfl rfl (O1 (osc:=B2 qb1) (ON:=["_law_script","_law_names_here","_law_count","_law_some","_law_sorts_here","_law_hosts","_law_taken","_law_k","_law_able","_law_j"]) (N:=["_law_taken","_law_sorts_here","_law_j"]) (fr:=[some 6,some 4,none]) #[17] rfl rfl) (xy2 rfl T.z_range (B0 (D1 D4 (pv 7) C2) #[46,2])) (fun _ _ _ _ _ _=>(J6 (i:=2) (show List.Nodup (["_law_taken","_law_sorts_here","_law_j"]:List Str) by decide +kernel) rfl #[49])) qe7 (fun _ _ _ _ _ _=>(wd8 (PW.pt (wd1 (E4 (wl2 (D7 hr)) (L3 (D0 (D7 hr)) (pv 1) (pv 2) #[65]) (qk9 (B0 G3 (B0 G3 B8))) #[25]) (qw4 (E4 (ql0 (D7 hr)) (pv 2) (pv 0) #[25])))))) (fun _ _ _ _ _ _=>(pv 2)))
   walk_at"35"
   ·refine qg0 ?_ ?_ ?_
    ·exact(PW.pt (wd1 (E4 (qo7 (wk9 hr)) (L3 (D0 (D7 hr)) (pv 4) (pv 7) #[65]) G3 (L5 _)) (qw4 (E4 (qo7 (wk9 hr)) (pv 8) (qy7 B8) (L5 _)))))
    ·refine C6 ?_
     exact(xc9 (L3 (D0 (D7 hr)) (qy7 (B0 G3 (B0 G3 B8))) (qa2 wp2 rfl T.z_int boot_int (B0 (qa1 (wl2 (D7 hr)) (pv 7) (pv 6) #[25]) B8)) #[65]) (xn2 (pv 4) (pv 7) (wl1 (D7 hr))))
    ·exact T9
   refine C6 ?_
   refine qg0 ?_ ?_ ?_
   ·exact(E4 (qo7 (wk9 hr)) (L3 (D0 (D7 hr)) (pv 4) (pv 7) #[65]) G3 (L5 _))
   ·refine C1 ?_ ?_
    ·refine X2 (i:=9) S.nd rfl #[49] ?_ rfl ?_
     ·refine L3 ?_ ?_ ?_ ?_
      ·exact D0 (D7 hr)
      ·exact(pv 8)
      ·refine D1 qd0 ?_ ?_
       ·refine zcl (N2 T) hr T.yr B6 ?_
        refine B0 ?_ ?_
        ·refine zcl (X1 T) hr T.yq B6 ?_
         refine B0 ?_ ?_
         ·exact(pv 0)
         refine B0 ?_ ?_
         ·exact(D1 D4 C2 (pv 7))
         exact B8
        refine B0 ?_ ?_
        ·exact C2
        exact B8
       ·exact(L1 qs4 rfl T.z_len boot_len #[46,8])
      ·exact fun _ _=>rfl
     ·walk_at "or"
    walk_at"35"
    ·exact(xl9 (wg6 PySem.F.plainAttrs_list PySem.F.slot_list_append PySem.F.type_list_append xd2 (pv 6) #[46,9]))
    refine C6 ?_
    exact(xc9 (L3 (D0 (D7 hr)) (pv 1) (pv 9) #[65]) (xn2 (pv 5) (pv 7) (wl1 (D7 hr))))
   ·exact T9
 refine C6 ?_
 exact(M0 (qk9 (B0 (pv 4) (B0 (pv 5) #[46,6]))))
theorem xx7(T:Txt K mg t):E1 P w K mg base CX0 2 t.xa.a t.xa.d ["_law_book_here","_law_name"] (qm5 K):=by
 refine T.xa.F.ok wt9 #[4] (fun cdv A outer s H vs Q E hr h=>⟨qh8 K,?_,xw6 h⟩)
 have S:=wt9
 unfold qh8
 repeat' (first|(walk_at "v")|refine zcl (qo6 T) hr T.yy B6 ?_)
theorem yi7(T:Txt K mg t):E1 P w K mg base CX0 2 t.xg.a t.xg.d ["_law_cell","_law_number"] (qs3 K):=by
 refine T.xg.F.ok xc7 #[4] (fun cdv A outer s H vs Q E hr h=>⟨qx9 K,?_,yi4 h⟩)
 have S:=xc7
 walk_at"35"
 ·refine X2 (i:=2) S.nd rfl #[49] ?_ rfl ?_
  ·refine D1 D4 ?_ ?_
   ·refine zcl (wu3 T) hr T.xf B6 ?_
    refine B0 ?_ ?_
    ·exact(zcl (N2 T) hr T.yr B6 (B0 (pv 0) (B0 C2 B8)))
    exact B8
   ·refine zcl (wu3 T) hr T.xf B6 ?_
    refine B0 ?_ ?_
    ·exact(zcl (N2 T) hr T.yr B6 (B0 (pv 0) (B0 C2 B8)))
    exact B8
  ·walk_at "or"
 walk_at"35"
 ·refine qg0 ?_ ?_ ?_
  ·exact(PW.pt (wd1 (E4 (qo7 (wk9 hr)) (D1 qd0 (D1 xm0 (pv 1) C2) C2) C2 (L5 _)) (qw4 (E4 (xo3 (wk9 hr)) (pv 2) G3 (L5 _)))))
  ·refine C6 ?_
   exact(M0 (pv 2))
  ·exact T9
 walk_at"35"
 ·refine X2 (i:=3) ?_ ?_ ?_ ?_ ?_ ?_
  ·exact S.nd
  ·rfl
  ·exact#[49]
  ·refine qy7 ?_
   with_reducible refine Y6 ?_
   with_reducible refine Y6 ?_
   with_reducible refine Y6 ?_
   with_reducible refine Y6 ?_
   with_reducible refine Y6 ?_
   with_reducible refine Y6 ?_
   with_reducible refine Y6 ?_
   with_reducible refine Y6 ?_
   with_reducible refine Y6 ?_
   with_reducible refine Y6 ?_
   with_reducible refine Y6 ?_
   with_reducible refine Y6 ?_
   with_reducible refine Y6 ?_
   exact zl7
  ·exact rfl
  ·walk_at "or"
 refine C6 ?_
 refine M0 ?_
 refine D1 D4 ?_ ?_
 ·exact(L3 (D0 (D7 hr)) (pv 3) (D1 qd0 (pv 1) C2) #[65])
 ·exact(L3 (D0 (D7 hr)) (pv 3) (D1 qd0 (D1 xm0 (pv 1) C2) C2) #[65])
theorem wo5(T:Txt K mg t):E1 P w K mg base CX0 2 t.a_c12 t.d_c12 ["self","start","signs","told"] (T1 K):=by
 refine T.F_c12.ok qo5 #[4] (fun cdv A outer s H vs Q E hr h=>⟨P4 K,?_,wm5 T.cz h⟩)
 have S:=qo5
 unfold P4
 repeat' (first|(walk_at "v")|refine zcl (yx2 T) hr T.zi B6 ?_)
theorem wg5(T:Txt K mg t):E1 P w K mg base CX0 3 t.zd.a t.zd.d ["book","name"] (qf8 K):=by
 refine T.zd.F.ok xt5 #[4] (fun cdv A outer s H vs Q E hr h=>⟨wa5 K t.c_WALL_SORTS,?_,yv5 T.q_WALL_SORTS h⟩)
 have S:=xt5
 unfold wa5
 repeat' (first|(walk_at "v")|refine zcl (wg4 T) hr T.zc B6 ?_|exact L6 rfl T.g_WALL_SORTS rfl)
theorem wj1(T:Txt K mg t):E1 P w K mg base CX0 3 t.zw.a t.zw.d ["book","name"] (W4 K):=by
 refine T.zw.F.ok wi2 #[4] (fun cdv A outer s H vs Q E hr h=>⟨Z1 K,?_,xk6 h⟩)
 have S:=wi2
 unfold Z1
 repeat' (first|(walk_at "v")|refine zcl (yx5 T) hr T.ze B6 ?_)
theorem yi8(T:Txt K mg t):E1 P w K mg base CX0 3 t.yd.a t.yd.d ["text","searched"] (qr3 K):=by
 refine T.yd.F.ok xc2 #[4] (fun cdv A outer s H vs Q E hr h=>⟨qn7 K,?_,yf9 h⟩)
 have S:=xc2
 unfold qn7
 repeat' (first|(walk_at "v")|refine zcl (xu4 T) hr T.yg B6 ?_|refine zcl (yr4 T) hr T.yf B6 ?_)
theorem yi9(T:Txt K mg t):E1 P w K mg base CX0 3 t.yx.a t.yx.d ["_law_script"] (qs1 K):=by
 refine T.yx.F.ok xc5 #[4] (fun cdv A outer s H vs Q E hr h=>⟨qx7 K,?_,yh8 h⟩)
 have S:=xc5
 walk_at"35"
 ·refine X2 (i:=1) S.nd rfl (Or.inr rfl) ?_ rfl ?_
  ·refine zcl (xx5 T) hr T.yu B6 ?_
   refine B0 ?_ ?_
   ·exact(zcl (X1 T) hr T.yq B6 (B0 (pv 0) (B0 C2 B8)))
   exact B8
  ·walk_at "or"
 walk_at"35"
 ·refine zst (i:=2) S ?_
  exact(D1 D4 C2 (D1 qd0 (zcl (X1 T) hr T.yq B6 (B0 (pv 0) (B0 C2 B8))) C2))
 walk_at"35"
 ·exact(xc9 (zcl (xx6 T) hr T.yw B6 (B0 (pv 0) (B0 (pv 1) #[46,2]))) (yr9 rfl (qz8 (J6 (i:=3) S.nd rfl (Or.inr rfl)) (qz8 (J6 (i:=4) S.nd rfl #[49]) (qz8 (J6 (i:=5) S.nd rfl (Or.inr rfl)) yc2)))))
 walk_at"35"
 ·refine zst (i:=6) S ?_
  exact(qy7 B8)
 walk_at"35"
 ·refine wd3 PassesOwn.never rfl ?_ ?_ ?_
  ·exact(qk7 rfl T.z_range #[46,2])
  ·exact(J6 (i:=7) S.nd rfl (Or.inr rfl))
  ·refine C1 ?_ ?_
   ·refine X2 (i:=8) S.nd rfl (Or.inr rfl) ?_ rfl ?_
    ·exact(zcl (X1 T) hr T.yq B6 (B0 (pv 0) (B0 (D1 D4 C2 (pv 7)) B8)))
    ·walk_at "or"
   walk_at"35"
   ·exact(wd9 (i:=9) S.nd rfl rfl rfl (O1 (osc:=B2 qg3) (ON:=["_law_script","_law_names_here","_law_count","_law_sorts_here","_law_hosts","_law_taken","_law_rows","_law_k","_law_own","_law_able","_law_shuts","_law_bars","_law_row_here"]) (N:=["_law_sorts_here","_law_j"]) (fr:=[some 3,none]) #[17] rfl rfl) (qk7 rfl T.z_range #[46,2]) (fun _ _ _ _ _ _=>(J6 (i:=1) (show List.Nodup (["_law_sorts_here","_law_j"]:List Str) by decide +kernel) rfl #[49])) qe7 (fun _ _ _ _ _ _=>(wd8 (E4 (wl2 (D7 hr)) (L3 (D0 (D7 hr)) (pv 0) (pv 1) #[65]) (qk9 (B0 G3 (B0 G3 B8))) #[25]))) (fun _ _ _ _ _ _=>(pv 1)))
   walk_at"35"
   ·exact(wd9 (i:=10) S.nd rfl rfl rfl (O1 (osc:=B2 qg3) (ON:=["_law_script","_law_names_here","_law_count","_law_sorts_here","_law_hosts","_law_taken","_law_rows","_law_k","_law_own","_law_able","_law_shuts","_law_bars","_law_row_here"]) (N:=["_law_names_here","_law_taken","_law_k","_law_own","_law_j"]) (fr:=[some 1,some 5,some 7,some 8,none]) #[17] rfl rfl) (qs9 (pv 9)) (fun _ _ _ _ _ _=>(J6 (i:=4) (show List.Nodup (["_law_names_here","_law_taken","_law_k","_law_own","_law_j"]:List Str) by decide +kernel) rfl #[49])) qe7 (fun _ _ _ _ _ _=>(wd8 (PW.pt (wd1 (E4 (ql0 (D7 hr)) (pv 4) (pv 1) #[25]) (wd1 (E4 (ql0 (D7 hr)) (pv 2) (pv 1) #[25]) (qw4 (E4 (qo7 (wk9 hr)) (D1 qd0 (zcl (N2 T) hr T.yr B6 (B0 (pv 3) (B0 (D1 D4 C2 (pv 4)) B8))) C2) C2 (L5 _)))))))) (fun _ _ _ _ _ _=>(L3 (D0 (D7 hr)) (pv 0) (pv 4) #[65])))
   walk_at"35"
   ·exact(wd9 (i:=11) S.nd rfl rfl rfl (O1 (osc:=B2 qg3) (ON:=["_law_script","_law_names_here","_law_count","_law_sorts_here","_law_hosts","_law_taken","_law_rows","_law_k","_law_own","_law_able","_law_shuts","_law_bars","_law_row_here"]) (N:=["_law_names_here","_law_own","_law_j"]) (fr:=[some 1,some 8,none]) #[17] rfl rfl) (qs9 (pv 9)) (fun _ _ _ _ _ _=>(J6 (i:=2) (show List.Nodup (["_law_names_here","_law_own","_law_j"]:List Str) by decide +kernel) rfl #[49])) qe7 (fun _ _ _ _ _ _=>(wd8 (E4 (qo7 (wk9 hr)) (D1 qd0 (zcl (N2 T) hr T.yr B6 (B0 (pv 1) (B0 (D1 D4 C2 (pv 2)) B8))) C2) C2 (L5 _)))) (fun _ _ _ _ _ _=>(L3 (D0 (D7 hr)) (pv 0) (pv 2) #[65])))
   walk_at"35"
   ·refine X2 (i:=12) S.nd rfl #[49] ?_ rfl ?_
    ·refine qk9 ?_
     refine B0 ?_ ?_
     ·exact(L3 (D0 (D7 hr)) (pv 1) (pv 7) #[65])
     refine B0 ?_ ?_
     ·exact(L3 (D0 (D7 hr)) (pv 3) (pv 7) #[65])
     refine B0 ?_ ?_
     ·exact(L3 (D0 (D7 hr)) (pv 4) (pv 7) #[65])
     refine B0 ?_ ?_
     ·exact(qa2 qn0 rfl T.z_tuple boot_tuple (B0 (L1 we0 rfl T.z_sorted boot_sorted #[46,10]) B8))
     refine B0 ?_ ?_
     ·exact(qa2 qn0 rfl T.z_tuple boot_tuple (B0 (L1 we0 rfl T.z_sorted boot_sorted #[46,11]) B8))
     exact B8
    ·walk_at "or"
   refine C6 ?_
   exact(xl9 (wg6 PySem.F.plainAttrs_list PySem.F.slot_list_insert PySem.F.type_list_insert xz7 (pv 6) (B0 (D1 qd0 (zcl (N2 T) hr T.yr B6 (B0 (pv 8) (B0 C2 B8))) (D1 D4 (pv 7) C2)) #[46,12])))
 refine C6 ?_
 exact(M0 (qa2 qn0 rfl T.z_tuple boot_tuple #[46,6]))
theorem yj0(T:Txt K mg t):E1 P w K mg base CX0 3 t.xb.a t.xb.d ["_law_book_here","_law_names_here"] (qs2 K):=by
 refine T.xb.F.ok xc6 #[4] (fun cdv A outer s H vs Q E hr h=>⟨qo3 K,?_,yi0 h⟩)
 have S:=xc6
 unfold qo3
 repeat' (first|(walk_at "v")|refine zcl (xx7 T) hr T.xa B6 ?_)
theorem xi3(T:Txt K mg t):E1 P w K mg base CX0 3 t.a_c18 t.d_c18 ["self","book"] (qa7 K):=by
 refine T.F_c18.ok wc1 #[4] (fun cdv A outer s H vs Q E hr h=>⟨W7 K t.qA,?_,xf0 T.cz h⟩)
 have S:=wc1
 unfold W7
 repeat' (first|(walk_at "v")|refine yc6 T.m_c19 (wc6 T) #[6] rfl T.n_Branch T.b_c19 .nil B6 ?_|exact L6 rfl T.g_ROOT_NAME.1 T.g_ROOT_NAME.2)
theorem wc7(T:Txt K mg t):E1 P w K mg base CX0 3 t.a_c9 t.d_c9 ["self"] (P0 K):=by
 refine T.F_c9.ok qg4 #[4] (fun cdv A outer s H vs Q E hr h=>⟨N4 K t.qB,?_,wb2 T.cz h⟩)
 have S:=qg4
 unfold N4
 repeat' (first|(walk_at "v")|refine zcl (wg4 T) hr T.zc B6 ?_|refine zcl (qj1 T) hr T.zj B6 ?_|refine S2 ?_ T.cz.cl_Reader T.m_c10 (L0 T) #[6] T.b_c10 .nil B6)
theorem qy5(T:Txt K mg t):E1 P w K mg base CX0 3 t.a_c17 t.d_c17 ["self","name"] (S4 K):=by
 refine T.F_c17.ok qy3 #[4] (fun cdv A outer s H vs Q E hr h=>⟨U3 K t.qA,?_,wz8 T.cz h⟩)
 have S:=qy3
 unfold U3
 repeat' (first|(walk_at "v")|refine yc6 T.m_c19 (wc6 T) #[6] rfl T.n_Branch T.b_c19 .nil B6 ?_)
theorem ww4(T:Txt K mg t):E1 P w K mg base CX0 4 t.zk.a t.zk.d ["book","names"] (ql3 K):=by
 refine T.zk.F.ok xt9 #[4] (fun cdv A outer s H vs Q E hr h=>⟨wa8 K,?_,yv7 h⟩)
 have S:=xt9
 unfold wa8
 repeat' (first|(walk_at "v")|refine zcl (wg5 T) hr T.zd B6 ?_)
theorem ww5(T:Txt K mg t):E1 P w K mg base CX0 4 t.zn.a t.zn.d ["book","names","name"] (qt3 K):=by
 refine T.zn.F.ok xu0 #[4] (fun cdv A outer s H vs Q E hr h=>⟨wa6 K,?_,yv6 h⟩)
 have S:=xu0
 unfold wa6
 repeat' (first|(walk_at "v")|refine zcl (yx6 T) hr T.zh B6 ?_|refine zcl (wg5 T) hr T.zd B6 ?_)
theorem yj1(T:Txt K mg t):E1 P w K mg base CX0 4 t.zp.a t.zp.d ["book","names"] (qq9 K):=by
 refine T.zp.F.ok xb8 #[4] (fun cdv A outer s H vs Q E hr h=>⟨qn4 K,?_,yf3 h⟩)
 have S:=xb8
 unfold qn4
 repeat' (first|(walk_at "v")|refine zcl (wj1 T) hr T.zw B6 ?_|refine zcl (qj1 T) hr T.zj B6 ?_|exact L6 rfl T.g_MOST_OPEN.1 T.g_MOST_OPEN.2)
theorem xc8(T:Txt K mg t):E1 P w K mg base CX0 4 t.yc.a t.yc.d ["text","settled","searched"] (X8 K):=by
 refine T.yc.F.ok qy2 #[4] (fun cdv A outer s H vs Q E hr h=>⟨U6 K,?_,xa3 h⟩)
 have S:=qy2
 unfold U6
 repeat' (first|(walk_at "v")|refine zcl (wj0 T) hr T.yh B6 ?_|refine zcl (yi8 T) hr T.yd B6 ?_|exact L6 rfl T.g_START.1 T.g_START.2|exact L6 rfl T.g_STOP.1 T.g_STOP.2)
theorem ww6(T:Txt K mg t):E1 P w K mg base CX0 4 t.ym.a t.ym.d ["book","closed"] (V7 K):=by
 refine T.ym.F.ok qv6 #[4] (fun cdv A outer s H vs Q E hr h=>⟨S9 K,?_,wv6 h⟩)
 have S:=qv6
 unfold S9
 repeat' (first|(walk_at "v")|refine zcl (wg5 T) hr T.zd B6 ?_|refine zcl (wg4 T) hr T.zc B6 ?_)
theorem yr5(T:Txt K mg t):E1 P w K mg base CX0 4 t.xc.a t.xc.d ["_law_book_here","_law_names_here","_law_name"] (qx8 K):=by
 refine T.xc.F.ok xj7 #[4] (fun cdv A outer s H vs Q E hr h=>⟨qu1 K,?_,yq9 h⟩)
 have S:=xj7
 unfold qu1
 repeat' (first|(walk_at "v")|refine zcl (xx4 T) hr T.yz B6 ?_|refine zcl (yj0 T) hr T.xb B6 ?_|refine zcl (qo6 T) hr T.yy B6 ?_)
theorem X6(T:Txt K mg t):E1 P w K mg base CX0 4 t.a_c11 t.d_c11 ["self"] (L9 K):=by
 refine T.F_c11.ok qk6 #[4] (fun cdv A outer s H vs Q E hr h=>⟨S8 K,?_,wj3 T.cz h⟩)
 have S:=qk6
 walk_at"35"
 ·exact(wd9 (i:=1) S.nd rfl rfl rfl (O1 (osc:=B2 T5) (ON:=["self","walls"]) (N:=["self","branch"]) (fr:=[some 0,none]) #[17] rfl rfl) (qs9 (wu4 (pv 0) rfl)) (fun _ _ _ _ _ _=>(J6 (i:=1) (show List.Nodup (["self","branch"]:List Str) by decide +kernel) rfl #[49])) qe7 (fun _ _ _ _ _ _=>(wd8 (qg7 (zcl (wg5 T) hr T.zd B6 (B0 (wu4 (pv 0) rfl) (B0 (wu4 (pv 1) rfl) B8)))))) (fun _ _ _ _ _ _=>(pv 1)))
 refine C6 ?_
 refine M0 ?_
 exact(yk1 (E4 yd7 (L1 qs4 rfl T.z_len boot_len #[46,1]) C2 (L5 _)) (L3 (D0 (D7 hr)) (pv 1) (yy0 yc4 C2) #[65]) (L3 (D0 (D7 hr)) (wu4 (pv 0) rfl) C2 #[65]))
theorem qf9(T:Txt K mg t):E1 P w K mg base CX0 4 t.a_c14 t.d_c14 ["self","name","start","rule"] (O2 K):=by
 refine T.F_c14.ok qv8 #[4] (fun cdv A outer s H vs Q E hr h=>⟨S7 K t.qB,?_,wv5 T.cz h⟩)
 have S:=qv8
 unfold S7
 repeat' (first|(walk_at "v")|refine zcl (xx2 T) hr T.yi B6 ?_|refine Q6 ?_ T.cz.cl_Reader T.m_c17 (qy5 T) #[6] T.b_c17 .nil B6 ?_)
theorem xi4(T:Txt K mg t):E1 P w K mg base CX0 5 t.zu.a t.zu.d ["book","names","name"] (qa6 K):=by
 refine T.zu.F.ok wb8 #[4] (fun cdv A outer s H vs Q E hr h=>⟨W6 K,?_,xe5 h⟩)
 have S:=wb8
 unfold W6
 repeat' (first|(walk_at "v")|refine zcl (ww4 T) hr T.zk B6 ?_|refine zcl (wc5 T) hr T.zb B6 ?_|exact L6 rfl T.g_SHUTS.1 T.g_SHUTS.2)
theorem yj2(T:Txt K mg t):E1 P w K mg base CX0 5 t.zx.a t.zx.d ["book","kept","put"] (qr1 K):=by
 refine T.zx.F.ok xb9 #[4] (fun cdv A outer s H vs Q E hr h=>⟨qn5 K,?_,yf4 h⟩)
 have S:=xb9
 unfold qn5
 repeat' (first|(walk_at "v")|refine zcl (ww4 T) hr T.zk B6 ?_|refine zcl (wc5 T) hr T.zb B6 ?_|refine zcl (wi8 T) hr T.zm B6 ?_|exact L6 rfl T.g_BARS.1 T.g_BARS.2)
theorem yj3(T:Txt K mg t):E1 P w K mg base CX0 5 t.yb.a t.yb.d ["text"] (qr4 K):=by
 refine T.yb.F.ok xc1 #[4] (fun cdv A outer s H vs Q E hr h=>⟨qn8 K,?_,yg0 h⟩)
 have S:=xc1
 unfold qn8
 repeat' (first|(walk_at "v")|refine zcl (wj0 T) hr T.yh B6 ?_|refine zcl (xc8 T) hr T.yc B6 ?_|exact L6 rfl T.g_STOP.1 T.g_STOP.2)
theorem xi5(T:Txt K mg t):E1 P w K mg base CX0 5 t.yp.a t.yp.d ["book","names","name"] (qa9 K):=by
 refine T.yp.F.ok wb9 #[4] (fun cdv A outer s H vs Q E hr h=>⟨W9 K,?_,xf6 h⟩)
 have S:=wb9
 unfold W9
 repeat' (first|(walk_at "v")|refine zcl (ww4 T) hr T.zk B6 ?_|refine zcl (wc5 T) hr T.zb B6 ?_|refine zcl (wi8 T) hr T.zm B6 ?_|exact L6 rfl T.g_BARS.1 T.g_BARS.2|exact L6 rfl T.g_MOST_OPEN.1 T.g_MOST_OPEN.2|exact L6 rfl T.g_SHUTS.1 T.g_SHUTS.2)
theorem xx8(T:Txt K mg t):E1 P w K mg base CX0 5 t.xh.a t.xh.d ["_law_script","_law_start","_law_book_here"] (qm6 K):=by
 refine T.xh.F.ok wu1 #[4] (fun cdv A outer s H vs Q E hr h=>⟨qi2 K,?_,xx1 h⟩)
 have S:=wu1
 unfold qi2
 repeat' (first|(walk_at "v")|refine zcl (yr5 T) hr T.xc B6 ?_|refine zcl (N2 T) hr T.yr B6 ?_|refine zcl (qo6 T) hr T.yy B6 ?_|refine zcl (yi7 T) hr T.xg B6 ?_)
theorem T6(T:Txt K mg t):E1 P w K mg base CX0 5 t.a_c8 t.d_c8 ["self","kept","start","rule"] (J4 K):=by
 refine T.F_c8.ok qe6 #[4] (fun cdv A outer s H vs Q E hr h=>⟨M6 K t.qB,?_,qy9 T.cz h⟩)
 have S:=qe6
 unfold M6
 repeat' (first|(walk_at "v")|refine zcl (xx3 T) hr T.yj B6 ?_|refine zcl (ww6 T) hr T.ym B6 ?_|refine S2 ?_ T.cz.cl_Reader T.m_c11 (X6 T) #[6] T.b_c11 .nil B6|refine S2 ?_ T.cz.cl_Reader T.m_c16 (qj2 T) #[6] T.b_c16 .nil B6|refine S2 ?_ T.cz.cl_Reader T.m_c10 (L0 T) #[6] T.b_c10 .nil B6)
theorem qv9(T:Txt K mg t):E1 P w K mg base CX0 6 t.zt.a t.zt.d ["book","names","name"] (V6 K):=by
 refine T.zt.F.ok qv5 #[4] (fun cdv A outer s H vs Q E hr h=>⟨S6 K,?_,wv2 h⟩)
 have S:=qv5
 unfold S6
 repeat' (first|(walk_at "v")|refine zcl (wj1 T) hr T.zw B6 ?_|refine zcl (xi4 T) hr T.zu B6 ?_|refine zcl (qj1 T) hr T.zj B6 ?_)
theorem ww7(T:Txt K mg t):E1 P w K mg base CX0 6 t.a_c15 t.d_c15 ["self","size"] (V8 K):=by
 refine T.F_c15.ok qv7 #[4] (fun cdv A outer s H vs Q E hr h=>⟨T0 K t.qB,?_,wv8 T.cz h⟩)
 have S:=qv7
 unfold T0
 repeat' (first|(walk_at "v")|refine Q6 ?_ T.cz.cl_Reader T.m_c8 (T6 T) #[6] T.b_c8 .nil B6 ?_)
theorem qz6(T:Txt K mg t):E1 P w K mg base CX0 6 t.a_c7 t.d_c7 ["self","start","signs","name"] (O6 K):=by
 refine T.F_c7.ok qe5 #[4] (fun cdv A outer s H vs Q E hr h=>⟨M8 K t.qB,?_,qz3 T.cz h⟩)
 have S:=qe5
 unfold M8
 repeat' (first|(walk_at "v")|refine zcl (ww5 T) hr T.zn B6 ?_|refine zcl (xl6 T) hr T.yo B6 ?_|refine Q6 ?_ T.cz.cl_Reader T.m_c8 (T6 T) #[6] T.b_c8 .nil B6 ?_|refine Q6 ?_ T.cz.cl_Reader T.m_c20 (ql8 T) #[6] T.b_c20 .nil B6 ?_|refine S2 ?_ T.cz.cl_Reader T.m_c11 (X6 T) #[6] T.b_c11 .nil B6|refine S2 ?_ T.cz.cl_Reader T.m_c16 (qj2 T) #[6] T.b_c16 .nil B6|refine S2 ?_ T.cz.cl_Reader T.m_c10 (L0 T) #[6] T.b_c10 .nil B6)
theorem qw0(T:Txt K mg t):E1 P w K mg base CX0 6 t.a_c5 t.d_c5 ["self","start"] (N5 K):=by
 refine T.F_c5.ok Z9 #[4] (fun cdv A outer s H vs Q E hr h=>⟨L4 K t.qB,?_,qu0 T.cz h⟩)
 have S:=Z9
 unfold L4
 repeat' (first|(walk_at "v")|refine zcl (xi5 T) hr T.yp B6 ?_|refine S2 ?_ T.cz.cl_Reader T.m_c11 (X6 T) #[6] T.b_c11 .nil B6|refine S2 ?_ T.cz.cl_Reader T.m_c10 (L0 T) #[6] T.b_c10 .nil B6|refine Q6 ?_ T.cz.cl_Reader T.m_c14 (qf9 T) #[6] T.b_c14 .nil B6 ?_)
theorem wo6(T:Txt K mg t):E1 P w K mg base CX0 7 t.a_c13 t.d_c13 ["self","start","signs","told"] (T2 K):=by
 refine T.F_c13.ok qo4 #[4] (fun cdv A outer s H vs Q E hr h=>⟨P5 K t.qB,?_,wm6 T.cz h⟩)
 have S:=qo4
 unfold P5
 repeat' (first|(walk_at "v")|refine zcl (yx3 T) hr T.zy B6 ?_|refine zcl (yj1 T) hr T.zp B6 ?_|refine zcl (yi6 T) hr T.ya B6 ?_|refine Q6 ?_ T.cz.cl_Reader T.m_c12 (wo5 T) #[6] T.b_c12 .nil B6 ?_|refine Q6 ?_ T.cz.cl_Reader T.m_c20 (ql8 T) #[6] T.b_c20 .nil B6 ?_|refine S2 ?_ T.cz.cl_Reader T.m_c9 (wc7 T) #[6] T.b_c9 .nil B6|refine S2 ?_ T.cz.cl_Reader T.m_c10 (L0 T) #[6] T.b_c10 .nil B6|refine Q6 ?_ T.cz.cl_Reader T.m_c14 (qf9 T) #[6] T.b_c14 .nil B6 ?_|refine Q6 ?_ T.cz.cl_Reader T.m_c5 (qw0 T) #[6] T.b_c5 .nil B6 ?_|exact L6 rfl T.g_BLANKS.1 T.g_BLANKS.2)
theorem xu5(T:Txt K mg t):∀ n:Nat,E1 P w K mg base CX0 (7+n) t.zr.a t.zr.d ["book","names","name"] (qt4 n K)
 | 0 => by
   have FR:E1 P w K mg base CX0 6 t.zr.a t.zr.d ["book","names","name"] (qn6 K 0):=⟨fun _ _ _ _ h=>h.elim,fun _ _ _ _ _ _ _ _ _ _ _ _ _ h=>h.elim⟩
   refine T.zr.F.ok (k:=6) wq7 #[4] (fun cdv A outer s H vs Q E hr h=>⟨wm3 K (qn6 K 0),?_,yb1 0 h⟩)
   have S:=wq7
   walk_at"35"
   ·refine zst (i:=3) S ?_
    exact(zcl (wo4 T) hr T.zf B6 (B0 (pv 0) #[46,2]))
   walk_at"35"
   ·refine qg0 ?_ ?_ ?_
    ·exact(E4 yd8 (pv 3) xn1 (L5 _))
    ·refine C6 ?_
     exact(M0 (zcl (qv9 T) hr T.zt B6 (B0 (pv 0) (B0 (pv 1) #[46,2]))))
    ·exact T9
   walk_at"35"
   ·refine zst (i:=4) S ?_
    exact(zcl (ww5 T) hr T.zn B6 (B0 (pv 0) (B0 (pv 1) #[46,3])))
   walk_at"35"
   ·refine qg0 ?_ ?_ ?_
    ·exact(E4 wp1 (pv 4) xn1 (L5 _))
    ·refine C6 ?_
     exact(M0 (qk9 (B0 (D1 wy7 (pv 4) C2) (B0 (qk9 #[46,2]) B8))))
    ·exact T9
   walk_at"35"
   ·refine zst (i:=5) S ?_
    exact(zcl FR hr T.zr B6 (B0 (pv 0) (B0 (pv 1) #[46,3])))
   refine C6 ?_
   refine M0 ?_
   refine qk9 ?_
   refine B0 ?_ ?_
   ·exact#[8,5]
   refine B0 ?_ ?_
   ·exact(D1 wy7 #[8,5] (qk9 #[46,2]))
   exact B8
 | n + 1=>by
   have FR:E1 P w K mg base CX0 (7+n) t.zr.a t.zr.d ["book","names","name"] (qn6 K (n+1)):=xu5 T n
   refine T.zr.F.ok (k:=(7+n)) wq7 #[4] (fun cdv A outer s H vs Q E hr h=>⟨wm3 K (qn6 K (n+1)),?_,yb1 (n+1) h⟩)
   have S:=wq7
   walk_at"35"
   ·refine zst (i:=3) S ?_
    exact(zcl (wo4 T) hr T.zf B6 (B0 (pv 0) #[46,2]))
   walk_at"35"
   ·refine qg0 ?_ ?_ ?_
    ·exact(E4 yd8 (pv 3) xn1 (L5 _))
    ·refine C6 ?_
     exact(M0 (zcl (qv9 T) hr T.zt B6 (B0 (pv 0) (B0 (pv 1) #[46,2]))))
    ·exact T9
   walk_at"35"
   ·refine zst (i:=4) S ?_
    exact(zcl (ww5 T) hr T.zn B6 (B0 (pv 0) (B0 (pv 1) #[46,3])))
   walk_at"35"
   ·refine qg0 ?_ ?_ ?_
    ·exact(E4 wp1 (pv 4) xn1 (L5 _))
    ·refine C6 ?_
     exact(M0 (qk9 (B0 (D1 wy7 (pv 4) C2) (B0 (qk9 #[46,2]) B8))))
    ·exact T9
   walk_at"35"
   ·refine zst (i:=5) S ?_
    exact(zcl FR hr T.zr B6 (B0 (pv 0) (B0 (pv 1) #[46,3])))
   refine C6 ?_
   refine M0 ?_
   refine qk9 ?_
   refine B0 ?_ ?_
   ·exact#[8,5]
   refine B0 ?_ ?_
   ·exact(D1 wy7 #[8,5] (qk9 #[46,2]))
   exact B8
theorem zg7(T:Txt K mg t):E1 P w K mg base CX0 20 t.zr.a t.zr.d ["book","names","name"] (yb0 K):=xu5 T 13
theorem yx7(T:Txt K mg t):E1 P w K mg base CX0 21 t.zo.a t.zo.d ["book","names","name"] (we7 K):=by
 refine T.zo.F.ok xu1 #[4] (fun cdv A outer s H vs Q E hr h=>⟨wa9 K,?_,yv8 h⟩)
 have S:=xu1
 unfold wa9
 repeat' (first|(walk_at "v")|refine zcl (yj2 T) hr T.zx B6 ?_|refine zcl (zg7 T) hr T.zr B6 ?_|exact L6 rfl T.g_MOST_OPEN.1 T.g_MOST_OPEN.2)
theorem qz7(T:Txt K mg t):E1 P w K mg base CX0 22 t.a_c6 t.d_c6 ["self","start","signs","name"] (O5 K):=by
 refine T.F_c6.ok qe4 #[4] (fun cdv A outer s H vs Q E hr h=>⟨M7 K t.qB,?_,qz2 T.cz h⟩)
 have S:=qe4
 unfold M7
 repeat' (first|(walk_at "v")|refine zcl (yx7 T) hr T.zo B6 ?_|refine zcl (wg4 T) hr T.zc B6 ?_|refine Q6 ?_ T.cz.cl_Reader T.m_c8 (T6 T) #[6] T.b_c8 .nil B6 ?_|refine Q6 ?_ T.cz.cl_Reader T.m_c20 (ql8 T) #[6] T.b_c20 .nil B6 ?_|refine Q6 ?_ T.cz.cl_Reader T.m_c17 (qy5 T) #[6] T.b_c17 .nil B6 ?_|refine S2 ?_ T.cz.cl_Reader T.m_c16 (qj2 T) #[6] T.b_c16 .nil B6|refine S2 ?_ T.cz.cl_Reader T.m_c10 (L0 T) #[6] T.b_c10 .nil B6|refine Q6 ?_ T.cz.cl_Reader T.m_c14 (qf9 T) #[6] T.b_c14 .nil B6 ?_)
theorem xi6(T:Txt K mg t):E1 P w K mg base CX0 23 t.a_c21 t.d_c21 ["self","kind","start","signs","told"] (qb0 K):=by
 refine T.F_c21.ok wc3 #[4] (fun cdv A outer s H vs Q E hr h=>⟨X0 K t.qB,?_,xf8 T.cz h⟩)
 have S:=wc3
 unfold X0
 repeat' (first|(walk_at "v")|refine Q6 ?_ T.cz.cl_Reader T.m_c7 (qz6 T) #[6] T.b_c7 .nil B6 ?_|refine Q6 ?_ T.cz.cl_Reader T.m_c6 (qz7 T) #[6] T.b_c6 .nil B6 ?_|refine Q6 ?_ T.cz.cl_Reader T.m_c13 (wo6 T) #[6] T.b_c13 .nil B6 ?_)
theorem yj4(T:Txt K mg t):E1 P w K mg base CX0 24 t.yl.a t.yl.d ["book","text"] (qr8 K):=by
 refine T.yl.F.ok xc4 #[4] (fun cdv A outer s H vs Q E hr h=>⟨qo0 K t.qB,?_,yh0 T.cz h⟩)
 have S:=xc4
 unfold qo0
 repeat' (first|(walk_at "v")|refine zcl (yj3 T) hr T.yb B6 ?_|refine Q6 ?_ T.cz.cl_Reader T.m_c15 (ww7 T) #[6] T.b_c15 .nil B6 ?_|refine Q6 ?_ T.cz.cl_Reader T.m_c21 (xi6 T) #[6] T.b_c21 .nil B6 ?_|refine yc6 T.m_c18 (xi3 T) #[6] rfl T.n_Reader T.b_c18 .nil B6 ?_)
theorem yj5(T:Txt K mg t):E1 P w K mg base CX0 25 t.yk.a t.yk.d ["book","text"] (qr9 K):=by
 refine T.yk.F.ok xc3 #[4] (fun cdv A outer s H vs Q E hr h=>⟨qo1 K t.qB,?_,yh1 T.cz h⟩)
 have S:=xc3
 unfold qo1
 repeat' (first|(walk_at "v")|refine zcl (yj4 T) hr T.yl B6 ?_|refine S2 ?_ T.cz.cl_Reader T.m_c22 (xi2 T) #[6] T.b_c22 .nil B6)
theorem wc8(T:Txt K mg t):∀ n:Nat,E1 P w K mg base CX0 (1+n) t.xk.a t.xk.d ["_law_found"] (V0 n K)
 | 0 => by
   have FR:E1 P w K mg base CX0 0 t.xk.a t.xk.d ["_law_found"] (T4 K 0):=⟨fun _ _ _ _ h=>h.elim,fun _ _ _ _ _ _ _ _ _ _ _ _ _ h=>h.elim⟩
   refine T.xk.F.ok (k:=0) qf3 #[4] (fun cdv A outer s H vs Q E hr h=>⟨Z8 K (T4 K 0),?_,wh3 0 h⟩)
   have S:=qf3
   walk_at"35"
   ·refine qg0 ?_ ?_ ?_
    ·exact#[53]
    ·refine C6 ?_
     exact(M0 ww8)
    ·exact T9
   walk_at"35"
   ·refine qg0 ?_ ?_ ?_
    ·exact(qs6 #[19,(B0 #[8,0] (B0 (qa0 rfl T.z_tuple boot_tuple rfl) B8))])
    ·refine C6 ?_
     exact(M0 ww8)
    ·exact T9
   walk_at"35"
   ·refine wd3 PassesOwn.never rfl ?_ ?_ ?_
    ·exact(qs9 #[8,0])
    ·exact(J6 (i:=1) S.nd rfl #[49])
    ·refine C6 ?_
     refine qg0 ?_ ?_ ?_
     ·exact(PW.pt (wd1 (qs6 #[19,B0 (pv 1) (B0 (qa0 rfl T.z_str boot_str rfl) B8)]) (qw4 (qs6 (qg7 (zcl FR hr T.xk B6 #[46,1]))))))
     ·refine C6 ?_
      exact(M0 ww8)
     ·exact T9
   refine C6 ?_
   exact(M0 ww8)
 | n + 1=>by
   have FR:E1 P w K mg base CX0 (1+n) t.xk.a t.xk.d ["_law_found"] (T4 K (n+1)):=wc8 T n
   refine T.xk.F.ok (k:=(1+n)) qf3 #[4] (fun cdv A outer s H vs Q E hr h=>⟨Z8 K (T4 K (n+1)),?_,wh3 (n+1) h⟩)
   have S:=qf3
   walk_at"35"
   ·refine qg0 ?_ ?_ ?_
    ·exact#[53]
    ·refine C6 ?_
     exact(M0 ww8)
    ·exact T9
   walk_at"35"
   ·refine qg0 ?_ ?_ ?_
    ·exact(qs6 #[19,(B0 #[8,0] (B0 (qa0 rfl T.z_tuple boot_tuple rfl) B8))])
    ·refine C6 ?_
     exact(M0 ww8)
    ·exact T9
   walk_at"35"
   ·refine wd3 PassesOwn.never rfl ?_ ?_ ?_
    ·exact(qs9 #[8,0])
    ·exact(J6 (i:=1) S.nd rfl #[49])
    ·refine C6 ?_
     refine qg0 ?_ ?_ ?_
     ·exact(PW.pt (wd1 (qs6 #[19,B0 (pv 1) (B0 (qa0 rfl T.z_str boot_str rfl) B8)]) (qw4 (qs6 (qg7 (zcl FR hr T.xk B6 #[46,1]))))))
     ·refine C6 ?_
      exact(M0 ww8)
     ·exact T9
   refine C6 ?_
   exact(M0 ww8)
theorem xl7(T:Txt K mg t):E1 P w K mg base CX0 86 t.xk.a t.xk.d ["_law_found"] (wh2 K):=wc8 T 85
theorem wc9 (T:Txt K mg t):∀ n:Nat,E1 P w K mg base CX0 (2+n) t.xj.a t.xj.d ["_law_book_here","_law_tree"] (U9 n K)
 | 0 => by
   have FR:E1 P w K mg base CX0 1 t.xj.a t.xj.d ["_law_book_here","_law_tree"] (T3 K 0):=⟨fun _ _ _ _ h=>h.elim,fun _ _ _ _ _ _ _ _ _ _ _ _ _ h=>h.elim⟩
   refine T.xj.F.ok (k:=1) qf2 #[4] (fun cdv A outer s H vs Q E hr h=>⟨Z7 K (T3 K 0),?_,wh1 0 h⟩)
   have S:=qf2
   walk_at"35"
   ·refine zst (i:=2) S ?_
    exact G3
   walk_at"35"
   ·refine wd3 PassesOwn.never rfl ?_ ?_ ?_
    ·exact(qs9 #[8,1])
    ·exact(J6 (i:=3) S.nd rfl #[49])
    ·refine C6 ?_
     refine qg0 ?_ ?_ ?_
     ·exact#[19,B0 (pv 3) (B0 (qa0 rfl T.z_str boot_str rfl) B8)]
     ·refine C6 ?_
      refine zst (i:=2) S ?_
      exact(D1 D4 (pv 2) (zcl (wi9 T) hr T.xi B6 #[46,3]))
     ·refine C6 ?_
      refine qg0 ?_ ?_ ?_
      ·exact(E4 (qo7 (wk9 hr)) (L3 (D0 (D7 hr)) (zcl (qo6 T) hr T.yy B6 (B0 (pv 0) (B0 #[8,3] B8))) C2 #[65]) G3 (L5 _))
      ·refine C6 ?_
       refine zst (i:=2) S ?_
       exact(D1 D4 (D1 D4 (D1 D4 (pv 2) G3) #[8,3]) G3)
      ·refine C6 ?_
       refine X2 (i:=2) S.nd rfl #[49] ?_ rfl ?_
       ·refine D1 D4 ?_ ?_
        ·refine D1 D4 ?_ ?_
         ·refine D1 D4 ?_ ?_
          ·refine D1 D4 ?_ ?_
           ·exact(D1 D4 (D1 D4 (D1 D4 (pv 2) G3) #[8,3]) G3)
           ·exact(zcl FR hr T.xj B6 (B0 (pv 0) #[46,3]))
          ·exact G3
         ·exact#[8,3]
        ·exact G3
       ·walk_at "or"
   refine C6 ?_
   exact(M0 (pv 2))
 | n + 1 => by
   have FR:E1 P w K mg base CX0 (2+n) t.xj.a t.xj.d ["_law_book_here","_law_tree"] (T3 K (n+1)):=wc9 T n
   refine T.xj.F.ok (k:=(2+n)) qf2 #[4] (fun cdv A outer s H vs Q E hr h=>⟨Z7 K (T3 K (n+1)),?_,wh1 (n+1) h⟩)
   have S:=qf2
   walk_at"35"
   ·refine zst (i:=2) S ?_
    exact G3
   walk_at"35"
   ·refine wd3 PassesOwn.never rfl ?_ ?_ ?_
    ·exact(qs9 #[8,1])
    ·exact(J6 (i:=3) S.nd rfl #[49])
    ·refine C6 ?_
     refine qg0 ?_ ?_ ?_
     ·exact#[19,B0 (pv 3) (B0 (qa0 rfl T.z_str boot_str rfl) B8)]
     ·refine C6 ?_
      refine zst (i:=2) S ?_
      exact(D1 D4 (pv 2) (zcl (wi9 T) hr T.xi B6 #[46,3]))
     ·refine C6 ?_
      refine qg0 ?_ ?_ ?_
      ·exact(E4 (qo7 (wk9 hr)) (L3 (D0 (D7 hr)) (zcl (qo6 T) hr T.yy B6 (B0 (pv 0) (B0 #[8,3] B8))) C2 #[65]) G3 (L5 _))
      ·refine C6 ?_
       refine zst (i:=2) S ?_
       exact(D1 D4 (D1 D4 (D1 D4 (pv 2) G3) #[8,3]) G3)
      ·refine C6 ?_
       refine X2 (i:=2) S.nd rfl #[49] ?_ rfl ?_
       ·refine D1 D4 ?_ ?_
        ·refine D1 D4 ?_ ?_
         ·refine D1 D4 ?_ ?_
          ·refine D1 D4 ?_ ?_
           ·exact(D1 D4 (D1 D4 (D1 D4 (pv 2) G3) #[8,3]) G3)
           ·exact(zcl FR hr T.xj B6 (B0 (pv 0) #[46,3]))
          ·exact G3
         ·exact#[8,3]
        ·exact G3
       ·walk_at "or"
   refine C6 ?_
   exact(M0 (pv 2))
theorem xl8(T:Txt K mg t):E1 P w K mg base CX0 87 t.xj.a t.xj.d ["_law_book_here","_law_tree"] (wh0 K):=wc9 T 85
theorem Aj0(T:Txt K mg t):E1 P w K mg base CX0 88 t.xl.a t.xl.d ["_law_script"] (xh1 K):=by
 refine T.xl.F.ok zr4 #[4] (fun cdv A outer s H vs Q E hr h=>⟨yr3 K,?_,Ai9 h⟩)
 have S:=zr4
 unfold yr3
 repeat' (first|(walk_at "v")|refine zcl (yi9 T) hr T.yx B6 ?_|refine zcl (xx8 T) hr T.xh B6 ?_|refine zcl (xl7 T) hr T.xk B6 ?_|refine zcl (xl8 T) hr T.xj B6 ?_|refine zcl (yj5 T) hr T.yk B6 ?_)
end
theorem ln1{us:List Value}(h:us.length=1):∃ x0,us=[x0]:=by
 rcases us with _|⟨x0,_|⟨y,us⟩⟩
 ·cases h
 ·exact⟨x0,rfl⟩
 ·cases h
theorem ln2{us:List Value}(h:us.length=2):∃ x0 x1,us=[x0,x1]:=by
 rcases us with _|⟨x0,_|⟨x1,_|⟨y,us⟩⟩⟩
 ·cases h
 ·cases h
 ·exact⟨x0,x1,rfl⟩
 ·cases h
theorem ln3{us:List Value}(h:us.length=3):∃ x0 x1 x2,us=[x0,x1,x2]:=by
 rcases us with _|⟨x0,_|⟨x1,_|⟨x2,_|⟨y,us⟩⟩⟩⟩
 ·cases h
 ·cases h
 ·cases h
 ·exact⟨x0,x1,x2,rfl⟩
 ·cases h
theorem ln4{us:List Value}(h:us.length=4):∃ x0 x1 x2 x3,us=[x0,x1,x2,x3]:=by
 rcases us with _|⟨x0,_|⟨x1,_|⟨x2,_|⟨x3,_|⟨y,us⟩⟩⟩⟩⟩
 ·cases h
 ·cases h
 ·cases h
 ·cases h
 ·exact⟨x0,x1,x2,x3,rfl⟩
 ·cases h
theorem ln5{us:List Value}(h:us.length=5):∃ x0 x1 x2 x3 x4,us=[x0,x1,x2,x3,x4]:=by
 rcases us with _|⟨x0,_|⟨x1,_|⟨x2,_|⟨x3,_|⟨x4,_|⟨y,us⟩⟩⟩⟩⟩⟩
 ·cases h
 ·cases h
 ·cases h
 ·cases h
 ·cases h
 ·exact⟨x0,x1,x2,x3,x4,rfl⟩
 ·cases h
theorem all_mk{l:PySem.W.OpenLaw}{w:World}{h:Heap}{fa f0 f1 f2 f3 f4 f5 f6 f7 f8 f9 f10 f11 f12 f13 f14 f15 f16 f17 f18 f19 f20 f21 f22 f23 f24 f25 f26 f27 f28 f29 f30 f31 f32 f33 f34 f35 f36 f37 f38 f39 f40 f41 f42 f43 f44 f45 f46 f47 f48 f49 f50 f51 f52 f53 f54 f55 f56 f57 f58 f59 f60 f61 f62 f63 f64 f65 f66 f67 f68 f69 f70 f71:Addr}(X:K.In h)(G:h.Ns mainGlobals mg)(hfa:mg "law"=some (.ref fa)){d0 d1 d2 d3 d4 d5 d6 d7 d8 d9 d10 d11 d12 d13 d14 d15 d16 d17 d18 d19 d20 d21 d22 d23 d24 d25 d26 d27 d28 d29 d30 d31 d32 d33 d34 d35 d36 d37 d38 d39 d40 d41 d42 d43 d44 d45 d46 d47 d48 d49 d50 d51 d52 d53 d54 d55 d56 d57 d58 d59 d60 d61 d62 d63 d64 d65 d66 d67 d68 d69 d70 d71:FuncData}{k_LONGEST_NAME k_NAME k_SORT k_HOST k_SHUTS k_BARS k_ROOT_NAME k_MOST_OPEN k_START k_STOP k_BLANKS:Tok}{c_WALL_SORTS:Addr}{d_WALL_SORTS:Option Addr}{n_WALL_SORTS:Nat}{sl_WALL_SORTS:Array (Option Value)}{k_WALL_SORTS_0 k_WALL_SORTS_1:Tok}{c_TOLD_FOR:Addr}{d_TOLD_FOR:Option Addr}{n_TOLD_FOR:Nat}{sl_TOLD_FOR:Array (Option Value)}{k_TOLD_FOR_0 k_TOLD_FOR_1:Tok}{d_ESCAPED:Option Addr}{n_ESCAPED:Nat}{sl_ESCAPED:Array (Option Value)}{k_ESCAPED_0 k_ESCAPED_1:Tok}(eBranch:PySem.W.nsIn K mainGlobals "Branch"=some #[5,qA])(eReader:PySem.W.nsIn K mainGlobals "Reader"=some #[5,qB])(a0:PySem.W.nsIn K mainGlobals "has_letters_of_name"=some #[5,f0])(F0:Fun K "has_letters_of_name" "has_letters_of_name" R0 f0 d0)(a1:PySem.W.nsIn K mainGlobals "row_of"=some #[5,f1])(F1:Fun K "row_of" "row_of" xt2 f1 d1)(a2:PySem.W.nsIn K mainGlobals "sort_of"=some #[5,f2])(F2:Fun K "sort_of" "sort_of" xh2 f2 d2)(a3:PySem.W.nsIn K mainGlobals "is_wall"=some #[5,f3])(F3:Fun K "is_wall" "is_wall" xh3 f3 d3)(a4:PySem.W.nsIn K mainGlobals "host_of"=some #[5,f4])(F4:Fun K "host_of" "host_of" xh4 f4 d4)(a5:PySem.W.nsIn K mainGlobals "frame_of"=some #[5,f5])(F5:Fun K "frame_of" "frame_of" ww0 f5 d5)(a6:PySem.W.nsIn K mainGlobals "belongs"=some #[5,f6])(F6:Fun K "belongs" "belongs" xh5 f6 d6)(a7:PySem.W.nsIn K mainGlobals "is_text"=some #[5,f7])(F7:Fun K "is_text" "is_text" xh6 f7 d7)(a8:PySem.W.nsIn K mainGlobals "straight_above"=some #[5,f8])(F8:Fun K "straight_above" "straight_above" ql4 f8 d8)(a9:PySem.W.nsIn K mainGlobals "near_of"=some #[5,f9])(F9:Fun K "near_of" "near_of" xh7 f9 d9)(a10:PySem.W.nsIn K mainGlobals "share_a_name"=some #[5,f10])(F10:Fun K "share_a_name" "share_a_name" qi3 f10 d10)(a11:PySem.W.nsIn K mainGlobals "closing"=some #[5,f11])(F11:Fun K "closing" "closing" xh8 f11 d11)(a12:PySem.W.nsIn K mainGlobals "opening"=some #[5,f12])(F12:Fun K "opening" "opening" xh9 f12 d12)(a13:PySem.W.nsIn K mainGlobals "hosts_for"=some #[5,f13])(F13:Fun K "hosts_for" "hosts_for" wn5 f13 d13)(a14:PySem.W.nsIn K mainGlobals "wanted"=some #[5,f14])(F14:Fun K "wanted" "wanted" xt3 f14 d14)(a15:PySem.W.nsIn K mainGlobals "wanted_by_guest"=some #[5,f15])(F15:Fun K "wanted_by_guest" "wanted_by_guest" qi4 f15 d15)(a16:PySem.W.nsIn K mainGlobals "kept_by_shuts"=some #[5,f16])(F16:Fun K "kept_by_shuts" "kept_by_shuts" qp2 f16 d16)(a17:PySem.W.nsIn K mainGlobals "hosts_within"=some #[5,f17])(F17:Fun K "hosts_within" "hosts_within" qu7 f17 d17)(a18:PySem.W.nsIn K mainGlobals "is_barred"=some #[5,f18])(F18:Fun K "is_barred" "is_barred" wn6 f18 d18)(a19:PySem.W.nsIn K mainGlobals "escaped"=some #[5,f19])(F19:Fun K "escaped" "escaped" xi0 f19 d19)(a20:PySem.W.nsIn K mainGlobals "told_by"=some #[5,f20])(F20:Fun K "told_by" "told_by" xi1 f20 d20)(a21:PySem.W.nsIn K mainGlobals "lone_ones"=some #[5,f21])(F21:Fun K "lone_ones" "lone_ones" qy0 f21 d21)(a22:PySem.W.nsIn K mainGlobals "tokens_of"=some #[5,f22])(F22:Fun K "tokens_of" "tokens_of" wn7 f22 d22)(a23:PySem.W.nsIn K mainGlobals "settled_tokens"=some #[5,f23])(F23:Fun K "settled_tokens" "settled_tokens" ql5 f23 d23)(a24:PySem.W.nsIn K mainGlobals "tags_from"=some #[5,f24])(F24:Fun K "tags_from" "tags_from" wn8 f24 d24)(a25:PySem.W.nsIn K mainGlobals "name_start"=some #[5,f25])(F25:Fun K "name_start" "name_start" wf5 f25 d25)(a26:PySem.W.nsIn K mainGlobals "tag_stop"=some #[5,f26])(F26:Fun K "tag_stop" "tag_stop" ww1 f26 d26)(a27:PySem.W.nsIn K mainGlobals "tag_between"=some #[5,f27])(F27:Fun K "tag_between" "tag_between" qz5 f27 d27)(a28:PySem.W.nsIn K mainGlobals "runs_between"=some #[5,f28])(F28:Fun K "runs_between" "runs_between" qu8 f28 d28)(a29:PySem.W.nsIn K mainGlobals "opening_of"=some #[5,f29])(F29:Fun K "opening_of" "opening_of" wf6 f29 d29)(a30:PySem.W.nsIn K mainGlobals "closing_of"=some #[5,f30])(F30:Fun K "closing_of" "closing_of" wf7 f30 d30)(a31:PySem.W.nsIn K mainGlobals "read_text"=some #[5,f31])(F31:Fun K "read_text" "read_text" wn9 f31 d31)(a32:PySem.W.nsIn K mainGlobals "reader_of"=some #[5,f32])(F32:Fun K "reader_of" "reader_of" wo0 f32 d32)(a33:PySem.W.nsIn K mainGlobals "those_that_wait"=some #[5,f33])(F33:Fun K "those_that_wait" "those_that_wait" qi5 f33 d33)(a34:PySem.W.nsIn K mainGlobals "without_last"=some #[5,f34])(F34:Fun K "without_last" "without_last" qu9 f34 d34)(a35:PySem.W.nsIn K mainGlobals "may_come_anew"=some #[5,f35])(F35:Fun K "may_come_anew" "may_come_anew" qp3 f35 d35)(a36:PySem.W.nsIn K mainGlobals "_law_cell_at"=some #[5,f36])(F36:Fun K "_law_cell_at" "_law_cell_at" qv0 f36 d36)(a37:PySem.W.nsIn K mainGlobals "_law_mixed"=some #[5,f37])(F37:Fun K "_law_mixed" "_law_mixed" wf8 f37 d37)(a38:PySem.W.nsIn K mainGlobals "_law_letters"=some #[5,f38])(F38:Fun K "_law_letters" "_law_letters" qv1 f38 d38)(a39:PySem.W.nsIn K mainGlobals "_law_names"=some #[5,f39])(F39:Fun K "_law_names" "_law_names" qi6 f39 d39)(a40:PySem.W.nsIn K mainGlobals "_law_sorts"=some #[5,f40])(F40:Fun K "_law_sorts" "_law_sorts" qb1 f40 d40)(a41:PySem.W.nsIn K mainGlobals "_law_book"=some #[5,f41])(F41:Fun K "_law_book" "_law_book" qg3 f41 d41)(a42:PySem.W.nsIn K mainGlobals "_law_row"=some #[5,f42])(F42:Fun K "_law_row" "_law_row" ww2 f42 d42)(a43:PySem.W.nsIn K mainGlobals "_law_frame"=some #[5,f43])(F43:Fun K "_law_frame" "_law_frame" wf9 f43 d43)(a44:PySem.W.nsIn K mainGlobals "_law_fence"=some #[5,f44])(F44:Fun K "_law_fence" "_law_fence" wg0 f44 d44)(a45:PySem.W.nsIn K mainGlobals "_law_near"=some #[5,f45])(F45:Fun K "_law_near" "_law_near" wo1 f45 d45)(a46:PySem.W.nsIn K mainGlobals "_law_may"=some #[5,f46])(F46:Fun K "_law_may" "_law_may" ww3 f46 d46)(a47:PySem.W.nsIn K mainGlobals "_law_signs"=some #[5,f47])(F47:Fun K "_law_signs" "_law_signs" wg1 f47 d47)(a48:PySem.W.nsIn K mainGlobals "_law_word"=some #[5,f48])(F48:Fun K "_law_word" "_law_word" wo2 f48 d48)(a49:PySem.W.nsIn K mainGlobals "_law_grown"=some #[5,f49])(F49:Fun K "_law_grown" "_law_grown" wg2 f49 d49)(a50:PySem.W.nsIn K mainGlobals "_law_escaped"=some #[5,f50])(F50:Fun K "_law_escaped" "_law_escaped" qv2 f50 d50)(a51:PySem.W.nsIn K mainGlobals "_law_written"=some #[5,f51])(F51:Fun K "_law_written" "_law_written" qv3 f51 d51)(a52:PySem.W.nsIn K mainGlobals "_law_is_tree"=some #[5,f52])(F52:Fun K "_law_is_tree" "_law_is_tree" qv4 f52 d52)(a53:PySem.W.nsIn K mainGlobals "law"=some #[5,f53])(F53:Fun K "law" "law" yb8 f53 d53)(a54:PySem.W.findIn K (.ref qA) "__init__"=some #[5,f54])(F54:Fun K "__init__" "Branch.__init__" qp4 f54 d54)(fn54:PySem.W.isFn K (.ref f54)=true)(a55:PySem.W.findIn K (.ref qB) "__init__"=some #[5,f55])(F55:Fun K "__init__" "Reader.__init__" qp5 f55 d55)(fn55:PySem.W.isFn K (.ref f55)=true)(a56:PySem.W.findIn K (.ref qB) "root"=some #[5,f56])(F56:Fun K "root" "Reader.root" qp6 f56 d56)(fn56:PySem.W.isFn K (.ref f56)=true)(a57:PySem.W.findIn K (.ref qB) "read"=some #[5,f57])(F57:Fun K "read" "Reader.read" qp7 f57 d57)(fn57:PySem.W.isFn K (.ref f57)=true)(a58:PySem.W.findIn K (.ref qB) "finish"=some #[5,f58])(F58:Fun K "finish" "Reader.finish" qi7 f58 d58)(fn58:PySem.W.isFn K (.ref f58)=true)(a59:PySem.W.findIn K (.ref qB) "read_opening"=some #[5,f59])(F59:Fun K "read_opening" "Reader.read_opening" V1 f59 d59)(fn59:PySem.W.isFn K (.ref f59)=true)(a60:PySem.W.findIn K (.ref qB) "read_closing"=some #[5,f60])(F60:Fun K "read_closing" "Reader.read_closing" V2 f60 d60)(fn60:PySem.W.isFn K (.ref f60)=true)(a61:PySem.W.findIn K (.ref qB) "read_run"=some #[5,f61])(F61:Fun K "read_run" "Reader.read_run" qd2 f61 d61)(fn61:PySem.W.isFn K (.ref f61)=true)(a62:PySem.W.findIn K (.ref qB) "open_names"=some #[5,f62])(F62:Fun K "open_names" "Reader.open_names" R1 f62 d62)(fn62:PySem.W.isFn K (.ref f62)=true)(a63:PySem.W.findIn K (.ref qB) "is_in_frame"=some #[5,f63])(F63:Fun K "is_in_frame" "Reader.is_in_frame" V9 f63 d63)(fn63:PySem.W.isFn K (.ref f63)=true)(a64:PySem.W.findIn K (.ref qB) "last_wall"=some #[5,f64])(F64:Fun K "last_wall" "Reader.last_wall" T5 f64 d64)(fn64:PySem.W.isFn K (.ref f64)=true)(a65:PySem.W.findIn K (.ref qB) "enter"=some #[5,f65])(F65:Fun K "enter" "Reader.enter" ql6 f65 d65)(fn65:PySem.W.isFn K (.ref f65)=true)(a66:PySem.W.findIn K (.ref qB) "leave"=some #[5,f66])(F66:Fun K "leave" "Reader.leave" ql7 f66 d66)(fn66:PySem.W.isFn K (.ref f66)=true)(a67:PySem.W.findIn K (.ref qB) "drop"=some #[5,f67])(F67:Fun K "drop" "Reader.drop" qp8 f67 d67)(fn67:PySem.W.isFn K (.ref f67)=true)(a68:PySem.W.findIn K (.ref qB) "put_in"=some #[5,f68])(F68:Fun K "put_in" "Reader.put_in" qi8 f68 d68)(fn68:PySem.W.isFn K (.ref f68)=true)(a69:PySem.W.findIn K (.ref qB) "close_behind"=some #[5,f69])(F69:Fun K "close_behind" "Reader.close_behind" V3 f69 d69)(fn69:PySem.W.isFn K (.ref f69)=true)(a70:PySem.W.findIn K (.ref qB) "put_in_waiting"=some #[5,f70])(F70:Fun K "put_in_waiting" "Reader.put_in_waiting" R6 f70 d70)(fn70:PySem.W.isFn K (.ref f70)=true)(a71:PySem.W.findIn K (.ref qB) "add_text"=some #[5,f71])(F71:Fun K "add_text" "Reader.add_text" qd3 f71 d71)(fn71:PySem.W.isFn K (.ref f71)=true)(uLONGEST_NAME:PySem.W.nsIn K mainGlobals "LONGEST_NAME"=some (some (.int 8 k_LONGEST_NAME)))(uNAME:PySem.W.nsIn K mainGlobals "NAME"=some (some (.int 0 k_NAME)))(uSORT:PySem.W.nsIn K mainGlobals "SORT"=some (some (.int 1 k_SORT)))(uHOST:PySem.W.nsIn K mainGlobals "HOST"=some (some (.int 2 k_HOST)))(uSHUTS:PySem.W.nsIn K mainGlobals "SHUTS"=some (some (.int 3 k_SHUTS)))(uBARS:PySem.W.nsIn K mainGlobals "BARS"=some (some (.int 4 k_BARS)))(uROOT_NAME:PySem.W.nsIn K mainGlobals "ROOT_NAME"=some (some (.str "" k_ROOT_NAME)))(uMOST_OPEN:PySem.W.nsIn K mainGlobals "MOST_OPEN"=some (some (.int 20 k_MOST_OPEN)))(uSTART:PySem.W.nsIn K mainGlobals "START"=some (some (.int 1 k_START)))(uSTOP:PySem.W.nsIn K mainGlobals "STOP"=some (some (.int 2 k_STOP)))(uBLANKS:PySem.W.nsIn K mainGlobals "BLANKS"=some (some (.str " \n" k_BLANKS)))(uWALL_SORTS:PySem.W.nsIn K mainGlobals "WALL_SORTS"=some #[5,c_WALL_SORTS])(wWALL_SORTS:K.lookup c_WALL_SORTS=some ⟨.type "tuple",d_WALL_SORTS,.seq #[.str "room" k_WALL_SORTS_0,.str "frame" k_WALL_SORTS_1] n_WALL_SORTS,sl_WALL_SORTS⟩)(uTOLD_FOR:PySem.W.nsIn K mainGlobals "TOLD_FOR"=some #[5,c_TOLD_FOR])(wTOLD_FOR:K.lookup c_TOLD_FOR=some ⟨.type "tuple",d_TOLD_FOR,.seq #[.str "&l;" k_TOLD_FOR_0,.str "&a;" k_TOLD_FOR_1] n_TOLD_FOR,sl_TOLD_FOR⟩)(uESCAPED:PySem.W.nsIn K mainGlobals "ESCAPED"=some #[5,c_ESCAPED])(wESCAPED:K.lookup c_ESCAPED=some ⟨.type "tuple",d_ESCAPED,.seq #[.str "<" k_ESCAPED_0,.str "&" k_ESCAPED_1] n_ESCAPED,sl_ESCAPED⟩)(pg0Branch:PySem.W.plainGet K qA Str.empty=true)(hd0Branch:PySem.W.hasDictIn K qA=true)(po0Branch:PySem.W.plainOver K qA=true)(sa0Branch:PySem.W.findIn K (.ref qA) "__setattr__"=some (some (.builtin "object.__setattr__")))(ns0Branch:PySem.W.nsIn K mainGlobals "Branch"=some #[5,qA])(na0Branch0name:PySem.W.findIn K (.ref qA) "name"=some none)(na0Branch0place:PySem.W.findIn K (.ref qA) "place"=some none)(na0Branch0parts:PySem.W.findIn K (.ref qA) "parts"=some none)(na0Branch0waiting:PySem.W.findIn K (.ref qA) "waiting"=some none)(pg0Reader:PySem.W.plainGet K qB Str.empty=true)(hd0Reader:PySem.W.hasDictIn K qB=true)(po0Reader:PySem.W.plainOver K qB=true)(sa0Reader:PySem.W.findIn K (.ref qB) "__setattr__"=some (some (.builtin "object.__setattr__")))(ns0Reader:PySem.W.nsIn K mainGlobals "Reader"=some #[5,qB])(na0Reader0book:PySem.W.findIn K (.ref qB) "book"=some none)(na0Reader0branches:PySem.W.findIn K (.ref qB) "branches"=some none)(na0Reader0mends:PySem.W.findIn K (.ref qB) "mends"=some none)(na0Reader0laid:PySem.W.findIn K (.ref qB) "laid"=some none)(mk0Branch:PySem.W.makesIn K qA=true)(kp0Branch:PySem.W.keepIn K (.ref qA)=true)(mk0Reader:PySem.W.makesIn K qB=true)(kp0Reader:PySem.W.keepIn K (.ref qB)=true)(zall:PySem.W.nsIn K mainGlobals "all"=some none)(zany:PySem.W.nsIn K mainGlobals "any"=some none)(zenumerate:PySem.W.nsIn K mainGlobals "enumerate"=some none)(zint:PySem.W.nsIn K mainGlobals "int"=some none)(zisinstance:PySem.W.nsIn K mainGlobals "isinstance"=some none)(zlen:PySem.W.nsIn K mainGlobals "len"=some none)(zlist:PySem.W.nsIn K mainGlobals "list"=some none)(zrange:PySem.W.nsIn K mainGlobals "range"=some none)(zreversed:PySem.W.nsIn K mainGlobals "reversed"=some none)(zsorted:PySem.W.nsIn K mainGlobals "sorted"=some none)(zstr:PySem.W.nsIn K mainGlobals "str"=some none)(ztuple:PySem.W.nsIn K mainGlobals "tuple"=some none) :
 ∃ fd:FuncData,(∀ (s:Shared) (v:Value),BindsTo s fd ⟨[v],[]⟩ [("_law_script",v)])/\∀ base:Heap,K.In base->base.Ns mainGlobals mg->E1 l.prog w K mg base CX0 88 fa fd ["_law_script"] (xh1 K):=by
 have e:=hfa.symm.trans (PySem.W.mg_of X G a53)
 have e:f53=fa:=by cases e;rfl
 subst e
 obtain⟨_,_,kV,dc,pm,an,cd,ct,_,rfl,_,_⟩:=id F53.ex
 have b0:=F0.binds (ps:=["word"]) #[7]
 have b1:=F1.binds (ps:=["rows","name"]) #[7]
 have b2:=F2.binds (ps:=["book","name"]) #[7]
 have b3:=F3.binds (ps:=["book","name"]) #[7]
 have b4:=F4.binds (ps:=["book","name"]) #[7]
 have b5:=F5.binds (ps:=["book","name"]) #[7]
 have b6:=F6.binds (ps:=["book","name","frame"]) #[7]
 have b7:=F7.binds (ps:=["part"]) #[7]
 have b8:=F8.binds (ps:=["names"]) #[7]
 have b9:=F9.binds (ps:=["book","names"]) #[7]
 have b10:=F10.binds (ps:=["names","others"]) #[7]
 have b11:=F11.binds (ps:=["book","names","name"]) #[7]
 have b12:=F12.binds (ps:=["book","names","name"]) #[7]
 have b13:=F13.binds (ps:=["book","names"]) #[7]
 have b14:=F14.binds (ps:=["book","names","name"]) #[7]
 have b15:=F15.binds (ps:=["book","names","name"]) #[7]
 have b16:=F16.binds (ps:=["book","names","name"]) #[7]
 have b17:=F17.binds (ps:=["book","name"]) #[7]
 have b18:=F18.binds (ps:=["book","kept","put"]) #[7]
 have b19:=F19.binds (ps:=["text"]) #[7]
 have b20:=F20.binds (ps:=["run"]) #[7]
 have b21:=F21.binds (ps:=["run"]) #[7]
 have b22:=F22.binds (ps:=["text"]) #[7]
 have b23:=F23.binds (ps:=["text","settled","searched"]) #[7]
 have b24:=F24.binds (ps:=["text","searched"]) #[7]
 have b25:=F25.binds (ps:=["text","start"]) #[7]
 have b26:=F26.binds (ps:=["text","start"]) #[7]
 have b27:=F27.binds (ps:=["text","start","stop"]) #[7]
 have b28:=F28.binds (ps:=["text","start","stop"]) #[7]
 have b29:=F29.binds (ps:=["name"]) #[7]
 have b30:=F30.binds (ps:=["name"]) #[7]
 have b31:=F31.binds (ps:=["book","text"]) #[7]
 have b32:=F32.binds (ps:=["book","text"]) #[7]
 have b33:=F33.binds (ps:=["book","closed"]) #[7]
 have b34:=F34.binds (ps:=["names","name"]) #[7]
 have b35:=F35.binds (ps:=["book","names","name"]) #[7]
 have b36:=F36.binds (ps:=["_law_script","_law_k"]) #[7]
 have b37:=F37.binds (ps:=["_law_cell","_law_k"]) #[7]
 have b38:=F38.binds (ps:=["_law_number"]) #[7]
 have b39:=F39.binds (ps:=["_law_cell"]) #[7]
 have b40:=F40.binds (ps:=["_law_script","_law_names_here","_law_count"]) #[7]
 have b41:=F41.binds (ps:=["_law_script"]) #[7]
 have b42:=F42.binds (ps:=["_law_book_here","_law_name"]) #[7]
 have b43:=F43.binds (ps:=["_law_book_here","_law_name"]) #[7]
 have b44:=F44.binds (ps:=["_law_book_here","_law_name"]) #[7]
 have b45:=F45.binds (ps:=["_law_book_here","_law_names_here"]) #[7]
 have b46:=F46.binds (ps:=["_law_book_here","_law_names_here","_law_name"]) #[7]
 have b47:=F47.binds (ps:=["_law_number"]) #[7]
 have b48:=F48.binds (ps:=["_law_cell","_law_number"]) #[7]
 have b49:=F49.binds (ps:=["_law_script","_law_start","_law_book_here"]) #[7]
 have b50:=F50.binds (ps:=["_law_text"]) #[7]
 have b51:=F51.binds (ps:=["_law_book_here","_law_tree"]) #[7]
 have b52:=F52.binds (ps:=["_law_found"]) #[7]
 have b53:=F53.binds (ps:=["_law_script"]) #[7]
 have b54:=F54.binds (ps:=["self","name","place"]) #[7]
 have b55:=F55.binds (ps:=["self","book"]) #[7]
 have b56:=F56.binds (ps:=["self"]) #[7]
 have b57:=F57.binds (ps:=["self","kind","start","signs","told"]) #[7]
 have b58:=F58.binds (ps:=["self","size"]) #[7]
 have b59:=F59.binds (ps:=["self","start","signs","name"]) #[7]
 have b60:=F60.binds (ps:=["self","start","signs","name"]) #[7]
 have b61:=F61.binds (ps:=["self","start","signs","told"]) #[7]
 have b62:=F62.binds (ps:=["self"]) #[7]
 have b63:=F63.binds (ps:=["self"]) #[7]
 have b64:=F64.binds (ps:=["self"]) #[7]
 have b65:=F65.binds (ps:=["self","name"]) #[7]
 have b66:=F66.binds (ps:=["self"]) #[7]
 have b67:=F67.binds (ps:=["self","start","signs","rule"]) #[7]
 have b68:=F68.binds (ps:=["self","name","start","rule"]) #[7]
 have b69:=F69.binds (ps:=["self","kept","start","rule"]) #[7]
 have b70:=F70.binds (ps:=["self","start"]) #[7]
 have b71:=F71.binds (ps:=["self","start","signs","told"]) #[7]
 let t:Adr:={za:=⟨f0,d0⟩,zb:=⟨f1,d1⟩,zc:=⟨f2,d2⟩,zd:=⟨f3,d3⟩,ze:=⟨f4,d4⟩,zf:=⟨f5,d5⟩,zh:=⟨f6,d6⟩,zi:=⟨f7,d7⟩,zj:=⟨f8,d8⟩,zk:=⟨f9,d9⟩,zm:=⟨f10,d10⟩,zn:=⟨f11,d11⟩,zo:=⟨f12,d12⟩,zp:=⟨f13,d13⟩,zr:=⟨f14,d14⟩,zt:=⟨f15,d15⟩,zu:=⟨f16,d16⟩,zw:=⟨f17,d17⟩,zx:=⟨f18,d18⟩,zy:=⟨f19,d19⟩,zz:=⟨f20,d20⟩,ya:=⟨f21,d21⟩,yb:=⟨f22,d22⟩,yc:=⟨f23,d23⟩,yd:=⟨f24,d24⟩,ye:=⟨f25,d25⟩,yf:=⟨f26,d26⟩,yg:=⟨f27,d27⟩,yh:=⟨f28,d28⟩,yi:=⟨f29,d29⟩,yj:=⟨f30,d30⟩,yk:=⟨f31,d31⟩,yl:=⟨f32,d32⟩,ym:=⟨f33,d33⟩,yo:=⟨f34,d34⟩,yp:=⟨f35,d35⟩,yq:=⟨f36,d36⟩,yr:=⟨f37,d37⟩,yt:=⟨f38,d38⟩,yu:=⟨f39,d39⟩,yw:=⟨f40,d40⟩,yx:=⟨f41,d41⟩,yy:=⟨f42,d42⟩,yz:=⟨f43,d43⟩,xa:=⟨f44,d44⟩,xb:=⟨f45,d45⟩,xc:=⟨f46,d46⟩,xf:=⟨f47,d47⟩,xg:=⟨f48,d48⟩,xh:=⟨f49,d49⟩,xi:=⟨f50,d50⟩,xj:=⟨f51,d51⟩,xk:=⟨f52,d52⟩,xl:=⟨f53,PySem.W.fnOf "law" "law" (wx7 yb8) (wo7 yb8) (B2 yb8) .none kV dc pm an cd ct⟩,a_c19:=f54,d_c19:=d54,a_c18:=f55,d_c18:=d55,a_c22:=f56,d_c22:=d56,a_c21:=f57,d_c21:=d57,a_c15:=f58,d_c15:=d58,a_c6:=f59,d_c6:=d59,a_c7:=f60,d_c7:=d60,a_c13:=f61,d_c13:=d61,a_c10:=f62,d_c10:=d62,a_c9:=f63,d_c9:=d63,a_c11:=f64,d_c11:=d64,a_c17:=f65,d_c17:=d65,a_c16:=f66,d_c16:=d66,a_c20:=f67,d_c20:=d67,a_c14:=f68,d_c14:=d68,a_c8:=f69,d_c8:=d69,a_c5:=f70,d_c5:=d70,a_c12:=f71,d_c12:=d71,v_LONGEST_NAME:=.int 8 k_LONGEST_NAME,v_NAME:=.int 0 k_NAME,v_SORT:=.int 1 k_SORT,v_HOST:=.int 2 k_HOST,v_SHUTS:=.int 3 k_SHUTS,v_BARS:=.int 4 k_BARS,v_ROOT_NAME:=.str "" k_ROOT_NAME,v_MOST_OPEN:=.int 20 k_MOST_OPEN,v_START:=.int 1 k_START,v_STOP:=.int 2 k_STOP,v_BLANKS:=.str " \n" k_BLANKS,c_WALL_SORTS:=c_WALL_SORTS,c_TOLD_FOR:=c_TOLD_FOR,c_ESCAPED:=c_ESCAPED,qA:=qA,qB:=qB}
 have T:Txt K mg t:=⟨⟨F0,b0,PySem.W.mg_of X G a0⟩,⟨F1,b1,PySem.W.mg_of X G a1⟩,⟨F2,b2,PySem.W.mg_of X G a2⟩,⟨F3,b3,PySem.W.mg_of X G a3⟩,⟨F4,b4,PySem.W.mg_of X G a4⟩,⟨F5,b5,PySem.W.mg_of X G a5⟩,⟨F6,b6,PySem.W.mg_of X G a6⟩,⟨F7,b7,PySem.W.mg_of X G a7⟩,⟨F8,b8,PySem.W.mg_of X G a8⟩,⟨F9,b9,PySem.W.mg_of X G a9⟩,⟨F10,b10,PySem.W.mg_of X G a10⟩,⟨F11,b11,PySem.W.mg_of X G a11⟩,⟨F12,b12,PySem.W.mg_of X G a12⟩,⟨F13,b13,PySem.W.mg_of X G a13⟩,⟨F14,b14,PySem.W.mg_of X G a14⟩,⟨F15,b15,PySem.W.mg_of X G a15⟩,⟨F16,b16,PySem.W.mg_of X G a16⟩,⟨F17,b17,PySem.W.mg_of X G a17⟩,⟨F18,b18,PySem.W.mg_of X G a18⟩,⟨F19,b19,PySem.W.mg_of X G a19⟩,⟨F20,b20,PySem.W.mg_of X G a20⟩,⟨F21,b21,PySem.W.mg_of X G a21⟩,⟨F22,b22,PySem.W.mg_of X G a22⟩,⟨F23,b23,PySem.W.mg_of X G a23⟩,⟨F24,b24,PySem.W.mg_of X G a24⟩,⟨F25,b25,PySem.W.mg_of X G a25⟩,⟨F26,b26,PySem.W.mg_of X G a26⟩,⟨F27,b27,PySem.W.mg_of X G a27⟩,⟨F28,b28,PySem.W.mg_of X G a28⟩,⟨F29,b29,PySem.W.mg_of X G a29⟩,⟨F30,b30,PySem.W.mg_of X G a30⟩,⟨F31,b31,PySem.W.mg_of X G a31⟩,⟨F32,b32,PySem.W.mg_of X G a32⟩,⟨F33,b33,PySem.W.mg_of X G a33⟩,⟨F34,b34,PySem.W.mg_of X G a34⟩,⟨F35,b35,PySem.W.mg_of X G a35⟩,⟨F36,b36,PySem.W.mg_of X G a36⟩,⟨F37,b37,PySem.W.mg_of X G a37⟩,⟨F38,b38,PySem.W.mg_of X G a38⟩,⟨F39,b39,PySem.W.mg_of X G a39⟩,⟨F40,b40,PySem.W.mg_of X G a40⟩,⟨F41,b41,PySem.W.mg_of X G a41⟩,⟨F42,b42,PySem.W.mg_of X G a42⟩,⟨F43,b43,PySem.W.mg_of X G a43⟩,⟨F44,b44,PySem.W.mg_of X G a44⟩,⟨F45,b45,PySem.W.mg_of X G a45⟩,⟨F46,b46,PySem.W.mg_of X G a46⟩,⟨F47,b47,PySem.W.mg_of X G a47⟩,⟨F48,b48,PySem.W.mg_of X G a48⟩,⟨F49,b49,PySem.W.mg_of X G a49⟩,⟨F50,b50,PySem.W.mg_of X G a50⟩,⟨F51,b51,PySem.W.mg_of X G a51⟩,⟨F52,b52,PySem.W.mg_of X G a52⟩,⟨F53,b53,PySem.W.mg_of X G a53⟩,F54,b54,⟨mk0Branch,a54,fn54,kp0Branch⟩,F55,b55,⟨mk0Reader,a55,fn55,kp0Reader⟩,F56,b56,⟨a56,fn56,F56.kp⟩,F57,b57,⟨a57,fn57,F57.kp⟩,F58,b58,⟨a58,fn58,F58.kp⟩,F59,b59,⟨a59,fn59,F59.kp⟩,F60,b60,⟨a60,fn60,F60.kp⟩,F61,b61,⟨a61,fn61,F61.kp⟩,F62,b62,⟨a62,fn62,F62.kp⟩,F63,b63,⟨a63,fn63,F63.kp⟩,F64,b64,⟨a64,fn64,F64.kp⟩,F65,b65,⟨a65,fn65,F65.kp⟩,F66,b66,⟨a66,fn66,F66.kp⟩,F67,b67,⟨a67,fn67,F67.kp⟩,F68,b68,⟨a68,fn68,F68.kp⟩,F69,b69,⟨a69,fn69,F69.kp⟩,F70,b70,⟨a70,fn70,F70.kp⟩,F71,b71,⟨a71,fn71,F71.kp⟩,PySem.W.mg_of X G uWALL_SORTS,fun _=>.inr ⟨_,_,_,wWALL_SORTS,rfl,rfl,by rw[sizeLine_eq];show 2<=_;decide,(.cons ⟨_,rfl⟩ (.cons ⟨_,rfl⟩ .nil))⟩,⟨PySem.W.mg_of X G uLONGEST_NAME,⟨_,rfl⟩⟩,⟨PySem.W.mg_of X G uNAME,⟨_,rfl⟩⟩,⟨PySem.W.mg_of X G uSORT,⟨_,rfl⟩⟩,⟨PySem.W.mg_of X G uHOST,⟨_,rfl⟩⟩,⟨PySem.W.mg_of X G uSHUTS,⟨_,rfl⟩⟩,⟨PySem.W.mg_of X G uBARS,⟨_,rfl⟩⟩,⟨PySem.W.mg_of X G uROOT_NAME,⟨_,rfl⟩⟩,⟨PySem.W.mg_of X G uMOST_OPEN,⟨_,rfl⟩⟩,PySem.W.mg_of X G uTOLD_FOR,fun _=>.inr ⟨_,_,_,wTOLD_FOR,rfl,rfl,by rw[sizeLine_eq];show 2<=_;decide,(.cons ⟨_,rfl⟩ (.cons ⟨_,rfl⟩ .nil))⟩,PySem.W.mg_of X G uESCAPED,fun _=>.inr ⟨_,_,_,wESCAPED,rfl,rfl,by rw[sizeLine_eq];show 2<=_;decide,(.cons ⟨_,rfl⟩ (.cons ⟨_,rfl⟩ .nil))⟩,⟨PySem.W.mg_of X G uSTART,⟨_,rfl⟩⟩,⟨PySem.W.mg_of X G uSTOP,⟨_,rfl⟩⟩,⟨PySem.W.mg_of X G uBLANKS,⟨_,rfl⟩⟩,PySem.W.mg_none_of X G zall,PySem.W.mg_none_of X G zany,PySem.W.mg_none_of X G zenumerate,PySem.W.mg_none_of X G zint,PySem.W.mg_none_of X G zisinstance,PySem.W.mg_none_of X G zlen,PySem.W.mg_none_of X G zlist,PySem.W.mg_none_of X G zrange,PySem.W.mg_none_of X G zreversed,PySem.W.mg_none_of X G zsorted,PySem.W.mg_none_of X G zstr,PySem.W.mg_none_of X G ztuple,PySem.W.mg_of X G eBranch,PySem.W.mg_of X G eReader,⟨pg0Branch,hd0Branch,po0Branch,sa0Branch,ns0Branch,na0Branch0name,na0Branch0place,na0Branch0parts,na0Branch0waiting,pg0Reader,hd0Reader,po0Reader,sa0Reader,ns0Reader,na0Reader0book,na0Reader0branches,na0Reader0mends,na0Reader0laid⟩⟩
 exact⟨_,fun s v=>.of_eq rfl,fun base _ _=>Aj0 T⟩
theorem walk{l:PySem.W.OpenLaw}{q:Program}{loose:List Str}{XP:(Str->Option Value)->Heap->Prop}{z t:Nat}{d:DefRec}{K:Params->Fg}(hn:l.most=some 63)(hdf:d.params.defaults=[])(hk:∀ P,as=(K P).map (·.1))(h0:0<t) (F:∀ (w:World) (mg:Str->Option Value) (fa:Addr) (h:Heap),(K w.params).In h->h.Ns mainGlobals mg->mg d.name=some (.ref fa) ->
  ∃ fd:FuncData,(∀ (s:Shared) (u:Value),BindsTo s fd ⟨[u],[]⟩ [("_law_script",u)])/\∀ base:Heap,(K w.params).In base->base.Ns mainGlobals mg->E1 l.prog w (K w.params) mg base CX0 88 fa fd ["_law_script"] (xh1 (K w.params))) :
 PySem.W.WalkX q loose XP (PySem.W.X.obsZ as) (PySem.W.X.valZ K z t) l.row.toRowW d [] (fun f vs=>PySem.call f vs) :=
 L2.zt6 (n:=63) (k:=88) (x := "_law_script") (CX:=fun _=>CX0) (sp:=fun w=>xh1 (K w.params)) hn #[10] hdf ⟨rfl,by decide,by decide,rfl⟩ hk h0 F (fun _ _ a ns hl _ hS=>⟨a,ns,rfl,hS,hl,fun _=>rfl⟩) fun _ _ _ _ _ z=>z
end
end My
open PySem PySem.W PyProof.Rows
local macro_rules | `(tactic| x_go) => `(tactic| (refine' L2.Ae3 ?l ?c ?k; (case l => k_is); (case c => k_is); (case k => k_is)))
set_option maxRecDepth 100000 in
set_option maxHeartbeats 0 in
theorem PySem.Challenge.cw_tagmend_k40_texts_without_mends_holds : PySem.Challenge.rw_tagmend_k40_texts_without_mends.Holds := by
 w_on;o_law;z_head;(case hw=>w_witness2)
 k_fill
 refine My.walk (l:=PySem.Challenge.rw_tagmend_k40_texts_without_mends) rfl rfl (fun _=>rfl) #[10] ?F
 case F =>
  intro w mg fa h KX G hmg
  refine' My.all_mk KX G hmg ?eBranch ?eReader ?a0 ?F0 ?a1 ?F1 ?a2 ?F2 ?a3 ?F3 ?a4 ?F4 ?a5 ?F5 ?a6 ?F6 ?a7 ?F7 ?a8 ?F8 ?a9 ?F9 ?a10 ?F10 ?a11 ?F11 ?a12 ?F12 ?a13 ?F13 ?a14 ?F14 ?a15 ?F15 ?a16 ?F16 ?a17 ?F17 ?a18 ?F18 ?a19 ?F19 ?a20 ?F20 ?a21 ?F21 ?a22 ?F22 ?a23 ?F23 ?a24 ?F24 ?a25 ?F25 ?a26 ?F26 ?a27 ?F27 ?a28 ?F28 ?a29 ?F29 ?a30 ?F30 ?a31 ?F31 ?a32 ?F32 ?a33 ?F33 ?a34 ?F34 ?a35 ?F35 ?a36 ?F36 ?a37 ?F37 ?a38 ?F38 ?a39 ?F39 ?a40 ?F40 ?a41 ?F41 ?a42 ?F42 ?a43 ?F43 ?a44 ?F44 ?a45 ?F45 ?a46 ?F46 ?a47 ?F47 ?a48 ?F48 ?a49 ?F49 ?a50 ?F50 ?a51 ?F51 ?a52 ?F52 ?a53 ?F53 ?a54 ?F54 ?fn54 ?a55 ?F55 ?fn55 ?a56 ?F56 ?fn56 ?a57 ?F57 ?fn57 ?a58 ?F58 ?fn58 ?a59 ?F59 ?fn59 ?a60 ?F60 ?fn60 ?a61 ?F61 ?fn61 ?a62 ?F62 ?fn62 ?a63 ?F63 ?fn63 ?a64 ?F64 ?fn64 ?a65 ?F65 ?fn65 ?a66 ?F66 ?fn66 ?a67 ?F67 ?fn67 ?a68 ?F68 ?fn68 ?a69 ?F69 ?fn69 ?a70 ?F70 ?fn70 ?a71 ?F71 ?fn71 ?uWALL_SORTS ?wWALL_SORTS ?uLONGEST_NAME ?uNAME ?uSORT ?uHOST ?uSHUTS ?uBARS ?uROOT_NAME ?uMOST_OPEN ?uTOLD_FOR ?wTOLD_FOR ?uESCAPED ?wESCAPED ?uSTART ?uSTOP ?uBLANKS ?pg0Branch ?hd0Branch ?po0Branch ?sa0Branch ?ns0Branch ?na0Branch0name ?na0Branch0place ?na0Branch0parts ?na0Branch0waiting ?pg0Reader ?hd0Reader ?po0Reader ?sa0Reader ?ns0Reader ?na0Reader0book ?na0Reader0branches ?na0Reader0mends ?na0Reader0laid ?mk0Branch ?kp0Branch ?mk0Reader ?kp0Reader ?zall ?zany ?zenumerate ?zint ?zisinstance ?zlen ?zlist ?zrange ?zreversed ?zsorted ?zstr ?ztuple
  (case eBranch=>k_is);(case eReader=>k_is);(case a0=>k_is);(case F0=>x_go)
  (case a1=>k_is);(case F1=>x_go);(case a2=>k_is);(case F2=>x_go)
  (case a3=>k_is);(case F3=>x_go);(case a4=>k_is);(case F4=>x_go)
  (case a5=>k_is);(case F5=>x_go);(case a6=>k_is);(case F6=>x_go)
  (case a7=>k_is);(case F7=>x_go);(case a8=>k_is);(case F8=>x_go)
  (case a9=>k_is);(case F9=>x_go);(case a10=>k_is);(case F10=>x_go)
  (case a11=>k_is);(case F11=>x_go);(case a12=>k_is);(case F12=>x_go)
  (case a13=>k_is);(case F13=>x_go);(case a14=>k_is);(case F14=>x_go)
  (case a15=>k_is);(case F15=>x_go);(case a16=>k_is);(case F16=>x_go)
  (case a17=>k_is);(case F17=>x_go);(case a18=>k_is);(case F18=>x_go)
  (case a19=>k_is);(case F19=>x_go);(case a20=>k_is);(case F20=>x_go)
  (case a21=>k_is);(case F21=>x_go);(case a22=>k_is);(case F22=>x_go)
  (case a23=>k_is);(case F23=>x_go);(case a24=>k_is);(case F24=>x_go)
  (case a25=>k_is);(case F25=>x_go);(case a26=>k_is);(case F26=>x_go)
  (case a27=>k_is);(case F27=>x_go);(case a28=>k_is);(case F28=>x_go)
  (case a29=>k_is);(case F29=>x_go);(case a30=>k_is);(case F30=>x_go)
  (case a31=>k_is);(case F31=>x_go);(case a32=>k_is);(case F32=>x_go)
  (case a33=>k_is);(case F33=>x_go);(case a34=>k_is);(case F34=>x_go)
  (case a35=>k_is);(case F35=>x_go);(case a36=>k_is);(case F36=>x_go)
  (case a37=>k_is);(case F37=>x_go);(case a38=>k_is);(case F38=>x_go)
  (case a39=>k_is);(case F39=>x_go);(case a40=>k_is);(case F40=>x_go)
  (case a41=>k_is);(case F41=>x_go);(case a42=>k_is);(case F42=>x_go)
  (case a43=>k_is);(case F43=>x_go);(case a44=>k_is);(case F44=>x_go)
  (case a45=>k_is);(case F45=>x_go);(case a46=>k_is);(case F46=>x_go)
  (case a47=>k_is);(case F47=>x_go);(case a48=>k_is);(case F48=>x_go)
  (case a49=>k_is);(case F49=>x_go);(case a50=>k_is);(case F50=>x_go)
  (case a51=>k_is);(case F51=>x_go);(case a52=>k_is);(case F52=>x_go)
  (case a53=>k_is);(case F53=>x_go);(case a54=>k_is);(case F54=>x_go)
  (case fn54=>k_is);(case a55=>k_is);(case F55=>x_go);(case fn55=>k_is)
  (case a56=>k_is);(case F56=>x_go);(case fn56=>k_is);(case a57=>k_is)
  (case F57=>x_go);(case fn57=>k_is);(case a58=>k_is);(case F58=>x_go)
  (case fn58=>k_is);(case a59=>k_is);(case F59=>x_go);(case fn59=>k_is)
  (case a60=>k_is);(case F60=>x_go);(case fn60=>k_is);(case a61=>k_is)
  (case F61=>x_go);(case fn61=>k_is);(case a62=>k_is);(case F62=>x_go)
  (case fn62=>k_is);(case a63=>k_is);(case F63=>x_go);(case fn63=>k_is)
  (case a64=>k_is);(case F64=>x_go);(case fn64=>k_is);(case a65=>k_is)
  (case F65=>x_go);(case fn65=>k_is);(case a66=>k_is);(case F66=>x_go)
  (case fn66=>k_is);(case a67=>k_is);(case F67=>x_go);(case fn67=>k_is)
  (case a68=>k_is);(case F68=>x_go);(case fn68=>k_is);(case a69=>k_is)
  (case F69=>x_go);(case fn69=>k_is);(case a70=>k_is);(case F70=>x_go)
  (case fn70=>k_is);(case a71=>k_is);(case F71=>x_go);(case fn71=>k_is)
  (case uWALL_SORTS=>k_is);(case wWALL_SORTS=>k_is);(case uLONGEST_NAME=>k_is);(case uNAME=>k_is)
  (case uSORT=>k_is);(case uHOST=>k_is);(case uSHUTS=>k_is);(case uBARS=>k_is)
  (case uROOT_NAME=>k_is);(case uMOST_OPEN=>k_is);(case uTOLD_FOR=>k_is);(case wTOLD_FOR=>k_is)
  (case uESCAPED=>k_is);(case wESCAPED=>k_is);(case uSTART=>k_is);(case uSTOP=>k_is)
  (case uBLANKS=>k_is);(case pg0Branch=>k_is);(case hd0Branch=>k_is);(case po0Branch=>k_is)
  (case sa0Branch=>k_is);(case ns0Branch=>k_is);(case na0Branch0name=>k_is);(case na0Branch0place=>k_is)
  (case na0Branch0parts=>k_is);(case na0Branch0waiting=>k_is);(case pg0Reader=>k_is);(case hd0Reader=>k_is)
  (case po0Reader=>k_is);(case sa0Reader=>k_is);(case ns0Reader=>k_is);(case na0Reader0book=>k_is)
  (case na0Reader0branches=>k_is);(case na0Reader0mends=>k_is);(case na0Reader0laid=>k_is);(case mk0Branch=>k_is)
  (case kp0Branch=>k_is);(case mk0Reader=>k_is);(case kp0Reader=>k_is);(case zall=>k_is)
  (case zany=>k_is);(case zenumerate=>k_is);(case zint=>k_is);(case zisinstance=>k_is)
  (case zlen=>k_is);(case zlist=>k_is);(case zrange=>k_is);(case zreversed=>k_is)
  (case zsorted=>k_is);(case zstr=>k_is);(case ztuple=>k_is)
end
