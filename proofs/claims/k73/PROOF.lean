import PyProof.Rows.All
import Wide.All
import OpenK.AllK
import Wide.FinOn
import Lean
import PyProof.EqAt
import PyProof.EqKinds
import PyProof.TupleCall
import PyProof.NeData
import PyProof.Rows.StrJoin2
import PyProof.Rows.SortStr
import PyProof.Rows.SortWalk
import KE.KRevIter
import PyProof.Rows.RuleN_isinstance
import PyProof.StrReplace2
import PyProof.StrWalks
import PyProof.Draws
import PyProof.EnumMake
import PyProof.Rows.StrNews2
import PyProof.StrLawsTight
import PyProof.StrLawsReplace
import PyProof.ConsumeWalk
import PyProof.StrLawsFrom
import PyProof.DictValues
import PyProof.Rows.SumAny
import PyProof.SeqI3
import PyProof.NoPylong
import PyProof.Rows.FStrParts
import PyProof.ListRange
import PyProof.ListStr
import PyProof.DictWalks
import PyProof.DictItemsLoops
import PyProof.FactsAll.dict_itemiterator_1
import PyProof.Rows.RegStrFacts
import KE.KDictList
import KE.KDictOf
import PyProof.AttrMissSeq
import PyProof.TupleIter
import PyProof.StrLawsFirst
import PyProof.ReprHeadsTuple
import PyProof.ReprLen
import PySem.Challenge.RW_tagmend_k73_there_and_back
set_option Elab.async false
set_option hygiene false
set_option linter.all false
set_option compiler.extract_closed false
set_option genSizeOf false
set_option bootstrap.genMatcherCode false
local macro_rules | `(tactic| omega) => `(tactic| lia)
local macro_rules | `(tactic| walk_at "tk") => `(tactic| first | exact Nat.succ_pos _ | assumption | exact L2.Inv.tk ‹_› | omega)
local macro_rules | `(tactic| z_go) => `(tactic| first | exact Nat.le_of_ble_eq_true rfl | simp)
local macro_rules | `(tactic| walk_at "or") => `(tactic| first | exact .inl rfl | exact .inr rfl)
local macro_rules | `(tactic| walk_at "le") => `(tactic| first | decide | omega)
local macro_rules | `(tactic| walk_at "k") => `(tactic| exact ⟨rfl, rfl, rfl, by decide +kernel, rfl, by decide +kernel, by decide +kernel⟩)
local macro_rules | `(tactic| walk_at "n") => `(tactic| (intro _ _ _ _ zh; repeat (first | (obtain ⟨rfl, _⟩ := zh; rfl) | obtain ⟨_, zh⟩ := zh)))
theorem zAu(a:True:=by rfl)(b:True:=by decide)(c:0<1:=by walk_at "tk")(d:True:=by intro _;rfl)(e:True:=by first|exact .inl rfl|exact .inr rfl|assumption):True:=a
def zAr:Lean.Syntax:=zAu._auto_1
def zAd:Lean.Syntax:=zAu._auto_2
def zAt:Lean.Syntax:=zAu._auto_3
def zAi:Lean.Syntax:=zAu._auto_4
def zAf:Lean.Syntax:=zAu._auto_5
theorem PySem.W.Fast.tw14920568493673157471 : True := ⟨⟩
theorem PySem.W.Fast.tw15625178906778496969 : True := ⟨⟩
theorem PySem.W.Fast.tw16202408188749277948 : True := ⟨⟩
theorem PySem.W.Fast.tw2258113357885988523 : True := ⟨⟩
theorem PySem.W.Fast.tw5624260470156551907 : True := ⟨⟩
theorem PySem.W.Fast.tw13660746146457276339 : True := ⟨⟩
theorem PySem.W.Fast.tw13962066695434644926 : True := ⟨⟩
theorem PySem.W.Fast.tw2332682620805963810 : True := ⟨⟩
theorem PySem.W.Fast.tw7607306726698646272 : True := ⟨⟩
theorem PySem.W.Fast.tw4648427209133306294 : True := ⟨⟩
theorem PySem.W.Fast.tw3234424882265309166 : True := ⟨⟩
theorem PySem.W.Fast.tw7841826870876516931 : True := ⟨⟩
theorem PySem.W.Fast.tw16999311828593550559 : True := ⟨⟩
theorem PySem.W.Fast.tw9662119534527245038 : True := ⟨⟩
theorem PySem.W.Fast.tw13176664666014127046 : True := ⟨⟩
theorem PySem.W.Fast.tw7237416405631498949 : True := ⟨⟩
theorem PySem.W.Fast.tw8707518284517491188 : True := ⟨⟩
theorem PySem.W.Fast.tw15041665251164033042 : True := ⟨⟩
theorem PySem.W.Fast.tw2651515679216527330 : True := ⟨⟩
theorem PySem.W.Fast.tw1405983856214067785 : True := ⟨⟩
noncomputable section
abbrev Fg:=PySem.W.Frag
set_option maxRecDepth 100000
namespace L2
open PySem PySem.Spec PyProof.Rows
abbrev Key:=Sum Int Str
def xi4:Key->Value->Bool
 | .inl k,v=>Value.isInt k v
 | .inr x,v=>Value.isStrOf x v
def Ad4(w:World):Key->Int
 | .inl k=>hashInt k
 | .inr x=>hashStr w x
theorem R5:∀ {k:Key} {v:Value},xi4 k v=true->(∃ i t,k=Sum.inl i/\v=Value.int i t)\/(∃ x t,k=Sum.inr x/\v=Value.str x t)
 | .inl i,v,h=>by
   obtain⟨t,e⟩:=Value.isInt_shape (k:=i) (v:=v) h
   exact .inl ⟨i,t,rfl,e⟩
 | .inr x,v,h=>by
   obtain⟨t,e⟩:=Value.isStrOf_shape (x:=x) (v:=v) h
   exact .inr ⟨x,t,rfl,e⟩
theorem yn2(i:Int)(t:Tok):xi4 (.inl i) (.int i t)=true:=by simp[xi4,Value.isInt]
theorem yn3(x:Str)(t:Tok):xi4 (.inr x) (.str x t)=true:=by simp[xi4,Value.isStrOf]
theorem zo1(a b:Int):decide ((Sum.inl a:Key)=Sum.inl b)=(a == b):=by
 by_cases e:a=b
 ·subst e;simp
 ·have h:¬(Sum.inl a:Key)=Sum.inl b:=fun q=>e (Sum.inl.inj q)
  rw[decide_eq_false h]
  exact(beq_eq_false_iff_ne.mpr e).symm
theorem zo2(a b:Str):decide ((Sum.inr a:Key)=Sum.inr b)=decide (a=b):=by
 by_cases e:a=b
 ·subst e;simp
 ·have h:¬(Sum.inr a:Key)=Sum.inr b:=fun q=>e (Sum.inr.inj q)
  rw[decide_eq_false h,decide_eq_false e]
theorem zo3(a:Int)(b:Str):decide ((Sum.inl a:Key)=Sum.inr b)=false:=decide_eq_false (fun q=>nomatch q)
theorem zo4(a:Str)(b:Int):decide ((Sum.inr a:Key)=Sum.inl b)=false:=decide_eq_false (fun q=>nomatch q)
def Q5(prog:Program)(w:World):PySem.KeyKind prog w Key where
 is:=xi4
 hash:=Ad4 w
 inj:=fun v a b ha hb=>by
  rcases R5 ha with⟨i,t,rfl,rfl⟩|⟨x,t,rfl,rfl⟩
  ·rcases R5 hb with⟨j,u,rfl,e⟩|⟨y,u,rfl,e⟩
   ·injection e with e1 _;rw[e1]
   ·exact nomatch e
  ·rcases R5 hb with⟨j,u,rfl,e⟩|⟨y,u,rfl,e⟩
   ·exact nomatch e
   ·injection e with e1 _;rw[e1]
 byValue:=fun k v h=>by
  rcases R5 h with⟨i,t,rfl,rfl⟩|⟨x,t,rfl,rfl⟩ <;> rfl
 pyHash:=fun hv h=>by
  rcases R5 hv with⟨i,t,rfl,rfl⟩|⟨x,t,rfl,rfl⟩
  ·exact wpAny_pyHash_int h
  ·exact wpAny_pyHash_str h
 eqBool:=fun hu hv h=>by
  rcases R5 hu with⟨i,t,rfl,rfl⟩|⟨x,t,rfl,rfl⟩
  ·rcases R5 hv with⟨j,u,rfl,rfl⟩|⟨y,u,rfl,rfl⟩
   ·rw[zo1] at h;exact wpAny_eqBool_int h
   ·rw[zo3] at h;exact SeqAt.EqAt.int_str i t y u _ _ _ _ h
  ·rcases R5 hv with⟨j,u,rfl,rfl⟩|⟨y,u,rfl,rfl⟩
   ·rw[zo4] at h;exact SeqAt.EqAt.str_int x t j u _ _ _ _ h
   ·rw[zo2] at h;exact wpAny_eqBool_str h
 «strs»:=fun k x t v h=>by
  rcases R5 h with⟨i,u,rfl,e⟩|⟨y,u,rfl,e⟩
  ·exact nomatch e
  ·injection e with e1 _
   subst e1
   cases v <;> rfl
theorem xs6(prog:Program)(w:World)(i:Int)(t:Tok):(Q5 prog w).is (.inl i) (.int i t)=true:=yn2 i t
theorem xs7(prog:Program)(w:World)(x:Str)(t:Tok):(Q5 prog w).is (.inr x) (.str x t)=true:=yn3 x t
inductive V where
 | non|bl (b:Bool)|int (i:Int)|str (x:Str)|byt (b:Array UInt8)|flt (b:UInt64)|ref (a:Addr)|ty (n:String)
 deriving DecidableEq
def L6:V->Value->Prop
 | .non,u=>u=Value.none
 | .bl b,u=>u=Value.bool b
 | .int i,u=>∃ t,u=Value.int i t
 | .str x,u=>∃ t,u=Value.str x t
 | .byt b,u=>∃ t,u=Value.bytes b t
 | .flt b,u=>∃ t,u=Value.float b t
 | .ref a,u=>u=Value.ref a
 | .ty n,u=>u=Value.type n
abbrev G0:List V->List Value->Prop:=Paired L6
variable{us:List Value}{xs:List V}
theorem G0.length(r:G0 xs us):xs.length=us.length:=Paired.length r
theorem G0.get:∀ {xs:List V} {us:List Value} {i:Nat} {x:V},G0 xs us->xs[i]?=some x->∃ u,us[i]?=some u/\L6 x u
 | _,_,_,_,.nil,e=>by simp at e
 | _,_,0,_,.cons r _,e=>by simp at e;subst e;exact⟨_,rfl,r⟩
 | _,_,i+1,x,.cons _ t,e=>by
   obtain⟨u,h1,h2⟩:=G0.get (i:=i) (x:=x) t (by simpa using e)
   exact⟨u,by simpa using h1,h2⟩
theorem G0.set{x:V}{u:Value}(r:L6 x u):∀ {xs:List V} {us:List Value} (i:Nat),G0 xs us->G0 (xs.set i x) (us.set i u)
 | _,_,_,.nil=>.nil
 | _,_,0,.cons _ t=>.cons r t
 | _,_,i+1,.cons q t=>.cons q (G0.set r i t)
theorem G0.append:∀ {xs ys:List V} {us ws:List Value},G0 xs us->G0 ys ws->G0 (xs++ys) (us++ws)
 | _,_,_,_,.nil,s=>s
 | _,_,_,_,.cons r t,s=>.cons r (G0.append t s)
theorem G0.take:∀ {xs:List V} {us:List Value} (n:Nat),G0 xs us->G0 (xs.take n) (us.take n)
 | _,_,0,_=>.nil
 | _,_,_+1,.nil=>.nil
 | _,_,n+1,.cons r t=>.cons r (G0.take n t)
theorem G0.drop:∀ {xs:List V} {us:List Value} (n:Nat),G0 xs us->G0 (xs.drop n) (us.drop n)
 | _,_,0,r=>r
 | _,_,_+1,.nil=>.nil
 | _,_,n+1,.cons _ t=>G0.drop n t
def qx5:Option V->Option Value->Prop
 | some v,some u=>L6 v u
 | none,none=>True
 | _,_=>False
def KV{κ:Type}:List (κ×V)->List (κ×Value)->Prop:=Paired fun(p:κ×V) (q:κ×Value)=>p.1=q.1/\L6 p.2 q.2
def kV:Key->V
 | .inl i=>.int i
 | .inr x=>.str x
set_option genInjectivity false in
inductive HO where
 /-- a list -/
 | lst (xs:List V)
 /-- a tuple (never changes) -/
 | tup (xs:List V)
 /-- a dict whose keys are ints and texts;one whose keys are tuples of ints and texts (the empty one is both) -/
 | dK (kvs:List (Key×V))|dT (kvs:List (List Key×V))
 /-- a set of ints: its members,its size -/
 | set (S:Int->Bool) (n:Nat)
 /-- an instance of the class at C,its dict at dx,its attributes -/
 | ins (C dx:Addr) (fs:List (Str×V))
 /-- the dict of the instance at x -/
 | own (x:Addr)
 /-- the dict of an exception -/
 | xd (fs:List (Str×V))
 /-- a bound method,f of x -/
 | met (f x:Addr)
 /-- a range object lo,lo+1,.. below hi -/
 | rng (lo hi:Int)
 /-- a thing that is known to the object (the script;a dict while a loop walks it): read,never written while it is so -/
 | frz (o:Obj) (u:HO)
 /-- a code object's table -/
 | tbl (ps:Array Value)
 /-- any other thing,by what is true of its one object (a def of one's own: SetO a S n:=HO.ext fun h=>..) -/
 | ext (φ:Heap->Prop)
abbrev Hp:=Addr->Option HO
def upd(H:Hp)(a:Addr)(o:HO):Hp:=fun b=>if b=a then some o else H b
variable{H:Hp}{a:Addr}
theorem A7{o:HO}:upd H a o a=some o:=by unfold upd;rw[if_pos rfl]
variable{b:Addr}
theorem C1{o:HO}(h:b≠a):upd H a o b=H b:=by unfold upd;rw[if_neg h]
theorem zx2{o u:HO}(h:H a=some o)(h':H b=some u)(d:o≠u):a≠b:=by
 intro e;subst e;rw[h] at h';exact d (Option.some.inj h')
theorem T0{o:HO}(h:H a=some o)(h':H b=none):a≠b:=by
 intro e;subst e;rw[h] at h';cases h'
section
variable(P:Program)(w:World)
def O5(H:Hp)(h:Heap)(a:Addr):HO->Prop
 | .lst xs=>xs.length<=sizeLine/\∃ (its:List Value) (n:Nat),G0 xs its/\h.get? a=some {cls:=.type "list",data:=.seq its.toArray n}
 | .tup xs=>xs.length<=sizeLine/\∃ its:List Value,G0 xs its/\IsTup h a its.toArray
 | .dK kvs=>kvs.length<=sizeLine/\(a == sysModules)=false/\∃ vs,KV kvs vs/\h.DictOf (Q5 P w) a vs
 | .dT kvs=>kvs.length<=sizeLine/\(a == sysModules)=false/\∃ xs:List (List Key×Addr×Value),
  Paired (fun(p:List Key×V) (q:List Key×Addr×Value)=>p.1=q.1/\H q.2.1=some (.tup (p.1.map kV))/\L6 p.2 q.2.2) kvs xs /\
  ∃ o es ep,h.get? a=some o/\o.ExactDict/\o.data=.dict es ep/\es.toList=xs.map (entryOfKey (tupleKind (Q5 P w)))/\(xs.map (·.1)).Nodup
 | .set S n=>h.SetOf (intKind P w) a S n
 | .ins C dx fs=>H dx=some (.own a)/\fs.length<=1000/\dx≠a/\h.get? a=some (PySem.W.instObj C dx) /\
  ∃ mA,h.Ns1 dx mA/\(∀ f,qx5 (fs.lookup f) (mA f))/\PySem.Within mA (fs.map (·.1))
 | .own _=>∃ o,h.get? a=some o
 | .xd fs=>∃ mA,h.Ns1 a mA/\∀ f,qx5 (fs.lookup f) (mA f)
 | .rng lo hi=>∃ t u v,h.get? a=some {cls:=.type "range",data:=.fields #[.int lo t,.int hi u,.int 1 v]}
 | .frz o u=>h.get? a=some o/\O5 H h a u
 | .tbl ps=>h.get? a=some {cls:=.none,data:=.fields ps}
 | .met f x=>h.get? a=some (PySem.W.methodObj (.ref f) (.ref x))
 | .ext φ=>φ h/\(∃ o,h.get? a=some o)/\∀ h1 h2:Heap,φ h1->(∀ o,h1.get? a=some o->h2.get? a=some o)->φ h2
def HOk(H:Hp)(h:Heap):Prop:=∀ a o,H a=some o->O5 P w H h a o
end
variable{H':Hp}{P:Program}{h h':Heap}{w:World}
section
variable{o:HO}
theorem O5.lt(x:O5 P w H h a o):a<h.objs.size:=by
 cases o with
 | lst xs=>obtain⟨_,_,_,_,e⟩:=x;exact Heap.lt_size e
 | tup xs=>obtain⟨_,_,_,p⟩:=x;exact p.lt
 | dK kvs=>obtain⟨_,_,_,_,o,_,_,e,_⟩:=x;exact Heap.lt_size e
 | dT kvs=>obtain⟨_,_,_,_,o,_,_,e,_⟩:=x;exact Heap.lt_size e
 | set S n=>obtain⟨o,_,_,_,e,_⟩:=x;exact Heap.lt_size e
 | ins C dx fs=>obtain⟨_,_,_,e,_⟩:=x;exact Heap.lt_size e
 | own y=>obtain⟨_,e⟩:=x;exact Heap.lt_size e
 | xd fs=>obtain⟨_,⟨_,_,_,e,_⟩,_⟩:=x;exact Heap.lt_size e
 | rng lo hi=>obtain⟨_,_,_,e⟩:=x;exact Heap.lt_size e
 | frz ob u=>obtain⟨e,_⟩:=x;exact Heap.lt_size e
 | tbl ps=>exact Heap.lt_size (show h.get? a=some _ from x)
 | met f y=>exact Heap.lt_size (show h.get? a=some _ from x)
 | ext φ=>obtain⟨_,⟨_,e⟩,_⟩:=x;exact Heap.lt_size e
theorem Paired.mapP{α β:Type}{F G:α->β->Prop}:∀ {l₁:List α} {l₂:List β},Paired F l₁ l₂->(∀ a b,F a b->G a b)->Paired G l₁ l₂
 | _,_,.nil,_=>.nil
 | _,_,.cons r t,f=>.cons (f _ _ r) (Paired.mapP t f)
theorem O5.stay(x:O5 P w H h a o)(k:∀ b u,(b=a\/H b=some (.own a))->h.get? b=some u->h'.get? b=some u)(ho:∀ b,H b=some (.own a)->H' b=some (.own a))(ht:∀ b xs,H b=some (.tup xs)->H' b=some (.tup xs)):O5 P w H' h' a o:=by
 induction o with
 | lst xs=>obtain⟨z,its,n,r,e⟩:=x;exact⟨z,its,n,r,k _ _ (.inl rfl) e⟩
 | tup xs=>obtain⟨z,its,r,ob,e,c⟩:=x;exact⟨z,its,r,ob,k _ _ (.inl rfl) e,c⟩
 | dK kvs=>obtain⟨z,y,vs,r,ob,es,ep,e,c⟩:=x;exact⟨z,y,vs,r,ob,es,ep,k _ _ (.inl rfl) e,c⟩
 | dT kvs =>
   obtain⟨z,y,xs,r,ob,es,ep,e,c⟩:=x
   exact⟨z,y,xs,Paired.mapP r fun p q z=>⟨z.1,ht _ _ z.2.1,z.2.2⟩,ob,es,ep,k _ _ (.inl rfl) e,c⟩
 | set S n=>obtain⟨ob,es,ep,t,e,c⟩:=x;exact⟨ob,es,ep,t,k _ _ (.inl rfl) e,c⟩
 | ins C dx fs =>
   obtain⟨d,z,ne,e,mA,⟨od,es,ep,e2,c⟩,r⟩:=x
   exact⟨ho _ d,z,ne,k _ _ (.inl rfl) e,mA,⟨od,es,ep,k _ _ (.inr d) e2,c⟩,r⟩
 | own y=>obtain⟨ob,e⟩:=x;exact⟨ob,k _ _ (.inl rfl) e⟩
 | xd fs=>obtain⟨mA,⟨od,es,ep,e,c⟩,r⟩:=x;exact⟨mA,⟨od,es,ep,k _ _ (.inl rfl) e,c⟩,r⟩
 | rng lo hi=>obtain⟨t,u,v,e⟩:=x;exact⟨t,u,v,k _ _ (.inl rfl) e⟩
 | frz ob u ih=>obtain⟨e,q⟩:=x;exact⟨k _ _ (.inl rfl) e,ih q⟩
 | tbl ps =>
   have e:h.get? a=some {cls:=.none,data:=.fields ps}:=x
   show h'.get? a=some {cls:=.none,data:=.fields ps}
   exact k a _ (.inl rfl) e
 | met f y =>
   have e:h.get? a=some (PySem.W.methodObj (.ref f) (.ref y)):=x
   show h'.get? a=some (PySem.W.methodObj (.ref f) (.ref y))
   exact k a _ (.inl rfl) e
 | ext φ=>obtain⟨p,⟨o,e⟩,st⟩:=x;exact⟨st _ _ p fun o q=>k _ _ (.inl rfl) q,⟨o,k _ _ (.inl rfl) e⟩,st⟩
theorem HOk.lt(x:HOk P w H h)(e:H a=some o):a<h.objs.size:=(x a o e).lt
theorem HOk.fresh(x:HOk P w H h)(e:h.objs.size<=a):H a=none:=by
 cases q:H a with
 | none=>rfl
 | some u=>exact absurd (Nat.lt_of_lt_of_le (x.lt q) e) (Nat.lt_irrefl _)
theorem HOk.kept(x:HOk P w H h)(k:∀ b u,h.get? b=some u->h'.get? b=some u):HOk P w H h':=fun a o e =>
 (x a o e).stay (fun b u _ q=>k b u q) (fun _ q=>q) fun _ _ q=>q
theorem HOk.laid(x:HOk P w H h)(k:∀ b u,h.get? b=some u->h'.get? b=some u)(hp:h.objs.size<=a)(new:O5 P w (upd H a o) h' a o):HOk P w (upd H a o) h':=fun b u e=>by
 have hn:=x.fresh hp
 by_cases hb:b=a
 ·subst hb;rw[A7] at e;cases e;exact new
 ·rw[C1 hb] at e
  exact(x b u e).stay (fun c v _ q=>k c v q) (fun c q=>by rw[C1 (T0 q hn)];exact q) fun c xs q=>by rw[C1 (T0 q hn)];exact q
end
def Rd(H:Hp)(a:Addr)(u:HO):Prop:=H a=some u\/∃ o,H a=some (.frz o u)
theorem Rd.ok{u:HO}(r:Rd H a u)(x:HOk P w H h):O5 P w H h a u:=by
 rcases r with r|⟨o,r⟩
 ·exact x a u r
 ·obtain⟨_,q⟩:=x a _ r
  exact q
def Mut:Option HO->Prop
 | some (.lst _)=>True
 | some (.dK _)=>True
 | some (.dT _)=>True
 | some (.set _ _)=>True
 | some (.ins _ _ _)=>True
 | some (.ext _)=>True
 | some (.xd _)=>True
 | _=>False
section
variable{x e:Addr}{o':HO}
theorem HOk.write(ok:HOk P w H h)(mu:Mut (H x))(he:e=x\/H e=some (.own x))(k:∀ b u,b≠e->h.get? b=some u->h'.get? b=some u)(heo:∃ u,h'.get? e=some u)(new:O5 P w (upd H x o') h' x o'):HOk P w (upd H x o') h':=fun b u q=>by
 have nown:∀ c y,H c=some (.own y)->c≠x:=fun c y r z=>by subst z;rw[r] at mu;exact mu
 have ntup:∀ c xs,H c=some (.tup xs)->c≠x:=fun c xs r z=>by subst z;rw[r] at mu;exact mu
 by_cases hb:b=x
 ·subst hb;rw[A7] at q;cases q;exact new
 ·rw[C1 hb] at q
  by_cases hbe:b=e
  ·have q':H b=some (.own x):=by
    rcases he with z|z
    ·exact absurd (hbe.trans z) hb
    ·rw[hbe];exact z
   rw[q] at q';cases q'
   obtain⟨v,hv⟩:=heo
   exact⟨v,by rw[hbe];exact hv⟩
  ·refine(ok b u q).stay (fun c v hc r=>k c v ?_ r) (fun c r=>by rw[C1 (nown c b r)];exact r) fun c xs r=>by rw[C1 (ntup c xs r)];exact r
   rcases hc with rfl|hc
   ·exact hbe
   ·rintro rfl
    rcases he with z|z
    ·exact nown c b hc z
    ·rw[hc] at z;cases z;exact hb rfl
end
structure Un(fs ex:List Addr)(H H':Hp)(h h':Heap):Prop where
 keep:∀ b o,h.get? b=some o->H b=none->b∉fs->b∉ex->h'.get? b=some o
 slot:∀ b o,h.get? b=some o->H b=none->b∈fs->b∉ex->∃ sl,h'.get? b=some {o with slots:=sl}
 free:∀ b o,h.get? b=some o->H b=none->b∉ex->H' b=none
 there:∀ b o,h.get? b=some o->b∉ex->∃ o',h'.get? b=some o'
 tups:∀ b xs,H b=some (.tup xs)->H' b=some (.tup xs)
 frzs:∀ b o u,H b=some (.frz o u)->H' b=some (.frz o u)
 tbls:∀ b ps,H b=some (.tbl ps)->∃ more,H' b=some (.tbl (ps++more))
variable{H1 H2:Hp}{h1 h2:Heap}
section
variable{fs fs' ex ex':List Addr}{x e:Addr}{o:HO}
theorem Un.any(u:Un fs ex H H1 h h1){ob:Obj}(q:h.get? b=some ob)(n:H b=none)(hx:b∉ex):∃ sl,h1.get? b=some {ob with slots:=sl}:=by
 by_cases hb:b∈fs
 ·exact u.slot b ob q n hb hx
 ·exact⟨ob.slots,u.keep b ob q n hb hx⟩
theorem Un.kept(k:∀ b u,h.get? b=some u->h'.get? b=some u):Un fs ex H H h h' :=
 ⟨fun b ob q _ _ _=>k b ob q,fun b ob q _ _ _=>⟨ob.slots,k b ob q⟩,fun _ _ _ n _=>n,fun b ob q _=>⟨ob,k b ob q⟩,fun _ _ q=>q,fun _ _ _ q=>q,fun _ ps q=>⟨#[],by rw[q];simp⟩⟩
theorem Un.refl:Un fs ex H H h h:=Un.kept fun _ _ q=>q
theorem Un.laid(k:∀ b u,h.get? b=some u->h'.get? b=some u)(hp:h.objs.size<=a)(hn:H a=none):Un fs ex H (upd H a o) h h' where
 keep:=fun b u q _ _ _=>k b u q
 slot:=fun b u q _ _ _=>⟨u.slots,k b u q⟩
 free:=fun b u q n _=>by rw[C1 (Nat.ne_of_lt (Nat.lt_of_lt_of_le (Heap.lt_size q) hp))];exact n
 there:=fun b u q _=>⟨u,k b u q⟩
 tups:=fun b xs q=>by rw[C1 (T0 q hn)];exact q
 frzs:=fun b u xs q=>by rw[C1 (T0 q hn)];exact q
 tbls:=fun b ps q=>⟨#[],by rw[C1 (T0 q hn),q];simp⟩
theorem Un.write(mu:Mut (H x))(he:e=x\/H e=some (.own x))(k:∀ b u,b≠e->h.get? b=some u->h'.get? b=some u)(heo:∃ u,h'.get? e=some u):Un fs ex H (upd H x o) h h':=by
 have hx:∀ b,H b=none->b≠x:=fun b n z=>by subst z;rw[n] at mu;exact mu
 have hb:∀ b,H b=none->b≠e:=fun b n z=>by
  subst z
  rcases he with r|r
  ·exact hx b n r
  ·rw[n] at r;cases r
 have hm:∀ b u,H b=some u->¬Mut (some u)->b≠x:=fun b u q nm z=>by subst z;rw[q] at mu;exact nm mu
 refine⟨fun b u q n _ _=>k b u (hb b n) q,fun b u q n _ _=>⟨u.slots,k b u (hb b n) q⟩,fun b u q n _=>by rw[C1 (hx b n)];exact n,fun b u q _=>?_,
  fun b xs q=>by rw[C1 (hm b _ q fun z=>z)];exact q,fun b u xs q=>by rw[C1 (hm b _ q fun z=>z)];exact q,fun b ps q=>⟨#[],by rw[C1 (hm b _ q fun z=>z),q];simp⟩⟩
 by_cases hbe:b=e
 ·subst hbe;exact heo
 ·exact⟨u,k b u hbe q⟩
end
def trk(h:Heap)(H:Hp):List Addr:=(List.range h.objs.size).filter fun a=>(H a).isSome
def xl8(h:Heap)(H:Hp):Heap:=PySem.W.hideAll h (trk h H)
theorem yn4(h:Heap)(H:Hp):(xl8 h H).objs.size=h.objs.size:=PySem.W.hideAll_size _ _
theorem yt0{o:Obj}(e:h.get? b=some o)(n:H b=none):(xl8 h H).get? b=some o :=
 PySem.W.hideAll_get _ e fun hm=>by
  have q:(H b).isSome=true:=(List.mem_filter.mp hm).2
  rw[n] at q;simp at q
theorem ze4{o:Obj}(e:(xl8 h H).get? b=some o):h.get? b=some o/\H b=none:=by
 have e':h.get? b=some o:=PySem.W.of_hideAll (trk h H) e
 refine⟨e',?_⟩
 cases q:H b with
 | none=>rfl
 | some x =>
   have hm:b∈trk h H:=List.mem_filter.mpr ⟨List.mem_range.mpr (Heap.lt_size e'),by simp[q]⟩
   have z:(xl8 h H).get? b=none:=PySem.W.hideAll_none (trk h H) hm
   rw[z] at e;cases e
structure Mod(K:Fg)(mg:Str->Option Value)(base:Heap):Prop where
 kin:K.In base
 glob:base.Ns mainGlobals mg
 blt:∃ mb,base.Ns builtinsNs mb/\∀ x:Str,x ≠ "__name__"->mb x=bootBuiltins x
 nolimit:base.NoLimit
set_option genInjectivity false in
structure Cx where
 prog:Program
 w:World
 K:Fg
 mg:Str->Option Value
 base:Heap
 A:Around
 N:List Str
 s₀:Shared
 H₀:Hp
 env:Env
 outer:List Env
 stack:List Env
 ex:List Addr
 fn:Str->Bool
 calm:Bool
 pn:List (Addr×Obj)
 xe:Value->Shared->Prop
def frs(l:List Env):List Addr:=l.filterMap (·.frame)
abbrev Cx.fs(X:Cx):List Addr:=frs X.outer
def Vis(sc:Scope)(x:Str):Prop:=sc.names.lookup x=some .local\/sc.names.lookup x=some .cell\/sc.names.lookup x=some .free
def Loc(sc:Scope)(x:Str):Prop:=sc.names.lookup x=some .local\/sc.names.lookup x=some .cell
def Ad5(env:Env)(h:Heap)(m:Str->Option Value)(x:Str)(u:Value):Prop :=
 (env.kindOf x=some .local/\m x=some u)\/((env.kindOf x=some .cell\/env.kindOf x=some .free)/\∃ c,env.cells.lookup x=some c/\h.IsCell c (some u))
structure Cx.Ok(X:Cx):Prop where
 mod:Mod X.K X.mg X.base
 kind:X.env.scope.kind=.function
 glob:X.env.globals=mainGlobals
 blt:X.env.builtins=builtinsNs
 above:X.s₀.heap.objs.size<=X.env.locals
 inj:∀ x y c,X.env.cells.lookup x=some c->X.env.cells.lookup y=some c->x=y
 has:∀ x,(X.env.kindOf x=some .cell\/X.env.kindOf x=some .free)->∃ c,X.env.cells.lookup x=some c
 cab:∀ x c,X.fn x=true->X.env.cells.lookup x=some c->X.s₀.heap.objs.size<=c
 hd:X.calm=true->X.A.handled=none
 frames:X.A.frames=some X.stack
 stk:X.stack=X.outer\/(X.stack=X.env::X.outer/\X.env.frame=some X.env.locals)
 exf:∀ b∈X.ex,b≠X.env.locals/\∀ x c,X.env.cells.lookup x=some c->c≠b
 bs:∀ b o,X.base.get? b=some o->X.s₀.heap.get? b=some o/\X.H₀ b=none
 bsz:X.base.objs.size<=X.s₀.heap.objs.size
 noex:∀ b o,X.base.get? b=some o->b∉X.ex
 exfs:∀ b∈X.ex,b∉X.fs
 funs:X.s₀.heap.FunFrames X.base X.outer
 frf:∀ b∈X.fs,X.H₀ b=none
structure Inv(X:Cx)(pins:List (Addr×Obj))(σ:List (Option V))(H:Hp)(s:Shared):Prop where
 ok:X.Ok
 os:s.os=X.s₀.os
 bare:AllBare s.gens
 base:Un X.fs X.ex X.H₀ H X.s₀.heap s.heap
 loc:∃ m,s.heap.Ns X.env.locals m/\∀ (i:Nat) (x:Str) (v:V),X.N[i]?=some x->σ[i]?=some (some v)->Vis X.env.scope x->∃ u,L6 v u/\Ad5 X.env s.heap m x u
 cell:∀ x c,X.env.cells.lookup x=some c->∃ v,s.heap.IsCell c v
 free:H X.env.locals=none
 freeC:∀ x c,X.env.cells.lookup x=some c->H c=none
 pin:∀ p∈X.pn++pins,s.heap.get? p.1=some p.2/\H p.1=none/\p.1≠X.env.locals/\p.1∉X.fs/\∀ v,p.2.data≠.cell v
 hok:HOk X.prog X.w H s.heap
 len:σ.length=X.N.length
 tk:0<s.toks
variable{X:Cx}{pins:List (Addr×Obj)}{s:Shared}{d':Drawn}{g':Array GenState}{t':Nat}{it:Addr}{N:List Str}{x:Str}{A:Around}{E:Value->Shared->Prop}{M:Model}{u:Value}{v:V}
section
variable{σ:List (Option V)}
theorem Cx.Ok.nofr(ok:X.Ok){o:Obj}(e:X.base.get? b=some o):b∉X.fs:=fun hb=>by
 have:=(ok.funs.mem hb).1
 rw[e] at this;cases this
theorem Inv.bs(I:Inv X pins σ H s):∀ b o,X.base.get? b=some o->s.heap.get? b=some o/\H b=none:=fun b o e =>
 ⟨I.base.keep b o (I.ok.bs b o e).1 (I.ok.bs b o e).2 (I.ok.nofr e) (I.ok.noex b o e),I.base.free b o (I.ok.bs b o e).1 (I.ok.bs b o e).2 (I.ok.noex b o e)⟩
theorem Inv.bk(I:Inv X pins σ H s):∀ b o,X.base.get? b=some o->s.heap.get? b=some o:=fun b o e=>(I.bs b o e).1
theorem Inv.mod(I:Inv X pins σ H s):Mod X.K X.mg X.base:=I.ok.mod
theorem Inv.kIn(I:Inv X pins σ H s):X.K.In s.heap:=I.ok.mod.kin.keeps I.bk
theorem Inv.lt(I:Inv X pins σ H s):X.env.locals<s.heap.objs.size:=let ⟨_,hn,_⟩:=I.loc;hn.lt
theorem Inv.sz(I:Inv X pins σ H s):X.s₀.heap.objs.size<=s.heap.objs.size:=Nat.le_trans I.ok.above (Nat.le_of_lt I.lt)
theorem Inv.nofs(I:Inv X pins σ H s)(h:s.heap.objs.size<=a):a∉X.fs:=fun hb=>by
 obtain⟨_,o,ho,_⟩:=I.ok.funs.mem hb
 exact absurd (Nat.lt_of_lt_of_le (Heap.lt_size ho) (Nat.le_trans I.sz h)) (Nat.lt_irrefl _)
theorem Inv.cne(I:Inv X pins σ H s):∀ x c,X.env.cells.lookup x=some c->c≠X.env.locals:=fun x c e z=>by
 obtain⟨v,o,ho,hd⟩:=I.cell x c e
 obtain⟨m,⟨o',es,ep,ho',hd',_⟩,_⟩:=I.loc
 rw[z,ho'] at ho;cases ho;rw[hd'] at hd;cases hd
theorem Inv.funs(I:Inv X pins σ H s):s.heap.FunFrames X.base X.outer:=by
 have all:∀ (l:List Env),(∀ b∈frs l,b∈X.fs)->X.s₀.heap.FunFrames X.base l->s.heap.FunFrames X.base l:=by
  intro l
  induction l with
  | nil=>intro _ _;trivial
  | cons env r ih =>
    intro hs hl
    obtain⟨hk,⟨L,o,hf,hn,ho,hd⟩,hr⟩:=hl
    have hL:L∈X.fs:=hs L (by unfold frs;rw[List.filterMap_cons,hf];exact List.mem_cons_self)
    obtain⟨sl,e⟩:=I.base.slot L o ho (I.ok.frf L hL) hL fun z=>I.ok.exfs L z hL
    exact⟨hk,⟨L,_,hf,hn,e,hd⟩,ih (fun b hb=>hs b (by unfold frs;rw[List.filterMap_cons,hf];exact List.mem_cons_of_mem _ hb)) hr⟩
 exact all X.outer (fun _ hb=>hb) I.ok.funs
theorem Inv.stack(I:Inv X pins σ H s):s.heap.FunFrames X.base X.stack:=by
 rcases I.ok.stk with e|⟨e,hf⟩
 ·rw[e];exact I.funs
 ·rw[e]
  obtain⟨m,hn,_⟩:=I.loc
  refine .cons (by rw[I.ok.kind];decide) hf hn ?_ I.funs
  exact Heap.get?_none_of_le (Nat.le_trans I.ok.bsz I.ok.above)
theorem Inv.stkSub(I:Inv X pins σ H s):∀ b∈frs X.stack,b∈X.env.locals::X.fs:=fun b hb=>by
 rcases I.ok.stk with e|⟨e,hf⟩
 ·rw[e] at hb;exact List.mem_cons_of_mem _ hb
 ·rw[e] at hb
  unfold frs at hb
  rw[List.filterMap_cons,hf] at hb
  exact hb
theorem Inv.stkFree(I:Inv X pins σ H s):∀ b∈frs X.stack,H b=none:=fun b hb=>by
 rcases List.mem_cons.mp (I.stkSub b hb) with e|hb
 ·rw[e];exact I.free
 ·obtain⟨_,o,ho,_⟩:=I.ok.funs.mem hb
  exact I.base.free b o ho (I.ok.frf b hb) fun z=>I.ok.exfs b z hb
theorem Inv.step{ch:List Addr}(I:Inv X pins σ H s)(hch:∀ b∈ch,(b∈X.ex\/X.s₀.heap.objs.size<=b)/\b≠X.env.locals/\(∀ x c,X.env.cells.lookup x=some c->c≠b)/\∀ p∈X.pn++pins,p.1≠b)(keep:∀ b o,b≠X.env.locals->b∉X.fs->b∉ch->s.heap.get? b=some o->H b=none->h'.get? b=some o)(slot:∀ b o,b≠X.env.locals->b∈X.fs->b∉ch->s.heap.get? b=some o->H b=none->∃ sl,h'.get? b=some {o with slots:=sl})(free:∀ b o,b∉ch->s.heap.get? b=some o->H b=none->H' b=none)(there:∀ b o,b∉ch->s.heap.get? b=some o->∃ o',h'.get? b=some o')(tups:∀ b xs,H b=some (.tup xs)->H' b=some (.tup xs))(frzs:∀ b o u,H b=some (.frz o u)->H' b=some (.frz o u))(tbls:∀ b ps,H b=some (.tbl ps)->∃ more,H' b=some (.tbl (ps++more)))(ns:∀ m,s.heap.Ns X.env.locals m->h'.Ns X.env.locals m)(hok:HOk X.prog X.w H' h')(hg:AllBare g')(ht:autoParam (0<t') zAt) :
 Inv X pins σ H' {s with heap:=h',gens:=g',drawn:=d',toks:=t'}:=by
 have neL:∀ b o,X.s₀.heap.get? b=some o->b≠X.env.locals:=fun b o e=>Nat.ne_of_lt (Nat.lt_of_lt_of_le (Heap.lt_size e) I.ok.above)
 have neC:∀ b o,X.s₀.heap.get? b=some o->b∉X.ex->b∉ch:=fun b o e hx hb=>by
  rcases(hch b hb).1 with z|z
  ·exact hx z
  ·exact absurd (Nat.lt_of_lt_of_le (Heap.lt_size e) z) (Nat.lt_irrefl _)
 have cellK:∀ x c,X.env.cells.lookup x=some c->∀ v,s.heap.IsCell c v->h'.IsCell c v:=fun x c e v ⟨o,ho,hd⟩=>by
  have nch:c∉ch:=fun z=>(hch c z).2.2.1 x c e rfl
  by_cases hc:c∈X.fs
  ·obtain⟨sl,q⟩:=slot c o (I.cne x c e) hc nch ho (I.freeC x c e)
   exact⟨_,q,hd⟩
  ·exact⟨o,keep c o (I.cne x c e) hc nch ho (I.freeC x c e),hd⟩
 refine⟨I.ok,I.os,hg,⟨fun b o e n hb hx=>?_,fun b o e n hb hx=>?_,fun b o e n hx=>?_,fun b o e hx=>?_,fun b xs e=>tups b xs (I.base.tups b xs e),fun b o xs e=>frzs b o xs (I.base.frzs b o xs e),fun b ps e=>?_⟩,?_,fun x c e=>?_,?_,fun x c e=>?_,fun p hp=>?_,hok,I.len,ht⟩
 ·exact keep b o (neL b o e) hb (neC b o e hx) (I.base.keep b o e n hb hx) (I.base.free b o e n hx)
 ·obtain⟨sl,e1⟩:=I.base.slot b o e n hb hx
  obtain⟨sl',e2⟩:=slot b _ (neL b o e) hb (neC b o e hx) e1 (I.base.free b o e n hx)
  exact⟨sl',e2⟩
 ·obtain⟨o',e1⟩:=I.base.there b o e hx
  exact free b o' (neC b o e hx) e1 (I.base.free b o e n hx)
 ·obtain⟨o',e1⟩:=I.base.there b o e hx
  exact there b o' (neC b o e hx) e1
 ·obtain⟨m1,e1⟩:=I.base.tbls b ps e
  obtain⟨m2,e2⟩:=tbls b _ e1
  exact⟨m1++m2,by rw[e2,Array.append_assoc]⟩
 ·obtain⟨m,hn,hl⟩:=I.loc
  refine⟨m,ns m hn,fun i x v e1 e2 e3=>?_⟩
  obtain⟨u,r,l⟩:=hl i x v e1 e2 e3
  refine⟨u,r,?_⟩
  rcases l with l|⟨k,c,e,z⟩
  ·exact .inl l
  ·exact .inr ⟨k,c,e,cellK x c e _ z⟩
 ·obtain⟨v,z⟩:=I.cell x c e
  exact⟨v,cellK x c e v z⟩
 ·obtain⟨m,⟨o,_,_,ho,_⟩,_⟩:=I.loc
  exact free _ o (fun z=>(hch _ z).2.1 rfl) ho I.free
 ·obtain⟨v,o,ho,hd⟩:=I.cell x c e
  exact free c o (fun z=>(hch c z).2.2.1 x c e rfl) ho (I.freeC x c e)
 ·obtain⟨e,n,ne,nf,d⟩:=I.pin p hp
  have nch:p.1∉ch:=fun z=>(hch p.1 z).2.2.2 p hp rfl
  exact⟨keep p.1 p.2 ne nf nch e n,free p.1 p.2 nch e n,ne,nf,d⟩
theorem Inv.un(I:Inv X pins σ H s)(u:Un X.fs [] H H' s.heap h')(hok:HOk X.prog X.w H' h')(ht:autoParam (0<t') zAt):Inv X pins σ H' {s with heap:=h',toks:=t'}:=by
 obtain⟨m,⟨o,es,ep,ho,r⟩,_⟩:=id I.loc
 obtain⟨sl,hL⟩:=u.any ho I.free (by simp)
 exact I.step (g':=s.gens) (d':=s.drawn) (ch:=[]) (fun _ z=>nomatch z) (fun b o _ hb _ e n=>u.keep b o e n hb (by simp)) (fun b o _ hb _ e n=>u.slot b o e n hb (by simp)) (fun b o _ e n=>u.free b o e n (by simp)) (fun b o _ e=>u.there b o e (by simp)) u.tups u.frzs u.tbls (fun m' hm=>by
  obtain⟨o',es',ep',ho',r'⟩:=hm
  rw[ho] at ho';cases ho'
  exact⟨_,es',ep',hL,r'⟩) hok I.bare
theorem Inv.call{ch:List Addr}(I:Inv X pins σ H s)(u:Un (frs X.stack) ch H H' s.heap h')(hok:HOk X.prog X.w H' h')(hg:AllBare g')(hch:∀ b∈ch,(b∈X.ex\/X.s₀.heap.objs.size<=b)/\b≠X.env.locals/\(∀ x c,X.env.cells.lookup x=some c->c≠b)/\∀ p∈X.pn++pins,p.1≠b)(ht:autoParam (0<t') zAt) :
 Inv X pins σ H' {s with heap:=h',gens:=g',drawn:=d',toks:=t'}:=by
 obtain⟨m,⟨o,es,ep,ho,r⟩,_⟩:=id I.loc
 obtain⟨sl,hL⟩:=u.any ho I.free fun z=>(hch _ z).2.1 rfl
 exact I.step (ch:=ch) hch (fun b o hL hb hc e n=>u.keep b o e n (fun z=>(List.mem_cons.mp (I.stkSub b z)).elim hL hb) hc) (fun b o _ _ hc e n=>u.any e n hc) (fun b o hc e n=>u.free b o e n hc) (fun b o hc e=>u.there b o e hc) u.tups u.frzs u.tbls (fun m' hm=>by
  obtain⟨o',es',ep',ho',r'⟩:=hm
  rw[ho] at ho';cases ho'
  exact⟨_,es',ep',hL,r'⟩) hok hg
theorem Inv.turned(I:Inv X pins σ H s)(k:∀ b o,b≠it->s.heap.get? b=some o->h'.get? b=some o)(hn:H it=none)(hL:it≠X.env.locals)(h1:it∈X.ex\/X.s₀.heap.objs.size<=it)(h2:∀ x c,X.env.cells.lookup x=some c->c≠it)(h3:∀ p∈X.pn++pins,p.1≠it)(ht:autoParam (0<t') zAt):Inv X pins σ H {s with heap:=h',toks:=t'}:=by
 have nit:∀ b u,H b=some u->b≠it:=fun b u e z=>by rw[z,hn] at e;cases e
 refine I.step (g':=s.gens) (d':=s.drawn) (ch:=[it]) (fun b hb=>?_) (fun b o _ _ hc e _=>k b o (fun z=>hc (by simp[z])) e) (fun b o _ _ hc e _=>⟨o.slots,k b o (fun z=>hc (by simp[z])) e⟩) (fun _ _ _ _ n=>n)
  (fun b o hc e=>⟨o,k b o (fun z=>hc (by simp[z])) e⟩) (fun _ _ e=>e) (fun _ _ _ e=>e) (fun b ps e=>⟨#[],by rw[e];simp⟩) (fun m hm=>?_) (fun b u e=>?_) I.bare
 ·have e:b=it:=by simpa using hb
  subst e
  exact⟨h1,hL,h2,h3⟩
 ·obtain⟨o,es,ep,ho,r⟩:=hm
  exact⟨o,es,ep,k _ o (Ne.symm hL) ho,r⟩
 ·refine(I.hok b u e).stay (fun c v hc q=>k c v ?_ q) (fun _ q=>q) fun _ _ q=>q
  rcases hc with z|z
  ·rw[z];exact nit b u e
  ·exact nit c _ z
theorem Inv.tok(I:Inv X pins σ H s)(t':Nat)(ht:autoParam (0<t') zAt):Inv X pins σ H {s with toks:=t'}:=I.un (h':=s.heap) (t':=t') Un.refl I.hok
theorem Inv.kept(I:Inv X pins σ H s)(k:∀ b u,s.heap.get? b=some u->h'.get? b=some u)(ht:autoParam (0<t') zAt):Inv X pins σ H {s with heap:=h',toks:=t'}:=I.un (Un.kept k) (I.hok.kept k)
theorem Inv.laid{o:HO}(I:Inv X pins σ H s)(k:∀ b u,s.heap.get? b=some u->h'.get? b=some u)(hp:s.heap.objs.size<=a)(new:O5 X.prog X.w (upd H a o) h' a o)(ht:autoParam (0<t') zAt) :
 Inv X pins σ (upd H a o) {s with heap:=h',toks:=t'}:=I.un (Un.laid k hp (I.hok.fresh hp)) (I.hok.laid k hp new)
theorem Inv.write{x e:Addr}{o:HO}(I:Inv X pins σ H s)(mu:Mut (H x))(he:e=x\/H e=some (.own x))(k:∀ b u,b≠e->s.heap.get? b=some u->h'.get? b=some u)(heo:∃ u,h'.get? e=some u)(new:O5 X.prog X.w (upd H x o) h' x o)(ht:autoParam (0<t') zAt):Inv X pins σ (upd H x o) {s with heap:=h',toks:=t'}:=I.un (Un.write mu he k heo) (I.hok.write mu he k heo new)
theorem Inv.weak{σ':List (Option V)}(I:Inv X pins σ H s)(hl:σ'.length=σ.length)(w:∀ (i:Nat) v,σ'[i]?=some (some v)->σ[i]?=some (some v)):Inv X pins σ' H s :=
 ⟨I.ok,I.os,I.bare,I.base,let ⟨m,hn,hl'⟩:=I.loc;⟨m,hn,fun i x v e1 e2 e3=>hl' i x v e1 (w i v e2) e3⟩,I.cell,I.free,I.freeC,I.pin,I.hok,hl.trans I.len,I.tk⟩
theorem Inv.pins_of{pins':List (Addr×Obj)}(I:Inv X pins σ H s)(h:∀ p∈pins',s.heap.get? p.1=some p.2/\H p.1=none/\p.1≠X.env.locals/\p.1∉X.fs/\∀ v,p.2.data≠.cell v):Inv X pins' σ H s :=
 ⟨I.ok,I.os,I.bare,I.base,I.loc,I.cell,I.free,I.freeC,fun p hp=>(List.mem_append.mp hp).elim (fun z=>I.pin p (List.mem_append_left _ z)) (h p),I.hok,I.len,I.tk⟩
theorem wq0(hN:N.Nodup){i j:Nat}(a:N[i]?=some x)(b:N[j]?=some x):i=j:=by
 obtain⟨h1,e1⟩:=List.getElem?_eq_some_iff.mp a
 obtain⟨h2,e2⟩:=List.getElem?_eq_some_iff.mp b
 exact(List.getElem_inj hN).mp (e1.trans e2.symm)
theorem xi5{i:Nat}{Q:Unit->Shared->Prop}(I:Inv X pins σ H s)(hN:X.N.Nodup)(hi:X.N[i]?=some x)(hx:Loc X.env.scope x)(r:L6 v u)(h:∀ s',Inv X pins (σ.set i (some v)) H s'->(∃ a,Heap.SameBut a s.heap s'.heap/\(a=X.env.locals\/X.env.cells.lookup x=some a))->Q () s')(hf:autoParam (X.fn x=true\/X.env.scope.names.lookup x=some .local) zAf):wpAny M A (storeName X.env x u) Q E s:=by
 obtain⟨m,hn,hl⟩:=id I.loc
 have hcls:(X.env.scope.kind == .class || (X.env.scope.kind == .module && X.env.locals != X.env.globals))=false:=by rw[I.ok.kind];rfl
 have hiσ:i<σ.length:=by rw[I.len];exact(List.getElem?_eq_some_iff.mp hi).1
 have cne:=I.cne
 have tracked:∀ {a:Addr} {h':Heap},(∃ o,s.heap.get? a=some o/\H a=none)->Heap.SameBut a s.heap h'->HOk X.prog X.w H h':=fun{a h'} ha hs b ob e=>by
  obtain⟨_,_,hfree⟩:=ha
  refine(I.hok b ob e).stay (fun c w' hc q=>(hs.2 c ?_).trans q) (fun _ q=>q) fun _ _ q=>q
  rintro rfl
  rcases hc with rfl|hc
  ·rw[hfree] at e;cases e
  ·rw[hfree] at hc;cases hc
 rcases hx with hk|hk
 ·refine wpAny_storeName_local hk hn (fun h' hn' hs=>?_) hcls
  obtain⟨oL,_,_,hoL,_⟩:=id hn
  refine h _ ⟨I.ok,I.os,I.bare,⟨fun b o e n hb hx=>?_,fun b o e n hb hx=>?_,I.base.free,fun b o e hx=>?_,I.base.tups,I.base.frzs,I.base.tbls⟩,⟨_,hn',fun j y v' e1 e2 e3=>?_⟩,fun y c e=>?_,I.free,I.freeC,fun p hp=>?_,tracked ⟨oL,hoL,I.free⟩ hs,by simpa using I.len,by first|exact I.tk|exact Nat.succ_pos _⟩ ⟨_,hs,.inl rfl⟩
  ·exact(hs.2 b (Nat.ne_of_lt (Nat.lt_of_lt_of_le (Heap.lt_size e) I.ok.above))).trans (I.base.keep b o e n hb hx)
  ·obtain⟨sl,e1⟩:=I.base.slot b o e n hb hx
   exact⟨sl,(hs.2 b (Nat.ne_of_lt (Nat.lt_of_lt_of_le (Heap.lt_size e) I.ok.above))).trans e1⟩
  ·obtain⟨o',e1⟩:=I.base.there b o e hx
   exact⟨o',(hs.2 b (Nat.ne_of_lt (Nat.lt_of_lt_of_le (Heap.lt_size e) I.ok.above))).trans e1⟩
  ·by_cases hj:j=i
   ·subst hj
    rw[hi] at e1;cases e1
    rw[List.getElem?_set_self hiσ] at e2
    cases e2
    exact⟨u,r,.inl ⟨hk,by simp⟩⟩
   ·rw[List.getElem?_set_ne (Ne.symm hj)] at e2
    obtain⟨u',r',q⟩:=hl j y v' e1 e2 e3
    refine⟨u',r',?_⟩
    rcases q with⟨k,e⟩|⟨k,c,e,z⟩
    ·refine .inl ⟨k,?_⟩
     have:y≠x:=fun e=>hj (wq0 hN e1 (e▸hi))
     simp[this,e]
    ·exact .inr ⟨k,c,e,z.sameBut hs (cne y c e)⟩
  ·obtain⟨w',z⟩:=I.cell y c e
   exact⟨w',z.sameBut hs (cne y c e)⟩
  ·obtain⟨e,n,ne,nf,d⟩:=I.pin p hp
   exact⟨(hs.2 p.1 ne).trans e,n,ne,nf,d⟩
 ·have hfn:X.fn x=true:=by
   rcases hf with z|z
   ·exact z
   ·rw[z] at hk;cases hk
  obtain⟨c,hc⟩:=I.ok.has x (.inl hk)
  obtain⟨w',z⟩:=I.cell x c hc
  refine wpAny_storeName_cell I.ok.kind hk hc z (fun h' hc' hs=>?_)
  obtain⟨oc,hoc,hocd⟩:=id z
  refine h {s with heap:=h'} ⟨I.ok,I.os,I.bare,⟨fun b o e n hb hx=>?_,fun b o e n hb hx=>?_,I.base.free,fun b o e hx=>?_,I.base.tups,I.base.frzs,I.base.tbls⟩,⟨m,hn.sameBut hs (Ne.symm (cne x c hc)),fun j y v' e1 e2 e3=>?_⟩,fun y c' e=>?_,I.free,I.freeC,fun p hp=>?_,tracked ⟨oc,hoc,I.freeC x c hc⟩ hs,by simpa using I.len,by first|exact I.tk|exact Nat.succ_pos _⟩ ⟨c,hs,.inr hc⟩
  ·exact(hs.2 b (Nat.ne_of_lt (Nat.lt_of_lt_of_le (Heap.lt_size e) (I.ok.cab x c hfn hc)))).trans (I.base.keep b o e n hb hx)
  ·obtain⟨sl,e1⟩:=I.base.slot b o e n hb hx
   exact⟨sl,(hs.2 b (Nat.ne_of_lt (Nat.lt_of_lt_of_le (Heap.lt_size e) (I.ok.cab x c hfn hc)))).trans e1⟩
  ·obtain⟨o',e1⟩:=I.base.there b o e hx
   exact⟨o',(hs.2 b (Nat.ne_of_lt (Nat.lt_of_lt_of_le (Heap.lt_size e) (I.ok.cab x c hfn hc)))).trans e1⟩
  ·by_cases hj:j=i
   ·subst hj
    rw[hi] at e1;cases e1
    rw[List.getElem?_set_self hiσ] at e2
    cases e2
    exact⟨u,r,.inr ⟨.inl hk,c,hc,hc'⟩⟩
   ·rw[List.getElem?_set_ne (Ne.symm hj)] at e2
    obtain⟨u',r',q⟩:=hl j y v' e1 e2 e3
    refine⟨u',r',?_⟩
    rcases q with q|⟨k,c',e,z'⟩
    ·exact .inl q
    ·refine .inr ⟨k,c',e,z'.sameBut hs ?_⟩
     rintro rfl
     exact hj (wq0 hN e1 (I.ok.inj _ _ _ e hc▸hi))
  ·by_cases hcc:c'=c
   ·subst hcc;exact⟨_,hc'⟩
   ·obtain⟨w2,z2⟩:=I.cell y c' e
    exact⟨w2,z2.sameBut hs hcc⟩
  ·obtain⟨e,n,ne,nf,d⟩:=I.pin p hp
   refine⟨(hs.2 p.1 ?_).trans e,n,ne,nf,d⟩
   intro q
   rw[q,hoc] at e
   have q':oc=p.2:=Option.some.inj e
   exact d w' (by rw[<-q'];exact hocd)
theorem wb1{i:Nat}{Q:Unit->Shared->Prop}(I:Inv X pins σ H s)(hN:X.N.Nodup)(hi:X.N[i]?=some x)(hx:Loc X.env.scope x)(r:L6 v u)(h:∀ s',Inv X pins (σ.set i (some v)) H s'->Q () s')(hf:autoParam (X.fn x=true\/X.env.scope.names.lookup x=some .local) zAf):wpAny M A (storeName X.env x u) Q E s :=
 xi5 I hN hi hx r (fun s' I' _=>h s' I') hf
end
abbrev XK:=Value->Option Addr->Hp->Prop
abbrev St:=List (Option V)
abbrev VK:=V->Hp->Prop
abbrev TE:=St->Hp->VK->Prop
abbrev TT:=St->Hp->(Bool->Hp->Prop)->Prop
abbrev TA:=St->Hp->(List V->Hp->Prop)->Prop
set_option genInjectivity false in
structure U8 where
 nx:St->Hp->Prop
 rt:VK
 bk:St->Hp->Prop:=fun _ _=>False
 ct:St->Hp->Prop:=fun _ _=>False
abbrev TS:=U8->St->Hp->Prop
def EP(X:Cx)(pins:List (Addr×Obj))(σ:St)(Q:VK)(u:Value)(s':Shared):Prop:=∃ v H',Inv X pins σ H' s'/\L6 v u/\Q v H'
def TP(X:Cx)(pins:List (Addr×Obj))(σ:St)(Q:Bool->Hp->Prop)(b:Bool)(s':Shared):Prop:=∃ H',Inv X pins σ H' s'/\Q b H'
def AP(X:Cx)(pins:List (Addr×Obj))(σ:St)(Q:List V->Hp->Prop)(us:List Value)(s':Shared):Prop:=∃ vs H',Inv X pins σ H' s'/\G0 vs us/\Q vs H'
def SP(X:Cx)(pins:List (Addr×Obj))(D:U8)(f:Flow)(s':Shared):Prop :=
 match f with
 | .next=>∃ σ' H',Inv X pins σ' H' s'/\D.nx σ' H'
 | .brk=>∃ σ' H',Inv X pins σ' H' s'/\D.bk σ' H'
 | .cont=>∃ σ' H',Inv X pins σ' H' s'/\D.ct σ' H'
 | .ret u=>∃ v σ' H',Inv X pins σ' H' s'/\L6 v u/\D.rt v H'
def PE(X:Cx)(e:Expr)(t:TE):Prop :=
 ∀ (pins:List (Addr×Obj)) (s:Shared) (σ:St) (H:Hp) (Q:VK),Inv X pins σ H s->t σ H Q->wpAny (model X.prog X.w) X.A (eval e X.env) (EP X pins σ Q) X.xe s
def PT(X:Cx)(e:Expr)(t:TT):Prop :=
 ∀ (pins:List (Addr×Obj)) (s:Shared) (σ:St) (H:Hp) (Q:Bool->Hp->Prop),Inv X pins σ H s->t σ H Q->wpAny (model X.prog X.w) X.A (isTrue e X.env (eval e X.env)) (TP X pins σ Q) X.xe s
def PW(X:Cx)(e:Expr)(t:TT):Prop :=
 ∀ (whole:Sem Value) (pins:List (Addr×Obj)) (s:Shared) (σ:St) (H:Hp) (Q:Bool->Hp->Prop),Inv X pins σ H s->t σ H Q->wpAny (model X.prog X.w) X.A (isTrue e X.env whole) (TP X pins σ Q) X.xe s
variable{e:Expr}
theorem PW.pt{t:TT}(h:PW X e t):PT X e t:=h _
def PA(X:Cx)(es:List Expr)(t:TA):Prop :=
 ∀ (pos:Pos) (pins:List (Addr×Obj)) (s:Shared) (σ:St) (H:Hp) (Q:List V->Hp->Prop),Inv X pins σ H s->t σ H Q->wpAny (model X.prog X.w) X.A (spliced (backTo pos (starEach es X.env))) (AP X pins σ Q) X.xe s
def PS(X:Cx)(st:Stmt)(t:TS):Prop :=
 ∀ (pins:List (Addr×Obj)) (s:Shared) (σ:St) (H:Hp) (D:U8),Inv X pins σ H s->t D σ H->wpAny (model X.prog X.w) X.A (exec st X.env) (SP X pins D) X.xe s
def PSs(X:Cx)(st:List Stmt)(t:TS):Prop :=
 ∀ (pins:List (Addr×Obj)) (s:Shared) (σ:St) (H:Hp) (D:U8),Inv X pins σ H s->t D σ H->wpAny (model X.prog X.w) X.A (execs st X.env) (SP X pins D) X.xe s
variable{α:Type}
theorem thn{t:Sem α}{Q Q':α->Shared->Prop}(h:wpAny M A t Q E s)(hQ:∀ a s,Q a s->Q' a s):wpAny M A t Q' E s:=wpAny_mono h hQ fun _ _ x=>x
variable{pos:Pos}{Q:Value->Shared->Prop}{σ:St}{ta:TE}{c:Expr}
section
def A4(i:Nat):TE:=fun σ H Q=>∃ v,σ[i]?=some (some v)/\Q v H
def tC(v:V):TE:=fun _ H Q=>Q v H
theorem zo5{i:Nat}(hN:X.N[i]?=some x)(hv:Vis X.env.scope x)(hd:autoParam ((x == ("__debug__":Str))=false) zAd)(hcd:autoParam ((x == ("__classdict__":Str))=false) zAd):PE X (.Name x pos) (A4 i):=by
 intro pins s σ H Q I h
 obtain⟨v,e,h⟩:=h
 obtain⟨m,hn,hl⟩:=I.loc
 obtain⟨u,r,l⟩:=hl i x v hN e hv
 have fin:EP X pins σ Q u s:=⟨v,H,I,r,h⟩
 rcases l with⟨hk,hm⟩|⟨hk,c,hc,hcell⟩
 ·exact wpAny_Name (wpAny_loadName_local I.ok.kind hk hn hm fin) hd
 ·rcases hk with hk|hk
  ·exact wpAny_Name (wpAny_loadName_cell I.ok.kind hk hc hcell fin) hd
  ·exact wpAny_Name (wpAny_loadName_free I.ok.kind hk hc hcell fin hcd) hd
theorem A9{i j pos}:PE X (.Constant (.int i) j pos) (tC (.int i)):=fun _ _ _ H _ I h=>wpAny_Constant_int ⟨.int i,H,I.tok _,⟨_,rfl⟩,h⟩
theorem yt1{b j pos}:PE X (.Constant (.bool b) j pos) (tC (.bl b)):=fun _ _ _ H _ I h=>Constant_bool ⟨.bl b,H,I,rfl,h⟩
theorem N6{j pos}:PE X (.Constant .none j pos) (tC .non):=fun _ _ _ H _ I h=>Constant_none ⟨.non,H,I,rfl,h⟩
theorem C9{x j pos}:PE X (.Constant (.str x) j pos) (tC (.str x)):=fun _ _ _ H _ I h=>Calls.Constant_str ⟨.str x,H,I.tok _,⟨_,rfl⟩,h⟩
def Gl(X:Cx)(x:Str):Prop:=X.env.kindOf x=some .globalImplicit
theorem qn8(I:Inv X pins σ H s)(hg:Gl X x)(hm:X.mg x=some u)(h:Q u s)(hd:autoParam ((x == ("__debug__":Str))=false) zAd):wpAny (model X.prog X.w) X.A (eval (.Name x pos) X.env) Q E s :=
 Calls.Name_function_global I.ok.kind hg (Calls.loadGlobal_global (by rw[I.ok.glob];exact I.mod.glob.keeps I.bk) hm h) hd
theorem qz2(I:Inv X pins σ H s)(hg:Gl X x)(hm:X.mg x=none)(hv:bootBuiltins x=some u)(h:Q u s)(hn:autoParam (x ≠ "__name__") zAd)(hd:autoParam ((x == ("__debug__":Str))=false) zAd):wpAny (model X.prog X.w) X.A (eval (.Name x pos) X.env) Q E s:=by
 obtain⟨mb,h1,h2⟩:=I.mod.blt
 exact Calls.Name_function_global I.ok.kind hg (Calls.loadGlobal_builtin (by rw[I.ok.glob];exact I.mod.glob.keeps I.bk) hm (by rw[I.ok.blt];exact h1.keeps I.bk) ((h2 x hn).trans hv) h) hd
theorem P0(hg:Gl X x)(hm:X.mg x=some u)(r:L6 v u)(hd:autoParam ((x == ("__debug__":Str))=false) zAd):PE X (.Name x pos) (tC v) :=
 fun _ _ _ H _ I h=>qn8 I hg hm ⟨v,H,I,r,h⟩ hd
theorem qj1(hg:Gl X x)(hm:X.mg x=none)(hv:bootBuiltins x=some u)(r:L6 v u)(hn:autoParam (x ≠ "__name__") zAd)(hd:autoParam ((x == ("__debug__":Str))=false) zAd):PE X (.Name x pos) (tC v) :=
 fun _ _ _ H _ I h=>qz2 I hg hm hv ⟨v,H,I,r,h⟩ hn hd
variable{a b:Expr}{tb:TE}
def tB(t:TE):TT:=fun σ H Q=>t σ H fun x H1=>∃ c,x=.bl c/\Q c H1
theorem T1{t:TE}(h:PE X e t)(he:autoParam (∀ whole,isTrue e X.env whole=(do let v<-whole;standAt e.pos;holding [v] (truthy v))) zAi):PT X e (tB t):=by
 intro pins s σ H Q I hw
 refine isTrue_plain (thn (h pins s σ H _ I hw) fun v s1 zq=>?_) (he _)
 obtain⟨x,H1,I1,r1,q1⟩:=zq
 obtain⟨d,rfl,q⟩:=q1
 cases r1
 exact wpAny_truthy_bool ⟨H1,I1,q⟩
variable{tA tB':TT}{rest:List Expr}
def qz3(t u:TT):TT:=fun σ H Q=>t σ H fun c H1=>if c=true then u σ H1 Q else Q false H1
def tOr(t u:TT):TT:=fun σ H Q=>t σ H fun c H1=>if c=true then Q true H1 else u σ H1 Q
def wq1(t:TT):TT:=fun σ H Q=>t σ H fun c H1=>Q (!c) H1
theorem U6(ha:PT X a tA):PW X (.BoolOp .And [a] pos) tA:=by
 intro wh pins s σ H Q I h
 refine isTrue_and (thn (ha pins s σ H Q I h) fun c s1 e=>?_)
 cases c with
 | true=>exact isTrue_and_nil e
 | false=>exact e
theorem wq2(ha:PT X a tA):PW X (.BoolOp .Or [a] pos) tA:=by
 intro wh pins s σ H Q I h
 refine isTrue_or (thn (ha pins s σ H Q I h) fun c s1 e=>?_)
 cases c with
 | false=>exact isTrue_or_nil e
 | true=>exact e
theorem Y5(ha:PT X a tA)(hb:PW X (.BoolOp .And (b::rest) pos) tB'):PW X (.BoolOp .And (a::b::rest) pos) (qz3 tA tB'):=by
 intro wh pins s σ H Q I h
 refine isTrue_and (thn (ha pins s σ H _ I h) fun c s1 zq=>?_)
 obtain⟨H1,I1,q1⟩:=zq
 cases c with
 | true=>exact hb wh pins s1 σ H1 Q I1 q1
 | false=>exact⟨H1,I1,q1⟩
theorem xs8(ha:PT X a tA)(hb:PW X (.BoolOp .Or (b::rest) pos) tB'):PW X (.BoolOp .Or (a::b::rest) pos) (tOr tA tB'):=by
 intro wh pins s σ H Q I h
 refine isTrue_or (thn (ha pins s σ H _ I h) fun c s1 zq=>?_)
 obtain⟨H1,I1,q1⟩:=zq
 cases c with
 | true=>exact⟨H1,I1,q1⟩
 | false=>exact hb wh pins s1 σ H1 Q I1 q1
theorem qn9(ha:PT X a tA):PT X (.UnaryOp .Not a pos) (wq1 tA):=by
 intro pins s σ H Q I h
 exact isTrue_not (ha pins s σ H (fun c H1=>Q (!c) H1) I h)
def yt2(ta tb:TE):TE:=fun σ H Q=>ta σ H fun x H1=>∃ c,x=.bl c/\if c=true then tb σ H1 Q else Q (.bl false) H1
theorem yt3{op}{t:TE}(h:PE X a t):PE X (.BoolOp op [a] pos) t:=fun pins s σ H Q I hw=>BoolOp_one (h pins s σ H Q I hw)
theorem zo6(ha:PE X a ta)(hb:PE X (.BoolOp .And (b::rest) pos) tb):PE X (.BoolOp .And (a::b::rest) pos) (yt2 ta tb):=by
 intro pins s σ H Q I h
 refine BoolOp_and (thn (ha pins s σ H _ I h) fun v s1 zq=>?_)
 obtain⟨x,H1,I1,r1,q1⟩:=zq
 obtain⟨c,rfl,q1⟩:=q1
 cases r1
 refine wpAny_truthy_bool ?_
 cases c with
 | true=>exact hb pins s1 σ H1 Q I1 q1
 | false=>exact⟨.bl false,H1,I1,rfl,q1⟩
def tIf(t:TT)(ta tb:TE):TE:=fun σ H Q=>t σ H fun c H1=>if c=true then ta σ H1 Q else tb σ H1 Q
theorem qm1(hc:PT X c tA)(ha:PE X a ta)(hb:PE X b tb):PE X (.IfExp c a b pos) (tIf tA ta tb):=by
 intro pins s σ H Q I h
 refine wpAny_IfExp (thn (hc pins s σ H _ I h) fun d s1 zq=>?_)
 obtain⟨H1,I1,q1⟩:=zq
 cases d with
 | true=>exact ha pins s1 σ H1 Q I1 q1
 | false=>exact hb pins s1 σ H1 Q I1 q1
end
def SqL(K:Fg)(H:Hp)(a:Addr)(xs:List V):Prop :=
 Rd H a (.lst xs) \/
  ∃ (o:Obj) (its:Array Value) (n:Nat),K.lookup a=some o/\o.cls=.type "list"/\o.dict=none/\o.data=.seq its n/\its.size<=sizeLine/\G0 xs its.toList
def SqT(K:Fg)(H:Hp)(a:Addr)(xs:List V):Prop :=
 Rd H a (.tup xs) \/
  ∃ (o:Obj) (its:Array Value) (n:Nat),K.lookup a=some o/\o.cls=.type "tuple"/\o.data=.seq its n/\its.size<=sizeLine/\G0 xs its.toList
def Ad6:Value->Option V
 | .none=>some .non
 | .bool b=>some (.bl b)
 | .int i _=>some (.int i)
 | .str x _=>some (.str x)
 | .bytes b _=>some (.byt b)
 | .float b _=>some (.flt b)
 | .ref a=>some (.ref a)
 | .type n=>some (.ty n)
 | _=>none
theorem L6.abs{x:V}(r:L6 x u):Ad6 u=some x:=by
 cases x with
 | non=>cases r;rfl
 | bl _=>cases r;rfl
 | int _=>obtain⟨t,rfl⟩:=r;rfl
 | str _=>obtain⟨t,rfl⟩:=r;rfl
 | byt _=>obtain⟨t,rfl⟩:=r;rfl
 | flt _=>obtain⟨t,rfl⟩:=r;rfl
 | ref _=>cases r;rfl
 | ty _=>cases r;rfl
variable{y:V}
theorem L6.inj{x:V}(r:L6 x u)(q:L6 y u):x=y:=Option.some.inj (r.abs.symm.trans q.abs)
variable{ys:List V}
theorem G0.inj(h:G0 xs us):G0 ys us->xs=ys:=by
 induction h generalizing ys with
 | nil=>intro k;cases k;rfl
 | cons r t ih=>intro k;cases k with|cons r' t'=>rw[r.inj r',ih t']
variable{K:Fg}
theorem SqL.of(h:H a=some (.lst xs)):SqL K H a xs:=.inl (.inl h)
theorem SqT.of(h:H a=some (.tup xs)):SqT K H a xs:=.inl (.inl h)
theorem Inv.list(I:Inv X pins σ H s)(h:SqL X.K H a xs):∃ its:List Value,G0 xs its/\PlainL s.heap a its.toArray/\xs.length<=sizeLine:=by
 rcases h with h|⟨o,its,n,hk,hc,hd,hs,hz,r⟩
 ·obtain⟨z,its,n,r,e⟩:=h.ok I.hok
  exact⟨its,r,⟨_,n,e,rfl,rfl,rfl⟩,z⟩
 ·refine⟨its.toList,r,⟨o,n,I.kIn a o hk,hc,hd,by simpa using hs⟩,?_⟩
  have e:=r.length
  simp only[Array.length_toList] at e
  omega
theorem Inv.tuple(I:Inv X pins σ H s)(h:SqT X.K H a xs):∃ its:List Value,G0 xs its/\IsTup s.heap a its.toArray/\xs.length<=sizeLine:=by
 rcases h with h|⟨o,its,n,hk,hc,hs,hz,r⟩
 ·obtain⟨z,its,r,p⟩:=h.ok I.hok
  exact⟨its,r,p,z⟩
 ·refine⟨its.toList,r,⟨o,I.kIn a o hk,hc,n,by simpa using hs⟩,?_⟩
  have e:=r.length
  simp only[Array.length_toList] at e
  omega
theorem Inv.list_inj(I:Inv X pins σ H s)(h:SqL X.K H a xs)(h':SqL X.K H a ys):xs=ys:=by
 obtain⟨its,r,⟨o,n,e,_,_,d⟩,_⟩:=I.list h
 obtain⟨its',r',⟨o',n',e',_,_,d'⟩,_⟩:=I.list h'
 rw[e] at e';cases e'
 rw[d] at d'
 injection d' with d1 _
 have:its=its':=by simpa using congrArg Array.toList d1
 subst this
 exact r.inj r'
theorem Inv.tuple_inj(I:Inv X pins σ H s)(h:SqT X.K H a xs)(h':SqT X.K H a ys):xs=ys:=by
 obtain⟨its,r,⟨o,e,_,n,d⟩,_⟩:=I.tuple h
 obtain⟨its',r',⟨o',e',_,n',d'⟩,_⟩:=I.tuple h'
 rw[e] at e';cases e'
 rw[d] at d'
 injection d' with d1 _
 have:its=its':=by simpa using congrArg Array.toList d1
 subst this
 exact r.inj r'
abbrev Cx.wish(X:Cx)(E:Value->Shared->Prop):Cx:={X with xe:=E}
abbrev Cx.nox(X:Cx):Cx:=X.wish fun _ _=>False
theorem Cx.Ok.wish(ok:X.Ok)(E:Value->Shared->Prop):(X.wish E).Ok :=
 ⟨ok.mod,ok.kind,ok.glob,ok.blt,ok.above,ok.inj,ok.has,ok.cab,ok.hd,ok.frames,ok.stk,ok.exf,ok.bs,ok.bsz,ok.noex,ok.exfs,ok.funs,ok.frf⟩
theorem Cx.Ok.unwish(ok:(X.wish E).Ok):X.Ok :=
 ⟨ok.mod,ok.kind,ok.glob,ok.blt,ok.above,ok.inj,ok.has,ok.cab,ok.hd,ok.frames,ok.stk,ok.exf,ok.bs,ok.bsz,ok.noex,ok.exfs,ok.funs,ok.frf⟩
theorem Inv.wish(I:Inv X pins σ H s)(E:Value->Shared->Prop):Inv (X.wish E) pins σ H s:=⟨I.ok.wish E,I.os,I.bare,I.base,I.loc,I.cell,I.free,I.freeC,I.pin,I.hok,I.len,I.tk⟩
theorem Inv.unwish(I:Inv (X.wish E) pins σ H s):Inv X pins σ H s:=⟨I.ok.unwish,I.os,I.bare,I.base,I.loc,I.cell,I.free,I.freeC,I.pin,I.hok,I.len,I.tk⟩
variable{D:U8}{s':Shared}
theorem SP.unwish{f:Flow}(h:SP (X.wish E) pins D f s'):SP X pins D f s':=by
 cases f with
 | next=>obtain⟨σ',H',I,q⟩:=h;exact⟨σ',H',I.unwish,q⟩
 | brk=>obtain⟨σ',H',I,q⟩:=h;exact⟨σ',H',I.unwish,q⟩
 | cont=>obtain⟨σ',H',I,q⟩:=h;exact⟨σ',H',I.unwish,q⟩
 | ret u=>obtain⟨v,σ',H',I,r,q⟩:=h;exact⟨v,σ',H',I.unwish,r,q⟩
theorem PSs.nox{st:List Stmt}{t:TS}(h:PSs X.nox st t):PSs X st t:=fun pins s σ H D I hw =>
 wpAny_mono (h pins s σ H D (I.wish _) hw) (fun _ _ q=>q.unwish) fun _ _ z=>False.elim z
variable{st:Stmt}{te:TE}
section
variable{rest:List Stmt}{t u:TS}
def E9:TS:=fun D σ H=>D.nx σ H
def C0(t u:TS):TS:=fun D σ H=>t {D with nx:=u D} σ H
theorem C2:PSs X [] E9:=fun _ _ σ H _ I h=>wpAny_execs_nil ⟨σ,H,I,h⟩
theorem A5(h1:PS X st t)(h2:PSs X rest u):PSs X (st::rest) (C0 t u):=by
 intro pins s σ H D I h
 refine wpAny_execs_cons (thn (h1 pins s σ H {D with nx:=u D} I h) fun f s1 q=>?_)
 cases f with
 | next =>
   obtain⟨σ',H',I',q⟩:=q
   exact h2 pins s1 σ' H' D I' q
 | ret v=>exact q
 | brk=>exact q
 | cont=>exact q
theorem A8(h1:PS X st t):PSs X [st] t:=by
 intro pins s σ H D I h
 refine wpAny_execs_cons (thn (h1 pins s σ H D I h) fun f s1 q=>?_)
 cases f with
 | next=>exact wpAny_execs_nil q
 | ret v=>exact q
 | brk=>exact q
 | cont=>exact q
theorem Inv.quiet(I:Inv X pins σ H s):interactive X.env=false:=by simp[interactive,I.ok.kind]
def qh3(te:TE):TS:=fun D σ H=>te σ H fun _ H1=>D.nx σ H1
theorem U7(he:PE X e te)(hs:autoParam (swapsWith e none pos.line X.env=pure false) zAr):PS X (.Expr e pos) (qh3 te):=by
 intro pins s σ H D I h
 exact wpAny_Expr_any (thn (he pins s σ H _ I h) fun v s1 ⟨x,H1,I1,r1,q1⟩=>⟨σ,H1,I1,q1⟩) I.quiet hs
def I0(te:TE):TS:=fun D σ H=>te σ H D.rt
theorem B8(he:PE X e te):PS X (.Return (some e) pos) (I0 te):=by
 intro pins s σ H D I h
 exact wpAny_Return_some (thn (he pins s σ H _ I h) fun v s1 ⟨x,H1,I1,r1,q1⟩=>⟨x,σ,H1,I1,r1,q1⟩)
def M0(c:TT)(t u:TS):TS:=fun D σ H=>c σ H fun b H1=>if b=true then t D σ H1 else u D σ H1
theorem E7{a b:List Stmt}{tc:TT}(hc:PT X c tc)(ha:PSs X a t)(hb:PSs X b u):PS X (.If c a b pos) (M0 tc t u):=by
 intro pins s σ H D I h
 refine wpAny_If (thn (hc pins s σ H _ I h) fun d s1 zq=>?_)
 obtain⟨H1,I1,q1⟩:=zq
 cases d with
 | true=>exact ha pins s1 σ H1 D I1 q1
 | false=>exact hb pins s1 σ H1 D I1 q1
def yt4:TS:=fun _ _ _=>False
theorem yt5:PS X st yt4:=fun _ _ _ _ _ _ h=>h.elim
end
abbrev TG:=V->St->Hp->(St->Hp->Prop)->Prop
abbrev TGs:=List V->St->Hp->(St->Hp->Prop)->Prop
def PG(X:Cx)(target:Expr)(t:TG):Prop :=
 ∀ (pins:List (Addr×Obj)) (s:Shared) (σ:St) (H:Hp) (v:V) (u:Value) (Q:St->Hp->Prop),Inv X pins σ H s->L6 v u->t v σ H Q ->
  wpAny (model X.prog X.w) X.A (assign target X.env u) (fun _ s'=>∃ σ' H',Inv X pins σ' H' s'/\Q σ' H') X.xe s
def PGs(X:Cx)(ts:List Expr)(t:TGs):Prop :=
 ∀ (pins:List (Addr×Obj)) (s:Shared) (σ:St) (H:Hp) (vs:List V) (us:List Value) (Q:St->Hp->Prop),Inv X pins σ H s->G0 vs us->t vs σ H Q ->
  wpAny (model X.prog X.w) X.A (assignInOrder ((assignEach ts X.env).map (·.2)) us) (fun _ s'=>∃ σ' H',Inv X pins σ' H' s'/\Q σ' H') X.xe s
abbrev yt6:=V->V->V->Hp->(Hp->Prop)->Prop
def zo7(X:Cx)(t:yt6):Prop :=
 ∀ (pins:List (Addr×Obj)) (s:Shared) (σ:St) (H:Hp) (o i v:V) (ov iv u:Value) (Q:Hp->Prop),Inv X pins σ H s->L6 o ov->L6 i iv->L6 v u->t o i v H Q ->
  wpAny (model X.prog X.w) X.A (setItem ov iv u) (fun _ s'=>∃ H',Inv X pins σ H' s'/\Q H') X.xe s
def B3(i:Nat):TG:=fun v σ H Q=>Q (σ.set i (some v)) H
theorem D5{i:Nat}(hN:X.N.Nodup)(hi:X.N[i]?=some x)(hx:Loc X.env.scope x)(hf:autoParam (X.fn x=true\/X.env.scope.names.lookup x=some .local) zAf):PG X (.Name x pos) (B3 i):=by
 intro pins s σ H v u Q I r h
 exact wpAny_assign_Name (wb1 I hN hi hx r (fun s' I'=>⟨_,H,I',h⟩) hf)
def wq3:TGs:=fun vs σ H Q=>vs=[]/\Q σ H
def S5(t:TG)(u:TGs):TGs:=fun vs σ H Q=>∃ v r,vs=v::r/\t v σ H fun σ' H'=>u r σ' H' Q
theorem qe9:PGs X [] wq3:=by
 intro pins s σ H vs us Q I r h
 obtain⟨e,h⟩:=h
 subst e
 cases r
 exact assignInOrder_nil ⟨σ,H,I,h⟩
variable{es:List Expr}
theorem L7{t:TG}{u:TGs}(h1:PG X e t)(h2:PGs X es u)(hs:autoParam ((assignEach (e::es) X.env).map (·.2)=assign e X.env::(assignEach es X.env).map (·.2)) zAr):PGs X (e::es) (S5 t u):=by
 intro pins s σ H vs us Q I r h
 obtain⟨v,vr,e1,h⟩:=h
 subst e1
 cases r with
 | cons r rr =>
   rw[hs]
   refine assignInOrder_cons (thn (h1 pins s σ H _ _ _ I r h) fun _ s1 zq=>?_)
   obtain⟨σ1,H1,I1,q1⟩:=zq
   exact h2 pins s1 σ1 H1 _ _ Q I1 rr q1
def wq4(K:Fg)(n:Nat)(t:TGs):TG:=fun v σ H Q=>∃ a xs,v=.ref a/\SqT K H a xs/\xs.length=n/\t xs σ H Q
variable{n:Nat}
theorem qo0{k:Nat}{t:TGs}(hc:X.calm=true)(h:PGs X es t)(hn:autoParam ((assignEach es X.env).length=n) zAr)(hst:autoParam ((assignEach es X.env).findIdx? (·.1)=none) zAr):PG X (.Tuple es k pos) (wq4 X.K n t):=by
 intro pins s σ H v u Q I r hw
 obtain⟨a,xs,e1,hq,hl,hw⟩:=hw
 subst e1
 cases r
 obtain⟨its,rv,ht,hz⟩:=I.tuple hq
 refine assign_Tuple_tuple (I.ok.hd hc) ht (by simp[hn,<-hl,rv.length]) hst fun h' hx=>?_
 have I1:Inv X pins σ H {s with heap:=h'}:=I.kept (t':=s.toks) fun b o e=>hx b o (Nat.ne_of_lt (Heap.lt_size e)) e
 exact h pins _ σ H xs _ Q I1 (by simpa using rv) hw
def yn5(to ti:TE)(t:yt6):TG:=fun v σ H Q=>to σ H fun o H1=>ti σ H1 fun i H2=>t o i v H2 fun H3=>Q σ H3
variable{o:Expr}{ti to:TE}
theorem xl9{i:Expr}{t:yt6}(ho:PE X o to)(hi:PE X i ti)(hs:zo7 X t) (ha:∀ v,assign (.Subscript o i pos) X.env v=(do
  let ov<-holding [v] (eval o X.env)
  let iv<-holding [v,ov] (eval i X.env)
  standAt pos
  holding [v,ov,iv] (setItem ov iv v)
  release [v,ov,iv] []):=by intro _;rfl):PG X (.Subscript o i pos) (yn5 to ti t):=by
 intro pins s σ H v u Q I r h
 rw[ha]
 refine wpAny_bind (wpAny_holding (thn (ho pins s σ H _ I h) fun ov s1 zq=>?_))
 obtain⟨x,H1,I1,r1,q1⟩:=zq
 refine wpAny_bind (wpAny_holding (thn (hi pins s1 σ H1 _ I1 q1) fun iv s2 zq=>?_))
 obtain⟨y,H2,I2,r2,q2⟩:=zq
 refine wpAny_bind (wpAny_standAt (wpAny_bind (wpAny_holding (thn (hs pins s2 σ H2 x y v ov iv u _ I2 r1 r2 r q2) fun _ s3 zq=>?_))))
 obtain⟨H3,I3,q3⟩:=zq
 exact wpAny_release ⟨σ,H3,I3,q3⟩
def D9(te:TE)(g:TG):TS:=fun D σ H=>te σ H fun x H1=>g x σ H1 D.nx
variable{g:TG}{tg:Expr}
theorem qo1(he:PE X e te)(hg:PG X tg g)(hs:autoParam (swapsWithSole [tg] e pos.line X.env=pure false) zAr)(hw:autoParam (swappedStores [tg] e X.env=pure none) zAr)(h1:autoParam ((assignEach [tg] X.env).map (·.2)=[assign tg X.env]) zAr):PS X (.Assign [tg] e pos) (D9 te g):=by
 intro pins s σ H D I h
 refine wpAny_Assign_stores (thn (he pins s σ H _ I h) fun v s1 zq=>?_) hs hw
 obtain⟨x,H1,I1,r1,q1⟩:=zq
 rw[h1]
 exact thn (hg pins s1 σ H1 x v _ I1 r1 q1) fun _ s2 q=>q
variable{pos':Pos}
theorem B6{i:Nat}(hN:X.N.Nodup)(hi:X.N[i]?=some x)(hx:Loc X.env.scope x)(he:PE X e te)(hs:autoParam (swapsWith e (some (.Name x pos')) pos.line X.env=pure false) zAr)(hf:autoParam (X.fn x=true\/X.env.scope.names.lookup x=some .local) zAf) :
 PS X (.Assign [.Name x pos'] e pos) (D9 te (B3 i)):=by
 intro pins s σ H D I h
 refine wpAny_Assign_Name (thn (he pins s σ H _ I h) fun v s1 zq=>?_) hs
 obtain⟨y,H1,I1,r1,q1⟩:=zq
 exact wb1 I1 hN hi hx r1 (fun s2 I2=>⟨_,H1,I2,q1⟩) hf
def wq5(c:TT)(tb:TS):TS:=fun D σ H=>∃ W:Nat->St->Hp->Prop,(∃ m,W m σ H)/\∀ m σ H,W m σ H ->
 c σ H fun b H1=>if b=true then ∃ N:St->Hp->Prop,(∀ σ' H',N σ' H'->∃ m',m'<m/\W m' σ' H')/\tb {D with nx:=N,ct:=N,bk:=D.nx} σ H1 else D.nx σ H1
variable{body:List Stmt}{tb:TS}
theorem wq6{tc:TT}(hp:PassesOwn (model X.prog X.w) X.A X.env X.xe)(hc:PT X c tc)(hb:PSs X body tb):PS X (.While c body [] pos) (wq5 tc tb):=by
 intro pins s σ H D I h
 obtain⟨W,⟨m0,w0⟩,turn⟩:=h
 refine wpAny_While (codeAny_whileLoop (fun n s'=>∃ σ' H',Inv X pins σ' H' s'/\W n σ' H') ?_ m0 ⟨σ,H,I,w0⟩)
 rintro n s1 ⟨σ1,H1,I1,w1⟩
 refine wpAny_passesOwn hp (thn (hc pins s1 σ1 H1 _ I1 (turn n σ1 H1 w1)) fun b s2 zq=>?_)
 obtain⟨H2,I2,q2⟩:=zq
 cases b with
 | true =>
   obtain⟨N,hN,q2⟩:=q2
   rw[if_pos rfl]
   refine wpAny_passesOwn hp (thn (hb pins s2 σ1 H2 _ I2 q2) fun f s3 q3=>?_)
   cases f with
   | next =>
     obtain⟨σ3,H3,I3,n3⟩:=q3
     obtain⟨m',hm,w3⟩:=hN σ3 H3 n3
     exact⟨m',hm,σ3,H3,I3,w3⟩
   | cont =>
     obtain⟨σ3,H3,I3,n3⟩:=q3
     obtain⟨m',hm,w3⟩:=hN σ3 H3 n3
     exact⟨m',hm,σ3,H3,I3,w3⟩
   | brk=>exact q3
   | ret v=>exact q3
 | false =>
   rw[if_neg Bool.false_ne_true]
   exact wpAny_execs_nil ⟨σ1,H2,I2,q2⟩
set_option genInjectivity false in
structure It where
 go:Nat->Hp->Prop
 yld:Nat->Hp->V->Hp->Prop
 stop:Nat->Hp->Prop
def xb5(X:Cx)(pins:List (Addr×Obj))(H:Hp)(b:Addr):Prop :=
 H b=none/\b≠X.env.locals/\b∉X.fs/\(b∈X.ex\/X.s₀.heap.objs.size<=b)/\(∀ x c,X.env.cells.lookup x=some c->c≠b)/\∀ p∈X.pn++pins,p.1≠b
theorem Inv.fpOk(I:Inv X pins σ H s)(hb:s.heap.objs.size<=b)(hn:H' b=none):xb5 X pins H' b:=by
 refine⟨hn,Nat.ne_of_gt (Nat.lt_of_lt_of_le I.lt hb),I.nofs hb,.inr (Nat.le_trans I.sz hb),fun x c e z=>?_,fun p hp z=>?_⟩
 ·obtain⟨v,q⟩:=I.cell x c e
  exact absurd (Nat.lt_of_lt_of_le q.lt (by rw[z];exact hb)) (Nat.lt_irrefl _)
 ·exact absurd (Nat.lt_of_lt_of_le (Heap.lt_size (I.pin p hp).1) (by rw[z];exact hb)) (Nat.lt_irrefl _)
structure ya9(P:Program)(w:World)(K:Fg)(tg:Expr)(J:It)(fp:List Addr)(it:Addr)(tn:Nat->Heap->Prop):Prop where
 mem:it∈fp
 obj:∀ i h,tn i h->∀ b∈fp,∃ o,h.get? b=some o/\∀ v,o.data≠.cell v
 keep:∀ i h h',tn i h->(∀ b∈fp,∀ o,h.get? b=some o->h'.get? b=some o)->tn i h'
 item:∀ (X:Cx),X.prog=P->X.w=w->X.K=K->X.calm=true->∀ (i:Nat) (pins:List (Addr×Obj)) (s:Shared) (σ:St) (H:Hp) (E:Value->Shared->Prop),Inv X pins σ H s->(∀ b∈fp,xb5 X pins H b)->tn i s.heap->J.go i H ->
  wpAny (model P w) X.A (pyNext (.ref it)) (fun r s1=>∃ u,r=some u /\
   wpAny (model P w) X.A (letOwnedTupleGo tg (.ref it) u) (fun _ s2=>∃ x H',Inv X pins σ H' s2/\L6 x u/\J.yld i H x H'/\tn (i+1) s2.heap/\∀ b∈fp,H' b=none) E s1) E s
 done:∀ (X:Cx),X.prog=P->X.w=w->X.K=K->X.calm=true->∀ (i:Nat) (pins:List (Addr×Obj)) (s:Shared) (σ:St) (H:Hp) (E:Value->Shared->Prop),Inv X pins σ H s->(∀ b∈fp,xb5 X pins H b)->tn i s.heap->J.stop i H ->
  wpAny (model P w) X.A (pyNext (.ref it)) (fun r s1=>r=none/\Inv X pins σ H s1) E s
 self:∀ (A:Around) (i:Nat) (s:Shared) (Q:Value->Shared->Prop) (E:Value->Shared->Prop),tn i s.heap->Q (.ref it) s->wpAny (model P w) A (pyIter (.ref it)) Q E s
abbrev TI:=St->Hp->(It->Hp->Prop)->Prop
def PIE(X:Cx)(pins:List (Addr×Obj))(σ:St)(tg:Expr)(R:It->Hp->Prop)(itv:Value)(s2:Shared):Prop :=
 ∃ (it:Addr) (fp:List Addr) (tn:Nat->Heap->Prop) (J:It) (H':Hp),itv=.ref it/\Inv X pins σ H' s2/\ya9 X.prog X.w X.K tg J fp it tn/\tn 0 s2.heap/\(∀ b∈fp,xb5 X pins H' b)/\R J H'
def PI(X:Cx)(tg iter:Expr)(wi:TI):Prop :=
 ∀ (pins:List (Addr×Obj)) (s:Shared) (σ:St) (H:Hp) (R:It->Hp->Prop),Inv X pins σ H s->wi σ H R ->
  wpAny (model X.prog X.w) X.A (eval iter X.env) (fun v s1=>wpAny (model X.prog X.w) X.A (pyIter v) (PIE X pins σ tg R) X.xe s1) X.xe s
theorem yi0{o:Obj}{n:String}{vs:Array Value}{Q:Unit->Shared->Prop}(ho:s.heap.get? it=some o)(hc:o.cls=.type n)(hd:o.data=.fields vs)(hn:["enumerate","zip","dict_itemiterator","dict_reverseitemiterator","odict_iterator","itertools.zip_longest","itertools.pairwise"].contains n=false)(hQ:Q () s):wpAny M A (letOwnedTupleGo tg (.ref it) u) Q E s:=by
 unfold letOwnedTupleGo
 cases tg <;> first
  | exact wpAny_pure hQ
  | (cases u <;> first
   | exact wpAny_pure hQ
   | (refine wpAny_bind (wpAny_load ho ?_)
      rw[hc,hd]
      show wpAny M A (if(["enumerate","zip","dict_itemiterator","dict_reverseitemiterator","odict_iterator","itertools.zip_longest","itertools.pairwise"].contains n && vs[0]? == some (rawInt _))=true then _ else _) Q E s
      rw[if_neg (by intro h;rw[hn,Bool.false_and] at h;cases h)]
      exact wpAny_pure hQ))
def Itl(K:Fg)(a:Addr):It :=
 ⟨fun i H=>∃ xs x,SqL K H a xs/\xs[i]?=some x,fun i H x H'=>H'=H/\∀ xs,SqL K H a xs->xs[i]?=some x,fun i H=>∃ xs,SqL K H a xs/\xs.length<=i⟩
def Itt(K:Fg)(a:Addr):It :=
 ⟨fun i H=>∃ xs x,SqT K H a xs/\xs[i]?=some x,fun i H x H'=>H'=H/\∀ xs,SqT K H a xs->xs[i]?=some x,fun i H=>∃ xs,SqT K H a xs/\xs.length<=i⟩
def Itr(lo:Int)(n:Nat):It:=⟨fun i _=>i<n,fun i H x H'=>H'=H/\x=.int (lo+i),fun i _=>n<=i⟩
theorem yn6(a it:Addr):ya9 P w K tg (Itl K a) [it] it (fun i h=>h.IsListIter it a i) where
 mem:=by simp
 obj:=fun i h st b hb=>by
  have e:b=it:=by simpa using hb
  subst e
  obtain⟨o,e,c,d⟩:=st
  exact⟨o,e,fun v z=>by rw[d] at z;cases z⟩
 keep:=fun i h h' st k=>st.at fun o e=>k it (by simp) o e
 item:=by
  intro X hP hw hK hc i pins s σ H E I hf st hg
  subst hP hw hK
  obtain⟨xs,x,hq,hx⟩:=hg
  obtain⟨its,rv,p,hz⟩:=I.list hq
  obtain⟨u,hu,ru⟩:=rv.get hx
  obtain⟨f0,f1,f2,f3,f4,f5⟩:=hf it (by simp)
  refine wpAny_pyNext_list_item st p.isList (x:=u) (by simpa using hu) fun h' st' sb=>?_
  have I1:Inv X pins σ H {s with heap:=h'}:=I.turned (t':=s.toks) (fun b o hb e=>(sb.2 b hb).trans e) f0 f1 f3 f4 f5
  obtain⟨o,e,c,d⟩:=id st'
  exact⟨u,rfl,yi0 (s:={s with heap:=h'}) e c d (by decide) ⟨x,H,I1,ru,⟨rfl,fun ys hy=>by rw[I.list_inj hy hq];exact hx⟩,st',fun b hb=>(hf b hb).1⟩⟩
 done:=by
  intro X hP hw hK hc i pins s σ H E I hf st hg
  subst hP hw hK
  obtain⟨xs,hq,hx⟩:=hg
  obtain⟨its,rv,p,hz⟩:=I.list hq
  obtain⟨f0,f1,f2,f3,f4,f5⟩:=hf it (by simp)
  have hl:=rv.length
  exact wpAny_pyNext_list_end (I.ok.hd hc) st p.isList (by simp;omega) fun h' eb=>⟨rfl,I.turned (t':=s.toks) (fun b o hb e=>eb b o hb e) f0 f1 f3 f4 f5⟩
 self:=fun _ _ _ _ _ st h=>wpAny_pyIter_listiter st h
theorem yb0(a it:Addr):ya9 P w K tg (Itt K a) [it] it (fun i h=>h.IsTupleIter it a i) where
 mem:=by simp
 obj:=fun i h st b hb=>by
  have e:b=it:=by simpa using hb
  subst e
  obtain⟨o,e,c,d⟩:=st
  exact⟨o,e,fun v z=>by rw[d] at z;cases z⟩
 keep:=fun i h h' st k=>st.at fun o e=>k it (by simp) o e
 item:=by
  intro X hP hw hK hc i pins s σ H E I hf st hg
  subst hP hw hK
  obtain⟨xs,x,hq,hx⟩:=hg
  obtain⟨its,rv,p,hz⟩:=I.tuple hq
  obtain⟨u,hu,ru⟩:=rv.get hx
  obtain⟨f0,f1,f2,f3,f4,f5⟩:=hf it (by simp)
  refine wpAny_pyNext_tuple_item st (show s.heap.IsTuple a its.toArray from p) (x:=u) (by simpa using hu) fun h' st' sb=>?_
  have I1:Inv X pins σ H {s with heap:=h'}:=I.turned (t':=s.toks) (fun b o hb e=>(sb.2 b hb).trans e) f0 f1 f3 f4 f5
  obtain⟨o,e,c,d⟩:=id st'
  exact⟨u,rfl,yi0 (s:={s with heap:=h'}) e c d (by decide) ⟨x,H,I1,ru,⟨rfl,fun ys hy=>by rw[I.tuple_inj hy hq];exact hx⟩,st',fun b hb=>(hf b hb).1⟩⟩
 done:=by
  intro X hP hw hK hc i pins s σ H E I hf st hg
  subst hP hw hK
  obtain⟨xs,hq,hx⟩:=hg
  obtain⟨its,rv,p,hz⟩:=I.tuple hq
  obtain⟨f0,f1,f2,f3,f4,f5⟩:=hf it (by simp)
  have hl:=rv.length
  exact wpAny_pyNext_tuple_end (I.ok.hd hc) st (show s.heap.IsTuple a its.toArray from p) (by simp;omega) fun h' eb=>⟨rfl,I.turned (t':=s.toks) (fun b o hb e=>eb b o hb e) f0 f1 f3 f4 f5⟩
 self:=fun _ _ _ _ _ st h=>wpAny_pyIter_tupleiter st h
theorem yb1(it:Addr)(lo:Int)(n:Nat):ya9 P w K tg (Itr lo n) [it] it (fun i h=>IsRangeIter h it (lo+(i:Nat)*1) ((n:Int)-(i:Nat)) 1) where
 mem:=by simp
 obj:=fun i h st b hb=>by
  have e:b=it:=by simpa using hb
  subst e
  exact⟨_,st,fun v z=>by
   have z':Data.fields _=Data.cell v:=z
   cases z'⟩
 keep:=fun i h h' st k=>k it (by simp) _ st
 item:=by
  intro X hP hw hK hc i pins s σ H E I hf st hg
  subst hP hw hK
  obtain⟨f0,f1,f2,f3,f4,f5⟩:=hf it (by simp)
  have W:=Walks.range (prog:=X.prog) (w:=X.w) (I.ok.hd hc) it lo 1 n
  refine wpAny_with_toks (n:=1) I.tk (W.item i s _ _ hg st fun v h' tk hv st' kk ht=>?_)
  have ht:0<tk:=ht
  obtain⟨t,rfl⟩:=hv
  have I1:Inv X pins σ H {s with heap:=h',toks:=tk}:=I.turned (fun b o hb e=>kk b o (by simpa using hb) e) f0 f1 f3 f4 f5
  refine⟨_,rfl,yi0 (s:={s with heap:=h',toks:=tk}) (n := "range_iterator") st' rfl rfl (by decide) ⟨.int (lo+i),H,I1,⟨t,?_⟩,⟨rfl,rfl⟩,st',fun b hb=>(hf b hb).1⟩⟩
  rw[Int.mul_one]
 done:=by
  intro X hP hw hK hc i pins s σ H E I hf st hg
  subst hP hw hK
  obtain⟨f0,f1,f2,f3,f4,f5⟩:=hf it (by simp)
  exact wpAny_pyNext_range_end (I.ok.hd hc) st (by have:n<=i:=hg;omega) fun h' eb=>⟨rfl,I.turned (t':=s.toks) (fun b o hb e=>eb b o hb e) f0 f1 f3 f4 f5⟩
 self:=fun _ _ _ _ _ st h=>wpAny_pyIter_rangeiter st h
theorem xs9{R:It->Hp->Prop}{lo hi:Int}{t u v:Tok}{tk:Nat}(I:Inv X pins σ H s)(h1:-(2 ^ 62)<=lo)(h2:lo<2 ^ 62)(h3:-(2 ^ 62)<=hi)(h4:hi<2 ^ 62)(q:R (Itr lo (hi-lo).toNat) H)(ht:autoParam (0<tk) zAt):wpAny (model X.prog X.w) X.A (pyIter (.ref s.heap.objs.size)) (PIE X pins σ tg R) E {s with heap:=s.heap.push {cls:=.type "range",data:=.fields #[.int lo t,.int hi u,.int 1 v]},toks:=tk}:=by
 refine wpAny_pyIter_range (IsRange.new ..) (small_one h1 h2 h3 h4) ?_
 have I1:Inv X pins σ H {s with heap:=s.heap.push {cls:=.type "range",data:=.fields #[.int lo t,.int hi u,.int 1 v]},toks:=tk}:=I.kept fun b o e=>Heap.get?_push_of_some _ e
 refine⟨(s.heap.push {cls:=.type "range",data:=.fields #[.int lo t,.int hi u,.int 1 v]}).objs.size,[(s.heap.push {cls:=.type "range",data:=.fields #[.int lo t,.int hi u,.int 1 v]}).objs.size],_,_,H,rfl,
  I1.kept (t':=tk) fun b o e=>Heap.get?_push_of_some _ e,yb1 _ lo (hi-lo).toNat,?_,fun b hb=>?_,q⟩
 ·have e1:lo+((0:Nat):Int)*1=lo:=by simp
  have e2:(((hi-lo).toNat:Nat):Int)-((0:Nat):Int)=Builtin.Range.rangeSize lo hi 1:=by rw[rangeSize_one];split <;> omega
  show IsRangeIter _ _ (lo+((0:Nat):Int)*1) ((((hi-lo).toNat:Nat):Int)-((0:Nat):Int)) 1
  rw[e1,e2]
  exact Heap.get?_push_size _ rfl
 ·have e:b=(s.heap.push {cls:=.type "range",data:=.fields #[.int lo t,.int hi u,.int 1 v]}).objs.size:=by simpa using hb
  subst e
  exact I1.fpOk (Nat.le_refl _) (I1.hok.fresh (Nat.le_refl _))
def qm2(ta:TA):TI:=fun σ H R=>ta σ H fun vs H1=>∃ j:Int,vs=[.int j]/\-(2 ^ 62)<=j/\j<2 ^ 62/\R (Itr 0 j.toNat) H1
def yt7(ta:TA):TI:=fun σ H R=>ta σ H fun vs H1=>∃ i j:Int,vs=[.int i,.int j]/\(-(2 ^ 62)<=i/\i<2 ^ 62/\-(2 ^ 62)<=j/\j<2 ^ 62)/\R (Itr i (j-i).toNat) H1
theorem R3{a:Expr}{ta:TA}{p:Pos}(hg:Gl X "range")(hm:X.mg "range"=none)(ha:PA X [a] ta)(hs:autoParam (starEach [a] X.env=[(false,eval a X.env)]) zAr):PI X tg (.Call (.Name "range" p) [a] [] pos) (qm2 ta):=by
 intro pins s σ H R I h
 refine Call_ (qz2 I hg hm boot_range (PyProof.Rows.callWith_type1 (thn (ha pos pins s σ H _ I h) fun us s1 zq=>?_) hs rfl))
 obtain⟨vs,H1,I1,r1,q1⟩:=zq
 obtain⟨j,e,q1,q2,q⟩:=q1
 subst e
 cases r1 with
 | cons r rr =>
   cases rr
   obtain⟨t,rfl⟩:=r
   exact call_range_1 (xs9 I1 (by omega) (by omega) q1 q2 (by simpa using q))
theorem yn7{a b:Expr}{ta:TA}{p:Pos}(hg:Gl X "range")(hm:X.mg "range"=none)(ha:PA X [a,b] ta)(hs:autoParam (starEach [a,b] X.env=[(false,eval a X.env),(false,eval b X.env)]) zAr)(hs2:autoParam (starEach [b] X.env=[(false,eval b X.env)]) zAr) :
 PI X tg (.Call (.Name "range" p) [a,b] [] pos) (yt7 ta):=by
 intro pins s σ H R I h
 refine Call_ (qz2 I hg hm boot_range (PyProof.Rows.callWith_type1 (thn (ha pos pins s σ H _ I h) fun us s1 zq=>?_) (by rw[hs,hs2]) (by rw[hs2];rfl)))
 obtain⟨vs,H1,I1,r1,q1⟩:=zq
 obtain⟨i,j,e,⟨q1,q2,q3,q4⟩,q⟩:=q1
 subst e
 cases r1 with
 | cons r rr =>
   cases rr with
   | cons r' rr =>
     cases rr
     obtain⟨t,rfl⟩:=r
     obtain⟨t',rfl⟩:=r'
     exact call_range_2 (xs9 I1 q1 q2 q3 q4 q)
def qm3(wi:TI)(g:TG)(tb:TS):TS:=fun D σ H=>wi σ H fun J H1=>∃ W:Nat->Nat->St->Hp->Prop,(∃ m,W 0 m σ H1)/\∀ i m σ H,W i m σ H ->
 (J.stop i H/\D.nx σ H)\/(J.go i H/\∃ N:St->Hp->Prop,(∀ σ' H',N σ' H'->∃ m',m'<m/\W (i+1) m' σ' H')/\∀ x H',J.yld i H x H'->g x σ H' fun σ2 H2=>tb {D with nx:=N,ct:=N,bk:=D.nx} σ2 H2)
def wq7(fp:List Addr)(h:Heap):List (Addr×Obj):=fp.filterMap fun b=>(h.get? b).map fun o=>(b,o)
variable{fp:List Addr}
theorem qo2{o:Obj}(hb:b∈fp)(e:h.get? b=some o):(b,o)∈wq7 fp h:=List.mem_filterMap.mpr ⟨b,hb,by rw[e];rfl⟩
theorem yn8{p:Addr×Obj}(hp:p∈wq7 fp h):p.1∈fp/\h.get? p.1=some p.2:=by
 obtain⟨b,hb,e⟩:=List.mem_filterMap.mp hp
 cases q:h.get? b with
 | none=>rw[q] at e;cases e
 | some o =>
   rw[q] at e
   have e':(b,o)=p:=Option.some.inj e
   subst e'
   exact⟨hb,q⟩
theorem Inv.pinned(I:Inv X pins σ H s)(hf:∀ b∈fp,xb5 X pins H b)(ho:∀ b∈fp,∃ o,s.heap.get? b=some o/\∀ v,o.data≠.cell v):Inv X (pins++wq7 fp s.heap) σ H s :=
 I.pins_of fun p hp=>(List.mem_append.mp hp).elim (fun z=>I.pin p (List.mem_append_right _ z)) fun z=>by
  obtain⟨hb,e⟩:=yn8 z
  obtain⟨f0,f1,f2,_⟩:=hf p.1 hb
  obtain⟨o,e',d⟩:=ho p.1 hb
  rw[e] at e';cases e'
  exact⟨e,f0,f1,f2,d⟩
theorem Inv.unpinned{pl:List (Addr×Obj)}(I:Inv X (pins++pl) σ H s):Inv X pins σ H s:=I.pins_of fun p hp=>I.pin p (List.mem_append_right _ (List.mem_append_left _ hp))
variable{iter:Expr}{wi:TI}
theorem T2(hp:PassesOwn (model X.prog X.w) X.A X.env X.xe)(hc:X.calm=true)(hi:PI X tg iter wi)(hg:PG X tg g)(hb:PSs X body tb)(hs:autoParam (∀ x,foldedSetIterable iter X.env x=pure x) zAi):PS X (.For tg iter body [] pos) (qm3 wi g tb):=by
 intro pins s σ H D I h
 refine wpAny_For (thn (hi pins s σ H _ I h) fun v s1 h1=>thn h1 fun itv s2 h2=>?_) hs
 obtain⟨it,fp,tn,J,H2,e,I2,T,st2,f2,W,⟨m0,w0⟩,turn⟩:=h2
 subst e
 have stat:∀ {H':Hp},(∀ b∈fp,H' b=none)->∀ b∈fp,xb5 X pins H' b:=fun hn b hb=>⟨hn b hb,(f2 b hb).2⟩
 refine codeAny_forLoop_any (fun n s'=>∃ i σ' H',Inv X pins σ' H' s'/\tn i s'.heap/\(∀ b∈fp,H' b=none)/\W i n σ' H') ?_ m0 ⟨0,σ,H2,I2,st2,fun b hb=>(f2 b hb).1,w0⟩
 rintro n s3 ⟨i,σ3,H3,I3,st3,fr3,w3⟩
 rcases turn i n σ3 H3 w3 with⟨stop,qn⟩|⟨go,N,hN,step⟩
 ·refine wpAny_passesOwn hp (thn (T.done X rfl rfl rfl hc i pins s3 σ3 H3 X.xe I3 (stat fr3) st3 stop) fun r s4 zq=>?_)
  obtain⟨hr,I4⟩:=zq
  subst hr
  exact wpAny_execs_nil ⟨σ3,H3,I4,qn⟩
 ·refine wpAny_passesOwn hp (thn (T.item X rfl rfl rfl hc i pins s3 σ3 H3 X.xe I3 (stat fr3) st3 go) fun r s4 zq=>?_)
  obtain⟨u,hr,h4⟩:=zq
  subst hr
  refine wpAny_passesOwn hp (thn h4 fun _ s5 zq=>?_)
  obtain⟨x,H5,I5,r5,y5,st5,fr5⟩:=zq
  have I5':=I5.pinned (stat fr5) (T.obj _ _ st5)
  refine wpAny_passesOwn hp (thn (hg _ s5 σ3 H5 x u _ I5' r5 (step x H5 y5)) fun _ s6 zq=>?_)
  obtain⟨σ6,H6,I6,q6⟩:=zq
  refine wpAny_passesOwn hp (thn (hb _ s6 σ6 H6 _ I6 q6) fun f s7 q7=>?_)
  have again:∀ {σ7:St} {H7:Hp},Inv X (pins++wq7 fp s5.heap) σ7 H7 s7->N σ7 H7->∃ m,m<n/\∃ i σ' H',Inv X pins σ' H' s7/\tn i s7.heap/\(∀ b∈fp,H' b=none)/\W i m σ' H':=fun{σ7 H7} I7 n7=>by
   obtain⟨m',hm,w7⟩:=hN σ7 H7 n7
   refine⟨m',hm,i+1,σ7,H7,I7.unpinned,T.keep _ _ _ st5 fun b hb o e=>(I7.pin (b,o) (List.mem_append_right _ (List.mem_append_right _ (qo2 hb e)))).1,fun b hb=>?_,w7⟩
   obtain⟨o,e,d⟩:=T.obj _ _ st5 b hb
   exact(I7.pin (b,o) (List.mem_append_right _ (List.mem_append_right _ (qo2 hb e)))).2.1
  cases f with
  | next=>obtain⟨σ7,H7,I7,n7⟩:=q7;exact again I7 n7
  | cont=>obtain⟨σ7,H7,I7,n7⟩:=q7;exact again I7 n7
  | brk=>obtain⟨σ7,H7,I7,q7⟩:=q7;exact⟨σ7,H7,I7.unpinned,q7⟩
  | ret v=>obtain⟨x7,σ7,H7,I7,r7,q7⟩:=q7;exact⟨x7,σ7,H7,I7.unpinned,r7,q7⟩
abbrev PAt{α:Type}(P:Nat->α->Hp->Prop)(i:Nat):α->Hp->Prop:=P i
theorem wb2(Pv:Nat->St->Hp->Prop)(h0:Pv 0 σ H)(hl:∀ i σ H,i<=xs.length->Pv i σ H->SqL K H a xs)(hs:∀ i x σ H,xs[i]?=some x->Pv i σ H->g x σ H fun σ2 H2=>tb {D with nx:=PAt Pv (i+1),ct:=PAt Pv (i+1),bk:=D.nx} σ2 H2)(hd:∀ σ H,Pv xs.length σ H->D.nx σ H) :
 ∃ W:Nat->Nat->St->Hp->Prop,(∃ m,W 0 m σ H)/\∀ i m σ H,W i m σ H ->
  ((Itl K a).stop i H/\D.nx σ H)\/((Itl K a).go i H/\∃ N:St->Hp->Prop,(∀ σ' H',N σ' H'->∃ m',m'<m/\W (i+1) m' σ' H')/\∀ x H',(Itl K a).yld i H x H'->g x σ H' fun σ2 H2=>tb {D with nx:=N,ct:=N,bk:=D.nx} σ2 H2):=by
 refine⟨fun i m σ H=>m=xs.length-i/\i<=xs.length/\Pv i σ H,⟨xs.length,by simp,Nat.zero_le _,h0⟩,?_⟩
 rintro i m σ H ⟨rfl,hi,p⟩
 have q:=hl i σ H hi p
 by_cases hlt:i<xs.length
 ·refine .inr ⟨⟨xs,xs[i],q,by simp[hlt]⟩,Pv (i+1),fun σ' H' p'=>⟨xs.length-(i+1),by omega,rfl,hlt,p'⟩,fun x H' y=>?_⟩
  obtain⟨e,y⟩:=y
  subst e
  exact hs i x σ _ (y xs q) p
 ·have e:i=xs.length:=by omega
  subst e
  exact .inl ⟨⟨xs,q,Nat.le_refl _⟩,hd σ H p⟩
theorem yi1(Pv:Nat->St->Hp->Prop)(h0:Pv 0 σ H)(hl:∀ i σ H,i<=xs.length->Pv i σ H->SqT K H a xs)(hs:∀ i x σ H,xs[i]?=some x->Pv i σ H->g x σ H fun σ2 H2=>tb {D with nx:=PAt Pv (i+1),ct:=PAt Pv (i+1),bk:=D.nx} σ2 H2)(hd:∀ σ H,Pv xs.length σ H->D.nx σ H) :
 ∃ W:Nat->Nat->St->Hp->Prop,(∃ m,W 0 m σ H)/\∀ i m σ H,W i m σ H ->
  ((Itt K a).stop i H/\D.nx σ H)\/((Itt K a).go i H/\∃ N:St->Hp->Prop,(∀ σ' H',N σ' H'->∃ m',m'<m/\W (i+1) m' σ' H')/\∀ x H',(Itt K a).yld i H x H'->g x σ H' fun σ2 H2=>tb {D with nx:=N,ct:=N,bk:=D.nx} σ2 H2):=by
 refine⟨fun i m σ H=>m=xs.length-i/\i<=xs.length/\Pv i σ H,⟨xs.length,by simp,Nat.zero_le _,h0⟩,?_⟩
 rintro i m σ H ⟨rfl,hi,p⟩
 have q:=hl i σ H hi p
 by_cases hlt:i<xs.length
 ·refine .inr ⟨⟨xs,xs[i],q,by simp[hlt]⟩,Pv (i+1),fun σ' H' p'=>⟨xs.length-(i+1),by omega,rfl,hlt,p'⟩,fun x H' y=>?_⟩
  obtain⟨e,y⟩:=y
  subst e
  exact hs i x σ _ (y xs q) p
 ·have e:i=xs.length:=by omega
  subst e
  exact .inl ⟨⟨xs,q,Nat.le_refl _⟩,hd σ H p⟩
theorem yn9{lo:Int}(Pv:Nat->St->Hp->Prop)(h0:Pv 0 σ H)(hs:∀ i σ H,i<n->Pv i σ H->g (.int (lo+i)) σ H fun σ2 H2=>tb {D with nx:=PAt Pv (i+1),ct:=PAt Pv (i+1),bk:=D.nx} σ2 H2)(hd:∀ σ H,Pv n σ H->D.nx σ H) :
 ∃ W:Nat->Nat->St->Hp->Prop,(∃ m,W 0 m σ H)/\∀ i m σ H,W i m σ H ->
  ((Itr lo n).stop i H/\D.nx σ H)\/((Itr lo n).go i H/\∃ N:St->Hp->Prop,(∀ σ' H',N σ' H'->∃ m',m'<m/\W (i+1) m' σ' H')/\∀ x H',(Itr lo n).yld i H x H'->g x σ H' fun σ2 H2=>tb {D with nx:=N,ct:=N,bk:=D.nx} σ2 H2):=by
 refine⟨fun i m σ H=>m=n-i/\i<=n/\Pv i σ H,⟨n,by simp,Nat.zero_le _,h0⟩,?_⟩
 rintro i m σ H ⟨rfl,hi,p⟩
 by_cases hlt:i<n
 ·refine .inr ⟨hlt,Pv (i+1),fun σ' H' p'=>⟨n-(i+1),by omega,rfl,hlt,p'⟩,fun x H' y=>?_⟩
  obtain⟨e,y⟩:=y
  subst e y
  exact hs i σ _ hlt p
 ·have e:i=n:=by omega
  subst e
  exact .inl ⟨Nat.le_refl _,hd σ H p⟩
abbrev R2:=V->V->Hp->VK->Prop
def OpR(X:Cx)(f:Value->Value->Sem Value)(r:R2):Prop :=
 ∀ (pins:List (Addr×Obj)) (s:Shared) (σ:St) (H:Hp) (x y:V) (v u:Value) (Q:VK),Inv X pins σ H s->L6 x v->L6 y u->r x y H Q ->
  wpAny (model X.prog X.w) X.A (f v u) (EP X pins σ Q) X.xe s
def UnR(X:Cx)(f:Value->Sem Value)(r:V->Hp->VK->Prop):Prop :=
 ∀ (pins:List (Addr×Obj)) (s:Shared) (σ:St) (H:Hp) (x:V) (v:Value) (Q:VK),Inv X pins σ H s->L6 x v->r x H Q ->
  wpAny (model X.prog X.w) X.A (f v) (EP X pins σ Q) X.xe s
def W4(X:Cx)(f:Value)(r:List V->Hp->VK->Prop):Prop :=
 ∀ (pins:List (Addr×Obj)) (s:Shared) (σ:St) (H:Hp) (xs:List V) (us:List Value) (Q:VK),Inv X pins σ H s->G0 xs us->r xs H Q ->
  wpAny (model X.prog X.w) X.A (call f us) (EP X pins σ Q) X.xe s
def Ad7(X:Cx)(r:V->Hp->(Bool->Hp->Prop)->Prop):Prop :=
 ∀ (pins:List (Addr×Obj)) (s:Shared) (σ:St) (H:Hp) (x:V) (v:Value) (Q:Bool->Hp->Prop),Inv X pins σ H s->L6 x v->r x H Q ->
  wpAny (model X.prog X.w) X.A (truthy v) (TP X pins σ Q) X.xe s
def tOp(r:R2)(ta tb:TE):TE:=fun σ H Q=>ta σ H fun x H1=>tb σ H1 fun y H2=>r x y H2 Q
def tUn(r:V->Hp->VK->Prop)(ta:TE):TE:=fun σ H Q=>ta σ H fun x H1=>r x H1 Q
def rI(C:Int->Int->Prop)(g:Int->Int->V):R2:=fun x y H Q=>∃ i j,x=.int i/\y=.int j/\C i j/\Q (g i j) H
def rI0(g:Int->Int->V):R2:=fun x y H Q=>∃ i j,x=.int i/\y=.int j/\Q (g i j) H
def rU(g:Int->V):V->Hp->VK->Prop:=fun x H Q=>∃ i,x=.int i/\Q (g i) H
variable{tc:TE}{f:Value->Value->Sem Value}{i j:Int}
section
variable{a b:Expr}{tb:TE}
theorem zo8(ha:PE X a ta)(hb:PE X b tb){R:V->V->Hp->Prop}(I:Inv X pins σ H s)(h:ta σ H fun x H1=>tb σ H1 fun y H2=>R x y H2)(hf:∀ v u s2 x y H2,Inv X pins σ H2 s2->L6 x v->L6 y u->R x y H2->wpAny (model X.prog X.w) X.A (f v u) Q X.xe s2) :
 wpAny (model X.prog X.w) X.A (eval a X.env) (fun v s₁=>wpAny (model X.prog X.w) X.A (eval b X.env) (fun u s₂=>wpAny (model X.prog X.w) X.A (f v u) Q X.xe s₂) X.xe s₁) X.xe s:=by
 refine thn (ha pins s σ H _ I h) fun v s1 zq=>?_
 obtain⟨x,H1,I1,r1,q1⟩:=zq
 refine thn (hb pins s1 σ H1 _ I1 q1) fun u s2 zq=>?_
 obtain⟨y,H2,I2,r2,q2⟩:=zq
 exact hf v u s2 x y H2 I2 r1 r2 q2
theorem D6{op:Operator}{r:R2}(ho:OpR X (binaryOp op) r)(ha:PE X a ta)(hb:PE X b tb):PE X (.BinOp a op b pos) (tOp r ta tb):=by
 intro pins s σ H Q I h
 exact wpAny_BinOp (zo8 ha hb I h fun v u s2 x y H2 I2 rx ry q=>ho pins s2 σ H2 x y v u Q I2 rx ry q)
theorem Q9{op:UnaryOp}{r:V->Hp->VK->Prop}(ho:UnR X (unaryOp op) r)(ha:PE X a ta):PE X (.UnaryOp op a pos) (tUn r ta):=by
 intro pins s σ H Q I h
 exact UnaryOp_ (thn (ha pins s σ H _ I h) fun v s1 ⟨x,H1,I1,r1,q1⟩=>ho pins s1 σ H1 x v Q I1 r1 q1)
theorem opI{C:Int->Int->Prop}{g:Int->Int->Int}(rule:∀ (i j:Int) (t u:Tok) (s:Shared) (Q:Value->Shared->Prop) (E:Value->Shared->Prop),C i j->Q (.int (g i j) s.toks) {s with toks:=s.toks+1}->wpAny (model X.prog X.w) X.A (f (.int i t) (.int j u)) Q E s) :
 OpR X f (rI C fun i j=>.int (g i j)):=by
 intro pins s σ H x y v u Q I rx ry h
 obtain⟨i,j,rfl,rfl,hc,q⟩:=h
 obtain⟨t,rfl⟩:=rx
 obtain⟨t',rfl⟩:=ry
 exact rule i j t t' s _ _ hc ⟨.int (g i j),H,I.tok _,⟨_,rfl⟩,q⟩
theorem zx3{g:Int->Int->Int}(rule:∀ (i j:Int) (t u:Tok) (s:Shared) (Q:Value->Shared->Prop) (E:Value->Shared->Prop),Q (.int (g i j) s.toks) {s with toks:=s.toks+1}->wpAny (model X.prog X.w) X.A (f (.int i t) (.int j u)) Q E s) :
 OpR X f (rI0 fun i j=>.int (g i j)):=by
 intro pins s σ H x y v u Q I rx ry h
 obtain⟨i,j,rfl,rfl,q⟩:=h
 obtain⟨t,rfl⟩:=rx
 obtain⟨t',rfl⟩:=ry
 exact rule i j t t' s _ _ ⟨.int (g i j),H,I.tok _,⟨_,rfl⟩,q⟩
theorem ze5{g:Int->Int->Bool}(rule:∀ (i j:Int) (t u:Tok) (s:Shared) (Q:Value->Shared->Prop) (E:Value->Shared->Prop),Q (.bool (g i j)) s->wpAny (model X.prog X.w) X.A (f (.int i t) (.int j u)) Q E s) :
 OpR X f (rI0 fun i j=>.bl (g i j)):=by
 intro pins s σ H x y v u Q I rx ry h
 obtain⟨i,j,rfl,rfl,q⟩:=h
 obtain⟨t,rfl⟩:=rx
 obtain⟨t',rfl⟩:=ry
 exact rule i j t t' s _ _ ⟨.bl (g i j),H,I,rfl,q⟩
def xm0(i j:Int):Prop:=0<j/\j<1073741824
def zx4(i j:Int):Prop:=0<=j/\j<=1000000/\i.natAbs<2 ^ 64
def yt8(i j:Int):Prop:=(-(2 ^ 64)<i/\i<2 ^ 64)\/(-(2 ^ 64)<j/\j<2 ^ 64)
theorem yt8.ok(h:yt8 i j):IntMulOk i j:=by
 rcases h with⟨h1,h2⟩|⟨h1,h2⟩
 ·exact .of_left (intBits_le_64 h1 h2)
 ·exact .of_right (intBits_le_64 h1 h2)
theorem zo9:OpR X (binaryOp .Add) (rI0 fun i j=>.int (i+j)):=zx3 fun _ _ _ _ _ _ _ q=>add_int q
theorem ql4:OpR X (binaryOp .Sub) (rI0 fun i j=>.int (i-j)):=zx3 fun _ _ _ _ _ _ _ q=>sub_int q
theorem zp0:OpR X (binaryOp .Mult) (rI yt8 fun i j=>.int (i*j)):=opI fun _ _ _ _ _ _ _ hc q=>mul_int q hc.ok
theorem qw0:OpR X (binaryOp .FloorDiv) (rI xm0 fun i j=>.int (i / j)):=opI fun i j _ _ _ _ _ hc q=>by
 have h1:(0:Int)<j:=hc.1
 have h2:j<1073741824:=hc.2
 exact floordiv_int (by omega) (by rw[Int.fdiv_eq_ediv_of_nonneg i (by omega)];exact q) (.inl (PyProof.noPylong_small (by omega)))
theorem qb9:OpR X (binaryOp .Mod) (rI (fun _ j=>0<j) fun i j=>.int (i % j)):=opI fun i j _ _ _ _ _ hc q=>by
 have h1:(0:Int)<j:=hc
 exact mod_int' (by omega) (by rw[Int.fmod_eq_emod_of_nonneg i (by omega)];exact q)
theorem zp1:OpR X (binaryOp .Pow) (rI zx4 fun i j=>.int (i ^ j.toNat)):=opI fun _ _ _ _ _ _ _ hc q=>pow_int_small hc.1 hc.2.1 hc.2.2 q
theorem unI{f:Value->Sem Value}{g:Int->Int}(rule:∀ (i:Int) (t:Tok) (s:Shared) (Q:Value->Shared->Prop) (E:Value->Shared->Prop),Q (.int (g i) s.toks) {s with toks:=s.toks+1}->wpAny (model X.prog X.w) X.A (f (.int i t)) Q E s) :
 UnR X f (rU fun i=>.int (g i)):=by
 intro pins s σ H x v Q I rx h
 obtain⟨i,rfl,q⟩:=h
 obtain⟨t,rfl⟩:=rx
 exact rule i t s _ _ ⟨.int (g i),H,I.tok _,⟨_,rfl⟩,q⟩
theorem N4:UnR X (unaryOp .USub) (rU fun i=>.int (-i)):=unI fun _ _ _ _ _ q=>neg_int q
end
def ze6:V->V->Bool
 | .non,.non=>true | .non,.int _=>true | .int _,.non=>true | .non,.bl _=>true | .bl _,.non=>true | .non,.str _=>true | .str _,.non=>true
 | .int _,.int _=>true | .bl _,.bl _=>true | .str _,.str _=>true | .byt _,.byt _=>true
 | .int _,.str _=>true | .str _,.int _=>true | .bl _,.str _=>true | .str _,.bl _=>true
 | _,_=>false
def rEq:R2:=fun x y H Q=>ze6 x y=true/\Q (.bl (decide (x=y))) H
def rNe:R2:=fun x y H Q=>ze6 x y=true/\Q (.bl (!decide (x=y))) H
theorem yi2:decide (V.int i=V.int j)=(i == j):=by
 rw[Bool.eq_iff_iff]
 simp
theorem yt9{i j:Bool}:decide (V.bl i=V.bl j)=(i == j):=by
 rw[Bool.eq_iff_iff]
 simp
theorem yi3{i j:Str}:decide (V.str i=V.str j)=(i == j):=by
 rw[Bool.eq_iff_iff]
 simp
theorem yi4{i j:Array UInt8}:decide (V.byt i=V.byt j)=(i.toList == j.toList):=by
 rw[Bool.eq_iff_iff]
 cases i
 cases j
 simp
variable{op:CmpOp}{κ:Type}{its:List Value}
section
variable{a b:Expr}{tb:TE}
theorem M2{Q:VK}{k k':Bool}(I:Inv X pins σ H s)(q:Q (.bl k) H)(e:k=k'):EP X pins σ Q (.bool k') s:=by
 subst e
 exact⟨.bl k,H,I,rfl,q⟩
theorem zx5:OpR X (compareOp .Eq) rEq:=by
 intro pins s σ H x y v u Q I rx ry h
 obtain⟨hs,q⟩:=h
 cases x with
 | non =>
   cases rx
   cases y with
   | non=>cases ry;exact PySem.EqNone.eq_none_none (M2 I q (by simp))
   | bl j=>cases ry;exact PySem.EqNone.eq_none_bool (M2 I q (by simp))
   | int j=>obtain⟨t',rfl⟩:=ry;exact PySem.EqNone.eq_none_int (M2 I q (by simp))
   | str j=>obtain⟨t',rfl⟩:=ry;exact PySem.EqNone.eq_none_str (M2 I q (by simp))
   | _=>exact absurd (show false=true from hs) Bool.false_ne_true
 | bl i =>
   cases rx
   cases y with
   | non=>cases ry;exact PySem.EqNone.eq_bool_none (M2 I q (by simp))
   | bl j=>cases ry;exact eq_bool (M2 I q yt9)
   | str j=>obtain⟨t',rfl⟩:=ry;exact PySem.EqMixed.eq_bool_str (M2 I q (by simp))
   | _=>exact absurd (show false=true from hs) Bool.false_ne_true
 | int i =>
   obtain⟨t,rfl⟩:=rx
   cases y with
   | non=>cases ry;exact PySem.EqNone.eq_int_none (M2 I q (by simp))
   | int j=>obtain⟨t',rfl⟩:=ry;exact eq_int (M2 I q yi2)
   | str j=>obtain⟨t',rfl⟩:=ry;exact PySem.EqMixed.eq_int_str (M2 I q (by simp))
   | _=>exact absurd (show false=true from hs) Bool.false_ne_true
 | str i =>
   obtain⟨t,rfl⟩:=rx
   cases y with
   | non=>cases ry;exact PySem.EqNone.eq_str_none (M2 I q (by simp))
   | bl j=>cases ry;exact PySem.EqMixed.eq_str_bool (M2 I q (by simp))
   | int j=>obtain⟨t',rfl⟩:=ry;exact PySem.EqMixed.eq_str_int (M2 I q (by simp))
   | str j=>obtain⟨t',rfl⟩:=ry;exact eq_str (M2 I q yi3)
   | _=>exact absurd (show false=true from hs) Bool.false_ne_true
 | byt i =>
   obtain⟨t,rfl⟩:=rx
   cases y with
   | byt j=>obtain⟨t',rfl⟩:=ry;exact PySem.W.eq_bytes (M2 I q yi4)
   | _=>exact absurd (show false=true from hs) Bool.false_ne_true
 | _=>cases y <;> exact absurd (show false=true from hs) Bool.false_ne_true
theorem zx6:OpR X (compareOp .NotEq) rNe:=by
 intro pins s σ H x y v u Q I rx ry h
 obtain⟨hs,q⟩:=h
 cases x with
 | non =>
   cases rx
   cases y with
   | non=>cases ry;exact PySem.EqNone.ne_none_none (M2 I q (by simp))
   | bl j=>cases ry;exact PySem.EqNone.ne_none_bool (M2 I q (by simp))
   | int j=>obtain⟨t',rfl⟩:=ry;exact PySem.EqNone.ne_none_int (M2 I q (by simp))
   | str j=>obtain⟨t',rfl⟩:=ry;exact PySem.EqNone.ne_none_str (M2 I q (by simp))
   | _=>exact absurd (show false=true from hs) Bool.false_ne_true
 | bl i =>
   cases rx
   cases y with
   | non=>cases ry;exact PySem.EqNone.ne_bool_none (M2 I q (by simp))
   | bl j=>cases ry;exact ne_bool (M2 I q (congrArg not yt9))
   | str j=>obtain⟨t',rfl⟩:=ry;exact PySem.EqMixed.ne_bool_str (M2 I q (by simp))
   | _=>exact absurd (show false=true from hs) Bool.false_ne_true
 | int i =>
   obtain⟨t,rfl⟩:=rx
   cases y with
   | non=>cases ry;exact PySem.EqNone.ne_int_none (M2 I q (by simp))
   | int j=>obtain⟨t',rfl⟩:=ry;exact ne_int (M2 I q (congrArg not yi2))
   | str j=>obtain⟨t',rfl⟩:=ry;exact PySem.EqMixed.ne_int_str (M2 I q (by simp))
   | _=>exact absurd (show false=true from hs) Bool.false_ne_true
 | str i =>
   obtain⟨t,rfl⟩:=rx
   cases y with
   | non=>cases ry;exact PySem.EqNone.ne_str_none (M2 I q (by simp))
   | bl j=>cases ry;exact PySem.EqMixed.ne_str_bool (M2 I q (by simp))
   | int j=>obtain⟨t',rfl⟩:=ry;exact PySem.EqMixed.ne_str_int (M2 I q (by simp))
   | str j=>obtain⟨t',rfl⟩:=ry;exact ne_str (M2 I q (congrArg not yi3))
   | _=>exact absurd (show false=true from hs) Bool.false_ne_true
 | byt i =>
   obtain⟨t,rfl⟩:=rx
   cases y with
   | byt j=>obtain⟨t',rfl⟩:=ry;exact PySem.W.ne_bytes (M2 I q (congrArg not yi4))
   | _=>exact absurd (show false=true from hs) Bool.false_ne_true
 | _=>cases y <;> exact absurd (show false=true from hs) Bool.false_ne_true
theorem zx7:OpR X (compareOp .Lt) (rI0 fun i j=>.bl (decide (i<j))):=ze5 fun _ _ _ _ _ _ _ q=>lt_int q
theorem zx8:OpR X (compareOp .LtE) (rI0 fun i j=>.bl (decide (i<=j))):=ze5 fun _ _ _ _ _ _ _ q=>le_int q
theorem zx9:OpR X (compareOp .Gt) (rI0 fun i j=>.bl (decide (j<i))):=ze5 fun _ _ _ _ _ _ _ q=>gt_int q
theorem zy0:OpR X (compareOp .GtE) (rI0 fun i j=>.bl (decide (j<=i))):=ze5 fun _ _ _ _ _ _ _ q=>ge_int q
theorem yo0:OpR X (compareOp .Lt) (fun x y H Q=>∃ i j,x=.str i/\y=.str j/\Q (.bl (decide (i.cps.toList<j.cps.toList))) H):=by
 intro pins s σ H x y v u Q I rx ry h
 obtain⟨i,j,rfl,rfl,q⟩:=h
 obtain⟨t,rfl⟩:=rx
 obtain⟨t',rfl⟩:=ry
 exact lt_str (M2 I q rfl)
theorem yo1:OpR X (compareOp .In) (fun x y H Q=>∃ i j,x=.str i/\y=.str j/\Q (.bl (!(Builtin.Str.occurrences j i 0 j.length 1).isEmpty)) H):=by
 intro pins s σ H x y v u Q I rx ry h
 obtain⟨i,j,rfl,rfl,q⟩:=h
 obtain⟨t,rfl⟩:=rx
 obtain⟨t',rfl⟩:=ry
 exact in_str (M2 I q rfl)
theorem zp2:OpR X (compareOp .Is) (fun x y H Q=>y=.non/\Q (.bl (decide (x=.non))) H):=by
 intro pins s σ H x y v u Q I rx ry h
 obtain⟨rfl,q⟩:=h
 cases ry
 refine is_none_gen (M2 I q ?_)
 cases x <;> first
  | (cases rx;rfl)
  | (obtain⟨t,rfl⟩:=rx;rfl)
theorem ze7:OpR X (compareOp .IsNot) (fun x y H Q=>y=.non/\Q (.bl (!decide (x=.non))) H):=by
 intro pins s σ H x y v u Q I rx ry h
 obtain⟨rfl,q⟩:=h
 cases ry
 refine isnot_none_gen (M2 I q ?_)
 cases x <;> first
  | (cases rx;rfl)
  | (obtain⟨t,rfl⟩:=rx;rfl)
theorem OpR.or{r r':R2}(h:OpR X f r)(h':OpR X f r'):OpR X f (fun x y H Q=>r x y H Q\/r' x y H Q):=by
 intro pins s σ H x y v u Q I rx ry q
 rcases q with q|q
 ·exact h pins s σ H x y v u Q I rx ry q
 ·exact h' pins s σ H x y v u Q I rx ry q
theorem C5(b:Expr)(h:autoParam (op≠.In) zAd)(h2:autoParam (op≠.NotIn) zAd):behindInMarks op b=false:=by
 have e1:(op == CmpOp.In)=false:=by cases op <;> first|rfl|exact absurd rfl h
 have e2:(op == CmpOp.NotIn)=false:=by cases op <;> first|rfl|exact absurd rfl h2
 cases b <;> simp[behindInMarks,e1,e2]
theorem qw1{r:R2}(ho:OpR X (compareOp op) r)(ha:PE X a ta)(hb:PE X b tb)(hm:behindInMarks op b=false):PE X (.Compare a [op] [b] pos) (tOp r ta tb):=by
 intro pins s σ H Q I h
 exact wpAny_Compare1 (zo8 ha hb I h fun v u s2 x y H2 I2 rx ry q=>ho pins s2 σ H2 x y v u Q I2 rx ry q) hm
def D7(t:TE):TT:=fun σ H Q=>t σ H fun x H'=>∃ k,x=.bl k/\Q k H'
theorem B7{r:R2}(ho:OpR X (compareOp op) r)(ha:PE X a ta)(hb:PE X b tb)(hm:behindInMarks op b=false):PT X (.Compare a [op] [b] pos) (D7 (tOp r ta tb)):=by
 intro pins s σ H Q I h
 refine wpAny_isTrue_Compare1 (thn (ha pins s σ H _ I h) fun v s1 ⟨x,H1,I1,r1,q1⟩=>thn (hb pins s1 σ H1 _ I1 q1) fun u s2 ⟨y,H2,I2,r2,q2⟩ =>
  thn (ho pins s2 σ H2 x y v u _ I2 r1 r2 q2) fun c s3 ⟨z,H3,I3,r3,k,e,q3⟩=>?_) hm
 subst e
 cases r3
 exact wpAny_truthy_bool ⟨H3,I3,q3⟩
def wf7(r r':R2)(ta tb tc:TE):TE:=fun σ H Q=>ta σ H fun x H1=>tb σ H1 fun y H2=>r x y H2 fun z H3=>∃ k,z=.bl k /\
 (if k=true then tc σ H3 fun w' H4=>r' y w' H4 Q else Q (.bl false) H3)
theorem wb3{op':CmpOp}{r r':R2}(ho:OpR X (compareOp op) r)(ho':OpR X (compareOp op') r')(ha:PE X a ta)(hb:PE X b tb)(hc:PE X c tc)(hm:lastMarks [op,op'] [b,c]=false:=by with_unfolding_all rfl):PT X (.Compare a [op,op'] [b,c] pos) (D7 (wf7 r r' ta tb tc)):=by
 intro pins s σ H Q I h
 refine isTrue_chain (thn (ha pins s σ H _ I h) fun v s1 ⟨x,H1,I1,r1,q1⟩=>test_link (thn (hb pins s1 σ H1 _ I1 q1) fun u s2 ⟨y,H2,I2,r2,q2⟩ =>
  thn (ho pins s2 σ H2 x y v u _ I2 r1 r2 q2) fun d s3 ⟨z,H3,I3,r3,k,e,q3⟩=>?_)) hm
 subst e
 cases r3
 refine wpAny_truthy_bool ?_
 cases k with
 | false =>
   obtain⟨k',e',q'⟩:=q3
   cases e'
   exact ite_ff ⟨H3,I3,q'⟩
 | true =>
   refine ite_tt (test_last (thn (hc pins s3 σ H3 _ I3 q3) fun w' s4 ⟨z',H4,I4,r4,q4⟩=>thn (ho' pins s4 σ H4 y z' u w' _ I4 r2 r4 q4) fun d' s5 zq=>?_))
   obtain⟨z2,H5,I5,r5,k2,e2,q5⟩:=zq
   subst e2
   cases r5
   exact wpAny_truthy_bool ⟨H5,I5,q5⟩
def zp3(K:Fg)(x:V)(H:Hp)(k:Bool):Prop :=
 match x with
 | .non=>k=false
 | .bl b=>k=b
 | .int i=>k=(i != 0)
 | .str y=>y.length<=sizeLine/\k=((y.length:Int) != 0)
 | .byt y=>y.size<=sizeLine/\k=((y.size:Int) != 0)
 | .ref p=>(∃ xs,SqL K H p xs/\k=!xs.isEmpty)\/(∃ xs,SqT K H p xs/\k=!xs.isEmpty)\/∃ kvs,H p=some (.dK kvs)/\k=!kvs.isEmpty
 | _=>False
theorem yb2{kvs:List (κ×V)}{vs:List (κ×Value)}(r:KV kvs vs):(!vs.isEmpty)=!kvs.isEmpty:=by
 cases r <;> rfl
theorem wq8(r:G0 xs its):(!its.toArray.isEmpty)=!xs.isEmpty:=by
 cases r <;> simp
theorem qz4:(sizeLine:Nat)<2 ^ 63:=by rw[sizeLine_eq];decide
theorem zp4:Ad7 X (fun x H Q=>∃ k,zp3 X.K x H k/\Q k H):=by
 intro pins s σ H x v Q I rx h
 obtain⟨k,e,q⟩:=h
 have hl:=qz4
 have hs:sizeLine=16777216:=sizeLine_eq
 cases x with
 | non =>
   cases rx
   have e':k=false:=e
   subst e'
   exact truthy_none ⟨H,I,q⟩
 | bl b =>
   cases rx
   have e':k=b:=e
   subst e'
   exact wpAny_truthy_bool ⟨H,I,q⟩
 | int i =>
   obtain⟨t,rfl⟩:=rx
   have e':k=(i != 0):=e
   subst e'
   exact PySem.P.truthy_int ⟨H,I,q⟩
 | str y =>
   obtain⟨t,rfl⟩:=rx
   obtain⟨hy,e'⟩:y.length<=sizeLine/\k=((y.length:Int) != 0):=e
   subst e'
   exact PySem.P.truthy_str (by omega) ⟨H,I.tok _,q⟩
 | byt y =>
   obtain⟨t,rfl⟩:=rx
   obtain⟨hy,e'⟩:y.size<=sizeLine/\k=((y.size:Int) != 0):=e
   subst e'
   exact PySem.W.truthy_bytes (by omega) ⟨H,I.tok _,q⟩
 | ref p =>
   cases rx
   have e':(∃ xs,SqL X.K H p xs/\k=!xs.isEmpty)\/(∃ xs,SqT X.K H p xs/\k=!xs.isEmpty)\/∃ kvs,H p=some (.dK kvs)/\k=!kvs.isEmpty:=e
   rcases e' with⟨xs,hx,e'⟩|⟨xs,hx,e'⟩|⟨kvs,hx,e'⟩
   ·subst e'
    obtain⟨its,r,pl,hz⟩:=I.list hx
    have hlen:=r.length
    exact wpAny_truthy_list pl.isList (by simp only[List.size_toArray];omega) ⟨H,I.tok _,by rw[wq8 r];exact q⟩
   ·subst e'
    obtain⟨its,r,pl,hz⟩:=I.tuple hx
    have hlen:=r.length
    exact truthy_tuple pl (by simp only[List.size_toArray];omega) ⟨H,I.tok _,by rw[wq8 r];exact q⟩
   ·subst e'
    obtain⟨hz,hS,vs,r,m⟩:kvs.length<=sizeLine/\(p == sysModules)=false/\∃ vs,KV kvs vs/\s.heap.DictOf (Q5 X.prog X.w) p vs:=I.hok p _ hx
    have hlen:kvs.length=vs.length:=Paired.length r
    exact wpAny_truthy_dict hS m (by omega) ⟨H,I.tok _,by rw[yb2 r];exact q⟩
 | _=>exact(show False from e).elim
theorem yb3:OpR X (binaryOp .Add) (fun x y H Q=>∃ i j,x=.str i/\y=.str j/\i.length+j.length<=sizeLine/\Q (.str (i++j)) H):=by
 intro pins s σ H x y v u Q I rx ry h
 obtain⟨i,j,rfl,rfl,hz,q⟩:=h
 obtain⟨t,rfl⟩:=rx
 obtain⟨t',rfl⟩:=ry
 exact wpAny_with_toks (n:=1) I.tk (add_str (fun t' tk ht=>⟨.str (i++j),H,I.tok _ ht,⟨_,rfl⟩,q⟩) hz)
theorem qr8{x:V}(r:G0 [x] us):∃ u,us=[u]/\L6 x u:=by
 cases r with
 | cons r1 r2=>cases r2;exact⟨_,rfl,r1⟩
theorem xt0{x:V}(r:G0 [x,y] us):∃ u w',us=[u,w']/\L6 x u/\L6 y w':=by
 cases r with
 | cons r1 r2 =>
   cases r2 with
   | cons r3 r4=>cases r4;exact⟨_,_,rfl,r1,r3⟩
theorem yo2:W4 X (.type "int") (fun xs H Q=>(∃ i,xs=[.int i]/\Q (.int i) H)\/∃ k,xs=[.bl k]/\Q (.int (if k then 1 else 0)) H):=by
 intro pins s σ H xs us Q I r h
 rcases h with⟨i,rfl,q⟩|⟨k,rfl,q⟩
 ·obtain⟨u,rfl,t,rfl⟩:=qr8 r
  exact call_int_int ⟨.int i,H,I,⟨_,rfl⟩,q⟩
 ·obtain⟨u,rfl,r1⟩:=qr8 r
  cases r1
  exact call_int_bool ⟨.int (if k then 1 else 0),H,I.tok _,⟨_,rfl⟩,q⟩
end
structure zp5(h:Heap)(x dx C:Addr)(mA:Str->Option Value):Prop where
 obj:h.get? x=some (PySem.W.instObj C dx)
 ns:h.Ns1 dx mA
 ne:dx≠x
variable{dx:Addr}{mA:Str->Option Value}
theorem yo3(n:h.Ns1 dx mA):∃ od,h.get? dx=some od/\∀ name,PySem.W.lookIn name od=some (mA name):=by
 obtain⟨o,es,ep,ho,hd,hk,_,hm⟩:=n
 refine⟨o,ho,fun name=>?_⟩
 have e:=hm name
 unfold nsFind findBy at e
 rw[<-Array.find?_toList] at e
 unfold PySem.W.lookIn
 rw[hd]
 dsimp only
 split
 ·rename_i y q
  rw[q] at e
  exact congrArg some e
 ·rename_i q
  rw[q] at e
  have a:es.toList.any (·.refKey)=false:=by
   rw[List.any_eq_false]
   intro y hy
   obtain⟨z,t,hkey⟩:=hk y (Array.mem_toList_iff.mp hy)
   simp[DictEntry.refKey,hkey]
  have a':¬es.toList.any (·.refKey)=true:=by rw[a];exact Bool.false_ne_true
  rw[if_neg a']
  exact congrArg some e
variable{C:Addr}
theorem zp5.look{x:Addr}(I:zp5 h x dx C mA):∃ od,PySem.W.InstAt h x (PySem.W.instObj C dx) C (some od)/\∀ name,PySem.W.lookIn name od=some (mA name) :=
 let ⟨od,ho,hl⟩:=yo3 I.ns
 ⟨od,⟨I.obj,rfl,rfl,ho⟩,hl⟩
theorem qx5.some_of{o:Option Value}(r:qx5 (some v) o):∃ u,o=some u/\L6 v u:=by
 cases o with
 | none=>exact(show False from r).elim
 | some u=>exact⟨u,rfl,r⟩
theorem yo4(r:L6 v u):PySem.W.handedIn u=true:=by
 cases v with
 | non=>cases (show u=Value.none from r);rfl
 | bl b=>cases (show u=Value.bool b from r);rfl
 | int i=>obtain⟨t,e⟩:=(show ∃ t,u=Value.int i t from r);cases e;rfl
 | str x=>obtain⟨t,e⟩:=(show ∃ t,u=Value.str x t from r);cases e;rfl
 | byt b=>obtain⟨t,e⟩:=(show ∃ t,u=Value.bytes b t from r);cases e;rfl
 | flt b=>obtain⟨t,e⟩:=(show ∃ t,u=Value.float b t from r);cases e;rfl
 | ref a=>cases (show u=Value.ref a from r);rfl
 | ty n=>cases (show u=Value.type n from r);rfl
section
variable{fs fs':List (Str×V)}
theorem ze8(hok:HOk P w H h)(e:H a=some (.ins C dx fs)):∃ mA,zp5 h a dx C mA/\(∀ f,qx5 (fs.lookup f) (mA f))/\PySem.Within mA (fs.map (·.1))/\fs.length<=1000/\H dx=some (.own a):=by
 obtain⟨d,z,ne,ob,mA,n,r,q⟩:=(show O5 P w H h a (.ins C dx fs) from hok a _ e)
 exact⟨mA,⟨ob,n,ne⟩,r,q,z,d⟩
end
structure Cls(K:Fg)(C:Addr):Prop where
 pg:PySem.W.plainGet K C Str.empty=true
 hd:PySem.W.hasDictIn K C=true
 po:PySem.W.plainOver K C=true
 sa:PySem.W.findIn K (.ref C) "__setattr__"=some (some (.builtin "object.__setattr__"))
theorem Cls.get(c:Cls K C)(f:Str):PySem.W.plainGet K C f=true:=c.pg
variable{env:Env}{prog:Program}
section
variable{fs:List (Str×V)}{f:Str}
theorem ze9{f:Str}(hb:attributeBase e f env (eval e env)=eval e env)(h:wpAny (model prog w) A (eval e env) (fun o s₁=>wpAny (model prog w) A (getAttr o f true) Q E s₁) E s):wpAny (model prog w) A (eval (.Attribute e f pos) env) Q E s :=
 Attribute_any_ h (by rw[arm_eval_Attribute,hb])
end
section
variable{c:Value}{b:Bool}
inductive wb4(K:Fg)(H:Hp):V->Value->Prop where
 | non:wb4 K H .non (.type "NoneType")
 | bl (x:Bool):wb4 K H (.bl x) (.type "bool")
 | int (i:Int):wb4 K H (.int i) (.type "int")
 | str (x:Str):wb4 K H (.str x) (.type "str")
 | flt (x:UInt64):wb4 K H (.flt x) (.type "float")
 | lst {a:Addr} {xs:List V} (e:H a=some (.lst xs)):wb4 K H (.ref a) (.type "list")
 | frz {a:Addr} {o:Obj} {xs:List V} (e:H a=some (.frz o (.lst xs))):wb4 K H (.ref a) (.type "list")
 | tup {a:Addr} {xs:List V} (e:H a=some (.tup xs)):wb4 K H (.ref a) (.type "tuple")
 | dK {a:Addr} {kvs:List (Key×V)} (e:H a=some (.dK kvs)):wb4 K H (.ref a) (.type "dict")
 | dT {a:Addr} {kvs:List (List Key×V)} (e:H a=some (.dT kvs)):wb4 K H (.ref a) (.type "dict")
 | ins {a C dx:Addr} {fs:List (Str×V)} (e:H a=some (.ins C dx fs)) (cl:Cls K C) (ha:PySem.W.findIn K (.ref C) "__class__"=some (some (.builtin "object.__class__")))
  (hn:PySem.W.specialIn K (.builtin "object.__class__") "__get__"=some (some (.builtin "getset_descriptor.__get__"))) (htk:PySem.W.takesIn K (.builtin "object.__class__")=some true)
  (hm:PySem.W.mroIn K C (.type "object")=some true):wb4 K H (.ref a) (.ref C)
theorem yo5{x:V}{t:Value}(I:Inv X pins σ H s)(rx:L6 x u)(ty:wb4 X.K H x t)(e:PySem.W.kitOne X.K t c=some b)(h:∀ tk,Q (.bool b) {s with toks:=tk}) :
 wpAny (model X.prog X.w) A (call (.builtin "isinstance") [u,c]) Q E s:=by
 cases ty with
 | non=>cases (show u=Value.none from rx);exact PySem.W.kia_one PySem.W.kitx_none I.kIn True.intro e (fun z=>nomatch z) h
 | bl y=>cases (show u=Value.bool y from rx);exact PySem.W.kia_one PySem.W.kitx_bool I.kIn True.intro e (fun z=>nomatch z) h
 | int i=>obtain⟨t,q⟩:=(show ∃ t,u=Value.int i t from rx);cases q;exact PySem.W.kia_one PySem.W.kitx_int I.kIn True.intro e (fun z=>nomatch z) h
 | str y=>obtain⟨t,q⟩:=(show ∃ t,u=Value.str y t from rx);cases q;exact PySem.W.kia_one PySem.W.kitx_str I.kIn True.intro e (fun z=>nomatch z) h
 | flt y=>obtain⟨t,q⟩:=(show ∃ t,u=Value.float y t from rx);cases q;exact PySem.W.kia_one PySem.W.kitx_float I.kIn True.intro e (fun z=>nomatch z) h
 | @lst a xs ea =>
   cases (show u=Value.ref a from rx)
   obtain⟨_,_,n,_,h1⟩:=(show O5 X.prog X.w H s.heap a (.lst xs) from I.hok a _ ea)
   exact PySem.W.kia_one PySem.W.kitx_list I.kIn ⟨_,h1,rfl⟩ e (fun z=>nomatch z) h
 | @frz a ob xs ea =>
   cases (show u=Value.ref a from rx)
   obtain⟨_,_,_,n,_,h1⟩:=(show O5 X.prog X.w H s.heap a (.frz ob (.lst xs)) from I.hok a _ ea)
   exact PySem.W.kia_one PySem.W.kitx_list I.kIn ⟨_,h1,rfl⟩ e (fun z=>nomatch z) h
 | @tup a xs ea =>
   cases (show u=Value.ref a from rx)
   obtain⟨_,_,_,p⟩:=(show O5 X.prog X.w H s.heap a (.tup xs) from I.hok a _ ea)
   obtain⟨o,h1,h2,_⟩:=p
   exact PySem.W.kia_one PySem.W.kitx_tuple I.kIn ⟨o,h1,h2⟩ e (fun z=>nomatch z) h
 | @dK a kvs ea =>
   cases (show u=Value.ref a from rx)
   obtain⟨_,_,vs,_,p⟩:=(show O5 X.prog X.w H s.heap a (.dK kvs) from I.hok a _ ea)
   obtain⟨o,es,ep,h1,h2,_⟩:=p
   exact PySem.W.kia_one PySem.W.kitx_dict I.kIn ⟨o,h1,h2.1⟩ e (fun z=>nomatch z) h
 | @dT a kvs ea =>
   cases (show u=Value.ref a from rx)
   obtain⟨_,_,xs,_,o,es,ep,h1,h2,_⟩:=(show O5 X.prog X.w H s.heap a (.dT kvs) from I.hok a _ ea)
   exact PySem.W.kia_one PySem.W.kitx_dict I.kIn ⟨o,h1,h2.1⟩ e (fun z=>nomatch z) h
 | @ins a C dx fs ea cl ha hn htk hm =>
   cases (show u=Value.ref a from rx)
   obtain⟨mA,O,_⟩:=ze8 I.hok ea
   obtain⟨od,J,_⟩:=O.look
   exact PySem.W.kia_one (PySem.W.kitx_own (cl.get _) cl.hd ha hn htk hm) I.kIn J e (fun z=>nomatch z) h
end
structure qc0(k:Nat)(A:Around):Prop where
 hd:A.handled=none
 dp:A.depth+3*k+5<recursionLimit
 un:A.units+16*k+200<cLine
 gd:A.guards=some []
theorem qc0.mono{j k:Nat}(r:qc0 k A)(h:j<=k):qc0 j A:=⟨r.hd,by have:=r.dp;omega,by have:=r.un;omega,r.gd⟩
theorem qc0.deeper{k:Nat}(r:qc0 (k+1) A)(env:Env):qc0 k (A.deeper env) :=
 ⟨r.hd,by have:=r.dp;show A.depth+1+3*k+5<_;omega,by have:=r.un;show A.units+3+16*k+200<_;omega,r.gd⟩
variable{kw:List (Str×Value)}
theorem yb4:(A.under (.builtin "type.__call__" ⟨.ref C::us,kw⟩)).depth=A.depth+1:=by
 first|rfl|simp[Around.under,Code.weight,Code.isCreation,Code.isGuard,Code.isCaller,Code.frames,Code.isFrame,guardIds]
theorem yb5:(A.under (.builtin "type.__call__" ⟨.ref C::us,kw⟩)).units=A.units+1:=by
 first|rfl|simp[Around.under,Code.cUnits,Code.frames,Code.isFrame]
theorem xt1:(A.under (.builtin "type.__call__" ⟨.ref C::us,kw⟩)).guards=pushGuards [] A.guards:=by
 first|rfl|simp[Around.under,Code.guards,Code.isGuard,guardIds]
theorem qc0.make{k:Nat}(r:qc0 (k+1) A)(C:Addr)(us:List Value)(kw:List (Str×Value)):qc0 k (A.under (.builtin "type.__call__" ⟨.ref C::us,kw⟩)) :=
 ⟨r.hd,by have:=r.dp;rw[yb4];omega,by have:=r.un;rw[yb5];omega,by rw[xt1,r.gd];rfl⟩
theorem qc0.depth{k:Nat}(r:qc0 k A):A.depth<recursionLimit:=by have:=r.dp;omega
theorem qc0.units{k:Nat}(r:qc0 k A):A.units+64<cLine:=by have:=r.un;omega
theorem qc0.units0{k:Nat}(r:qc0 k A):A.units<cLine:=by have:=r.un;omega
def B1:TA:=fun _ H Q=>Q [] H
def A2(ta:TE)(tr:TA):TA:=fun σ H Q=>ta σ H fun x H1=>tr σ H1 fun xs H2=>Q (x::xs) H2
section
variable{t:TA}
theorem A3:PA X [] B1:=fun _ _ _ _ H Q I h=>Calls.spliced_nil ⟨[],H,I,.nil,h⟩
theorem A0(ha:PE X e te)(hr:PA X es t)(hs:autoParam (starEach (e::es) X.env=(false,eval e X.env)::starEach es X.env) zAr):PA X (e::es) (A2 te t):=by
 intro pos pins s σ H Q I h
 rw[hs]
 show wpAny _ _ (spliced ((false,eval e X.env)::backTo pos (starEach es X.env))) _ _ s
 refine Calls.spliced_cons (thn (ha pins s σ H _ I h) fun u s1 zq=>?_)
 obtain⟨x,H1,I1,r1,q1⟩:=zq
 exact thn (hr pos pins s1 σ H1 _ I1 q1) fun us s2 ⟨xs,H2,I2,r2,q2⟩=>⟨x::xs,H2,I2,.cons r1 r2,q2⟩
def O1(t:TA):TE:=fun σ H Q=>t σ H fun xs H1=>xs.length<=sizeLine/\∀ p,H1 p=none->Q (.ref p) (upd H1 p (.tup xs))
def X4(t:TA):TE:=fun σ H Q=>t σ H fun xs H1=>xs.length<=sizeLine/\∀ p,H1 p=none->Q (.ref p) (upd H1 p (.lst xs))
theorem E1{x1}(h:PA X es t):PE X (.Tuple es x1 pos) (O1 t):=by
 intro pins s σ H Q I hq
 refine wpAny_Tuple_spliced (thn (h pos pins s σ H _ I hq) fun us s1 ⟨xs,H1,I1,r,z,q⟩=>⟨by rw[<-r.length];exact z,?_⟩)
 have hf:H1 s1.heap.objs.size=none:=I1.hok.fresh (Nat.le_refl _)
 refine⟨.ref s1.heap.objs.size,upd H1 s1.heap.objs.size (.tup xs),I1.laid (t':=s1.toks) (fun b u e=>Heap.get?_push_of_some _ e) (Nat.le_refl _) ?_,rfl,q _ hf⟩
 exact⟨z,us,r,⟨_,Heap.get?_push_size _ rfl,rfl,_,rfl⟩⟩
theorem N5(h:PA X es t):PE X (.List es pos) (X4 t):=by
 intro pins s σ H Q I hq
 refine wpAny_List_spliced (thn (h pos pins s σ H _ I hq) fun us s1 ⟨xs,H1,I1,r,z,q⟩=>⟨by rw[<-r.length];exact z,?_⟩)
 have hf:H1 s1.heap.objs.size=none:=I1.hok.fresh (Nat.le_refl _)
 refine⟨.ref s1.heap.objs.size,upd H1 s1.heap.objs.size (.lst xs),I1.laid (t':=s1.toks) (fun b u e=>Heap.get?_push_of_some _ e) (Nat.le_refl _) ?_,rfl,q _ hf⟩
 exact⟨z,us,0,r,Heap.get?_push_size _ rfl⟩
end
abbrev Sp:=List V->Hp->VK->XK->Prop
abbrev CXT:=List Env->Hp->Shared->XK->Value->Shared->Prop
structure yb6(P:Program)(w:World)(K:Fg)(mg:Str->Option Value)(base:Heap)(A:Around)(outer:List Env)(s:Shared)(H:Hp):Prop where
 frames:A.frames=some outer
 mod:Mod K mg base
 bs:∀ b o,base.get? b=some o->s.heap.get? b=some o/\H b=none
 bsz:base.objs.size<=s.heap.objs.size
 funs:s.heap.FunFrames base outer
 frf:∀ b∈frs outer,H b=none
 hok:HOk P w H s.heap
 bare:AllBare s.gens
 tk:0<s.toks
def CE(outer:List Env)(P:Program)(w:World)(H:Hp)(s:Shared)(Q:VK)(u:Value)(s':Shared):Prop :=
 ∃ v H',0<s'.toks/\s'.os=s.os/\AllBare s'.gens/\Un (frs outer) [] H H' s.heap s'.heap/\HOk P w H' s'.heap/\L6 v u/\Q v H'
def CR(CX:CXT)(outer:List Env)(P:Program)(w:World)(H:Hp)(s:Shared)(Q:VK)(E:XK)(r:Result)(s':Shared):Prop :=
 match r with
 | .ok (.ret u)=>CE outer P w H s Q u s'
 | .ok _=>False
 | .error e=>CX outer H s E e s'
structure M5(P:Program)(w:World)(K:Fg)(mg:Str->Option Value)(base:Heap)(CX:CXT)(k:Nat)(f:Addr)(fd:FuncData)(ps:List Str)(sp:Sp):Prop where
 len:∀ vs H Q E,sp vs H Q E->vs.length=ps.length
 run:∀ (A:Around) (outer:List Env) (s:Shared) (H:Hp) (args:Args) (us:List Value) (vs:List V) (Q:VK) (E:XK),qc0 k A->yb6 P w K mg base A outer s H->BindsTo s fd args (ps.zip us)->G0 vs us->sp vs H Q E ->
  codeAny (model P w) A (.call (.ref f) args) (CR CX outer P w H s Q E) s
variable{base:Heap}{mg:Str->Option Value}{outer:List Env}
theorem yb6.make(e:yb6 P w K mg base A outer s H)(C:Addr)(us:List Value)(kw:List (Str×Value)) :
 yb6 P w K mg base (A.under (.builtin "type.__call__" ⟨.ref C::us,kw⟩)) outer s H:=⟨by first|exact e.frames|(simpa [Around.under,Code.envs,Code.isFrame,pushEnvs] using e.frames),e.mod,e.bs,e.bsz,e.funs,e.frf,e.hok,e.bare,e.tk⟩
theorem Inv.env0(I:Inv X pins σ H s):yb6 X.prog X.w X.K X.mg X.base X.A X.stack s H :=
 ⟨I.ok.frames,I.ok.mod,I.bs,Nat.le_trans I.ok.bsz I.sz,I.stack,I.stkFree,I.hok,I.bare,I.tk⟩
theorem Inv.after{Q:VK}(I:Inv X pins σ H s)(h:CE X.stack X.prog X.w H s Q u s'):EP X pins σ Q u s':=by
 obtain⟨v,H',ht,os,bare,un,hok,r,q⟩:=h
 obtain⟨hh,g,d,t,os'⟩:=s'
 obtain rfl:os'=s.os:=os
 exact⟨v,H',I.call (h':=hh) (g':=g) (d':=d) (t':=t) (ch:=[]) un hok bare (fun b z=>absurd z (by simp)) ht,r,q⟩
def B9(sp:Sp)(dvs:List V)(E:XK)(t:TA):TE:=fun σ H Q=>t σ H fun vs H1=>sp (vs++dvs) H1 Q E
def wb5(K:Fg)(fd:FuncData)(ps:List Str)(ds:List Value):Prop :=
 ∀ (s:Shared) (us:List Value),K.In s.heap->(us++ds).length=ps.length->BindsTo s fd ⟨us,[]⟩ (ps.zip (us++ds))
variable{fd:FuncData}{ps:List Str}
theorem wb5.all(h:∀ us:List Value,us.length=ps.length->bindArgs fd ⟨us,[]⟩=pure (ps.zip us)):wb5 K fd ps []:=fun s us _ hl=>by
 rw[List.append_nil] at hl ⊢
 exact .of_eq (h us hl)
def xm1(CX:CXT)(X:Cx)(E:XK):Prop:=∀ (pins:List (Addr×Obj)) (σ:St) (H:Hp) (s:Shared) (e:Value) (s':Shared),Inv X pins σ H s->CX X.stack H s E e s'->X.xe e s'
variable{CX:CXT}{apos:Pos}{m:Str}{sp:Sp}{vs:List V}
section
variable{k:Nat}{f:Addr}{dvs:List V}{ds:List Value}{E:XK}{p:Pos}{t:TA}
theorem zp6{Q:VK}(F:M5 X.prog X.w X.K X.mg X.base CX k f fd ps sp)(hr:qc0 k X.A)(hb:wb5 X.K fd ps ds)(hd:G0 dvs ds)(hx:xm1 CX X E)(I:Inv X pins σ H s)(r:G0 vs us)(h:sp (vs++dvs) H Q E):wpAny (model X.prog X.w) X.A (call (.ref f) us) (EP X pins σ Q) X.xe s:=by
 have r2:G0 (vs++dvs) (us++ds):=r.append hd
 have hl:(us++ds).length=ps.length:=by rw[<-r2.length];exact F.len _ _ _ _ h
 refine wpAny_call (codeAny_mono (F.run X.A X.stack s H ⟨us,[]⟩ (us++ds) (vs++dvs) Q E hr I.env0 (hb s us I.kIn hl) r2 h) fun r s' hq=>?_)
 cases r with
 | error e=>exact hx pins σ H s e s' I hq
 | ok fl =>
   cases fl with
   | ret u=>exact I.after hq
   | next=>exact False.elim hq
   | brk=>exact False.elim hq
   | cont=>exact False.elim hq
theorem B0(F:M5 X.prog X.w X.K X.mg X.base CX k f fd ps sp)(hr:qc0 k X.A)(hg:Gl X x)(hm:X.mg x=some (.ref f))(hk:PySem.W.keepIn X.K (.ref f)=true)(hb:wb5 X.K fd ps ds)(hd:G0 dvs ds)(hx:xm1 CX X E)(ha:PA X (e::es) t)(hdb:autoParam ((x == ("__debug__":Str))=false) zAd)(he:autoParam (starEach (e::es) X.env=(false,eval e X.env)::starEach es X.env) zAr)(hpl:autoParam ((backTo pos (starEach es X.env)).any (·.1)=false) zAr) :
 PE X (.Call (.Name x p) (e::es) [] pos) (B9 sp dvs E t):=by
 intro pins s σ H Q I h
 refine wpAny_Call_Name_kw (qn8 I hg hm ?_ hdb)
 refine PySem.W.callWith_K (h₀:=X.base) I.ok.mod.kin hk (thn (ha pos pins s σ H _ I h) fun us s1 ⟨vs,H1,I1,r,q⟩=>⟨I1.kIn,?_⟩) he hpl
 exact zp6 F hr hb hd hx I1 r q
end
section
variable{k:Nat}{f:Addr}{ks:List Str}{E:XK}{p kpos:Pos}{kws:List Keyword}{t tk:TA}{nm:Option Str}
variable{g:List Value->List Value->List Value}{gV:List V->List V->List V}
end
structure D0(N P:List Str)(sc:Scope):Prop where
 kind:sc.kind=.function
 co:sc.isCoroutine=false
 gen:sc.isGenerator=false
 nd:N.Nodup
 pre:N.take P.length=P
 par:∀ x∈P,sc.names.lookup x=some .local\/sc.names.lookup x=some .cell
 nofree:∀ y∈sc.names,y.2≠.free
theorem xi6{kindOf:Str->Option NameKind}{x:Str}:∀ {binds:List (Str×Value)} {m:Str->Option Value},(∀ v,(x,v)∉binds)->bindL kindOf binds m x=m x
 | [],_,_=>rfl
 | (n,v)::r,m,h=>by
   unfold bindL
   rw[xi6 fun w hw=>h w (List.mem_cons_of_mem _ hw)]
   split
   ·have:x≠n:=by rintro rfl;exact h v List.mem_cons_self
    simp[this]
   ·rfl
theorem xi7{kindOf:Str->Option NameKind}{x:Str}:∀ {binds:List (Str×Value)} {m:Str->Option Value},(∀ v,(x,v)∉binds)->bindC kindOf binds m x=m x
 | [],_,_=>rfl
 | (n,v)::r,m,h=>by
   unfold bindC
   rw[xi7 fun w hw=>h w (List.mem_cons_of_mem _ hw)]
   split
   ·rfl
   ·have:x≠n:=by rintro rfl;exact h v List.mem_cons_self
    simp[this]
theorem xi8{kindOf:Str->Option NameKind}{x:Str}{v:Value}:∀ {P:List Str} {vs:List Value} {i:Nat} {m:Str->Option Value},P.Nodup->P[i]?=some x->vs[i]?=some v->kindOf x=some .local ->
 bindL kindOf (P.zip vs) m x=some v
 | [],_,_,_,_,h,_,_=>by simp at h
 | _::_,[],_,_,_,_,h,_=>by simp at h
 | p::P,w::vs,0,m,nd,h1,h2,hk=>by
   simp at h1 h2;subst h1;subst h2
   show bindL kindOf ((p,w)::P.zip vs) m p=_
   unfold bindL
   rw[xi6 fun v hv=>(List.nodup_cons.mp nd).1 (List.of_mem_zip hv).1,if_pos hk]
   simp
 | p::P,w::vs,i+1,m,nd,h1,h2,hk=>by
   show bindL kindOf ((p,w)::P.zip vs) m x=_
   unfold bindL
   exact xi8 (i:=i) (List.nodup_cons.mp nd).2 (by simpa using h1) (by simpa using h2) hk
theorem xi9{kindOf:Str->Option NameKind}{x:Str}{v:Value}:∀ {P:List Str} {vs:List Value} {i:Nat} {m:Str->Option Value},P.Nodup->P[i]?=some x->vs[i]?=some v->kindOf x≠some .local ->
 bindC kindOf (P.zip vs) m x=some v
 | [],_,_,_,_,h,_,_=>by simp at h
 | _::_,[],_,_,_,_,h,_=>by simp at h
 | p::P,w::vs,0,m,nd,h1,h2,hk=>by
   simp at h1 h2;subst h1;subst h2
   show bindC kindOf ((p,w)::P.zip vs) m p=_
   unfold bindC
   rw[xi7 fun v hv=>(List.nodup_cons.mp nd).1 (List.of_mem_zip hv).1,if_neg hk]
   simp
 | p::P,w::vs,i+1,m,nd,h1,h2,hk=>by
   show bindC kindOf ((p,w)::P.zip vs) m x=_
   unfold bindC
   exact xi9 (i:=i) (List.nodup_cons.mp nd).2 (by simpa using h1) (by simpa using h2) hk
def G9(N:List Str)(vs:List V):St:=vs.map some++List.replicate (N.length-vs.length) none
def qx6(CX:CXT)(P:Program)(w:World)(K:Fg)(mg:Str->Option Value)(base:Heap)(N:List Str)(qual:Str)(scope:Scope)(f:Addr)(cd:Value)(A:Around)(outer:List Env)(s:Shared)(H:Hp)(E:XK):Cx where
 prog:=P
 w:=w
 K:=K
 mg:=mg
 base:=base
 A:=A.deeper (envOfC qual scope s.heap.objs.size f cd)
 N:=N
 s₀:=s
 H₀:=H
 env:=envOfC qual scope s.heap.objs.size f cd
 outer:=outer
 stack:=envOfC qual scope s.heap.objs.size f cd::outer
 ex:=[]
 calm:=true
 fn:=fun _=>true
 pn:=[]
 xe:=fun e s'=>wpAny (model P w) (A.deeper (envOfC qual scope s.heap.objs.size f cd)) (leaving (envOfC qual scope s.heap.objs.size f cd) e) (fun _ s''=>CX outer H s E e s'') (fun e' s''=>CX outer H s E e' s'') s'
theorem xt2{sc:Scope}(h:sc.names.lookup x=some .cell):∃ c,(cellsFrom n sc.names []).lookup x=some c:=by
 have q:=PySem.W.cellsFrom_some sc.names n [] (.inl h)
 exact Option.isSome_iff_exists.mp q
variable{cd:Value}{qual:Str}{scope:Scope}
theorem yo6{f:Addr}{s1:Shared}{E:XK}(S:D0 N ps scope)(hd:A.handled=none)(e0:yb6 P w K mg base A outer s H)(hl:vs.length=ps.length)(r:G0 vs us)(x:InCallC s s.heap.objs.size (bindL (envOfC qual scope s.heap.objs.size f cd).kindOf (ps.zip us) fun _=>none) (cellsFrom (s.heap.objs.size+1) scope.names []) (bindC (envOfC qual scope s.heap.objs.size f cd).kindOf (ps.zip us) fun _=>none) s1)(ht:0<s1.toks) :
 Inv (qx6 CX P w K mg base N qual scope f cd A outer s H E) [] (G9 N vs) H s1:=by
 have hpl:ps.length<=N.length:=by have:=congrArg List.length S.pre;rw[List.length_take] at this;omega
 obtain⟨h1,tk,rfl,hk⟩:=x.done
 have noA:∀ b:Addr,b∉(qx6 CX P w K mg base N qual scope f cd A outer s H E).ex:=fun b z=>absurd (show b∈([]:List Addr) from z) (by simp)
 refine⟨⟨e0.mod,S.kind,rfl,rfl,Nat.le_refl _,fun y z c h1 h2=>?_,fun y hy=>?_,fun y c _ h=>?_,fun _=>hd,Around.frames_deeper e0.frames,.inr ⟨rfl,rfl⟩,fun b z=>absurd z (noA b),e0.bs,e0.bsz,fun b _ _=>noA b,fun b z=>absurd z (noA b),e0.funs,e0.frf⟩,
  rfl,e0.bare,Un.kept hk,⟨_,x.toInCall.ns,fun i y v h1 h2 h3=>?_⟩,fun y c h=>⟨_,x.cell y c h⟩,e0.hok.fresh (Nat.le_refl _),fun y c h=>?_,fun p hp=>absurd (show p∈([]:List (Addr×Obj)) from hp) (by simp),e0.hok.kept hk,?_,ht⟩
 ·exact name_of_addr x.apart (PySem.mem_of_lookup h1) (PySem.mem_of_lookup h2)
 ·have hy:scope.names.lookup y=some .cell\/scope.names.lookup y=some .free:=hy
  rcases hy with hy|hy
  ·exact xt2 hy
  ·exact absurd rfl (S.nofree _ (PySem.mem_of_lookup hy))
 ·exact Nat.le_of_lt (x.above y c (PySem.mem_of_lookup h))
 ·have hi:i<vs.length:=by
   unfold G9 at h2
   by_cases hi:i<vs.length
   ·exact hi
   ·rw[List.getElem?_append_right (by simpa using hi)] at h2
    rw[List.getElem?_replicate] at h2
    split at h2 <;> cases h2
  have ha:vs[i]?=some v:=by
   unfold G9 at h2
   rw[List.getElem?_append_left (by simpa using hi),List.getElem?_map] at h2
   cases e:vs[i]? with
   | none=>rw[e] at h2;cases h2
   | some a=>rw[e] at h2;cases h2;rfl
  obtain⟨u,hu,rv⟩:=r.get ha
  have hp:ps[i]?=some y:=by
   rw[<-S.pre,List.getElem?_take_of_lt (by omega)];exact h1
  have ndP:ps.Nodup:=by rw[<-S.pre];exact S.nd.sublist (List.take_sublist _ _)
  refine⟨u,rv,?_⟩
  rcases S.par y (List.mem_of_getElem? hp) with k|k
  ·exact .inl ⟨k,xi8 ndP hp hu k⟩
  ·obtain⟨c,e⟩:=xt2 (n:=s.heap.objs.size+1) k
   refine .inr ⟨.inl k,c,e,?_⟩
   have q:=x.cell y c e
   rw[xi9 ndP hp hu (by show scope.names.lookup y≠_;rw[k];decide)] at q
   exact q
 ·exact e0.hok.fresh (Nat.le_of_lt (x.above y c (PySem.mem_of_lookup h)))
 ·unfold G9
  show _=N.length
  rw[List.length_append,List.length_map,List.length_replicate]
  omega
variable{an od:Option Addr}{cdv ct doc oc pm:Value}{name:Str}{osl:Array (Option Value)}
theorem zm0{k:Nat}{f:Addr}{params:Arguments}{dV kV:Value}(lk:K.lookup f=some ⟨oc,od,.func (PySem.W.fnOf name qual params body scope dV kV doc pm an cdv ct),osl⟩)(hcd:PySem.W.codeIn K cdv qual=true)(S:D0 N ps scope)(len:∀ vs H Q E,sp vs H Q E->vs.length=ps.length) (hbody:∀ (A:Around) (outer:List Env) (s:Shared) (H:Hp) (vs:List V) (Q:VK) (E:XK),qc0 k (A.deeper (envOfC qual scope s.heap.objs.size f cdv))->sp vs H Q E ->
  ∃ t,PSs (qx6 CX P w K mg base N qual scope f cdv A outer s H E) body t/\t {nx:=fun _ H'=>Q .non H',rt:=Q} (G9 N vs) H) :
 M5 P w K mg base CX (k+1) f (PySem.W.fnOf name qual params body scope dV kV doc pm an cdv ct) ps sp:=by
 refine⟨len,fun A outer s H args us vs Q E hr e0 hb r hsp=>?_⟩
 have hl:=len _ _ _ _ hsp
 have KX:K.In s.heap:=e0.mod.kin.keeps fun b o e=>(e0.bs b o e).1
 have lim:s.heap.NoLimit:=e0.mod.nolimit.keeps fun b o e=>(e0.bs b o e).1
 have hkind:∀ y∈ps.zip us,scope.names.lookup y.1=some .local\/(scope.names.lookup y.1=some .cell/\((cellsFrom (s.heap.objs.size+1) scope.names []).lookup y.1).isSome=true):=fun⟨n,v⟩ hy=>by
  rcases S.par n (List.of_mem_zip hy).1 with q|q
  ·exact .inl q
  ·exact .inr ⟨q,PySem.W.cellsFrom_some _ _ _ (.inl q)⟩
 refine codeAny_call_function hr.depth (KX _ _ lk) rfl S.co S.gen rfl (PySem.W.codeRec_of KX hcd) (hb _ _ _ _ ?_)
 refine wpAny_with_toks (n:=1) e0.tk (wpAny_newFunctionEnv_cells S.kind hkind fun env he s1 x htk=>?_)
 subst he
 refine⟨lim.keeps x.toInCall.keep,codeAny_func ?_⟩
 obtain⟨t,ht,hq⟩:=hbody A outer s H vs Q E (hr.deeper _) hsp
 have I:Inv (qx6 CX P w K mg base N qual scope f cdv A outer s H E) [] (G9 N vs) H s1:=yo6 S hr.hd e0 hl r x htk
 refine wpAny_mono (ht [] s1 (G9 N vs) H _ I hq) (fun fl s' hs=>?_) fun e s' hs=>hs
 have fin:∀ {σ':St} {H':Hp} {v:V} {u:Value},Inv (qx6 CX P w K mg base N qual scope f cdv A outer s H E) [] σ' H' s'->L6 v u->Q v H'->CE outer P w H s Q u s' :=
  fun{σ' H' v u} J rv q=>⟨v,H',J.tk,J.os,J.bare,J.base,J.hok,rv,q⟩
 cases fl with
 | ret u =>
   obtain⟨v,σ',H',J,rv,q⟩:=hs
   exact fin J rv q
 | next =>
   obtain⟨σ',H',J,q⟩:=hs
   exact fin (v:=V.non) (u:=Value.none) J rfl q
 | brk =>
   obtain⟨_,_,_,q⟩:=hs
   exact False.elim q
 | cont =>
   obtain⟨_,_,_,q⟩:=hs
   exact False.elim q
variable{T:String}
section
variable{p:Pos}{t:TA}{id:String}{r:List V->Hp->VK->Prop}
def tCB(r:List V->Hp->VK->Prop)(t:TA):TE:=fun σ H Q=>t σ H fun vs H1=>r vs H1 Q
theorem C8(hc:W4 X (.builtin id) r)(hg:Gl X x)(hm:X.mg x=none)(hv:bootBuiltins x=some (.builtin id))(ha:PA X (e::es) t)(hn:autoParam (x ≠ "__name__") zAd)(hdb:autoParam ((x == ("__debug__":Str))=false) zAd)(he:autoParam (starEach (e::es) X.env=(false,eval e X.env)::starEach es X.env) zAr)(hpl:autoParam ((backTo pos (starEach es X.env)).any (·.1)=false) zAr):PE X (.Call (.Name x p) (e::es) [] pos) (tCB r t):=by
 intro pins s σ H Q I h
 refine wpAny_Call_Name_kw (qz2 I hg hm hv ?_ hn hdb)
 exact PyProof.Rows.callWith_builtin1 (thn (ha pos pins s σ H _ I h) fun us s1 ⟨vs,H1,I1,r1,q1⟩=>hc pins s1 σ H1 vs us Q I1 r1 q1) he hpl
theorem P4(hc:W4 X (.type T) r)(hg:Gl X x)(hm:X.mg x=none)(hv:bootBuiltins x=some (.type T))(ha:PA X (e::es) t)(hn:autoParam (x ≠ "__name__") zAd)(hdb:autoParam ((x == ("__debug__":Str))=false) zAd)(he:autoParam (starEach (e::es) X.env=(false,eval e X.env)::starEach es X.env) zAr)(hpl:autoParam ((backTo pos (starEach es X.env)).any (·.1)=false) zAr):PE X (.Call (.Name x p) (e::es) [] pos) (tCB r t):=by
 intro pins s σ H Q I h
 refine wpAny_Call_Name_kw (qz2 I hg hm hv ?_ hn hdb)
 exact PyProof.Rows.callWith_type1 (thn (ha pos pins s σ H _ I h) fun us s1 ⟨vs,H1,I1,r1,q1⟩=>hc pins s1 σ H1 vs us Q I1 r1 q1) he hpl
end
namespace HT
open PySem PyProof.Rows
section
open PySem.SeqAt
open PySem.AutoSeq1 (wpAny_loadPart')
open PySem.MeetsSeq PySem.MeetsSeq2 PySem.MeetsSeq3
end
section
variable{prog:Program}{w:World}{A:Around}{E:Value->Shared->Prop}{s:Shared}
theorem zf0{t b:Addr}{vs ws:List Value}{Q:Value->Shared->Prop}(ht:IsTup s.heap t vs.toArray)(hb:IsTup s.heap b ws.toArray)(hv:vs≠[])
 (h1:ws=[]->Q (.ref t) s) (h2:ws≠[]->Q (.ref s.heap.objs.size) {s with heap:=s.heap.push {cls:=.type "tuple",data:=.seq (vs++ws).toArray}})
 (hsz:vs.length+ws.length<=sizeLine):wpAny (model prog w) A (binaryOp .Add (.ref t) (.ref b)) Q E s:=by
 obtain⟨⟨cls,dd,data,sl⟩,ho,hc,n,hd⟩:=id ht
 obtain⟨⟨cls2,dd2,data2,sl2⟩,ho2,hc2,n2,hd2⟩:=id hb
 simp only at hc hd hc2 hd2
 subst hc hd hc2 hd2
 have e:vs.toArray++ws.toArray=(vs++ws).toArray:=by simp
 by_cases hw:ws=[]
 ·exact concat_meets ⟨_,ho,rfl⟩ ⟨_,ho2,rfl⟩ noFill_tuple_add seq_tuple_add PySem.F.slot_tuple_add PySem.F.entry_tuple_add (PySem.F.args_tuple_add_2 _ _)
   (tuple_addW1 t b vs.toArray ws.toArray n n2 dd dd2 sl sl2 (by simpa using hv) (by simp[hw])) ⟨ho,ho2,h1 hw⟩
 ·refine concat_meets ⟨_,ho,rfl⟩ ⟨_,ho2,rfl⟩ noFill_tuple_add seq_tuple_add PySem.F.slot_tuple_add PySem.F.entry_tuple_add (PySem.F.args_tuple_add_2 _ _)
   (tuple_addW2 t b vs.toArray ws.toArray n n2 dd dd2 sl sl2 (by simpa using hv) (by simpa using hw) (by rw[List.size_toArray,List.size_toArray];exact hsz)) ⟨ho,ho2,?_⟩
  rw[e]
  exact h2 hw
def sIx(n d:Nat):Option Int->Nat
 | none=>d
 | some v=>if v<0 then(v+(n:Int)).toNat else min v.toNat n
theorem xm2(n d k:Nat):sIx n d (some (k:Int))=min k n:=by
 show(if(k:Int)<0 then((k:Int)+(n:Int)).toNat else min (k:Int).toNat n)=min k n
 rw[if_neg (by omega),Int.toNat_natCast]
theorem yb7(n d:Nat)(hd:d<=n)(o:Option Int):sIx n d o<=n:=by
 cases o with
 | none=>exact hd
 | some v =>
   show(if v<0 then(v+(n:Int)).toNat else min v.toNat n)<=n
   by_cases hv:v<0
   ·rw[if_pos hv];omega
   ·rw[if_neg hv];exact Nat.min_le_right _ _
theorem yi5(v:Int)(n d:Nat):(if v<0 then max (v+(n:Int)) 0 else min v (n:Int))=((sIx n d (some v):Nat):Int):=by
 show(if v<0 then max (v+(n:Int)) 0 else min v (n:Int))=(((if v<0 then(v+(n:Int)).toNat else min v.toNat n):Nat):Int)
 by_cases hv:v<0
 ·simp only[if_pos hv];omega
 ·simp only[if_neg hv];omega
theorem yb8(lo hi:Option Int)(n:Nat):Builtin.Slice.sliceAdjust lo hi 1 (n:Int)=(((sIx n 0 lo:Nat):Int),((sIx n n hi:Nat):Int)):=by
 have h1:¬((1:Int)<0):=by omega
 unfold Builtin.Slice.sliceAdjust
 simp only[h1,if_false]
 refine Prod.ext ?_ ?_
 ·cases lo with
  | none=>rfl
  | some v=>exact yi5 v n 0
 ·cases hi with
  | none=>rfl
  | some v=>exact yi5 v n n
theorem yb9(i j:Nat):Builtin.Slice.slicePlaces (i:Int) (j:Int) 1=j-i:=by
 unfold Builtin.Slice.slicePlaces
 have h1:(1:Int) > 0:=by omega
 simp only[h1,if_true,Int.ediv_one]
 split <;> omega
theorem wq9{v:Value}{o:Option Int}{Q:Option Int->Shared->Prop}(p:IsPart v o)(h:Q o s):wpAny (model prog w) A (Builtin.Slice.slicePartIndex v) Q E s:=by
 cases p with
 | none=>exact slicePart_none h
 | int i t=>exact slicePart_int h
theorem qm4{sl:Addr}{vl vu:Value}{lo hi:Option Int}{n:Nat}{Q:Int×Int×Nat->Shared->Prop}(hs:s.heap.IsSliceOf sl vl vu .none)(pl:IsPart vl lo)(pu:IsPart vu hi)
 (h:Q (((sIx n 0 lo:Nat):Int),1,sIx n n hi-sIx n 0 lo) s):wpAny (model prog w) A (Builtin.Slice.sliceApplied (.ref sl) (pure (n:Int))) Q E s:=by
 obtain⟨os,hos,hcs,hds⟩:=id hs
 unfold Builtin.Slice.sliceApplied Builtin.Slice.sliceFields
 refine wpAny_bind (wpAny_bind (wpAny_field hos hds (x:=vl) rfl (wpAny_bind (wpAny_field hos hds (x:=vu) rfl (wpAny_bind (wpAny_field hos hds (x:=.none) rfl (wpAny_pure ?_)))))))
 refine wpAny_bind (slicePart_none ?_)
 show wpAny _ _ (if((1:Int) == 0)=true then _ else _) _ _ s
 rw[if_neg (by decide)]
 refine wpAny_bind (wq9 pl (wpAny_bind (wq9 pu (wpAny_bind (wpAny_pure ?_)))))
 show wpAny _ _ (match Builtin.Slice.sliceAdjust lo hi 1 (n:Int) with|(lo,hi)=>pure (lo,(1:Int),Builtin.Slice.slicePlaces lo hi 1)) _ _ s
 rw[yb8 lo hi n]
 show wpAny _ _ (pure (((sIx n 0 lo:Nat):Int),(1:Int),Builtin.Slice.slicePlaces ((sIx n 0 lo:Nat):Int) ((sIx n n hi:Nat):Int) 1)) _ _ s
 rw[yb9]
 exact wpAny_pure h
theorem yu0(xs:Array Value)(i k:Nat):((List.range k).filterMap fun(m:Nat)=>xs[((i:Int)+(m:Int)*1).toNat]?).toArray=((xs.toList.drop i).take k).toArray:=by
 have e:(fun(m:Nat)=>xs[((i:Int)+(m:Int)*1).toNat]?)=fun m=>xs[i+m]?:=by
  funext m
  have:((i:Int)+(m:Int)*1).toNat=i+m:=by omega
  rw[this]
 rw[e]
 have:=pick_run xs i k
 rw[List.filterMap_map] at this
 have e2:((fun x=>xs[x]?)∘fun x=>i+x)=fun m=>xs[i+m]?:=rfl
 rw[e2] at this
 rw[this]
theorem wb6{t sl:Addr}{items:Array Value}{vl vu:Value}{lo hi:Option Int}{Q:Value->Shared->Prop}(ht:IsTup s.heap t items)(hs:s.heap.IsSliceOf sl vl vu .none)(pl:IsPart vl lo)(pu:IsPart vu hi)
 (hw:¬(sIx items.size 0 lo=0/\sIx items.size items.size hi=items.size))
 (h:Q (.ref s.heap.objs.size) {s with heap:=s.heap.push {cls:=.type "tuple",data:=.seq ((items.toList.drop (sIx items.size 0 lo)).take (sIx items.size items.size hi-sIx items.size 0 lo)).toArray}})
 (hsz:items.size<=sizeLine):wpAny (model prog w) A (getItem (.ref t) (.ref sl)) Q E s:=by
 have htake:sizeOk (.seq ((items.toList.drop (sIx items.size 0 lo)).take (sIx items.size items.size hi-sIx items.size 0 lo)).toArray):=by
  show((items.toList.drop (sIx items.size 0 lo)).take (sIx items.size items.size hi-sIx items.size 0 lo)).toArray.size<=sizeLine
  rw[List.size_toArray,List.length_take,List.length_drop,Array.length_toList]
  omega
 have hj:sIx items.size items.size hi<=items.size:=yb7 _ _ (Nat.le_refl _) hi
 obtain⟨os,hos,hcs,hds⟩:=id hs
 have hTs:s.TypeIs (.ref sl) "slice":=⟨os,hos,hcs⟩
 unfold getItem
 try with_reducible refine wpAny_holding ?_
 first|refine wpAny_bind (wpAny_pure ?_)|skip
 refine wpAny_bind (wpAny_sequenceKey ht.typeIs (by decide) ?_)
 refine wpAny_bind (wpAny_callSpecial?_slot (name:=Str.ofString "__getitem__") ht.typeIs PyProof.Rows.slot_tuple_getitem
  (wpAny_call_entry PyProof.Rows.slot_tuple_getitem ht.typeIs entry_tuple_getitem ?_ (args_tuple_getitem _ _)))
 show wpAny _ _ (Builtin.Tuple.tupleItemsOf (.ref t) >>= _) _ _ s
 refine wpAny_bind (tupleItemsOf_ ht ?_)
 refine wpAny_bind (wpAny_typeOf hTs ?_)
 rw[if_pos (by decide)]
 refine wpAny_bind (qm4 hs pl pu ?_)
 have hno:¬((((sIx items.size 0 lo:Nat):Int) == 0 && (1:Int) == 1 && (sIx items.size items.size hi-sIx items.size 0 lo) == items.size)=true):=by
  intro q
  rw[Bool.and_eq_true,Bool.and_eq_true] at q
  have q1:((sIx items.size 0 lo:Nat):Int)=0:=eq_of_beq q.1.1
  have q2:sIx items.size items.size hi-sIx items.size 0 lo=items.size:=eq_of_beq q.2
  exact hw ⟨by omega,by omega⟩
 show wpAny _ _ (if(((sIx items.size 0 lo:Nat):Int) == 0 && (1:Int) == 1 && (sIx items.size items.size hi-sIx items.size 0 lo) == items.size)=true then _ else _) _ _ s
 rw[if_neg hno,yu0]
 first
  | exact wpAny_bind (m:=Builtin.Tuple.tupleExact _) (wpAny_newObj_type (wpAny_pure ⟨_,rfl,wpAny_pure h⟩) htake)
  | exact wpAny_bind (m:=Builtin.Tuple.tupleExact _) (wpAny_newObj_type (wpAny_bind (wpAny_pure (wpAny_pure ⟨_,rfl,wpAny_pure h⟩))) htake)
  | exact wpAny_bind (wpAny_bind (m:=Builtin.Tuple.tupleExact _) (wpAny_newObj_type (wpAny_pure (wpAny_pure ⟨_,rfl,wpAny_pure h⟩)) htake))
  | exact wpAny_bind (wpAny_bind (m:=Builtin.Tuple.tupleExact _) (wpAny_newObj_type (wpAny_pure ⟨_,rfl,wpAny_pure h⟩) htake))
end
end HT
abbrev TO:=St->Hp->(Option Int->Hp->Prop)->Prop
def PO(X:Cx)(e:Option Expr)(t:TO):Prop :=
 ∀ (pins:List (Addr×Obj)) (s:Shared) (σ:St) (H:Hp) (Q:Option Int->Hp->Prop),Inv X pins σ H s->t σ H Q ->
  wpAny (model X.prog X.w) X.A (evalPart e X.env) (fun u s'=>∃ o H',Inv X pins σ H' s'/\IsPart u o/\Q o H') X.xe s
def N9:TO:=fun _ H Q=>Q none H
def S6(t:TE):TO:=fun σ H Q=>t σ H fun x H1=>∃ i,x=.int i/\Q (some i) H1
variable{p2:Pos}{th:TO}{r:V->Option Int->Option Int->Hp->VK->Prop}
section
variable{lo hi:Option Expr}{tl:TO}
theorem P5:PO X none N9:=by
 intro pins s σ H Q I h
 rw[evalPart_none]
 exact wpAny_pure ⟨none,H,I,.none,h⟩
theorem N2(h:PE X e te):PO X (some e) (S6 te):=by
 intro pins s σ H Q I hw
 rw[evalPart_some]
 refine thn (h pins s σ H _ I hw) fun u s1 zq=>?_
 obtain⟨x,H1,I1,r1,q1⟩:=zq
 obtain⟨i,rfl,q⟩:=q1
 obtain⟨t,rfl⟩:=r1
 exact⟨some i,H1,I1,.int i t,q⟩
def SlR(X:Cx)(r:V->Option Int->Option Int->Hp->VK->Prop):Prop :=
 ∀ (pins:List (Addr×Obj)) (s:Shared) (σ:St) (H:Hp) (x:V) (v vl vu:Value) (lo hi:Option Int) (sl:Addr) (Q:VK),Inv X pins σ H s->L6 x v->s.heap.IsSliceOf sl vl vu .none->IsPart vl lo->IsPart vu hi->r x lo hi H Q ->
  ∃ T id,typeLookup (.type T) "__getitem__"=pure (some (.builtin id))/\s.TypeIs v T/\wpAny (model X.prog X.w) X.A (getItem v (.ref sl)) (EP X pins σ Q) X.xe s
theorem SlR.or{r':V->Option Int->Option Int->Hp->VK->Prop}(h:SlR X r)(h':SlR X r'):SlR X (fun x lo hi H Q=>r x lo hi H Q\/r' x lo hi H Q):=by
 intro pins s σ H x v vl vu lo hi sl Q I rx hs pl pu q
 rcases q with q|q
 ·exact h pins s σ H x v vl vu lo hi sl Q I rx hs pl pu q
 ·exact h' pins s σ H x v vl vu lo hi sl Q I rx hs pl pu q
def tSl(r:V->Option Int->Option Int->Hp->VK->Prop)(te:TE)(tl th:TO):TE:=fun σ H Q=>te σ H fun x H1=>tl σ H1 fun l H2=>th σ H2 fun u H3=>r x l u H3 Q
theorem M6(hr:SlR X r)(he:PE X e te)(hl:PO X lo tl)(hu:PO X hi th):PE X (.Subscript e (.Slice lo hi none p2) pos) (tSl r te tl th):=by
 intro pins s σ H Q I h
 refine Subscript_ (thn (he pins s σ H _ I h) fun v s1 zq=>?_)
 obtain⟨x,H1,I1,r1,q1⟩:=zq
 refine wpAny_Slice (thn (hl pins s1 σ H1 _ I1 q1) fun vl s2 ⟨l,H2,I2,pl,q2⟩=>thn (hu pins s2 σ H2 _ I2 q2) fun vu s3 zq=>?_)
 obtain⟨u,H3,I3,pu,q3⟩:=zq
 rw[evalPart_none]
 refine wpAny_pure ?_
 have I4:Inv X pins σ H3 {s3 with heap:=s3.heap.push {cls:=.type "slice",data:=.fields #[vl,vu,.none]}}:=I3.kept (t':=s3.toks) fun b ob q=>Heap.get?_push_of_some _ q
 obtain⟨T,id,hT,ht,hg⟩:=hr pins {s3 with heap:=s3.heap.push {cls:=.type "slice",data:=.fields #[vl,vu,.none]}} σ H3 x v vl vu l u s3.heap.objs.size Q I4 r1 (Heap.IsSliceOf.new ..) pl pu q3
 show wpAny (model X.prog X.w) X.A (subscriptTail e (.Slice lo hi none p2) v (.ref s3.heap.objs.size)) (EP X pins σ Q) X.xe {s3 with heap:=s3.heap.push {cls:=.type "slice",data:=.fields #[vl,vu,.none]}}
 exact tail_any (ops:=[.ref s3.heap.objs.size,v]) ht hT hg (by with_unfolding_all rfl)
def qb8(xs:List V)(lo hi:Option Int):List V:=(xs.drop (HT.sIx xs.length 0 lo)).take (HT.sIx xs.length xs.length hi-HT.sIx xs.length 0 lo)
theorem wk1(xs:List V)(lo hi:Option Int):(qb8 xs lo hi).length<=xs.length:=by
 unfold qb8
 rw[List.length_take,List.length_drop]
 omega
def zy1(K:Fg):V->Option Int->Option Int->Hp->VK->Prop:=fun x lo hi H Q=>∃ a xs,x=.ref a/\SqT K H a xs /\
 ¬(HT.sIx xs.length 0 lo=0/\HT.sIx xs.length xs.length hi=xs.length)/\∀ p,H p=none->Q (.ref p) (upd H p (.tup (qb8 xs lo hi)))
theorem zp7:SlR X (zy1 X.K):=by
 intro pins s σ H x v vl vu lo hi sl Q I rx hs pl pu h
 obtain⟨a,xs,rfl,hx,hw,q⟩:=h
 cases rx
 obtain⟨its,r,ht,hz⟩:=I.tuple hx
 have hlen:its.toArray.size=xs.length:=by rw[List.size_toArray];exact r.length.symm
 refine⟨"tuple",_,PyProof.Rows.slot_tuple_getitem.lookup,ht.typeIs,?_⟩
 refine HT.wb6 ht hs pl pu (by rw[hlen];exact hw) ?_ (by rw[hlen];exact hz)
 rw[hlen]
 refine⟨.ref s.heap.objs.size,_,I.laid (t':=s.toks) (o:=.tup (qb8 xs lo hi)) (fun b ob q=>Heap.get?_push_of_some _ q) (Nat.le_refl _) ?_,rfl,q _ (I.hok.fresh (Nat.le_refl _))⟩
 exact⟨Nat.le_trans (wk1 xs lo hi) hz,_,(r.drop (HT.sIx xs.length 0 lo)).take (HT.sIx xs.length xs.length hi-HT.sIx xs.length 0 lo),IsTup.new _ _⟩
def zm1(K:Fg):R2:=fun x y H Q=>∃ a b xs ys,x=.ref a/\y=.ref b/\SqT K H a xs/\SqT K H b ys/\xs≠[]/\xs.length+ys.length<=sizeLine /\
 (ys=[]->Q (.ref a) H)/\(ys≠[]->∀ p,H p=none->Q (.ref p) (upd H p (.tup (xs++ys))))
theorem G0.nil_iff(r:G0 xs us):us=[]↔xs=[]:=by
 cases r with
 | nil=>simp
 | cons _ _=>simp
theorem zf1:OpR X (binaryOp .Add) (zm1 X.K):=by
 intro pins s σ H x y v u Q I rx ry h
 obtain⟨a,b,xs,ys,rfl,rfl,ha,hb,hx,hz,q1,q2⟩:=h
 cases rx
 cases ry
 obtain⟨its,r1,p1,_⟩:=I.tuple ha
 obtain⟨its2,r2,p2,_⟩:=I.tuple hb
 refine HT.zf0 p1 p2 (fun z=>hx (r1.nil_iff.mp z)) (fun z=>⟨.ref a,H,I,rfl,q1 (r2.nil_iff.mp z)⟩) (fun z=>?_) (by rw[<-r1.length,<-r2.length];exact hz)
 refine⟨.ref s.heap.objs.size,_,I.laid (t':=s.toks) (o:=.tup (xs++ys)) (fun b ob q=>Heap.get?_push_of_some _ q) (Nat.le_refl _) ?_,rfl,q2 (fun w=>z (r2.nil_iff.mpr w)) _ (I.hok.fresh (Nat.le_refl _))⟩
 exact⟨by rw[List.length_append];exact hz,_,r1.append r2,IsTup.new _ _⟩
end
def ixN(n:Nat)(i:Int):Option Nat:=if 0<=i then(if i<n then some i.toNat else none) else if -(n:Int)<=i then some (i+n).toNat else none
def atI{α:Type}(xs:List α)(i:Int):Option α:=(ixN xs.length i).bind fun j=>xs[j]?
theorem yi6{j:Nat}(h:ixN n i=some j):seqIndex? i n=some j/\j<n/\-(n:Int)<=i/\i<n:=by
 unfold ixN at h
 by_cases h0:0<=i
 ·rw[if_pos h0] at h
  by_cases h1:i<n
  ·rw[if_pos h1] at h
   have e:i.toNat=j:=Option.some.inj h
   exact⟨by rw[seqIndex_of h0 h1,e],by omega,by omega,h1⟩
  ·rw[if_neg h1] at h;cases h
 ·rw[if_neg h0] at h
  by_cases h1:-(n:Int)<=i
  ·rw[if_pos h1] at h
   have e:(i+n).toNat=j:=Option.some.inj h
   exact⟨by rw[seqIndex_neg (by omega) h1,e],by omega,h1,by omega⟩
  ·rw[if_neg h1] at h;cases h
theorem xm3{xs:List α}{v:α}(h:atI xs i=some v):∃ j,seqIndex? i xs.length=some j/\xs[j]?=some v/\j<xs.length/\-(xs.length:Int)<=i/\i<xs.length:=by
 unfold atI at h
 cases e:ixN xs.length i with
 | none=>rw[e] at h;cases h
 | some j =>
   rw[e] at h
   obtain⟨h1,h2,h3,h4⟩:=yi6 e
   exact⟨j,h1,h,h2,h3,h4⟩
theorem E8{xs:List α}{j:Nat}{v:α}(h:xs[j]?=some v):atI xs (j:Int)=some v:=by
 have hj:j<xs.length:=(List.getElem?_eq_some_iff.mp h).1
 have e:ixN xs.length (j:Int)=some j:=by
  unfold ixN
  rw[if_pos (by omega),if_pos (by omega)];simp
 unfold atI;rw[e];exact h
theorem Q0(xs:List α)(v:α):atI (xs++[v]) (-1)=some v:=by
 have hl:(xs++[v]).length=xs.length+1:=by simp
 have e:ixN (xs++[v]).length (-1)=some xs.length:=by
  unfold ixN
  rw[hl,if_neg (by decide),if_pos (by omega)]
  congr 1
  omega
 unfold atI
 rw[e]
 show(xs++[v])[xs.length]?=some v
 simp
def zf2(b:Expr):Prop:=∀ o i,subscripted b false o i=operate [o,i] (getItem o i)
def IxR(X:Cx)(r:R2):Prop :=
 ∀ (value slice:Expr) (pins:List (Addr×Obj)) (s:Shared) (σ:St) (H:Hp) (x y:V) (v u:Value) (Q:VK),Inv X pins σ H s->L6 x v->L6 y u->r x y H Q ->
  subscripted slice false v u=operate [v,u] (getItem v u)->wpAny (model X.prog X.w) X.A (subscriptTail value slice v u) (EP X pins σ Q) X.xe s
def MtR(X:Cx)(id:String)(r:V->List V->Hp->VK->Prop):Prop :=
 ∀ (pins:List (Addr×Obj)) (s:Shared) (σ:St) (H:Hp) (x:V) (xs:List V) (v:Value) (us:List Value) (Q:VK),Inv X pins σ H s->L6 x v->G0 xs us->r x xs H Q ->
  wpAny (model X.prog X.w) X.A (call (.builtin id) (v::us)) (EP X pins σ Q) X.xe s
variable{its':List Value}{p:Addr}{cpos:Pos}
section
variable{a b:Expr}{tb:TE}
theorem IxR.or{r r':R2}(h:IxR X r)(h':IxR X r'):IxR X (fun x y H Q=>r x y H Q\/r' x y H Q):=by
 intro value slice pins s σ H x y v u Q I rx ry q hs
 rcases q with q|q
 ·exact h value slice pins s σ H x y v u Q I rx ry q hs
 ·exact h' value slice pins s σ H x y v u Q I rx ry q hs
theorem C7{r:R2}(hr:IxR X r)(ha:PE X a ta)(hb:PE X b tb)(hs:zf2 b):PE X (.Subscript a b pos) (tOp r ta tb):=by
 intro pins s σ H Q I h
 exact Subscript_ (zo8 ha hb I h fun v u s2 x y H2 I2 rx ry q=>hr a b pins s2 σ H2 x y v u Q I2 rx ry q (hs _ _))
def zy2(K:Fg):R2:=fun x y H Q=>∃ p xs i v,x=.ref p/\y=.int i/\SqL K H p xs/\atI xs i=some v/\Q v H
def zy3(K:Fg):R2:=fun x y H Q=>∃ p xs i v,x=.ref p/\y=.int i/\SqT K H p xs/\atI xs i=some v/\Q v H
def zy4:R2:=fun x y H Q=>∃ z i c,x=.str z/\y=.int i/\z.length<=sizeLine/\atI z.cps.toList i=some c/\Q (.str ⟨#[c]⟩) H
theorem zf3:IxR X (zy2 X.K):=by
 intro value slice pins s σ H x y v u Q I rx ry h hs
 obtain⟨p,xs,i,z,rfl,rfl,hq,he,q⟩:=h
 cases rx
 obtain⟨t,rfl⟩:=ry
 obtain⟨its,r,pl,hz⟩:=I.list hq
 obtain⟨j,h1,h2,h3,h4,h5⟩:=xm3 he
 obtain⟨w,ew,rw'⟩:=r.get h2
 have hl:=r.length
 have hn:=qz4
 have fin:EP X pins σ Q w s:=⟨z,H,I,rw',q⟩
 by_cases h0:0<=i
 ·have hj:i.toNat=j:=by
   rw[seqIndex_of h0 h5] at h1
   exact Option.some.inj h1
  exact item_listR pl.isList h0 (by omega) (by rw[hj];simpa using ew) fin hs
 ·have hj:(i+(its.toArray.size:Int)).toNat=j:=by
   rw[seqIndex_neg (by omega) h4] at h1
   rw[List.size_toArray,<-hl]
   exact Option.some.inj h1
  exact subscriptTail_builtinR (x:=w) pl.isList.typeIs slot_list_getitem.lookup
   (wpAny_getItem_list_neg (Q:=fun r s'=>r=w/\EP X pins σ Q r s') pl.isList (by omega) (by rw[List.size_toArray] <;> omega) (by omega) (by rw[hj];simpa using ew) ⟨rfl,fin⟩) hs
theorem zp8:IxR X (zy3 X.K):=by
 intro value slice pins s σ H x y v u Q I rx ry h hs
 obtain⟨p,xs,i,z,rfl,rfl,hq,he,q⟩:=h
 cases rx
 obtain⟨t,rfl⟩:=ry
 obtain⟨its,r,pl,hz⟩:=I.tuple hq
 obtain⟨j,h1,h2,h3,h4,h5⟩:=xm3 he
 obtain⟨w,ew,rw'⟩:=r.get h2
 have hl:=r.length
 have hn:=qz4
 have fin:EP X pins σ Q w s:=⟨z,H,I,rw',q⟩
 exact subscriptTail_builtinR (x:=w) pl.typeIs slot_tuple_getitem.lookup
  (getItem_tuple (j:=j) (Q:=fun r s'=>r=w/\EP X pins σ Q r s') pl (by omega) (by omega) (by rw[List.size_toArray,<-hl];exact h1) (by simpa using ew) ⟨rfl,fin⟩) hs
theorem zp9:IxR X zy4:=by
 intro value slice pins s σ H x y v u Q I rx ry h hs
 obtain⟨z,i,c,rfl,rfl,hz,he,q⟩:=h
 obtain⟨t,rfl⟩:=rx
 obtain⟨t',rfl⟩:=ry
 obtain⟨j,h1,h2,h3,h4,h5⟩:=xm3 he
 have hl:z.cps.toList.length=z.length:=by simp[Str.length]
 rw[hl] at h1 h4 h5
 have hn:=qz4
 exact tail_any (typeIs_str s z t) slot_str_getitem.lookup (getItem_str (c:=c) (by
  have e1:decide (i < -(2 ^ 63:Int))=false:=decide_eq_false (by omega)
  have e2:decide (i>=2 ^ 63)=false:=decide_eq_false (by omega)
  rw[e1,e2,Bool.or_false]) (by rw[h1];simpa using h2) ⟨.str ⟨#[c]⟩,H,I.tok _,⟨_,rfl⟩,q⟩) hs
def rIx(K:Fg):R2:=fun x y H Q=>zy2 K x y H Q\/zy3 K x y H Q\/zy4 x y H Q
theorem zq0:IxR X (rIx X.K):=zf3.or (zp8.or zp9)
theorem yc0(its:List Value)(n j:Nat)(u:Value):Obj.mapSeq (·.setIfInBounds j u) {cls:=.type "list",data:=.seq its.toArray n}={cls:=.type "list",data:=.seq (its.set j u).toArray n}:=by
 simp[Obj.mapSeq]
theorem Inv.lst{pins:List (Addr×Obj)}{σ:St}{H:Hp}{s:Shared}{p:Addr}{xs:List V}(I:Inv X pins σ H s)(h:H p=some (.lst xs)) :
 ∃ (its:List Value) (n:Nat),G0 xs its/\s.heap.get? p=some {cls:=.type "list",data:=.seq its.toArray n}/\xs.length<=sizeLine:=by
 obtain⟨z,its,n,r,e⟩:=I.hok p _ h
 exact⟨its,n,r,e,z⟩
theorem Inv.lstUpd{n':Nat}{f:Obj->Obj}(I:Inv X pins σ H s)(h:H p=some (.lst xs))(ho:s.heap.get? p=some {cls:=.type "list",data:=.seq its.toArray n})(hf:f {cls:=.type "list",data:=.seq its.toArray n}={cls:=.type "list",data:=.seq its'.toArray n'})(r:G0 ys its')(hz:ys.length<=sizeLine)(t':Nat)(ht:autoParam (0<t') zAt) :
 Inv X pins σ (upd H p (.lst ys)) {s with heap:=s.heap.update p f,toks:=t'}:=by
 have e:(s.heap.update p f).get? p=some {cls:=.type "list",data:=.seq its'.toArray n'}:=by
  rw[Heap.get?_update_self f ho (by rw[hf] <;> rfl),hf]
 refine I.write (x:=p) (e:=p) (by rw[h];trivial) (.inl rfl) (fun b u hb q=>(Heap.get?_update_other _ _ (Ne.symm hb)).trans q) ⟨_,e⟩ ?_
 exact⟨hz,its',n',r,e⟩
def yu1:V->V->V->Hp->(Hp->Prop)->Prop:=fun o i v H Q=>∃ p xs k j,o=.ref p/\i=.int k/\H p=some (.lst xs)/\ixN xs.length k=some j/\Q (upd H p (.lst (xs.set j v)))
theorem yu2:zo7 X yu1:=by
 intro pins s σ H o i v ov iv u Q I ro ri rv h
 obtain⟨p,xs,k,j,rfl,rfl,hp,hj,q⟩:=h
 cases ro
 obtain⟨t,rfl⟩:=ri
 obtain⟨its,n,r,ho,hz⟩:=I.lst hp
 obtain⟨h1,h2,h3,h4⟩:=yi6 hj
 have hl:=r.length
 have hn:=qz4
 have I':Inv X pins σ (upd H p (.lst (xs.set j v))) {s with heap:=s.heap.update p (Obj.mapSeq (·.setIfInBounds j u))} :=
  I.lstUpd hp ho (yc0 its n j u) (r.set rv j) (by rw[List.length_set];exact hz) s.toks
 by_cases h0:0<=k
 ·have hk:k.toNat=j:=by
   rw[seqIndex_of h0 h4] at h1
   exact Option.some.inj h1
  exact PySem.W.ki_setAt ho h0 (by omega) (by rw[List.size_toArray,<-hl];exact h4) (by rw[hk];exact⟨_,I',q⟩)
 ·have hk:(k+(its.toArray.size:Int)).toNat=j:=by
   rw[seqIndex_neg (by omega) h3] at h1
   rw[List.size_toArray,<-hl]
   exact Option.some.inj h1
  exact PySem.W.ki_setBack ho (by omega) (by rw[List.size_toArray,<-hl];exact h3) (by omega) (by rw[hk];exact⟨_,I',q⟩)
theorem qo3(lo hi:Option Int)(n:Nat):(sliceBounds lo hi none n).1=((HT.sIx n 0 lo:Nat):Int)/\(sliceBounds lo hi none n).2.1=((HT.sIx n n hi:Nat):Int)/\(sliceBounds lo hi none n).2.2=1:=by
 refine⟨?_,?_,rfl⟩
 ·cases lo with
  | none=>simp[sliceBounds,HT.sIx]
  | some i =>
    simp only[sliceBounds,HT.sIx,Option.getD_none,show(1:Int) > 0 by decide,if_true]
    by_cases h:i<0
    ·simp only[h,if_true] <;> omega
    ·simp only[h,if_false] <;> omega
 ·cases hi with
  | none=>simp[sliceBounds,HT.sIx]
  | some i =>
    simp only[sliceBounds,HT.sIx,Option.getD_none,show(1:Int) > 0 by decide,if_true]
    by_cases h:i<0
    ·simp only[h,if_true] <;> omega
    ·simp only[h,if_false] <;> omega
theorem xb6(its:List Value)(lo hi:Option Int):slicePick its.toArray lo hi none=((its.drop (HT.sIx its.length 0 lo)).take (HT.sIx its.length its.length hi-HT.sIx its.length 0 lo)).toArray:=by
 obtain⟨h1,h2,h3⟩:=qo3 lo hi its.toArray.size
 unfold slicePick
 rw[h1,h2,h3]
 simp only[sliceRange_one,pick_run,List.size_toArray] <;> rfl
def zy5(K:Fg):V->Option Int->Option Int->Hp->VK->Prop:=fun x lo hi H Q=>∃ a xs,x=.ref a/\SqL K H a xs/\∀ p,H p=none->Q (.ref p) (upd H p (.lst (qb8 xs lo hi)))
theorem zf4:SlR X (zy5 X.K):=by
 intro pins s σ H x v vl vu lo hi sl Q I rx hs pl pu h
 obtain⟨a,xs,rfl,hx,q⟩:=h
 cases rx
 obtain⟨its,r,ht,hz⟩:=I.list hx
 have hlen:=r.length
 refine⟨"list",_,slot_list_getitem.lookup,ht.isList.typeIs,?_⟩
 refine wpAny_getItem_list_slice ht.isList hs pl pu .none (by simp) ?_ (by rw[List.size_toArray] <;> omega)
 rw[xb6,<-hlen]
 refine⟨.ref s.heap.objs.size,_,I.laid (t':=s.toks) (o:=.lst (qb8 xs lo hi)) (fun b ob q=>Heap.get?_push_of_some _ q) (Nat.le_refl _) ?_,rfl,q _ (I.hok.fresh (Nat.le_refl _))⟩
 exact⟨Nat.le_trans (wk1 xs lo hi) hz,_,0,(r.drop (HT.sIx xs.length 0 lo)).take (HT.sIx xs.length xs.length hi-HT.sIx xs.length 0 lo),Heap.get?_push_size _ rfl⟩
def qs8:V->Bool
 | .non=>true
 | .bl _=>true
 | .int _=>true
 | .str _=>true
 | _=>false
def eqV:V->V->Bool
 | .non,.non=>true
 | .bl a,.bl b=>a == b
 | .bl a,.int b=>(if a then 1 else 0) == b
 | .int a,.bl b=>a == (if b then 1 else 0)
 | .int a,.int b=>a == b
 | .str a,.str b=>a == b
 | _,_=>false
theorem zq1{x:V}{v:Value}(ry:L6 y u)(rx:L6 x v)(fy:qs8 y=true)(fx:qs8 x=true):SeqAt.EqAt A s u v (eqV y x):=by
 cases y with
 | non =>
   cases ry
   cases x with
   | non=>cases rx;exact SeqAt.EqAt.same _
   | bl b=>cases rx;exact SeqAt.EqAt.none_bool b
   | int b=>obtain⟨t,rfl⟩:=rx;exact SeqAt.EqAt.none_int b t
   | str b=>obtain⟨t,rfl⟩:=rx;exact SeqAt.EqAt.none_str b t
   | _=>exact absurd (show false=true from fx) Bool.false_ne_true
 | bl a =>
   cases ry
   cases x with
   | non=>cases rx;exact SeqAt.EqAt.bool_none a
   | bl b=>cases rx;exact SeqAt.EqAt.bool_bool a b
   | int b=>obtain⟨t,rfl⟩:=rx;exact SeqAt.EqAt.bool_int a b t
   | str b=>obtain⟨t,rfl⟩:=rx;exact SeqAt.EqAt.bool_str a b t
   | _=>exact absurd (show false=true from fx) Bool.false_ne_true
 | int a =>
   obtain⟨t',rfl⟩:=ry
   cases x with
   | non=>cases rx;exact SeqAt.EqAt.int_none a t'
   | bl b=>cases rx;exact SeqAt.EqAt.int_bool a t' b
   | int b=>obtain⟨t,rfl⟩:=rx;exact SeqAt.EqAt.int_int a t' b t
   | str b=>obtain⟨t,rfl⟩:=rx;exact SeqAt.EqAt.int_str a t' b t
   | _=>exact absurd (show false=true from fx) Bool.false_ne_true
 | str a =>
   obtain⟨t',rfl⟩:=ry
   cases x with
   | non=>cases rx;exact SeqAt.EqAt.str_none a t'
   | bl b=>cases rx;exact SeqAt.EqAt.str_bool a t' b
   | int b=>obtain⟨t,rfl⟩:=rx;exact SeqAt.EqAt.str_int a t' b t
   | str b=>obtain⟨t,rfl⟩:=rx;exact SeqAt.EqAt.str_str a t' b t
   | _=>exact absurd (show false=true from fx) Bool.false_ne_true
 | _=>exact absurd (show false=true from fy) Bool.false_ne_true
def eqU(x:V)(u:Value):Bool:=match u with
 | .none=>eqV .non x
 | .bool b=>eqV (.bl b) x
 | .int i _=>eqV (.int i) x
 | .str z _=>eqV (.str z) x
 | _=>false
theorem yu3{x:V}(r:L6 y u)(f:qs8 y=true):eqU x u=eqV y x:=by
 cases y with
 | non=>cases r;rfl
 | bl b=>cases r;rfl
 | int i=>obtain⟨t,rfl⟩:=r;rfl
 | str z=>obtain⟨t,rfl⟩:=r;rfl
 | _=>exact absurd (show false=true from f) Bool.false_ne_true
theorem xm4{x:V}:∀ {xs:List V} {us:List Value},G0 xs us->xs.all qs8=true->us.any (eqU x)=xs.any fun y=>eqV y x
 | _,_,.nil,_=>rfl
 | y::xs,u::us,.cons r t,f=>by
   rw[List.all_cons,Bool.and_eq_true] at f
   rw[List.any_cons,List.any_cons,yu3 r f.1,xm4 t f.2]
theorem wr0{A:Around}{s:Shared}{x:V}{v:Value}(rx:L6 x v)(fx:qs8 x=true):∀ {xs:List V} {us:List Value},G0 xs us->xs.all qs8=true->∀ u∈us,SeqAt.EqAt A s u v (eqU x u)
 | _,_,.nil,_=>fun u hu=>by cases hu
 | y::xs,u::us,.cons r t,f=>fun u' hu=>by
   rw[List.all_cons,Bool.and_eq_true] at f
   rcases List.mem_cons.mp hu with rfl|hu
   ·rw[yu3 r f.1];exact zq1 r rx f.1 fx
   ·exact wr0 rx fx t f.2 u' hu
def inV(x:V)(xs:List V):Bool:=xs.any fun y=>eqV y x
def rIn(K:Fg)(neg:Bool):R2:=fun x y H Q=>∃ p xs,y=.ref p/\(SqL K H p xs\/SqT K H p xs)/\qs8 x=true/\xs.all qs8=true/\Q (.bl (if neg then !inV x xs else inV x xs)) H
theorem yo7:OpR X (compareOp .In) (rIn X.K false):=by
 intro pins s σ H x y v u Q I rx ry h
 obtain⟨p,xs,rfl,hq,fx,fs,q⟩:=h
 cases ry
 rcases hq with hq|hq
 ·obtain⟨its,r,pl,hz⟩:=I.list hq
  refine SeqAt.in_listAt (eqU x) pl.isList (fun w hw=>wr0 rx fx r fs w (by simpa using hw)) ⟨.bl _,H,I,rfl,?_⟩
  rw[show its.toArray.any (eqU x)=its.any (eqU x) by simp,xm4 r fs]
  exact q
 ·obtain⟨its,r,pl,hz⟩:=I.tuple hq
  refine SeqAt.in_tupleAt (eqU x) pl (fun w hw=>wr0 rx fx r fs w (by simpa using hw)) ⟨.bl _,H,I,rfl,?_⟩
  rw[show its.toArray.any (eqU x)=its.any (eqU x) by simp,xm4 r fs]
  exact q
theorem xm5:W4 X (.builtin "len") (fun xs H Q=>∃ p ys,xs=[.ref p]/\(SqL X.K H p ys\/SqT X.K H p ys)/\Q (.int ys.length) H):=by
 intro pins s σ H xs us Q I r h
 obtain⟨p,ys,rfl,hq,q⟩:=h
 obtain⟨u,rfl,rx⟩:=qr8 r
 cases rx
 have hn:=qz4
 rcases hq with hq|hq
 ·obtain⟨its,r',pl,hz⟩:=I.list hq
  have hlen:=r'.length
  exact Calls.call_len_list pl.isList (by simp only[List.size_toArray] <;> omega) ⟨.int ys.length,H,I.tok _,⟨s.toks+1,by rw[List.size_toArray,hlen]⟩,q⟩
 ·obtain⟨its,r',pl,hz⟩:=I.tuple hq
  have hlen:=r'.length
  exact len_tuple pl (by simp only[List.size_toArray] <;> omega) ⟨.int ys.length,H,I.tok _,⟨s.toks+1,by rw[List.size_toArray,hlen]⟩,q⟩
theorem xm6:W4 X (.builtin "len") (fun xs H Q=>∃ z,xs=[.str z]/\z.length<=sizeLine/\Q (.int z.length) H):=by
 intro pins s σ H xs us Q I r h
 obtain⟨z,rfl,hz,q⟩:=h
 obtain⟨u,rfl,t,rfl⟩:=qr8 r
 have hn:=qz4
 exact len_str (by omega) ⟨.int z.length,H,I.tok _,⟨_,rfl⟩,q⟩
theorem W4.or{f:Value}{r r':List V->Hp->VK->Prop}(h:W4 X f r)(h':W4 X f r'):W4 X f (fun xs H Q=>r xs H Q\/r' xs H Q):=by
 intro pins s σ H xs us Q I rs q
 rcases q with q|q
 ·exact h pins s σ H xs us Q I rs q
 ·exact h' pins s σ H xs us Q I rs q
theorem xm7:W4 X (.type "list") (fun xs H Q=>∃ p ys,xs=[.ref p]/\(SqL X.K H p ys\/SqT X.K H p ys)/\∀ l,H l=none->Q (.ref l) (upd H l (.lst ys))):=by
 intro pins s σ H xs us Q I r h
 obtain⟨p,ys,rfl,hq,q⟩:=h
 obtain⟨u,rfl,rx⟩:=qr8 r
 cases rx
 have fin:∀ (its:List Value),G0 ys its->ys.length<=sizeLine->∀ (h':Heap) (c':Nat),(∀ b o',s.heap.get? b=some o'->h'.get? b=some o') ->
  h'.get? s.heap.objs.size=some {cls:=.type "list",dict:=none,data:=.seq its.toArray c',slots:=#[]}->EP X pins σ Q (.ref s.heap.objs.size) {s with heap:=h'}:=fun its r' hz h' c' kp e =>
  ⟨.ref s.heap.objs.size,_,I.laid (t':=s.toks) kp (Nat.le_refl _) (show O5 X.prog X.w _ h' _ (.lst ys) from ⟨hz,its,c',r',e⟩),rfl,q _ (I.hok.fresh (Nat.le_refl _))⟩
 rcases hq with hq|hq
 ·obtain⟨its,r',pl,hz⟩:=I.list hq
  have hlen:=r'.length
  obtain⟨o,ho,hc,n,hd⟩:=pl.isList
  exact call_list_seq p (.inl rfl) ho hc hd (fun h' c' kp e=>fin its r' hz h' c' kp e) (by simp only[List.size_toArray] <;> omega)
 ·obtain⟨its,r',pl,hz⟩:=I.tuple hq
  have hlen:=r'.length
  obtain⟨o,ho,hc,n,hd⟩:=pl
  exact call_list_seq p (.inr rfl) ho hc hd (fun h' c' kp e=>fin its r' hz h' c' kp e) (by simp only[List.size_toArray] <;> omega)
theorem xb7:W4 X (.type "tuple") (fun xs H Q=>∃ p ys,xs=[.ref p]/\((SqL X.K H p ys/\∀ l,H l=none->Q (.ref l) (upd H l (.tup ys)))\/(SqT X.K H p ys/\Q (.ref p) H))):=by
 intro pins s σ H xs us Q I r h
 obtain⟨p,ys,rfl,h⟩:=h
 obtain⟨u,rfl,rx⟩:=qr8 r
 cases rx
 rcases h with⟨hq,q⟩|⟨hq,q⟩
 ·obtain⟨its,r',pl,hz⟩:=I.list hq
  have hlen:=r'.length
  refine call_tuple_list pl.isList (fun h' kp=>?_) (by simp only[List.size_toArray] <;> omega)
  have I1:Inv X pins σ H {s with heap:=h'}:=I.kept (t':=s.toks) kp
  have I2:Inv X pins σ (upd H h'.objs.size (.tup ys)) {s with heap:=h'.push {cls:=.type "tuple",data:=.seq its.toArray}} :=
   I1.laid (t':=s.toks) (fun b o e=>Heap.get?_push_of_some _ e) (Nat.le_refl _) (show O5 X.prog X.w _ _ _ (.tup ys) from ⟨hz,its,r',IsTup.new _ _⟩)
  exact⟨.ref h'.objs.size,_,I2,rfl,q _ (I1.hok.fresh (Nat.le_refl _))⟩
 ·obtain⟨its,r',pl,hz⟩:=I.tuple hq
  exact call_tuple_same pl ⟨.ref p,H,I,rfl,q⟩
def tyV(K:Fg)(T:String)(x:V)(H:Hp):Prop:=match x with
 | .str _=>T = "str"
 | .int _=>T = "int"
 | .ref p=>(T = "list"/\∃ xs,SqL K H p xs)\/(T = "tuple"/\∃ o,K.lookup p=some o/\o.cls=.type "tuple"/\o.dict=none) \/
  (T = "dict"/\((∃ kvs,H p=some (.dK kvs))\/∃ kvs,H p=some (.dT kvs)))\/(T = "set"/\∃ S n,H p=some (.set S n))
 | _=>False
theorem xm8{x:V}{v:Value}(I:Inv X pins σ H s)(r:L6 x v)(ty:tyV X.K T x H) :
 s.TypeIs v T/\∀ a,v=.ref a->∃ ob,s.heap.get? a=some ob/\ob.dict=none:=by
 cases x with
 | str z =>
   obtain⟨t,rfl⟩:=r
   cases (show T = "str" from ty)
   exact⟨typeIs_str s z t,fun _ e=>nomatch e⟩
 | int i =>
   obtain⟨t,rfl⟩:=r
   cases (show T = "int" from ty)
   exact⟨typeIs_int s i t,fun _ e=>nomatch e⟩
 | ref p =>
   cases r
   rcases ty with⟨rfl,xs,hq⟩|⟨rfl,o,hk,hc,hd⟩|⟨rfl,hk⟩|⟨rfl,S,n,hk⟩
   ·obtain⟨its,_,pl,_⟩:=I.list hq
    refine⟨pl.isList.typeIs,fun a e=>?_⟩
    cases e
    obtain⟨o,n,e,c,hd,_⟩:=pl
    exact⟨o,e,hd⟩
   ·refine⟨⟨o,I.kIn p o hk,hc⟩,fun a e=>?_⟩
    cases e
    exact⟨o,I.kIn _ o hk,hd⟩
   ·have z:∃ o,s.heap.get? p=some o/\o.ExactDict:=by
     rcases hk with⟨kvs,hk⟩|⟨kvs,hk⟩
     ·obtain⟨_,_,_,_,o,_,_,e,ex,_⟩:=I.hok p _ hk
      exact⟨o,e,ex⟩
     ·obtain⟨_,_,_,_,o,_,_,e,ex,_⟩:=I.hok p _ hk
      exact⟨o,e,ex⟩
    obtain⟨o,e,ex⟩:=z
    refine⟨⟨o,e,ex.1⟩,fun a e2=>?_⟩
    cases e2
    exact⟨o,e,ex.2.1⟩
   ·obtain⟨o,_,_,_,e,ex,_⟩:=I.hok p _ hk
    refine⟨⟨o,e,ex.1⟩,fun a e2=>?_⟩
    cases e2
    exact⟨o,e,ex.2.1⟩
 | _=>exact False.elim ty
def yu4(K:Fg)(T:String)(r:V->List V->Hp->VK->Prop)(to:TE):TE:=fun σ H Q=>to σ H fun x H1=>tyV K T x H1/\r x [] H1 Q
def tBM(K:Fg)(T:String)(r:V->List V->Hp->VK->Prop)(to:TE)(t:TA):TE:=fun σ H Q=>to σ H fun x H1=>tyV K T x H1/\t σ H1 fun xs H2=>r x xs H2 Q
variable{t:TA}{id:String}{r:V->List V->Hp->VK->Prop}
theorem yc1(pa:PlainAttrs T)(slot:Slot T name id)(hty:typeOf (.builtin id)=pure (.type "method_descriptor"))(hm:MtR X id r)(ho:PE X o to)(hbase:autoParam (attributeBase o name X.env (eval o X.env)=eval o X.env) zAr)(hline:autoParam ((apos.endLine == cpos.line)=true) zAr):PE X (.Call (.Attribute o name apos) [] [] cpos) (yu4 X.K T r to):=by
 intro pins s σ H Q I h
 refine wpAny_Call_method0_late hbase hline (thn (ho pins s σ H _ I h) fun v s1 zq=>?_)
 obtain⟨x,H1,I1,r1,ty,q1⟩:=zq
 obtain⟨h1,h2⟩:=xm8 I1 r1 ty
 exact⟨T,id,pa,slot,hty,h1,h2,Calls.callWith_builtin rfl (PySem.evalArgs_none (hm pins s1 σ H1 x [] v [] Q I1 r1 .nil q1))⟩
theorem qh4(pa:PlainAttrs T)(slot:Slot T name id)(hty:typeOf (.builtin id)=pure (.type "method_descriptor"))(hm:MtR X id r)(ho:PE X o to)(ha:PA X (e::es) t)(hbase:autoParam (attributeBase o name X.env (eval o X.env)=eval o X.env) zAr) (hfew:((backTo cpos (starEach (e::es) X.env)).all (fun x=>!x.1) && (backToKw cpos (keywordEach [] X.env)).all (fun x=>x.1.isSome)
  && decide ((e::es).length+([]:List Keyword).length+(if([]:List Keyword).isEmpty then 0 else 1)<30))=true:=by rfl) (hline:autoParam ((apos.endLine == cpos.line)=true) zAr) (hs:autoParam (starEach (e::es) X.env=(false,eval e X.env)::starEach es X.env) zAr) (hplain:autoParam ((backTo cpos (starEach es X.env)).any (·.1)=false) zAr) :
 PE X (.Call (.Attribute o name apos) (e::es) [] cpos) (tBM X.K T r to t):=by
 intro pins s σ H Q I h
 refine wpAny_Call_method_late hbase hfew hline rfl (thn (ho pins s σ H _ I h) fun v s1 zq=>?_)
 obtain⟨x,H1,I1,r1,ty,q1⟩:=zq
 obtain⟨h1,h2⟩:=xm8 I1 r1 ty
 refine⟨T,id,pa,slot,hty,h1,h2,?_⟩
 have hA:=ha cpos pins s1 σ H1 _ I1 q1
 rw[hs] at hA ⊢
 refine Calls.callWith_builtin (by show(false || (backTo cpos (starEach es X.env)).any (·.1))=false;rw[hplain] <;> rfl) (Calls.evalArgs_plain ?_)
 exact thn hA fun us s2 ⟨vs,H2,I2,r2,q2⟩=>hm pins s2 σ H2 x vs v us Q I2 r1 r2 q2
end
def MtM(X:Cx)(id:String)(r:V->List V->Hp->VK->Prop):Prop :=
 ∀ (pins:List (Addr×Obj)) (s:Shared) (σ:St) (H:Hp) (x:V) (xs:List V) (v:Value) (us:List Value) (Q:VK),Inv X pins σ H s->L6 x v->G0 xs us->r x xs H Q ->
  wpAny (model X.prog X.w) X.A (call (.builtin id) (v::us)) (EP X pins σ Q) X.xe s
theorem G0.one{x:V}(r:G0 [x] us):∃ u,us=[u]/\L6 x u:=qr8 r
theorem G0.two{x:V}(r:G0 [x,y] us):∃ u v,us=[u,v]/\L6 x u/\L6 y v:=xt0 r
theorem G0.zero:∀ {us:List Value},G0 [] us->us=[]
 | _,.nil=>rfl
theorem G0.dropLast(h:G0 xs us):G0 xs.dropLast us.dropLast:=by
 induction h with
 | nil=>exact .nil
 | cons r t ih =>
   cases t with
   | nil=>exact .nil
   | cons q t'=>exact .cons r ih
theorem G0.eraseIdx:∀ {xs:List V} {us:List Value} (i:Nat),G0 xs us->G0 (xs.eraseIdx i) (us.eraseIdx i)
 | _,_,_,.nil=>.nil
 | _,_,0,.cons _ t=>t
 | _,_,i+1,.cons r t=>.cons r (G0.eraseIdx i t)
theorem G0.reverse(h:G0 xs us):G0 xs.reverse us.reverse:=by
 induction h with
 | nil=>exact .nil
 | cons r t ih=>rw[List.reverse_cons,List.reverse_cons];exact G0.append ih (.cons r .nil)
theorem G0.rep{xs:List V}{us:List Value}(h:G0 xs us):∀ k:Nat,G0 (List.replicate k xs).flatten (List.replicate k us).flatten
 | 0=>.nil
 | k+1=>by
   rw[List.replicate_succ,List.replicate_succ,List.flatten_cons,List.flatten_cons]
   exact G0.append h (G0.rep h k)
theorem yc2(l:List α):l.eraseIdx (l.length-1)=l.dropLast:=by
 induction l with
 | nil=>rfl
 | cons a r ih =>
   cases r with
   | nil=>rfl
   | cons b r =>
     have e:(a::b::r).length-1=((b::r).length-1)+1:=by
      have h1:(a::b::r).length=r.length+2:=rfl
      have h2:(b::r).length=r.length+1:=rfl
      omega
     rw[e,List.eraseIdx_cons_succ,ih]
     all_goals rfl
theorem xj0{α:Type}:∀ (l:List α) (i:Nat),(l.eraseIdx i).length<=l.length
 | [],_=>Nat.le_refl _
 | _::_,0=>Nat.le_succ _
 | _::r,i+1=>Nat.succ_le_succ (xj0 r i)
theorem xj1(its:List Value):∀ (k:Nat) (acc:List Value),
 List.foldl (fun x1 x2=>x1++x2) acc.toArray (List.replicate k its.toArray)=(acc++(List.replicate k its).flatten).toArray
 | 0,acc=>by simp
 | k+1,acc=>by
   have e:acc.toArray++its.toArray=(acc++its).toArray:=by simp
   have e2:(acc++its)++(List.replicate k its).flatten=acc++(List.replicate (k+1) its).flatten:=by
    rw[List.replicate_succ,List.flatten_cons,List.append_assoc]
   rw[<-e2,<-xj1 its k (acc++its),<-e,List.replicate_succ,List.foldl_cons]
variable{l:Addr}{zs:List V}
theorem Inv.lset{f:Array Value->Array Value}(I:Inv X pins σ H s)(hH:H l=some (.lst xs))(e:s.heap.get? l=some {cls:=.type "list",data:=.seq its.toArray n})(hf:f its.toArray=its'.toArray)(hv:G0 ys its')(hz:ys.length<=sizeLine)(ht:autoParam (0<t') zAt) :
 Inv X pins σ (upd H l (.lst ys)) {s with heap:=s.heap.update l (Obj.mapSeq f),toks:=t'}:=by
 have q:=PySem.IsL.update e f
 rw[hf] at q
 refine I.write (x:=l) (e:=l) (by rw[hH];exact trivial) (.inl rfl) (fun b' u hb hu=>(Heap.get?_update_other s.heap (Obj.mapSeq f) (Ne.symm hb)).trans hu) ⟨_,q⟩ ?_
 exact⟨hz,its',_,hv,q⟩
theorem Inv.lnew(I:Inv X pins σ H s)(hv:G0 ys its)(hz:ys.length<=sizeLine)(ht:autoParam (0<t') zAt) :
 Inv X pins σ (upd H s.heap.objs.size (.lst ys)) {s with heap:=s.heap.push {cls:=.type "list",data:=.seq its.toArray},toks:=t'} :=
 I.laid (fun _ _ q=>Heap.get?_push_of_some _ q) (Nat.le_refl _) ⟨hz,its,0,hv,Heap.get?_push_size _ rfl⟩
theorem Inv.fresh(I:Inv X pins σ H s):H s.heap.objs.size=none:=I.hok.fresh (Nat.le_refl _)
theorem Inv.lstM(I:Inv X pins σ H s)(hH:H l=some (.lst xs)):xs.length<=sizeLine/\∃ (its:List Value) (n:Nat),G0 xs its/\xs.length=its.length/\s.heap.get? l=some {cls:=.type "list",data:=.seq its.toArray n}:=by
 obtain⟨z,its,n,r,e⟩:=I.hok l _ hH
 exact⟨z,its,n,r,r.length,e⟩
theorem xt3(h:n<=sizeLine):Builtin.List.listTooLong n=false:=by
 unfold Builtin.List.listTooLong
 exact decide_eq_false (by omega)
def X8:V->List V->Hp->VK->Prop:=fun x vs H Q=>∃ l xs y,x=.ref l/\vs=[y]/\H l=some (.lst xs)/\xs.length<sizeLine/\Q .non (upd H l (.lst (xs++[y])))
theorem S3:MtM X "list.append" X8:=by
 intro pins s σ H x vs v us Q I rx rv h
 obtain⟨l,xs,y,rfl,rfl,hH,hz,q⟩:=h
 cases rx
 obtain⟨u,rfl,ru⟩:=rv.one
 obtain⟨z,its,n,r,hl,e⟩:=I.lstM hH
 refine call_meets F.slot_list_append ⟨_,e,rfl⟩ F.entry_list_append (F.args_list_append_2 _ _) (PySem.list_append l its.toArray n u (by rw[List.size_toArray];omega)) ⟨e,?_⟩
 refine⟨.non,_,I.lset (its':=its++[u]) hH e (by simp) (r.append (.cons ru .nil)) ?_,rfl,q⟩
 rw[List.length_append,List.length_singleton]
 omega
def xm9:V->List V->Hp->VK->Prop:=fun x vs H Q=>∃ l b xs zs,x=.ref l/\vs=[.ref b]/\H l=some (.lst xs)/\H b=some (.lst zs)/\xs.length+zs.length<=sizeLine/\Q .non (upd H l (.lst (xs++zs)))
theorem yo8:MtM X "list.extend" xm9:=by
 intro pins s σ H x vs v us Q I rx rv h
 obtain⟨l,b,xs,zs,rfl,rfl,hH,hB,hz,q⟩:=h
 cases rx
 obtain⟨u,rfl,ru⟩:=rv.one
 cases ru
 obtain⟨z,its,n,r,hl,e⟩:=I.lstM hH
 obtain⟨z2,its2,n2,r2,hl2,e2⟩:=I.lstM hB
 have hsz:its.toArray.size+its2.toArray.size<=sizeLine:=by rw[List.size_toArray,List.size_toArray];omega
 have hlong:¬(!its.toArray.isEmpty && Builtin.List.listTooLong (its.toArray.size+its2.toArray.size))=true:=by
  rw[xt3 hsz,Bool.and_false]
  exact Bool.false_ne_true
 refine call_meets F.slot_list_extend ⟨_,e,rfl⟩ F.entry_list_extend (F.args_list_extend_2 _ _)
  (AutoSeq1.list_extend_list_list_0 l its.toArray n b its2.toArray n2 hlong (by rw[List.size_toArray];omega) (by omega)) ⟨e,e2,?_⟩
 refine⟨.non,_,I.lset (its':=its++its2) hH e (by simp) (r.append r2) ?_,rfl,q⟩
 rw[List.length_append]
 omega
def yu5:V->List V->Hp->VK->Prop:=fun x vs H Q=>∃ l xs y,x=.ref l/\vs=[]/\H l=some (.lst xs)/\xs[xs.length-1]?=some y/\Q y (upd H l (.lst xs.dropLast))
theorem yc3:MtM X "list.pop" yu5:=by
 intro pins s σ H x vs v us Q I rx rv h
 obtain⟨l,xs,y,rfl,rfl,hH,hy,q⟩:=h
 cases rx
 have hus:=rv.zero
 subst hus
 obtain⟨z,its,n,r,hl,e⟩:=I.lstM hH
 obtain⟨u,hu,ru⟩:=r.get hy
 have hy':its.toArray[its.toArray.size-1]?=some u:=by
  show its.toArray[its.length-1]?=some u
  rw[<-Array.getElem?_toList,<-hl]
  exact hu
 refine call_meets F.slot_list_pop ⟨_,e,rfl⟩ F.entry_list_pop (F.args_list_pop_1 _) (MeetsSeq.list_pop_last l its.toArray n u hy' (by rw[List.size_toArray];omega)) ⟨e,?_⟩
 refine⟨y,_,I.lset (its':=its.dropLast) hH e ?_ r.dropLast ?_,ru,q⟩
 ·show its.toArray.eraseIdxIfInBounds (its.toArray.size-1)=its.dropLast.toArray
  rw[List.size_toArray,List.eraseIdxIfInBounds_toArray,yc2]
 ·rw[List.length_dropLast]
  omega
def yc4:V->List V->Hp->VK->Prop:=fun x vs H Q=>∃ l xs i k y,x=.ref l/\vs=[.int i]/\H l=some (.lst xs)/\-(2 ^ 63)<=i/\i<2 ^ 63/\seqIndex? i xs.length=some k/\xs[k]?=some y/\Q y (upd H l (.lst (xs.eraseIdx k)))
theorem yu6:MtM X "list.pop" yc4:=by
 intro pins s σ H x vs v us Q I rx rv h
 obtain⟨l,xs,i,k,y,rfl,rfl,hH,h1,h2,hk,hy,q⟩:=h
 cases rx
 obtain⟨u,rfl,ru⟩:=rv.one
 obtain⟨t,rfl⟩:=ru
 obtain⟨z,its,n,r,hl,e⟩:=I.lstM hH
 obtain⟨w,hw,rw'⟩:=r.get hy
 refine call_meets F.slot_list_pop ⟨_,e,rfl⟩ F.entry_list_pop (F.args_list_pop_2 _ _)
  (MeetsSeq.list_pop_at l its.toArray n i t k w (fitsIndex_both h1 h2) (by rw[List.size_toArray,<-hl];exact hk) (by rw[<-Array.getElem?_toList];exact hw) (by rw[List.size_toArray];omega)) ⟨e,?_⟩
 refine⟨y,_,I.lset (its':=its.eraseIdx k) hH e ?_ (r.eraseIdx k) ?_,rw',q⟩
 ·show its.toArray.eraseIdxIfInBounds k=(its.eraseIdx k).toArray
  rw[List.eraseIdxIfInBounds_toArray]
 ·have:=xj0 xs k
  omega
def zy6:R2:=fun x y H Q=>∃ l b xs zs,x=.ref l/\y=.ref b/\H l=some (.lst xs)/\H b=some (.lst zs)/\xs.length+zs.length<=sizeLine/\∀ p,H p=none->Q (.ref p) (upd H p (.lst (xs++zs)))
theorem zq2:OpR X (binaryOp .Add) zy6:=by
 intro pins s σ H x y v u Q I rx ry h
 obtain⟨l,b,xs,zs,rfl,rfl,hH,hB,hz,q⟩:=h
 cases rx
 cases ry
 obtain⟨z,its,n,r,hl,e⟩:=I.lstM hH
 obtain⟨z2,its2,n2,r2,hl2,e2⟩:=I.lstM hB
 refine PySem.P.add_list e e2 ?_ (by rw[List.size_toArray,List.size_toArray];omega)
 have ea:its.toArray++its2.toArray=(its++its2).toArray:=by simp
 rw[ea]
 exact⟨.ref _,_,I.lnew (t':=s.toks) (r.append r2) (by rw[List.length_append];omega),rfl,q _ I.fresh⟩
def zy7:R2:=fun x y H Q=>∃ l k xs,x=.ref l/\y=.int k/\H l=some (.lst xs)/\-(2 ^ 63)<=k/\k<2 ^ 63/\xs.length*k.toNat<=sizeLine /\
 ∀ p,H p=none->Q (.ref p) (upd H p (.lst (List.replicate k.toNat xs).flatten))
theorem zf5(xs:List α)(k:Nat):(List.replicate k xs).flatten.length=k*xs.length:=by
 induction k with
 | zero=>simp
 | succ k ih=>rw[List.replicate_succ,List.flatten_cons,List.length_append,ih,Nat.succ_mul,Nat.add_comm]
theorem zq3:OpR X (binaryOp .Mult) zy7:=by
 intro pins s σ H x y v u Q I rx ry h
 obtain⟨l,k,xs,rfl,rfl,hH,h1,h2,hz,q⟩:=h
 cases rx
 obtain⟨t,rfl⟩:=ry
 obtain⟨z,its,n,r,hl,e⟩:=I.lstM hH
 have hlen:its.toArray.size*k.toNat<=sizeLine:=by rw[List.size_toArray,<-hl];exact hz
 have hcap:¬its.toArray.size*k.toNat > (2 ^ 63-1) / 8:=by
  have:(sizeLine:Nat)<=(2 ^ 63-1) / 8:=by decide
  omega
 have hfit:¬(!Builtin.List.listFitsIndex k)=true:=by
  rw[fitsIndex_both h1 h2]
  exact Bool.false_ne_true
 have hlong:¬Builtin.List.listTooLong (its.toArray.size*k.toNat)=true:=by
  rw[xt3 hlen]
  exact Bool.false_ne_true
 have hnew:List.foldl (fun x1 x2=>x1++x2) #[] (List.replicate (if its.toArray.isEmpty=true then 0 else k.toNat) its.toArray)=(List.replicate k.toNat its).flatten.toArray:=by
  have f0:∀ m:Nat,List.foldl (fun x1 x2=>x1++x2) #[] (List.replicate m its.toArray)=(List.replicate m its).flatten.toArray:=fun m=>by
   have:=xj1 its m []
   rw[List.nil_append] at this
   exact this
  rw[f0]
  cases its with
  | nil=>simp
  | cons a r'=>rw[if_neg (by simp)]
 refine wpAny_binaryOp_repeat_ref (T := "list") (U := "int") (by decide) ⟨_,e,rfl⟩ (fun s'=>typeIs_int s' k t) noFill_list_mul F.fills_int_mul F.slot_int_rmul repeat_list F.slot_int_index.lookup
  (call_meets F.slot_int_rmul (typeIs_int s k t) F.entry_int_rmul (F.args_int_rmul_2 _ _) (int___rmul___int_list k t l its.toArray n)
   ⟨e,rfl,⟨_,e,rfl⟩,call_meets F.slot_list_mul ⟨_,e,rfl⟩ F.entry_list_mul (F.args_list_mul_2 _ _) (AutoListH.list___mul___list_int_3 l its.toArray n k t hfit hcap hlong) ⟨e,?_⟩⟩)
 rw[hnew]
 exact⟨.ref _,_,I.lnew (t':=s.toks) (r.rep k.toNat) (by rw[zf5,Nat.mul_comm];exact hz),rfl,q _ I.fresh⟩
section
variable[DecidableEq κ]
def S2(kvs:List (κ×V))(k:κ):Option V:=(kvs.find? fun kv=>decide (kv.1=k)).map (·.2)
def Z3(kvs:List (κ×V))(k:κ)(v:V):List (κ×V) :=
 if(kvs.any fun kv=>decide (kv.1=k))=true then kvs.map (fun kv=>if kv.1=k then(kv.1,v) else kv) else kvs++[(k,v)]
theorem yu7{k:κ}:S2 ([]:List (κ×V)) k=none:=rfl
theorem U9{p:κ×V}{r:List (κ×V)}{k:κ}(e:p.1=k):S2 (p::r) k=some p.2:=by simp[S2,List.find?_cons,e]
theorem V0{p:κ×V}{r:List (κ×V)}{k:κ}(e:¬p.1=k):S2 (p::r) k=S2 r k:=by simp[S2,List.find?_cons,e]
theorem qs9(k:κ):∀ kvs:List (κ×V),(kvs.any fun kv=>decide (kv.1=k))=(S2 kvs k).isSome
 | []=>rfl
 | p::r=>by
   rw[List.any_cons]
   by_cases e:p.1=k
   ·simp only[U9 e,decide_eq_true e,Bool.true_or,Option.isSome_some]
   ·rw[V0 e,decide_eq_false e,Bool.false_or];exact qs9 k r
theorem xt4(k j:κ)(y:V):∀ kvs:List (κ×V),S2 (kvs.map fun kv=>if kv.1=k then(kv.1,y) else kv) j=(S2 kvs j).map fun x=>if j=k then y else x
 | []=>rfl
 | p::r=>by
   have ih:=xt4 k j y r
   rw[List.map_cons]
   by_cases h:p.1=k
   ·rw[if_pos h]
    by_cases e:p.1=j
    ·rw[U9 (p:=(p.1,y)) e,U9 e,Option.map_some,if_pos (e.symm.trans h)]
    ·rw[V0 (p:=(p.1,y)) e,V0 e,ih]
   ·rw[if_neg h]
    by_cases e:p.1=j
    ·rw[U9 (p:=p) e,U9 e,Option.map_some,if_neg (fun z=>h (e.trans z))]
    ·rw[V0 (p:=p) e,V0 e,ih]
theorem xj2(k j:κ)(y:V):∀ kvs:List (κ×V),S2 kvs k=none->S2 (kvs++[(k,y)]) j=if j=k then some y else S2 kvs j
 | [],_=>by
   by_cases e:k=j
   ·rw[if_pos e.symm];exact U9 (p:=(k,y)) e
   ·rw[if_neg (fun z=>e z.symm)];exact V0 (p:=(k,y)) e
 | p::r,hn=>by
   rw[List.cons_append]
   have hk:¬p.1=k:=fun z=>by rw[U9 z] at hn;cases hn
   rw[V0 hk] at hn
   have ih:=xj2 k j y r hn
   by_cases e:p.1=j
   ·rw[U9 e,U9 e,if_neg (fun z=>hk (e.trans z))]
   ·rw[V0 e,V0 e,ih]
theorem xt5(kvs:List (κ×V))(k j:κ)(y:V):S2 (Z3 kvs k y) j=if j=k then some y else S2 kvs j:=by
 unfold Z3
 by_cases a:(kvs.any fun kv=>decide (kv.1=k))=true
 ·rw[if_pos a,xt4]
  rw[qs9] at a
  by_cases e:j=k
  ·obtain⟨x,hx⟩:=Option.isSome_iff_exists.mp a
   rw[if_pos e,e,hx,Option.map_some,if_pos rfl]
  ·rw[if_neg e]
   cases S2 kvs j with
   | none=>rfl
   | some x=>rw[Option.map_some,if_neg e]
 ·rw[if_neg a]
  refine xj2 k j y kvs ?_
  rw[qs9] at a
  cases q:S2 kvs k with
  | none=>rfl
  | some x=>rw[q] at a;exact(a rfl).elim
theorem qt0(kvs:List (κ×V))(k:κ)(v:V):(Z3 kvs k v).length<=kvs.length+1:=by
 unfold Z3
 split
 ·rw[List.length_map];omega
 ·rw[List.length_append,List.length_cons,List.length_nil];omega
theorem yu8{kvs:List (κ×V)}{k:κ}(v:V)(h:S2 kvs k=none):Z3 kvs k v=kvs++[(k,v)]:=by
 unfold Z3
 rw[qs9,h]
 exact if_neg (by decide)
theorem qx5.isSome_eq{o:Option V}{u:Option Value}(r:qx5 o u):o.isSome=u.isSome:=by
 cases o with
 | none=>cases u with
   | none=>rfl
   | some _=>exact(show False from r).elim
 | some _=>cases u with
   | none=>exact(show False from r).elim
   | some _=>rfl
theorem qx5.getD{o:Option V}{u:Option Value}{d:V}{d':Value}(r:qx5 o u)(rd:L6 d d'):L6 (o.getD d) (u.getD d'):=by
 cases o with
 | none=>cases u with
   | none=>exact rd
   | some _=>exact(show False from r).elim
 | some _=>cases u with
   | none=>exact(show False from r).elim
   | some _=>exact r
theorem KV.val{kvs:List (κ×V)}{vs:List (κ×Value)}(r:KV kvs vs)(k:κ):qx5 (S2 kvs k) (valueAt vs k):=by
 unfold KV at r
 induction r with
 | nil=>exact True.intro
 | @cons p q ps qs h t ih =>
   obtain⟨h1,h2⟩:=h
   by_cases e:p.1=k
   ·have e':q.1=k:=h1.symm.trans e
    have b:valueAt (q::qs) k=some q.2:=by simp[valueAt,List.find?_cons,e']
    rw[U9 e,b];exact h2
   ·have e':¬q.1=k:=fun z=>e (h1.trans z)
    have b:valueAt (q::qs) k=valueAt qs k:=by simp[valueAt,List.find?_cons,e']
    rw[V0 e,b];exact ih
theorem KV.any{kvs:List (κ×V)}{vs:List (κ×Value)}(r:KV kvs vs)(k:κ):(kvs.any fun kv=>decide (kv.1=k))=vs.any fun kv=>decide (kv.1=k):=by
 unfold KV at r
 induction r with
 | nil=>rfl
 | cons h t ih=>rw[List.any_cons,List.any_cons,ih,h.1]
theorem KV.repl{kvs:List (κ×V)}{vs:List (κ×Value)}(r:KV kvs vs)(k:κ)(ry:L6 y u) :
 KV (kvs.map fun kv=>if kv.1=k then(kv.1,y) else kv) (vs.map fun kv=>if kv.1=k then(kv.1,u) else kv):=by
 unfold KV at r ⊢
 induction r with
 | nil=>exact .nil
 | @cons p q ps qs h t ih =>
   rw[List.map_cons,List.map_cons]
   refine .cons ?_ ih
   obtain⟨h1,h2⟩:=h
   by_cases e:p.1=k
   ·rw[if_pos e,if_pos (h1.symm.trans e)];exact⟨h1,ry⟩
   ·rw[if_neg e,if_neg (fun z=>e (h1.trans z))];exact⟨h1,h2⟩
theorem KV.put{kvs:List (κ×V)}{vs:List (κ×Value)}(r:KV kvs vs)(k:κ)(ry:L6 y u):KV (Z3 kvs k y) (stored vs k u):=by
 unfold Z3 stored
 rw[r.any k]
 by_cases e:(vs.any fun kv=>decide (kv.1=k))=true
 ·rw[if_pos e,if_pos e];exact r.repl k ry
 ·rw[if_neg e,if_neg e];exact Paired.snoc r ⟨rfl,ry⟩
theorem KV.length{kvs:List (κ×V)}{vs:List (κ×Value)}(r:KV kvs vs):kvs.length=vs.length:=Paired.length r
end
theorem xt6{k:Key}(r:L6 (kV k) u):(Q5 P w).is k u=true:=by
 cases k with
 | inl i=>obtain⟨t,e⟩:=(show ∃ t,u=Value.int i t from r);subst e;exact xs6 P w i t
 | inr x=>obtain⟨t,e⟩:=(show ∃ t,u=Value.str x t from r);subst e;exact xs7 P w x t
theorem xj3{P:Program}{w:World}:∀ {ks:List Key} {us:List Value},G0 (ks.map kV) us->ItemsAre (Q5 P w) ks us
 | [],_,r=>by rw[List.map_nil] at r;cases r;exact .nil
 | k::ks,_,r=>by
   rw[List.map_cons] at r
   cases r with
   | cons h t=>exact .cons (xt6 h) (xj3 t)
abbrev KT(H:Hp):List (List Key×V)->List (List Key×Addr×Value)->Prop:=Paired fun p q=>p.1=q.1/\H q.2.1=some (.tup (p.1.map kV))/\L6 p.2 q.2.2
variable{kvs:List (List Key×V)}
theorem KT.val{xs:List (List Key×Addr×Value)}(r:KT H kvs xs)(k:List Key):qx5 (S2 kvs k) ((atKey xs k).map (·.2)):=by
 induction r with
 | nil=>exact True.intro
 | @cons p q ps qs h t ih =>
   obtain⟨h1,_,h2⟩:=h
   by_cases e:p.1=k
   ·have e':q.1=k:=h1.symm.trans e
    have b:atKey (q::qs) k=some q.2:=by simp[atKey,List.find?_cons,e']
    rw[U9 e,b];exact h2
   ·have e':¬q.1=k:=fun z=>e (h1.trans z)
    have b:atKey (q::qs) k=atKey qs k:=by simp[atKey,List.find?_cons,e']
    rw[V0 e,b];exact ih
theorem KT.repl{xs:List (List Key×Addr×Value)}(r:KT H kvs xs)(k:List Key)(ry:L6 y u) :
 KT H (kvs.map fun kv=>if kv.1=k then(kv.1,y) else kv) (xs.map (putAt k u)):=by
 induction r with
 | nil=>exact .nil
 | @cons p q ps qs h t ih =>
   rw[List.map_cons,List.map_cons]
   refine .cons ?_ ih
   obtain⟨h1,h2,h3⟩:=h
   unfold putAt
   by_cases e:p.1=k
   ·rw[if_pos e,if_pos (h1.symm.trans e)];exact⟨h1,h2,ry⟩
   ·rw[if_neg e,if_neg (fun z=>e (h1.trans z))];exact⟨h1,h2,h3⟩
theorem KT.put{xs:List (List Key×Addr×Value)}(r:KT H kvs xs)(k:List Key)(hb:H b=some (.tup (k.map kV)))(ry:L6 y u) :
 KT H (Z3 kvs k y) (storedH xs k b u):=by
 have e:(kvs.any fun kv=>decide (kv.1=k))=(atKey xs k).isSome:=by
  rw[qs9,(r.val k).isSome_eq,Option.isSome_map]
 unfold Z3 storedH
 rw[e]
 by_cases q:(atKey xs k).isSome=true
 ·rw[if_pos q,if_pos q];exact r.repl k ry
 ·rw[if_neg q,if_neg q];exact Paired.snoc r ⟨rfl,hb,ry⟩
theorem KT.keeps{xs:List (List Key×Addr×Value)}(r:KT H kvs xs)(ht:∀ b ys,H b=some (.tup ys)->H' b=some (.tup ys)):KT H' kvs xs :=
 Paired.mapP r fun _ _ z=>⟨z.1,ht _ _ z.2.1,z.2.2⟩
theorem zm2{u:HO}(ok:HOk P w H h)(e:Rd H a u):O5 P w H h a u:=e.ok ok
theorem wr1{kvs:List (Key×V)}(ok:HOk P w H h)(e:Rd H a (.dK kvs)):kvs.length<=sizeLine/\(a == sysModules)=false/\∃ vs,KV kvs vs/\h.DictOf (Q5 P w) a vs :=
 show O5 P w H h a (.dK kvs) from zm2 ok e
theorem zm3{kvs:List (Key×V)}(ok:HOk P w H h)(e:H a=some (.dK kvs)):kvs.length<=sizeLine/\(a == sysModules)=false/\∃ vs,KV kvs vs/\h.DictOf (Q5 P w) a vs:=wr1 ok (.inl e)
theorem wr2{ks:List Key}(ok:HOk P w H h)(e:H a=some (.tup (ks.map kV))):(tupleKind (Q5 P w)).is h ks a:=by
 obtain⟨_,its,r,o,h1,h2,n,h3⟩:=(show O5 P w H h a (.tup (ks.map kV)) from ok a _ e)
 exact⟨o,its.toArray,n,h1,h2,h3,by simpa using xj3 r⟩
theorem xj4(ok:HOk P w H h)(e:Rd H a (.dT kvs)):kvs.length<=sizeLine/\(a == sysModules)=false /\
 ∃ xs,KT H kvs xs/\h.DictOfH (tupleKind (Q5 P w)) a xs:=by
 obtain⟨z,y,xs,r,o,es,ep,h1,h2,h3,h4,h5⟩:=(show O5 P w H h a (.dT kvs) from zm2 ok e)
 refine⟨z,y,xs,r,o,es,ep,h1,h2,h3,h4,fun x hx=>?_,h5⟩
 have all:∀ {l:List (List Key×V)} {m:List (List Key×Addr×Value)},KT H l m->∀ x∈m,(tupleKind (Q5 P w)).is h x.1 x.2.1:=by
  intro l m q
  induction q with
  | nil=>intro x hx;exact nomatch hx
  | @cons p q ps qs hq t ih =>
    intro x hx
    rcases List.mem_cons.mp hx with e|hx
    ·subst e
     exact wr2 ok (by rw[<-hq.1];exact hq.2.1)
    ·exact ih x hx
 exact all r x hx
theorem zy8(ok:HOk P w H h)(e:H a=some (.dT kvs)):kvs.length<=sizeLine/\(a == sysModules)=false /\
 ∃ xs,KT H kvs xs/\h.DictOfH (tupleKind (Q5 P w)) a xs:=xj4 ok (.inl e)
def qz5(H:Hp)(a:Addr)(y:V)(r:Option V):Prop :=
 (∃ kvs k,Rd H a (.dK kvs)/\y=kV k/\r=S2 kvs k)\/∃ kvs k b,Rd H a (.dT kvs)/\y=.ref b/\H b=some (.tup (k.map kV))/\r=S2 kvs k
def xt7(H:Hp)(a:Addr)(y v:V)(H':Hp):Prop :=
 (∃ kvs k,H a=some (.dK kvs)/\y=kV k/\kvs.length<sizeLine/\H'=upd H a (.dK (Z3 kvs k v))) \/
 ∃ kvs k b,H a=some (.dT kvs)/\y=.ref b/\H b=some (.tup (k.map kV))/\kvs.length<sizeLine/\H'=upd H a (.dT (Z3 kvs k v))
theorem qz5.k{kvs:List (Key×V)}{k:Key}(e:H a=some (.dK kvs)):qz5 H a (kV k) (S2 kvs k):=.inl ⟨kvs,k,.inl e,rfl,rfl⟩
theorem qz5.t{k:List Key}(e:H a=some (.dT kvs))(eb:H b=some (.tup (k.map kV))):qz5 H a (.ref b) (S2 kvs k):=.inr ⟨kvs,k,b,.inl e,rfl,eb,rfl⟩
theorem xt7.k{kvs:List (Key×V)}{k:Key}(e:H a=some (.dK kvs))(hl:kvs.length<sizeLine):xt7 H a (kV k) v (upd H a (.dK (Z3 kvs k v))):=.inl ⟨kvs,k,e,rfl,hl,rfl⟩
theorem xt7.t{k:List Key}(e:H a=some (.dT kvs))(eb:H b=some (.tup (k.map kV)))(hl:kvs.length<sizeLine) :
 xt7 H a (.ref b) v (upd H a (.dT (Z3 kvs k v))):=.inr ⟨kvs,k,b,e,rfl,eb,hl,rfl⟩
section
variable{r:Value}{o:Option V}
theorem Inv.big(I:Inv X pins σ H s):sysModules<s.heap.objs.size:=by
 have h:mainGlobals<s.heap.objs.size:=(I.mod.glob.keeps I.bk).lt
 exact Nat.lt_trans (by decide) h
theorem yo9(hu:A.units+1<cLine)(I:Inv X pins σ H s)(g:qz5 H a y (some v))(ry:L6 y u)(h:∀ w' s',Inv X pins σ H s'->L6 v w'->Q w' s') :
 wpAny (model X.prog X.w) A (getItem (.ref a) u) Q E s:=by
 rcases g with⟨kvs,k,e,ey,l⟩|⟨kvs,k,b,e,ey,eb,l⟩
 ·subst ey
  obtain⟨z,hd,vs,rel,dd⟩:=wr1 I.hok e
  obtain⟨w',hw,rw'⟩:=qx5.some_of (v:=v) (o:=valueAt vs k) (by rw[l];exact rel.val k)
  exact wpAny_getItem_of (xt6 ry) dd.mapOf hw (h w' _ (I.tok _) rw')
 ·subst ey
  cases (show u=Value.ref b from ry)
  obtain⟨z,hd,xs,rel,dd⟩:=xj4 I.hok e
  obtain⟨w',hw,rw'⟩:=qx5.some_of (v:=v) (o:=(atKey xs k).map (·.2)) (by rw[l];exact rel.val k)
  obtain⟨p,hp,hp2⟩:=Option.map_eq_some_iff.mp hw
  refine wpAny_getItem_heap (tupleKind_room_in1 hu) (wr2 I.hok eb) dd hp ?_
  rw[hp2]
  exact h w' _ (I.tok _) rw'
theorem Ad8(hu:A.units+1<cLine)(I:Inv X pins σ H s)(g:qz5 H a y o)(ry:L6 y u)(h:∀ s',Inv X pins σ H s'->Q (.bool o.isSome) s') :
 wpAny (model X.prog X.w) A (compareOp .In u (.ref a)) Q E s:=by
 rcases g with⟨kvs,k,e,ey,l⟩|⟨kvs,k,b,e,ey,eb,l⟩
 ·subst ey
  obtain⟨z,hd,vs,rel,dd⟩:=wr1 I.hok e
  refine wpAny_in_of (xt6 ry) hd dd.mapOf ?_
  rw[<-(rel.val k).isSome_eq,<-l]
  exact h _ (I.tok _)
 ·subst ey
  cases (show u=Value.ref b from ry)
  obtain⟨z,hd,xs,rel,dd⟩:=xj4 I.hok e
  refine wpAny_in_heap (tupleKind_room_in1 hu) (wr2 I.hok eb) hd dd ?_
  have q:=(rel.val k).isSome_eq
  rw[Option.isSome_map] at q
  rw[<-q,<-l]
  exact h _ (I.tok _)
theorem yi7{ob:HO}(I:Inv X pins σ H s)(mu:Mut (H a))(hs:Heap.SameBut a s.heap h')(he:∃ q,h'.get? a=some q)(new:O5 X.prog X.w (upd H a ob) h' a ob)(ht:autoParam (0<t') zAt) :
 Inv X pins σ (upd H a ob) {s with heap:=h',toks:=t'} :=
 I.write (x:=a) (e:=a) mu (.inl rfl) (fun b q hb z=>(hs.2 b hb).trans z) he new
theorem zq4{kvs:List (Key×V)}{vs:List (Key×Value)}(z:kvs.length<=sizeLine)(hd:(a == sysModules)=false)(rel:KV kvs vs)(dd:h'.DictOf (Q5 P w) a vs) :
 O5 P w H' h' a (.dK kvs):=⟨z,hd,vs,rel,dd⟩
theorem yp0{Q:Unit->Shared->Prop}(hu:A.units+1<cLine)(I:Inv X pins σ H s)(g:xt7 H a y v H')(ry:L6 y u)(rv:L6 v r)(h:∀ s',Inv X pins σ H' s'->Q () s') :
 wpAny (model X.prog X.w) A (setItem (.ref a) u r) Q E s:=by
 rcases g with⟨kvs,k,e,ey,l,eH⟩|⟨kvs,k,b,e,ey,eb,l,eH⟩
 ·subst ey eH
  obtain⟨z,hd,vs,rel,dd⟩:=zm3 I.hok e
  have hz:vs.length<=sizeLine:=by rw[<-rel.length];exact z
  have hl:(Z3 kvs k v).length<=sizeLine:=by have:=qt0 kvs k v;omega
  refine wpAny_setItem_pairs (hsz:=hz) (xt6 ry) dd fun h' dd' hs=>h _ ?_
  have he:∃ q,h'.get? a=some q:=let ⟨q,_,_,hq,_⟩:=dd';⟨q,hq⟩
  exact yi7 I (by rw[e];exact True.intro) hs he (zq4 hl hd (rel.put k rv) dd')
 ·subst ey eH
  cases (show u=Value.ref b from ry)
  obtain⟨z,hd,xs,rel,dd⟩:=zy8 I.hok e
  have hz:xs.length<=sizeLine:=by rw[<-Paired.length rel];exact z
  have hl:(Z3 kvs k v).length<=sizeLine:=by have:=qt0 kvs k v;omega
  refine wpAny_setItem_heap (hsz:=hz) (tupleKind_room_in1 hu) (wr2 I.hok eb) dd fun h' dd' hs=>h _ ?_
  obtain⟨q,es,ep,hq,h2,h3,h4,_,h5⟩:=dd'
  refine yi7 I (by rw[e];exact True.intro) hs ⟨q,hq⟩ ⟨hl,hd,_,(rel.put k eb rv).keeps fun c ys ec=>?_,q,es,ep,hq,h2,h3,h4,h5⟩
  rw[C1 (zx2 ec e (fun z=>nomatch z))]
  exact ec
end
section
variable{kvs:List (Key×V)}{k:Key}
theorem zy9(I:Inv X pins σ H s)(e:Rd H a (.dK kvs))(h:∀ t s',Inv X pins σ H s'->Q (.int kvs.length t) s'):wpAny (model X.prog X.w) A (call (.builtin "len") [.ref a]) Q E s:=by
 obtain⟨z,hd,vs,rel,dd⟩:=wr1 I.hok e
 refine call_len_dict hd dd (by rw[<-rel.length];rw[sizeLine_eq] at z;omega) ?_
 rw[<-rel.length]
 exact h _ _ (I.tok _)
end
def zz0(i:Expr):Prop:=∀ ov iv,subscripted i false ov iv=operate [ov,iv] (getItem ov iv)
variable{value:Expr}
theorem zf6{slice:Expr}{id:String}(hl:typeLookup (.type T) "__getitem__"=pure (some (.builtin id)))(hs:zz0 slice)(h:wpAny (model prog w) A (eval value env) (fun o s₁=>wpAny (model prog w) A (eval slice env) (fun i s₂=>s₂.TypeIs o T/\wpAny (model prog w) A (getItem o i) Q E s₂) E s₁) E s) :
 wpAny (model prog w) A (eval (.Subscript value slice pos) env) Q E s:=by
 refine Subscript_ (wpAny_mono h (fun o s₁ h₁=>wpAny_mono h₁ (fun i s₂ h₂=>?_) fun _ _ x=>x) fun _ _ x=>x)
 obtain⟨hT,h₂⟩:=h₂
 unfold subscriptTail
 refine wpAny_bind ?_
 rw[getitemInPython_of_ne hT.not_modules]
 refine wpAny_bind (wpAny_specialOf hT hl ?_)
 have fin:wpAny (model prog w) A (subscripted slice false o i) (fun r s₃=>wpAny (model prog w) A (letTemporaryGo value o r >>= fun _=>pure r) Q E s₃) E s₂:=by
  rw[hs o i]
  exact wpAny_operating (wpAny_mono h₂ (fun r s₃ h₃=>wpAny_bind (wpAny_letTemporaryGo (wpAny_pure h₃))) fun _ _ x=>x)
 first
  | exact wpAny_pure (wpAny_bind fin)
  | exact wpAny_bind (wpAny_pure (wpAny_bind fin))
  | exact wpAny_bind fin
theorem xt8{o:Option V}(I:Inv X pins σ H s)(g:qz5 H a y o):s.TypeIs (.ref a) "dict":=by
 rcases g with⟨kvs,k,e,_,_⟩|⟨kvs,k,b,e,_,_,_⟩
 ·obtain⟨_,_,vs,_,dd⟩:=wr1 I.hok e
  exact dd.typeIs
 ·obtain⟨_,_,xs,_,dd⟩:=xj4 I.hok e
  exact dd.typeIs
def yu9(td ty:TE):TE:=fun σ H Q=>td σ H fun x H1=>ty σ H1 fun y H2=>∃ a v,x=.ref a/\qz5 H2 a y (some v)/\Q v H2
variable{td tv ty:TE}{tpos:Pos}
section
variable{i:Expr}
theorem zf7(hu:X.A.units+1<cLine)(ho:PE X o td)(hi:PE X i ty)(hs:zz0 i):PE X (.Subscript o i pos) (yu9 td ty):=by
 intro pins s σ H Q I h
 refine zf6 PySem.F.slot_dict_getitem.lookup hs (thn (ho pins s σ H _ I h) fun u s1 ⟨x,H1,I1,rx,q1⟩=>thn (hi pins s1 σ H1 _ I1 q1) fun iv s2 zq=>?_)
 obtain⟨y,H2,I2,ry,a,v,ex,g,q2⟩:=zq
 subst ex
 obtain rfl:u=Value.ref a:=rx
 exact⟨xt8 I2 g,yo9 hu I2 g ry fun w' s3 I3 rw'=>⟨v,H2,I3,rw',q2⟩⟩
end
theorem yv0(h:Heap)(hb:sysModules<h.objs.size):O5 P w H (h.push {cls:=.type "dict",data:=.dict #[]}) h.objs.size (.dK []) :=
 ⟨Nat.zero_le _,beq_eq_false_iff_ne.mpr (Ne.symm (Nat.ne_of_lt hb)),[],.nil,Heap.DictOf.new h⟩
theorem yv1(h:Heap)(hb:sysModules<h.objs.size):O5 P w H (h.push {cls:=.type "dict",data:=.dict #[]}) h.objs.size (.dT []) :=
 ⟨Nat.zero_le _,beq_eq_false_iff_ne.mpr (Ne.symm (Nat.ne_of_lt hb)),[],.nil,_,#[],0,Heap.get?_push_size _ rfl,⟨rfl,rfl,rfl⟩,rfl,rfl,List.nodup_nil⟩
def yv2:TE:=fun _ H Q=>∀ p,H p=none->Q (.ref p) (upd H p (.dK []))
def yv3:TE:=fun _ H Q=>∀ p,H p=none->Q (.ref p) (upd H p (.dT []))
theorem yv4:PE X (.Dict [] [] pos) yv2:=fun pins s σ H Q I h =>
 wpAny_Dict_empty ⟨.ref s.heap.objs.size,_,I.laid (a:=s.heap.objs.size) (o:=.dK []) (t':=s.toks) (fun _ _ q=>Heap.get?_push_of_some _ q) (Nat.le_refl _) (yv0 s.heap I.big),rfl,h _ (I.hok.fresh (Nat.le_refl _))⟩
theorem yv5:PE X (.Dict [] [] pos) yv3:=fun pins s σ H Q I h =>
 wpAny_Dict_empty ⟨.ref s.heap.objs.size,_,I.laid (a:=s.heap.objs.size) (o:=.dT []) (t':=s.toks) (fun _ _ q=>Heap.get?_push_of_some _ q) (Nat.le_refl _) (yv1 s.heap I.big),rfl,h _ (I.hok.fresh (Nat.le_refl _))⟩
structure M1(X:Cx)(o:Expr)(m:Str)(apos:Pos)(e:Expr)(cpos:Pos):Prop where
 base:attributeBase o m X.env (eval o X.env)=eval o X.env
 few:((backTo cpos (starEach [e] X.env)).all (fun x=>!x.1) && (backToKw cpos (keywordEach [] X.env)).all (fun x=>x.1.isSome)
  && decide (([e]:List Expr).length+([]:List Keyword).length+(if([]:List Keyword).isEmpty then 0 else 1)<30))=true
 line:(apos.endLine == cpos.line)=true
 trees:backTo cpos (starEach [e] X.env)=[(false,eval e X.env)]
def IsD(H:Hp)(a:Addr):Prop:=(∃ kvs,Rd H a (.dK kvs))\/∃ kvs,Rd H a (.dT kvs)
theorem zq5(I:Inv X pins σ H s)(d:IsD H a) :
 s.TypeIs (.ref a) "dict"/\(∀ b,Value.ref a=.ref b->∃ ob,s.heap.get? b=some ob/\ob.dict=none)/\(a == sysModules)=false:=by
 rcases d with⟨kvs,e⟩|⟨kvs,e⟩
 ·obtain⟨_,hd,vs,_,dd⟩:=wr1 I.hok e
  refine⟨dd.typeIs,fun b q=>?_,hd⟩
  cases q
  obtain⟨ob,_,_,h1,h2,_⟩:=dd
  exact⟨ob,h1,h2.2.1⟩
 ·obtain⟨_,hd,xs,_,dd⟩:=xj4 I.hok e
  refine⟨dd.typeIs,fun b q=>?_,hd⟩
  cases q
  obtain⟨ob,_,_,h1,h2,_⟩:=dd
  exact⟨ob,h1,h2.2.1⟩
section
variable{d:V}{r:Value}{o:Option V}
theorem zq6(hu:A.units+1<cLine)(I:Inv X pins σ H s)(g:qz5 H a y o)(ry:L6 y u)(h:∀ w' s',Inv X pins σ H s'->L6 (o.getD .non) w'->Q w' s') :
 wpAny (model X.prog X.w) A (call (.builtin "dict.get") [.ref a,u]) Q E s:=by
 rcases g with⟨kvs,k,e,ey,l⟩|⟨kvs,k,b,e,ey,eb,l⟩
 ·subst ey
  obtain⟨z,hd,vs,rel,dd⟩:=wr1 I.hok e
  refine call_meetsIn PySem.F.slot_dict_get dd.typeIs PySem.F.entry_dict_get (PySem.F.args_dict_get_2 _ _) (meets_dict_get (Q5 X.prog X.w) a (xt6 ry) hd) ⟨_,dd.mapOf,h _ _ (I.tok _) ?_⟩
  rw[l]
  exact(rel.val k).getD rfl
 ·subst ey
  cases (show u=Value.ref b from ry)
  obtain⟨z,hd,xs,rel,dd⟩:=xj4 I.hok e
  refine call_meetsIn PySem.F.slot_dict_get dd.typeIs PySem.F.entry_dict_get (PySem.F.args_dict_get_2 _ _) (meetsH_dict_get (tupleKind (Q5 X.prog X.w)) a b hd) ⟨tupleKind_room_in1 hu,k,xs,wr2 I.hok eb,dd,h _ _ (I.tok _) ?_⟩
  rw[l]
  exact(rel.val k).getD rfl
end
def yc5(td ty:TE):TE:=fun σ H Q=>td σ H fun x H1=>∃ a,x=.ref a/\IsD H1 a/\ty σ H1 fun y H2=>∃ o,qz5 H2 a y o/\Q (o.getD .non) H2
variable{tx:TE}
section
variable{f:Expr}
theorem yv6(hu:X.A.units+1<cLine)(ho:PE X o td)(he:PE X e ty)(m:M1 X o "get" apos e cpos):PE X (.Call (.Attribute o "get" apos) [e] [] cpos) (yc5 td ty):=by
 intro pins s σ H Q I h
 refine wpAny_Call_method m.base m.few m.line PySem.F.plainAttrs_dict PySem.F.slot_dict_get PySem.F.type_dict_get (thn (ho pins s σ H _ I h) fun u s1 zq=>?_)
 obtain⟨x,H1,I1,rx,a,ex,d,q1⟩:=zq
 subst ex
 obtain rfl:u=Value.ref a:=rx
 obtain⟨t1,t2,_⟩:=zq5 I1 d
 refine⟨t1,t2,?_⟩
 rw[m.trees]
 refine Calls.callWith_builtin rfl (Calls.evalArgs_plain (Calls.spliced_cons (thn (he pins s1 σ H1 _ I1 q1) fun iv s2 ⟨y,H2,I2,ry,ov,g,q2⟩=>Calls.spliced_nil ?_)))
 exact zq6 hu I2 g ry fun w' s3 I3 rw'=>⟨_,H2,I3,rw',q2⟩
end
namespace Att
open PySem PySem.W PySem.Calls PyProof.Rows
theorem wl1{P:Params}{h:Heap}:∀ (ns:List Int) (vs:List Value),WellAll P h vs (ns.map WData.int)->IntsAre vs ns:=by
 intro ns
 induction ns with
 | nil =>
   intro vs w
   rw[List.map_nil] at w
   cases w
   exact .nil
 | cons n ns ih =>
   intro vs w
   rw[List.map_cons] at w
   cases w with
   | cons a b =>
     cases a
     exact .cons _ _ (ih _ b)
theorem script_of{l:OpenLaw}{n:Nat}(hn:l.most=some n){P:Params}{h:Heap}{args:List WData}{vals:List Value}
 (hpre:l.row.toRowW.claim.pre args=true) (hwl:WellAll P h vals args) :
 ∃ a vs ns,vals=[Value.ref a]/\args=[WData.list (ns.map WData.int)]/\h.get? a=some {cls:=.type "list",data:=.seq vs.toArray}/\IntsAre vs ns/\ns.length<=n:=by
 have hsh:WShape.hasAll [] args [.list .int]=true:=(pre_splitW hpre).1
 have hc:l.pre.holds [] {args:=args}=true:=(pre_splitW hpre).2
 obtain⟨d,r,rfl,h1,h2⟩:=hasAllW_cons hsh
 obtain rfl:=hasAllW_nil h2
 obtain⟨xs,rfl,h3⟩:=hasW_list h1
 obtain⟨ns,rfl⟩:=items_int h3
 have hlen:ns.length<=n:=by
  unfold OpenLaw.pre at hc
  have h4:(WTm.not (.lt (.lit (.int (n:Int))) (.len (.arg 0)))).holds [] {args:=[.list (ns.map .int)]}=true:=by
   have h4:=(holds_andW hc).1
   rw[hn] at h4
   exact h4
  have h5:=condW_of h4 (w_not (w_lt w_lit (w_len_list (w_arg rfl))))
  rw[List.length_map] at h5
  refine Nat.le_of_not_lt fun q=>?_
  have q':(n:Int)<((ns.length:Nat):Int):=by omega
  first
   | (rw[decide_eq_true q'] at h5;exact absurd h5 (by decide))
   | (simp at h5;omega)
 cases hwl with
 | cons w1 w2 =>
   cases w2
   cases w1 with
   | list ho hall=>exact⟨_,_,ns,rfl,rfl,ho,wl1 ns _ hall,hlen⟩
theorem post_true(l:OpenLaw)(args:List WData):l.row.toRowW.claim.post args (.bool true) args=true :=
 postW_of (r:=l.row.toRowW) (X:=(true == true))
  (show WShape.has [] (.bool true) .bool=true by first|rfl|decide|simp[WShape.has,WShape.arms,WShape.armsAll])
  (show(WTm.eq .res (.lit (.bool true))).value [] {args:=args,res:=some (.bool true),after:=args}=some (.bool (true == true)) from w_eq_bool (w_res rfl) w_lit) rfl
end Att
theorem xj5:∀ {vs:List Value} {ns:List Int},IntsAre vs ns->G0 (ns.map V.int) vs
 | _,_,.nil=>.nil
 | _,_,.cons n t h=>.cons ⟨t,rfl⟩ (xj5 h)
def zq7(H:Hp):Prop:=∀ b,H b=none\/∃ o xs,H b=some (.frz o (.lst xs))
variable{ns:List Int}
theorem yv7 {mb:Str->Option Value} {k:Nat} {fa:Addr} {s₁:Shared} {vs:List Value} (KX:K.In s₁.heap) (hns:s₁.heap.Ns mainGlobals mg) (hb:s₁.heap.Ns builtinsNs mb) (hbb:∀ x:Str,x ≠ "__name__"->mb x=bootBuiltins x) (hlim:s₁.heap.NoLimit) (hg:s₁.gens=#[]) (htk:0<s₁.toks) (ha:s₁.heap.get? a=some {cls:=.type "list",data:=.seq vs.toArray}) (hi:IntsAre vs ns) (hl:ns.length<=sizeLine) (hr:qc0 k callerA) (F:∀ base:Heap,K.In base->base.Ns mainGlobals mg->M5 P w K mg base CX k fa fd [x] sp) (hbind:∀ (s:Shared) (u:Value),BindsTo s fd ⟨[u],[]⟩ [(x,u)]) (hsp:∀ H:Hp,zq7 H->SqL K H a (ns.map V.int)->sp [.ref a] H (fun v _=>v=.bl true) fun _ _ _=>False) (hCX:∀ H e s',CX [] H s₁ (fun _ _ _=>False) e s'->False) :
 codeAny (model P w) callerA (.call (.ref fa) ⟨[.ref a],[]⟩) (fun r s'=>r=.ok (.ret (.bool true))/\OldK s₁.heap s'.heap/\s'.os=s₁.os/\AllBare s'.gens) s₁:=by
 have rv:=xj5 hi
 have lenV:=hi.length
 have core:∀ H:Hp,zq7 H->SqL K H a (ns.map V.int)->HOk P w H s₁.heap->(∀ b,H b≠none->b=a)->(H a≠none->K.lookup a=none) ->
  codeAny (model P w) callerA (.call (.ref fa) ⟨[.ref a],[]⟩) (fun r s'=>r=.ok (.ret (.bool true))/\OldK s₁.heap s'.heap/\s'.os=s₁.os/\AllBare s'.gens) s₁:=by
  intro H hO hS hok hA hK
  have base_of:∀ {b:Addr} {o:Obj},s₁.heap.get? b=some o->H b=none->(xl8 s₁.heap H).get? b=some o:=fun e n=>yt0 e n
  have noA:∀ {b:Addr} {o:Obj} {es:Array DictEntry} {ep:Nat},s₁.heap.get? b=some o->o.data=.dict es ep->H b=none:=fun{b o es ep} e d=>by
   cases q:H b with
   | none=>rfl
   | some u =>
     have e':b=a:=hA b (by rw[q];simp)
     subst e'
     rw[ha] at e;cases e
     have d':Data.seq vs.toArray _=Data.dict es ep:=d
     cases d'
  have nsK:∀ {b:Addr} {m:Str->Option Value},s₁.heap.Ns b m->(xl8 s₁.heap H).Ns b m:=fun{b m} ⟨o,es,ep,e,d,r⟩=>⟨o,es,ep,base_of e (noA e d),d,r⟩
  have hKb:K.In (xl8 s₁.heap H):=fun b o e=>base_of (KX b o e) (by
   cases q:H b with
   | none=>rfl
   | some u =>
     have e':b=a:=hA b (by rw[q];simp)
     subst e'
     rw[hK (by rw[q];simp)] at e;cases e)
  have hM:Mod K mg (xl8 s₁.heap H):=⟨hKb,nsK hns,⟨mb,nsK hb,hbb⟩,let ⟨mc,h1,h2⟩:=hlim;⟨mc,nsK h1,h2⟩⟩
  have e0:yb6 P w K mg (xl8 s₁.heap H) callerA [] s₁ H:=⟨rfl,hM,fun b o e=>ze4 e,Nat.le_of_eq (yn4 _ _),trivial,fun b hb=>absurd (show b∈([]:List Addr) from hb) (by simp),hok,.of_eq hg,htk⟩
  refine codeAny_mono ((F _ hKb (nsK hns)).run callerA [] s₁ H ⟨[.ref a],[]⟩ [.ref a] [.ref a] _ _ hr e0 (hbind s₁ (.ref a)) (.cons rfl .nil) (hsp H hO hS)) fun r s' h=>?_
  cases r with
  | error e=>exact(hCX H e s' h).elim
  | ok fl =>
    cases fl with
    | next=>exact False.elim h
    | brk=>exact False.elim h
    | cont=>exact False.elim h
    | ret u =>
      obtain⟨v,H',_,os,bare,un,hok',r',q⟩:=h
      have q':v=.bl true:=q
      subst q'
      obtain rfl:u=Value.bool true:=r'
      refine⟨rfl,OldK.of_keep fun b o e=>?_,os,bare⟩
      cases q:H b with
      | none=>exact un.keep b o e q (by intro z;exact absurd (show b∈([]:List Addr) from z) (by simp)) (by simp)
      | some u =>
        rcases hO b with z|⟨ob,xs,z⟩
        ·rw[q] at z;cases z
        ·have z2:=un.frzs b ob _ z
         obtain⟨e1,_⟩:=hok b _ z
         obtain⟨e2,_⟩:=hok' b _ z2
         rw[e] at e1;cases e1
         exact e2
 cases hk:K.lookup a with
 | some o =>
   have e:=KX a o hk
   rw[ha] at e
   cases e
   refine core (fun _=>none) (fun _=>.inl rfl) (.inr ⟨_,vs.toArray,_,hk,rfl,rfl,rfl,by rw[List.size_toArray,lenV];exact hl,by simpa using rv⟩) (fun b u z=>by have z':(none:Option HO)=some u:=z;cases z') (fun b z=>absurd rfl z) fun z=>absurd rfl z
 | none =>
   refine core (fun b=>if b=a then some (.frz {cls:=.type "list",data:=.seq vs.toArray} (.lst (ns.map V.int))) else none) (fun b=>?_) (.inl (.inr ⟨{cls:=.type "list",data:=.seq vs.toArray},if_pos rfl⟩)) (fun b u z=>?_) (fun b z=>?_) fun _=>hk
   ·by_cases hb:b=a
    ·exact .inr ⟨_,_,if_pos hb⟩
    ·exact .inl (if_neg hb)
   ·by_cases hb:b=a
    ·have z':=(if_pos hb).symm.trans z
     cases z'
     subst hb
     exact⟨ha,by rw[List.length_map];exact hl,vs,_,rv,ha⟩
    ·have z':=(if_neg hb).symm.trans z
     cases z'
   ·by_cases hb:b=a
    ·exact hb
    ·exact absurd (if_neg hb) z
theorem wr3:∀ ns:List Int,PySem.W.ofPys (ns.map PyData.int)=ns.map PySem.W.WData.int
 | []=>by simp[PySem.W.ofPys]
 | n::ns=>by simp only[List.map_cons,PySem.W.ofPys,PySem.W.ofPy];rw[wr3 ns]
variable{as:List Addr}
theorem zf8{l:PySem.W.OpenLaw}{k:Nat}{q:Program}{loose:List Str}{XP:(Str->Option Value)->Heap->Prop}{z t:Nat}{d:DefRec}{K:Params->Fg}{CX:World->CXT}{sp:World->Sp}(hn:l.most=some n)(hn2:n<=sizeLine)(hdf:d.params.defaults=[])(hr:qc0 k callerA)(hk:∀ P,as=(K P).map (·.1))(h0:0<t) (F:∀ (w:World) (mg:Str->Option Value) (fa:Addr) (h:Heap),(K w.params).In h->h.Ns mainGlobals mg->mg d.name=some (.ref fa) ->
  ∃ fd:FuncData,(∀ (s:Shared) (u:Value),BindsTo s fd ⟨[u],[]⟩ [(x,u)]) /\
   ∀ base:Heap,(K w.params).In base->base.Ns mainGlobals mg->M5 l.prog w (K w.params) mg base (CX w) k fa fd [x] (sp w)) (hsp:∀ (w:World) (H:Hp) (a:Addr) (ns:List Int),ns.length<=n->zq7 H->SqL (K w.params) H a (ns.map V.int)->sp w [.ref a] H (fun v _=>v=.bl true) fun _ _ _=>False) (hCX:∀ (w:World) (H:Hp) (s:Shared) (e:Value) (s':Shared),CX w [] H s (fun _ _ _=>False) e s'->False) :
 PySem.W.WalkX q loose XP (PySem.W.X.obsZ as) (PySem.W.X.valZ K z t) l.row.toRowW d [] (fun f vs=>PySem.call f vs):=by
 intro w s₀ s₁ mg mb G y fa o pm cd doc dV kV ho hd hcd hD hmg hg args vals aa L hpre hlay hrd hwl hlo
 obtain rfl:dV=.none:=PySem.W.Dflts.none hD hdf
 obtain rfl:kV=.none:=PySem.W.Dflts.noKw hD
 obtain⟨a,vs,ns,rfl,rfl,hobj,hints,hlen⟩:=Att.script_of hn hpre hwl
 obtain⟨_,KI,_,htk⟩:=PySem.W.X.z_facts hk y
 have KX:=PySem.W.InK.keeps w _ _ KI L.keeps
 have tk:0<s₁.toks:=Nat.lt_of_lt_of_le h0 (PySem.W.X.script_toks (ns:=ns) (a:=a) (by rw[PySem.W.ofPy,wr3];exact L) htk)
 obtain⟨fd,hb,hF⟩:=F w mg fa _ KX G.T.g hmg
 refine PySem.W.enter_call (codeAny_mono (yv7 KX G.T.g G.T.b G.T.builtins G.T.nolimit hg tk hobj hints (Nat.le_trans hlen hn2) hr hF hb (fun H hO hS=>hsp w H a ns hlen hO hS) fun H e s'=>hCX w H s₁ e s') fun r s' hq=>?_)
 obtain⟨rfl,h2,h3,h4⟩:=hq
 exact⟨.inl ⟨.bool true,.bool true,[],rfl,fun _=>rfl,.bool true,Att.post_true l _,fun _=>⟨List.Pairwise.nil,fun _ hm=>(nomatch hm)⟩⟩,h2,h3,h4⟩
def wb7(s:Stmt):Arguments:=match s with
 | .FunctionDef _ a _ _ _ _ _ _ _ _=>a
 | _=>{posonlyargs:=[],args:=[],vararg:=none,kwonlyargs:=[],kw_defaults:=[],kwarg:=none,defaults:=[]}
def qo4(s:Stmt):List Stmt:=match s with
 | .FunctionDef _ _ b _ _ _ _ _ _ _=>b
 | _=>[]
def B5(s:Stmt):Scope:=match s with
 | .FunctionDef _ _ _ _ _ _ sc _ _ _=>sc
 | _=>{kind:=.function,names:=[],isGenerator:=false,isCoroutine:=false}
abbrev CX0:CXT:=fun _ _ _ _ _ _=>False
abbrev E0:XK:=fun _ _ _=>False
theorem C3:xm1 CX0 X E0:=fun _ _ _ _ _ _ _ h=>h.elim
structure Fun(K:Fg)(x qual:Str)(st:Stmt)(f:Addr)(fd:FuncData):Prop where
 ex:∃ (oc:Value) (od:Option Addr) (kV doc pm:Value) (an:Option Addr) (cdv ct:Value) (osl:Array (Option Value)),
  fd=PySem.W.fnOf x qual (wb7 st) (qo4 st) (B5 st) .none kV doc pm an cdv ct/\K.lookup f=some ⟨oc,od,.func fd,osl⟩/\PySem.W.codeIn K cdv qual=true
 kp:PySem.W.keepIn K (.ref f)=true
theorem Fun.ok{f:Addr}{k:Nat}(F:Fun K x qual st f fd)(S:D0 N ps (B5 st))(len:∀ vs H Q E,sp vs H Q E->vs.length=ps.length) (hbody:∀ (cdv:Value) (A:Around) (outer:List Env) (s:Shared) (H:Hp) (vs:List V) (Q:VK) (E:XK),qc0 k (A.deeper (envOfC qual (B5 st) s.heap.objs.size f cdv))->sp vs H Q E ->
  ∃ t,PSs (qx6 CX0 P w K mg base N qual (B5 st) f cdv A outer s H E).nox (qo4 st) t/\t {nx:=fun _ H'=>Q .non H',rt:=Q} (G9 N vs) H):M5 P w K mg base CX0 (k+1) f fd ps sp:=by
 obtain⟨oc,od,kV,doc,pm,an,cdv,ct,osl,rfl,lk,hcd⟩:=F.ex
 refine zm0 lk hcd S len fun A outer s H vs Q E hr hsp=>?_
 obtain⟨t,h,q⟩:=hbody cdv A outer s H vs Q E hr hsp
 exact⟨t,h.nox,q⟩
theorem Fun.binds{f:Addr}(F:Fun K x qual st f fd)(h:∀ (kV doc pm:Value) (an:Option Addr) (cdv ct:Value) (us:List Value),us.length=ps.length->bindArgs (PySem.W.fnOf x qual (wb7 st) (qo4 st) (B5 st) .none kV doc pm an cdv ct) ⟨us,[]⟩=pure (ps.zip us)):wb5 K fd ps []:=by
 obtain⟨oc,od,kV,doc,pm,an,cdv,ct,osl,rfl,lk,hcd⟩:=F.ex
 exact .all (h kV doc pm an cdv ct)
theorem zq8{f:Addr}{kV:Value}(l:K.lookup f=some ⟨oc,od,.func (PySem.W.fnOf x qual (wb7 st) (qo4 st) (B5 st) .none kV doc pm an cdv ct),osl⟩)(c:PySem.W.codeIn K cdv qual=true)(k:PySem.W.keepIn K (.ref f)=true):Fun K x qual st f (PySem.W.fnOf x qual (wb7 st) (qo4 st) (B5 st) .none kV doc pm an cdv ct):=⟨⟨oc,od,kV,doc,pm,an,cdv,ct,osl,rfl,l,c⟩,k⟩
theorem C4{k:Nat}(hr:qc0 k A):A.units+1<cLine:=Nat.lt_of_le_of_lt (Nat.add_le_add_left (by decide:1<=64) _) hr.units
theorem pv(i:Nat)(hN:autoParam (X.N[i]?=some x) zAr)(hv:Vis X.env.scope x:=by first|exact Or.inl rfl|exact Or.inr (Or.inl rfl)|exact Or.inr (Or.inr rfl))(hd:autoParam ((x == ("__debug__":Str))=false) zAd)(hcd:autoParam ((x == ("__classdict__":Str))=false) zAd):PE X (.Name x pos) (A4 i):=zo5 hN hv hd hcd
theorem V4{A B:Prop}(h:B):if false=true then A else B:=by
 rw[if_neg Bool.false_ne_true]
 exact h
theorem W9{A B:Prop}(h:A):if true=true then A else B:=by
 rw[if_pos rfl]
 exact h
def A6(H H':Hp):Prop:=∀ b o,H b=some o->H' b=some o
theorem A6.refl(H:Hp):A6 H H:=fun _ _ h=>h
theorem A6.seq(e:A6 H H')(h:SqL K H a xs):SqL K H' a xs:=by
 rcases h with(h|⟨o,h⟩)|h
 ·exact .inl (.inl (e _ _ h))
 ·exact .inl (.inr ⟨o,e _ _ h⟩)
 ·exact .inr h
theorem yp1:W4 X (.builtin "len") (fun xs H Q=>∃ a kvs,xs=[V.ref a]/\H a=some (.dK kvs)/\Q (.int kvs.length) H):=by
 intro pins s σ H xs us Q I r h
 obtain⟨a,kvs,rfl,ha,q⟩:=h
 obtain⟨u,rfl,ru⟩:=qr8 r
 cases ru
 exact zy9 I (.inl ha) fun t s' I'=>⟨.int kvs.length,H,I',⟨t,rfl⟩,q⟩
theorem noE{t:Sem α}{Q:α->Shared->Prop}(h:wpAny M A t Q (fun _ _=>False) s):wpAny M A t Q E s :=
 wpAny_mono h (fun _ _ q=>q) fun _ _ z=>False.elim z
theorem qz6{env:Env}:∀ (names:List (Str×NameKind)) (acc:List (Str×Addr)),(∀ y∈names,y.2=.free->∃ c,env.cells.lookup y.1=some c)->(∀ x c,acc.lookup x=some c->env.cells.lookup x=some c) ->
 ∃ cl,(forIn names acc fun(x:Str×NameKind) (r:List (Str×Addr)) =>
  (if(x.2 == .free)=true then(do let a<-cellOf env x.1;pure (ForInStep.yield ((x.1,a)::r))) else pure (ForInStep.yield r):Sem (ForInStep (List (Str×Addr)))))=(pure cl:Sem (List (Str×Addr))) /\
  (∀ x c,cl.lookup x=some c->env.cells.lookup x=some c)/\(∀ x,(∃ c,acc.lookup x=some c)->∃ c,cl.lookup x=some c)/\∀ y∈names,y.2=.free->∃ c,cl.lookup y.1=some c
 | [],acc,_,h2=>⟨acc,by rw[List.forIn_nil],h2,fun _ h=>h,fun _ h=>by cases h⟩
 | (n,k)::r,acc,h1,h2=>by
   by_cases hk:k=.free
   ·subst hk
    obtain⟨c,hc⟩:=h1 (n,.free) List.mem_cons_self rfl
    obtain⟨cl,e,q1,q2,q3⟩:=qz6 r ((n,c)::acc) (fun y hy=>h1 y (List.mem_cons_of_mem _ hy)) (fun x d hd=>by
     rw[List.lookup_cons] at hd
     cases hx:x == n with
     | true=>rw[hx] at hd;cases hd;rw[beq_iff_eq.mp hx];exact hc
     | false=>rw[hx] at hd;exact h2 x d hd)
    refine⟨cl,?_,q1,fun x hx=>q2 x ?_,fun y hy hf=>?_⟩
    ·rw[List.forIn_cons]
     have e0:cellOf env n=pure c:=by unfold cellOf;rw[hc]
     simp only[beq_self_eq_true,if_true,e0]
     exact e
    ·rw[List.lookup_cons]
     cases x == n with
     | true=>exact⟨c,rfl⟩
     | false=>exact hx
    ·rcases List.mem_cons.mp hy with rfl|hy
     ·exact q2 n ⟨c,by rw[List.lookup_cons];simp⟩
     ·exact q3 y hy hf
   ·obtain⟨cl,e,q1,q2,q3⟩:=qz6 r acc (fun y hy=>h1 y (List.mem_cons_of_mem _ hy)) h2
    refine⟨cl,?_,q1,q2,fun y hy hf=>?_⟩
    ·rw[List.forIn_cons]
     have hb:(k == NameKind.free)=false:=by simpa using hk
     simp only[hb,Bool.false_eq_true,if_false]
     exact e
    ·rcases List.mem_cons.mp hy with rfl|hy
     ·exact absurd hf hk
     ·exact q3 y hy hf
theorem qx8(h:∀ y∈scope.names,y.2=.free->∃ c,env.cells.lookup y.1=some c) :
 ∃ cl,closureFor scope env=pure cl/\(∀ x c,cl.lookup x=some c->env.cells.lookup x=some c)/\∀ y∈scope.names,y.2=.free->∃ c,cl.lookup y.1=some c:=by
 obtain⟨cl,e,q1,_,q3⟩:=qz6 (env:=env) scope.names [] h (fun x c hc=>by simp at hc)
 refine⟨cl,?_,q1,q3⟩
 unfold closureFor
 simp only[]
 rw[show(forIn scope.names ([]:List (Str×Addr)) fun(x:Str×NameKind) (r:List (Str×Addr)) =>
  (match x with|(name,kind)=>if(kind == .free)=true then(do let a<-cellOf env name;pure (ForInStep.yield ((name,a)::r))) else pure (ForInStep.yield r):Sem (ForInStep (List (Str×Addr)))))=(pure cl:Sem (List (Str×Addr))) from e]
 rfl
theorem qe8{env:Env}:∀ {names:List (Str×NameKind)} {x:Str},names.lookup x=some .free ->
 (names.map fun(n,k)=>if(k == NameKind.free && env.scope.kind == .function && env.kindOf n == some .cell) then(n,NameKind.cell) else(n,k)).lookup x=some .cell \/
 (names.map fun(n,k)=>if(k == NameKind.free && env.scope.kind == .function && env.kindOf n == some .cell) then(n,NameKind.cell) else(n,k)).lookup x=some .free
 | [],_,h=>by simp at h
 | (n,k)::r,x,h=>by
   have ih:=@qe8 env r x
   show List.lookup x ((if(k == NameKind.free && env.scope.kind == .function && env.kindOf n == some .cell)=true then(n,NameKind.cell) else(n,k))::_)=_\/List.lookup x ((if(k == NameKind.free && env.scope.kind == .function && env.kindOf n == some .cell)=true then(n,NameKind.cell) else(n,k))::_)=_
   cases hx:x == n with
   | true =>
     simp only[List.lookup_cons,hx] at h
     cases h
     by_cases hc:(NameKind.free == NameKind.free && env.scope.kind == .function && env.kindOf n == some .cell)=true
     ·rw[if_pos hc];exact .inl (by simp only[List.lookup_cons,hx])
     ·rw[if_neg hc];exact .inr (by simp only[List.lookup_cons,hx])
   | false =>
     simp only[List.lookup_cons,hx] at h
     by_cases hc:(k == NameKind.free && env.scope.kind == .function && env.kindOf n == some .cell)=true
     ·rw[if_pos hc];simp only[List.lookup_cons,hx];exact ih h
     ·rw[if_neg hc];simp only[List.lookup_cons,hx];exact ih h
theorem X0{env:Env}:∀ {names:List (Str×NameKind)} {x:Str} {k:NameKind},
 (names.map fun(n,k)=>if(k == NameKind.free && env.scope.kind == .function && env.kindOf n == some .cell) then(n,NameKind.cell) else(n,k)).lookup x=some k ->
 names.lookup x=some k\/(k=.cell/\names.lookup x=some .free)
 | [],_,_,h=>by simp at h
 | (n, j)::r,x,k,h=>by
   have ih:=@X0 env r x k
   have h:List.lookup x ((if(j == NameKind.free && env.scope.kind == .function && env.kindOf n == some .cell)=true then(n,NameKind.cell) else(n,j))::_)=some k:=h
   by_cases hc:(j == NameKind.free && env.scope.kind == .function && env.kindOf n == some .cell)=true
   ·rw [if_pos hc] at h
    cases hx:x == n with
    | true =>
      simp only[List.lookup_cons,hx] at h ⊢
      cases h
      have:j=.free:=by
       cases j <;> simp at hc ⊢
      exact .inr ⟨rfl,by rw[this]⟩
    | false=>simp only[List.lookup_cons,hx] at h ⊢;exact ih h
   ·rw[if_neg hc] at h
    cases hx:x == n with
    | true=>simp only[List.lookup_cons,hx] at h ⊢;exact .inl h
    | false=>simp only[List.lookup_cons,hx] at h ⊢;exact ih h
variable{R:Result->Shared->Prop}{elt:Expr}{ifs:List Expr}
theorem qt1{target:Expr}{it acc:Value}(I:Nat->Shared->Prop) (turn:∀ n s,I n s->wpAny (model prog w) A (pyNext it) (fun r s₁=>match r with
  | none=>R (.ok .next) s₁
  | some v=>wpAny (model prog w) A (letOwnedTupleGo target it v) (fun _ s₁'=>wpAny (model prog w) A (assign target env v) (fun _ s₂ =>
   wpAny (model prog w) A (forIn ifs true fun c r=>if r=true then do let ok<-isTrue c env (eval c env);pure (ForInStep.yield ok) else pure (ForInStep.yield r)) (fun ok s₃ =>
    if ok=true then wpAny (model prog w) A (eval elt env) (fun x s₄ =>
     wpAny (model prog w) A (call (.builtin "list.append") [acc,x]) (fun _ s₅=>∃ m,m<n/\I m s₅) (notedBy (model prog w) A env fun e s'=>R (.error e) s') s₄) (notedBy (model prog w) A env fun e s'=>R (.error e) s') s₃
    else ∃ m,m<n/\I m s₃) (notedBy (model prog w) A env fun e s'=>R (.error e) s') s₂) (notedBy (model prog w) A env fun e s'=>R (.error e) s') s₁') (notedBy (model prog w) A env fun e s'=>R (.error e) s') s₁)
  (notedBy (model prog w) A env fun e s'=>R (.error e) s') s) (n:Nat) (h:I n s) :
 codeAny (model prog w) A (.compLoop (.ListComp elt [⟨target,iter,ifs,0⟩] scope pos) 0 it acc env) R s:=by
 refine codeAny_loop rfl I (fun n s hI=>?_) n h
 show wpAny _ A ((compTurn (.ListComp elt [⟨target,iter,ifs,0⟩] scope pos) 0 it acc env).onRaise (fun x=>do noteFrame x env;theTreesLotGoes x)) _ _ s
 refine wpAny_noted ?_
 rw[compTurn_list]
 refine wpAny_bind (wpAny_standAt (wpAny_bind (wpAny_mono (turn n s hI) (fun r s₁ h₁=>?_) fun _ _ h'=>h')))
 cases r with
 | none=>exact wpAny_pure h₁
 | some v =>
   refine wpAny_bind (wpAny_mono h₁ (fun _ s₁' h₁'=>?_) fun _ _ h'=>h')
   refine wpAny_bind (wpAny_mono h₁' (fun _ s₂ h₂=>wpAny_bind (wpAny_mono h₂ (fun ok s₃ h₃=>?_) fun _ _ h'=>h')) fun _ _ h'=>h')
   cases ok with
   | false=>exact wpAny_pure ⟨rfl,h₃⟩
   | true =>
     exact wpAny_bind (wpAny_bind (wpAny_mono h₃ (fun x s₄ h₄=>wpAny_bind (wpAny_mono h₄ (fun _ s₅ h₅=>wpAny_pure (wpAny_pure ⟨rfl,h₅⟩)) fun _ _ h'=>h')) fun _ _ h'=>h'))
def blk(X:Cx)(N:List Str)(scope:Scope)(cl:List (Str×Addr))(C:Addr)(s₂:Shared)(H₂:Hp)(fp:List Addr)(pn:List (Addr×Obj)):Cx :=
 {X with N:=N,s₀:=s₂,H₀:=H₂,env:=compEnvC scope cl C X.env,outer:=X.stack,stack:=X.stack,ex:=fp,fn:=fun _=>false,pn:=pn,xe:=fun _ _=>False}
def qt2(fr:List (Option Nat))(σ:St):St:=fr.map fun o=>match o with|some i=>(σ[i]?).join|none=>none
variable{fr:List (Option Nat)}
theorem xt9{j:Nat}(h:(qt2 fr σ)[j]?=some (some v)):∃ i,fr[j]?=some (some i)/\σ[i]?=some (some v):=by
 unfold qt2 at h
 rw[List.getElem?_map] at h
 cases e:fr[j]? with
 | none=>rw[e] at h;cases h
 | some o =>
   rw[e] at h
   cases o with
   | none=>cases h
   | some i =>
     refine⟨i,rfl,?_⟩
     have h':(σ[i]?).join=some v:=Option.some.inj h
     cases e2:σ[i]? with
     | none=>rw[e2] at h';cases h'
     | some x=>rw[e2] at h';cases x with
       | none=>cases h'
       | some y=>cases h';rfl
def yv8(fr:List (Option Nat))(g:TG):Prop:=∀ (x:V) (σ:St) (H:Hp) (Q:St->Hp->Prop),g x σ H Q->g x σ H fun σ2 H2=>Q σ2 H2/\∀ (j i:Nat),fr[j]?=some (some i)->σ2[j]?=σ[j]?
def yi8(fr:List (Option Nat))(g:TGs):Prop:=∀ (xs:List V) (σ:St) (H:Hp) (Q:St->Hp->Prop),g xs σ H Q->g xs σ H fun σ2 H2=>Q σ2 H2/\∀ (j i:Nat),fr[j]?=some (some i)->σ2[j]?=σ[j]?
theorem T4{i:Nat}(h:autoParam (fr[i]?=some none) zAr):yv8 fr (B3 i):=fun x σ H Q q=>⟨q,fun j k hj=>by
 have:i≠j:=by rintro rfl;rw[h] at hj;cases hj
 rw[List.getElem?_set_ne this]⟩
theorem zq9:yi8 fr wq3:=fun xs σ H Q ⟨e,q⟩=>⟨e,q,fun _ _ _=>rfl⟩
theorem yi9{i:Nat}{u:TGs}(h:fr[i]?=some none)(hu:yi8 fr u):yi8 fr (S5 (B3 i) u):=fun xs σ H Q ⟨v,r,e,q⟩=>by
 refine⟨v,r,e,?_⟩
 have q:u r (σ.set i (some v)) H Q:=q
 have e2:=hu _ _ _ _ q
 have k:∀ j k,fr[j]?=some (some k)->(σ.set i (some v))[j]?=σ[j]?:=fun j k hj=>by
  have:i≠j:=by rintro rfl;rw[h] at hj;cases hj
  rw[List.getElem?_set_ne this]
 have e3:(fun(σ2:St) (H2:Hp)=>Q σ2 H2/\∀ (j k:Nat),fr[j]?=some (some k)->σ2[j]?=σ[j]?)=(fun(σ2:St) (H2:Hp)=>Q σ2 H2/\∀ (j k:Nat),fr[j]?=some (some k)->σ2[j]?=(σ.set i (some v))[j]?):=by
  funext σ2 H2
  refine propext ⟨fun⟨a,b⟩=>⟨a,fun j m hj=>(b j m hj).trans (k j m hj).symm⟩,fun⟨a,b⟩=>⟨a,fun j m hj=>(b j m hj).trans (k j m hj)⟩⟩
 show u r (σ.set i (some v)) H _
 rw[e3]
 exact e2
theorem zr0{u:TGs}(hu:yi8 fr u):yv8 fr (wq4 K n u):=fun x σ H Q ⟨a,xs,e1,e2,e3,q⟩=>⟨a,xs,e1,e2,e3,hu _ _ _ _ q⟩
def PTs(X:Cx)(ifs:List Expr)(t:TT):Prop :=
 ∀ (pins:List (Addr×Obj)) (s:Shared) (σ:St) (H:Hp) (Q:Bool->Hp->Prop),Inv X pins σ H s->t σ H Q ->
  wpAny (model X.prog X.w) X.A (forIn ifs true fun c r=>if r=true then do let ok<-isTrue c X.env (eval c X.env);pure (ForInStep.yield ok) else pure (ForInStep.yield r)) (TP X pins σ Q) X.xe s
def tTT:TT:=fun _ H Q=>Q true H
theorem qf0:PTs X [] tTT:=fun _ _ _ H _ I h=>wpAny_tests_nil ⟨H,I,h⟩
theorem qo5{t:TT}(h:PT X c t):PTs X [c] t:=fun pins s σ H Q I hq=>wpAny_tests_one (h pins s σ H Q I hq)
structure qw2(X:Cx)(scope:Scope)(N:List Str)(fr:List (Option Nat)):Prop where
 kind:scope.kind=.function
 nocell:∀ y∈scope.names,y.2≠.cell
 names:∀ y∈scope.names,y.2=.local->scope.names.lookup y.1=some .local
 free:∀ y∈scope.names,y.2=.free->X.env.scope.names.lookup y.1=some .cell\/X.env.scope.names.lookup y.1=some .free
 len:N.length=fr.length
 at_:∀ (j i:Nat) (x:Str),fr[j]?=some (some i)->N[j]?=some x->X.N[i]?=some x/\scope.names.lookup x=some .free
def yj0(osc:Scope)(ON:List Str)(scope:Scope)(N:List Str)(fr:List (Option Nat)):Bool :=
 decide (scope.kind=.function) && scope.names.all (fun y=>decide (y.2≠.cell)) && scope.names.all (fun y=>decide (y.2≠.local) || decide (scope.names.lookup y.1=some .local)) &&
 scope.names.all (fun y=>decide (y.2≠.free) || decide (osc.names.lookup y.1=some .cell) || decide (osc.names.lookup y.1=some .free)) && decide (N.length=fr.length) &&
 (fr.zip N).all (fun p=>match p.1 with|some i=>decide (ON[i]?=some p.2) && decide (scope.names.lookup p.2=some .free)|none=>true)
theorem M7{osc:Scope}{ON:List Str}(h:yj0 osc ON scope N fr=true)(e1:X.env.scope=osc)(e2:X.N=ON):qw2 X scope N fr:=by
 subst e1 e2
 unfold yj0 at h
 simp only[Bool.and_eq_true,List.all_eq_true,Bool.or_eq_true,decide_eq_true_eq] at h
 obtain⟨⟨⟨⟨⟨h1,h2⟩,h3⟩,h4⟩,h5⟩,h6⟩:=h
 refine⟨h1,h2,fun y hy e=>(h3 y hy).resolve_left fun z=>z e,fun y hy e=>?_,h5,fun j i x e1 e2=>?_⟩
 ·rcases h4 y hy with(z|z)|z
  ·exact absurd e z
  ·exact .inl z
  ·exact .inr z
 ·have hm:(some i,x)∈fr.zip N:=by
   apply List.mem_of_getElem? (i:=j)
   rw[List.getElem?_zip_eq_some]
   exact⟨e1,e2⟩
  have:=h6 _ hm
  simpa using this
def Z4 (fr:List (Option Nat)) (wi:TI) (g:TG) (tt:TT) (te:TE):TE:=fun σ H Q=>wi σ H fun J H1 =>
 ∃ W:Nat->Nat->List V->Hp->Prop,(∃ m,W 0 m [] H1)/\∀ i m ys H,W i m ys H->ys.length<=sizeLine /\
  ((J.stop i H/\∀ p,H p=none->Q (.ref p) (upd H p (.lst ys))) \/
   (J.go i H/\∃ NN:List V->Hp->Prop,(∀ ys' H',NN ys' H'->∃ m',m'<m/\W (i+1) m' ys' H')/\∀ x H',J.yld i H x H'->g x (qt2 fr σ) H' fun σ2 H2=>tt σ2 H2 fun b H3 =>
    if b=true then te σ2 H3 fun y H4=>NN (ys++[y]) H4 else NN ys H3))
structure zr1(X:Cx)(pins:List (Addr×Obj))(σ:St)(Q:VK)(C D:Addr)(s':Shared):Prop where
 ex:∃ (ys:List V) (H:Hp),H D=none/\(∃ m,s'.heap.Ns C m)/\D≠C/\C≠X.env.locals/\(∀ x c,X.env.cells.lookup x=some c->c≠C)/\(∀ p∈X.pn++pins,p.1≠C)/\X.s₀.heap.objs.size<=C/\C∉X.fs /\
  (upd H D (.lst ys)) C=none /\
  (∀ h',Heap.SameBut C s'.heap h'->Inv X pins σ (upd H D (.lst ys)) {s' with heap:=h'})/\Q (.ref D) (upd H D (.lst ys))
variable{J:It}{s2:Shared}{tt:TT}
theorem wr4 {cl:List (Str×Addr)} (hcalm:X.calm=true) (S:qw2 X scope N fr) (hclS:∀ x c,cl.lookup x=some c->X.env.cells.lookup x=some c) (hclH:∀ y∈scope.names,y.2=.free->∃ c,cl.lookup y.1=some c) (hg:∀ C s₂ H₂ fp pn,PG (blk X N scope cl C s₂ H₂ fp pn) tg g) (hgo:yv8 fr g) (ht:∀ C s₂ H₂ fp pn,PTs (blk X N scope cl C s₂ H₂ fp pn) ifs tt) (he:∀ C s₂ H₂ fp pn,PE (blk X N scope cl C s₂ H₂ fp pn) elt te) {Q:VK} {tn:Nat->Heap->Prop} (I2:Inv X pins σ H2 s2) (T:ya9 X.prog X.w X.K tg J fp it tn) (st2:tn 0 s2.heap) (f2:∀ b∈fp,xb5 X pins H2 b) (W:Nat->Nat->List V->Hp->Prop) (w0:∃ m,W 0 m [] H2) (turn:∀ i m ys H,W i m ys H->ys.length<=sizeLine /\
 ((J.stop i H/\∀ p,H p=none->Q (.ref p) (upd H p (.lst ys))) \/
  (J.go i H/\∃ NN:List V->Hp->Prop,(∀ ys' H',NN ys' H'->∃ m',m'<m/\W (i+1) m' ys' H')/\∀ x H',J.yld i H x H'->g x (qt2 fr σ) H' fun σ2 H2=>tt σ2 H2 fun b H3 =>
   if b=true then te σ2 H3 fun y H4=>NN (ys++[y]) H4 else NN ys H3))) {RR:Value->Addr->Result->Shared->Prop} (hRR:∀ C D s',zr1 X pins σ Q C D s'->RR (.ref D) C (.ok .next) s') :
 wpAny (model X.prog X.w) X.A (newList []) (fun acc s₃=>wpAny (model X.prog X.w) X.A (newFunctionEnv scope X.env.globals cl [] X.env.qual none .none (some X.env)) (fun cenv s₄ =>
  codeAny (model X.prog X.w) X.A (.compStart (.ListComp elt [⟨tg,iter,ifs,0⟩] scope pos) 0 (.ref it) acc {cenv with scope:=relabel scope X.env}) (RR acc cenv.locals) s₄) E s₃) E s2:=by
 obtain⟨m0,w0⟩:=w0
 refine wpAny_newObj_type (wpAny_newFunctionEnv S.nocell (by intro y hy;simp at hy) (fun h₁ hns₁ hsb₁=>?_) S.kind)
 dsimp only at hns₁ hsb₁ ⊢
 generalize hHH:s2.heap.push {cls:=.type "list",dict:=none,data:=.seq ([]:List Value).toArray}=HH at hns₁ hsb₁ ⊢
 have hC:HH.objs.size=s2.heap.objs.size+1:=by rw[<-hHH,Heap.size_push]
 generalize hDD:s2.heap.objs.size=D at *
 generalize hCC:HH.objs.size=C at *
 have hDlt:Nat.lt D C:=by show D<C;rw[hC];exact Nat.lt_succ_self _
 have hDC:D≠C:=Nat.ne_of_lt hDlt
 have neD:∀ {b:Addr},Nat.lt b D->b≠D:=fun h=>Nat.ne_of_lt h
 have neC:∀ {b:Addr},Nat.lt b D->b≠C:=fun h=>Nat.ne_of_lt (Nat.lt_trans h hDlt)
 have below:∀ (b:Addr) (o:Obj),s2.heap.get? b=some o->Nat.lt b D:=fun b o e=>by rw[<-hDD];exact Heap.lt_size e
 have old:∀ b o,s2.heap.get? b=some o->h₁.get? b=some o:=fun b o e=>hsb₁.extBut b o (neC (below b o e)) (Heap.get?_push_of_some _ (hHH▸Heap.get?_push_of_some _ e))
 have hacc:h₁.get? D=some {cls:=.type "list",data:=.seq ([]:List Value).toArray}:=hsb₁.extBut _ _ hDC (Heap.get?_push_of_some _ (by rw[<-hHH,<-hDD];exact Heap.get?_push_size _ rfl))
 have Lt:Nat.lt X.env.locals D:=by rw[<-hDD];exact I2.lt
 have cellLt:∀ x c,X.env.cells.lookup x=some c->Nat.lt c D:=fun x c e=>by
  obtain⟨v,q⟩:=I2.cell x c e
  rw[<-hDD];exact q.lt
 have pinLt:∀ p∈X.pn++pins,Nat.lt p.1 D:=fun p hp=>below p.1 p.2 (I2.pin p hp).1
 have freshH:∀ b:Addr,Nat.le D b->H2 b=none:=fun b hb=>I2.hok.fresh (by rw[hDD];exact hb)
 let X':Cx:=blk X N scope cl C s2 H2 fp (X.pn++pins)
 have okX:X'.Ok:=by
  refine⟨I2.ok.mod,S.kind,I2.ok.glob,I2.ok.blt,by show s2.heap.objs.size<=C;rw[hDD];exact Nat.le_of_lt hDlt,fun x y c e1 e2=>I2.ok.inj x y c (hclS _ _ e1) (hclS _ _ e2),fun x hx=>?_,fun x c hf _=>(by cases hf),I2.ok.hd,I2.ok.frames,.inl rfl,fun b hb=>⟨?_,fun x c e=>(f2 b hb).2.2.2.2.1 x c (hclS _ _ e)⟩,I2.bs,Nat.le_trans I2.ok.bsz I2.sz,fun b o e hb=>?_,fun b hb hm=>?_,I2.stack,I2.stkFree⟩
  ·have hx:(relabel scope X.env).names.lookup x=some .cell\/(relabel scope X.env).names.lookup x=some .free:=hx
   have hf:scope.names.lookup x=some .free:=by
    rcases hx with hx|hx
    ·rcases X0 hx with h|⟨_,h⟩
     ·exact absurd rfl (S.nocell _ (PySem.mem_of_lookup h))
     ·exact h
    ·rcases X0 hx with h|⟨h,_⟩
     ·exact h
     ·cases h
   exact hclH _ (PySem.mem_of_lookup hf) rfl
  ·obtain⟨o,e,_⟩:=T.obj 0 _ st2 b hb
   exact neC (below b o e)
  ·obtain⟨_,_,_,h,_⟩:=f2 b hb
   rcases h with h|h
   ·exact I2.ok.noex b o e h
   ·have:=Heap.lt_size (I2.ok.bs b o e).1
    exact absurd (Nat.lt_of_lt_of_le this h) (Nat.lt_irrefl _)
  ·rcases List.mem_cons.mp (I2.stkSub b hm) with h|h
   ·exact(f2 b hb).2.1 h
   ·exact(f2 b hb).2.2.1 h
 have I4:∀ tk,0<tk->Inv X' [(D,{cls:=.type "list",data:=.seq ([]:List Value).toArray})] (qt2 fr σ) H2 {s2 with heap:=h₁,toks:=tk}:=fun tk htk=>by
  refine⟨okX,rfl,I2.bare,Un.kept old,⟨_,hns₁,fun j x v e1 e2 e3=>?_⟩,fun x c e=>?_,freshH C (Nat.le_of_lt hDlt),fun x c e=>I2.freeC x c (hclS _ _ e),fun p hp=>?_,I2.hok.kept old,?_,htk⟩
  ·obtain⟨i,q1,q2⟩:=xt9 e2
   obtain⟨a1,a2⟩:=S.at_ j i x q1 e1
   obtain⟨m,hn,hl⟩:=I2.loc
   have vis:Vis X.env.scope x:=by
    rcases S.free _ (PySem.mem_of_lookup a2) rfl with h|h
    ·exact .inr (.inl h)
    ·exact .inr (.inr h)
   obtain⟨u,r,l⟩:=hl i x v a1 q2 vis
   refine⟨u,r,.inr ⟨?_,?_⟩⟩
   ·exact qe8 (env:=X.env) a2
   ·rcases l with⟨hk,_⟩|⟨_,c,hc,hcell⟩
    ·have hk:X.env.scope.names.lookup x=some .local:=hk
     rcases S.free _ (PySem.mem_of_lookup a2) rfl with h|h
     ·have h:X.env.scope.names.lookup x=some .cell:=h
      rw[hk] at h;cases h
     ·have h:X.env.scope.names.lookup x=some .free:=h
      rw[hk] at h;cases h
    ·obtain⟨c',hc'⟩:=hclH _ (PySem.mem_of_lookup a2) rfl
     have:c=c':=by
      have:=hclS _ _ hc'
      rw[hc] at this
      exact Option.some.inj this
     subst this
     obtain⟨o,ho,hd⟩:=hcell
     exact⟨c,hc',o,old c o ho,hd⟩
  ·obtain⟨v,o,ho,hd⟩:=I2.cell x c (hclS _ _ e)
   exact⟨v,o,old c o ho,hd⟩
  ·rcases List.mem_append.mp hp with hp|hp
   ·obtain⟨e,n,ne,nf,d⟩:=I2.pin p hp
    refine⟨old _ _ e,n,?_,fun hm=>?_,d⟩
    ·exact neC (pinLt p hp)
    ·rcases List.mem_cons.mp (I2.stkSub _ hm) with h|h
     ·exact ne h
     ·exact nf h
   ·have hp:p=(D,{cls:=.type "list",data:=.seq ([]:List Value).toArray}):=by simpa using hp
    subst hp
    refine⟨hacc,freshH D (Nat.le_refl _),hDC,fun hm=>?_,fun v z=>by cases z⟩
    rcases List.mem_cons.mp (I2.stkSub _ hm) with h|h
    ·exact neD Lt h.symm
    ·exact I2.nofs (by rw[hDD];exact Nat.le_refl _) h
  ·show(qt2 fr σ).length=N.length
   unfold qt2
   rw[List.length_map,S.len]
 have fpLt:∀ b∈fp,Nat.lt b D:=fun b hb=>by
  obtain⟨o,e,_⟩:=T.obj 0 _ st2 b hb
  exact below b o e
 have fpk:∀ {H:Hp} {oD:Obj},(∀ b∈fp,H b=none)->∀ b∈fp,xb5 X' [(D,oD)] H b:=fun{H oD} hn b hb=>by
  refine⟨hn b hb,?_,fun hm=>?_,.inl hb,fun x c e=>(f2 b hb).2.2.2.2.1 x c (hclS _ _ e),fun p hp=>?_⟩
  ·exact neC (fpLt b hb)
  ·rcases List.mem_cons.mp (I2.stkSub b hm) with h|h
   ·exact(f2 b hb).2.1 h
   ·exact(f2 b hb).2.2.1 h
  ·rcases List.mem_append.mp hp with hp|hp
   ·exact(f2 b hb).2.2.2.2.2 p hp
   ·have hp:p=(D,oD):=by simpa using hp
    subst hp
    exact(neD (fpLt b hb)).symm
 have loop:∀ s₃:Shared,s₃={s2 with heap:=h₁,toks:=s2.toks+([]:List (Str×Value)).length} ->
  codeAny (model X.prog X.w) X.A (.compLoop (.ListComp elt [⟨tg,iter,ifs,0⟩] scope pos) 0 (.ref it) (.ref D) (compEnvC scope cl C X.env)) (RR (.ref D) C) s₃:=by
  rintro s₃ rfl
  refine qt1 (fun n s'=>∃ i ys its k H',Inv X' [(D,({cls:=.type "list",data:=.seq its k}:Obj))] (qt2 fr σ) H' s'/\tn i s'.heap/\(∀ b∈fp,H' b=none)/\G0 ys its.toList/\W i n ys H') ?_ m0
   ⟨0,[],#[],_,H2,I4 _ (by first|exact I2.tk|exact Nat.succ_pos _),T.keep 0 _ _ st2 (fun b _ o e=>old b o e),fun b hb=>(f2 b hb).1,.nil,w0⟩
  rintro n s3 ⟨i,ys,its,k,H3,I3,st3,fr3,vy,w3⟩
  obtain⟨hsz,h⟩:=turn i n ys H3 w3
  rcases h with⟨stop,qn⟩|⟨go,NN,hNN,step⟩
  ·refine noE (thn (T.done X' rfl rfl rfl hcalm i [(D,_)] s3 (qt2 fr σ) H3 _ I3 (fpk fr3) st3 stop) fun r s4 zq=>?_)
   obtain⟨hr,I4⟩:=zq
   subst hr
   refine hRR C D s4 ⟨ys,H3,?_⟩
   obtain⟨pD,nD,_,_,_⟩:=I4.pin (D,_) (List.mem_append_right _ (List.mem_singleton.mpr rfl))
   have pD:s4.heap.get? D=some {cls:=.type "list",data:=.seq its k}:=pD
   have nD:H3 D=none:=nD
   have nC:H3 C=none:=I4.free
   obtain⟨mC,hnC,_⟩:=I4.loc
   refine⟨nD,⟨mC,hnC⟩,hDC,(neC Lt).symm,fun x c e z=>?_,fun p hp z=>?_,?_,fun hm=>?_,?_,fun h' hsb=>?_,qn D nD⟩
   ·exact neC (cellLt x c e) z
   ·exact neC (pinLt p hp) z
   ·have:=I2.sz;rw[hDD] at this;exact Nat.le_trans this (Nat.le_of_lt hDlt)
   ·exact I2.nofs (by rw[hDD];exact Nat.le_of_lt hDlt) hm
   ·rw[C1 (Ne.symm hDC)];exact nC
   ·have un:Un (frs X.stack) fp H2 (upd H3 D (.lst ys)) s2.heap h':=by
     have u:=I4.base
     have neC:∀ (b:Addr) (o:Obj),s2.heap.get? b=some o->b≠C:=fun b o e=>neC (below b o e)
     have neD:∀ (b:Addr) (o:Obj),s2.heap.get? b=some o->b≠D:=fun b o e=>neD (below b o e)
     have trkNe:∀ b (o:HO),H3 b=some o->b≠D:=fun b o e z=>by rw[z,nD] at e;cases e
     refine⟨fun b o e n hb hx=>hsb.extBut b o (neC b o e) (u.keep b o e n hb hx),fun b o e n hb hx=>?_,fun b o e n hx=>by rw[C1 (neD b o e)];exact u.free b o e n hx,fun b o e hx=>?_,fun b xs e=>?_,fun b o xs e=>?_,fun b ps e=>?_⟩
     ·obtain⟨sl,q⟩:=u.slot b o e n hb hx
      exact⟨sl,hsb.extBut b _ (neC b o e) q⟩
     ·obtain⟨o',q⟩:=u.there b o e hx
      exact⟨o',hsb.extBut b _ (neC b o e) q⟩
     ·have q:=u.tups b xs e
      rw[C1 (trkNe b _ q)];exact q
     ·have q:=u.frzs b o xs e
      rw[C1 (trkNe b _ q)];exact q
     ·obtain⟨more,q⟩:=u.tbls b ps e
      exact⟨more,by rw[C1 (trkNe b _ q)];exact q⟩
    have hok:HOk X.prog X.w (upd H3 D (.lst ys)) h':=fun b u e=>by
     by_cases hb:b=D
     ·rw[hb,A7] at e
      cases e
      rw[hb]
      exact⟨hsz,its.toList,k,vy,by simpa using hsb.extBut D _ hDC pD⟩
     ·rw[C1 hb] at e
      refine(I4.hok b u e).stay (fun c v hc q=>hsb.extBut c v ?_ q) (fun c q=>?_) fun c xs q=>?_
      ·rcases hc with rfl|hc
       ·rintro rfl;rw[nC] at e;cases e
       ·rintro rfl;rw[nC] at hc;cases hc
      ·rw[C1 (T0 q nD)];exact q
      ·rw[C1 (T0 q nD)];exact q
    obtain⟨hh,gg,dd,tt',os'⟩:=s4
    obtain rfl:os'=s2.os:=I4.os
    refine(show Inv X pins σ (upd H3 D (.lst ys)) {s2 with heap:=h',gens:=gg,drawn:=dd,toks:=tt'} from I2.call (h':=h') (g':=gg) (d':=dd) (t':=tt') (ch:=fp) un hok I4.bare fun b hb=>?_)
    obtain⟨_,f1,_,f3,f4,f5⟩:=f2 b hb
    exact⟨f3,f1,f4,f5⟩
  ·refine noE (thn (T.item X' rfl rfl rfl hcalm i [(D,_)] s3 (qt2 fr σ) H3 _ I3 (fpk fr3) st3 go) fun r s4 zq=>?_)
   obtain⟨u,hr,h4⟩:=zq
   subst hr
   refine noE (thn h4 fun _ s5 zq=>?_)
   obtain⟨x,H5,I5,r5,y5,st5,fr5⟩:=zq
   have I5':=I5.pinned (fpk fr5) (T.obj _ _ st5)
   refine noE (thn (hg C s2 H2 fp (X.pn++pins) _ s5 (qt2 fr σ) H5 x u _ I5' r5 (hgo _ _ _ _ (step x H5 y5))) fun _ s6 zq=>?_)
   obtain⟨σ6,H6,I6,q6,k6⟩:=zq
   refine noE (thn (ht C s2 H2 fp (X.pn++pins) _ s6 σ6 H6 _ I6 q6) fun b s7 zq=>?_)
   obtain⟨H7,I7,q7⟩:=zq
   have zk8:∀ {s8:Shared} {H8:Hp},Inv X' ([(D,({cls:=.type "list",data:=.seq its k}:Obj))]++wq7 fp s5.heap) σ6 H8 s8->Inv X' [(D,({cls:=.type "list",data:=.seq its k}:Obj))] (qt2 fr σ) H8 s8/\tn (i+1) s8.heap/\∀ b∈fp,H8 b=none:=fun{s8 H8} I8=>by
    refine⟨(I8.unpinned).weak ?_ fun j v e=>?_,T.keep _ _ _ st5 fun b hb o e=>(I8.pin (b,o) (List.mem_append_right _ (List.mem_append_right _ (qo2 hb e)))).1,fun b hb=>?_⟩
    ·rw[I8.len];show(qt2 fr σ).length=N.length;unfold qt2;rw[List.length_map,S.len]
    ·obtain⟨i',q1,_⟩:=xt9 e
     rw[k6 j i' q1];exact e
    ·obtain⟨o,e,d⟩:=T.obj _ _ st5 b hb
     exact(I8.pin (b,o) (List.mem_append_right _ (List.mem_append_right _ (qo2 hb e)))).2.1
   cases b with
   | false =>
     rw[if_neg Bool.false_ne_true] at q7 ⊢
     obtain⟨m',hm,w7⟩:=hNN _ _ q7
     obtain⟨J1,J2,J3⟩:=zk8 I7
     exact⟨m',hm,i+1,ys,its,k,H7,J1,J2,J3,vy,w7⟩
   | true =>
     rw[if_pos rfl] at q7 ⊢
     refine noE (thn (he C s2 H2 fp (X.pn++pins) _ s7 σ6 H7 _ I7 q7) fun y s8 zq=>?_)
     obtain⟨yv,H8,I8,r8,n8⟩:=zq
     obtain⟨m',hm,w8⟩:=hNN _ _ n8
     obtain⟨J1,J2,J3⟩:=zk8 I8
     obtain⟨pD,nD,_,_,_⟩:=J1.pin (D,_) (List.mem_append_right _ (List.mem_singleton.mpr rfl))
     have pD:s8.heap.get? D=some {cls:=.type "list",data:=.seq its k}:=pD
     have nD:H8 D=none:=nD
     have hz':its.size<=sizeLine:=by
      have e1:its.size=ys.length:=by rw[vy.length];simp
      rw[e1];exact hsz
     refine wpAny_list_append_plain (hsz:=hz') ⟨k,pD⟩ fun h' ⟨k',hl'⟩ hsb=>?_
     ·refine⟨m',hm,i+1,ys++[yv],its.push y,k',H8,?_,T.keep _ _ _ J2 fun b hb o e=>?_,J3,?_,w8⟩
      ·have K0:Inv X' [] (qt2 fr σ) H8 s8:=J1.pins_of fun p hp=>by cases hp
       have K1:Inv X' [] (qt2 fr σ) H8 {s8 with heap:=h'}:=by
        refine K0.turned (it:=D) (t':=s8.toks) (fun b o hb e=>hsb.extBut b o hb e) nD hDC (.inr (by show s2.heap.objs.size<=D;rw[hDD];exact Nat.le_refl _)) (fun x c e z=>?_) fun p hp z=>?_
        ·exact neD (cellLt x c (hclS _ _ e)) z
        ·have hp:p∈X.pn++pins:=by
          rcases List.mem_append.mp hp with hp|hp
          ·exact hp
          ·cases hp
         exact neD (pinLt p hp) z
       refine K1.pins_of fun p hp=>?_
       have hp:p=(D,({cls:=.type "list",data:=.seq (its.push y) k'}:Obj)):=by simpa using hp
       subst hp
       refine⟨hl',nD,hDC,fun hm=>?_,fun v z=>by cases z⟩
       rcases List.mem_cons.mp (I2.stkSub _ hm) with h|h
       ·exact neD Lt h.symm
       ·exact I2.nofs (by rw[hDD];exact Nat.le_refl _) h
      ·exact hsb.extBut b o (neD (fpLt b hb)) e
      ·rw[Array.toList_push]
       exact G0.append vy (.cons r8 .nil)
 exact codeAny_compStart_list (loop _ rfl) (T.self _ 0 _ _ _ (T.keep 0 _ _ st2 fun b _ o e=>old b o e) (loop _ rfl))
theorem Z5(hcalm:X.calm=true)(S:qw2 X scope N fr)(hi:PI X tg iter wi)(hg:∀ cl C s₂ H₂ fp pn,PG (blk X N scope cl C s₂ H₂ fp pn) tg g)(hgo:yv8 fr g)(ht:∀ cl C s₂ H₂ fp pn,PTs (blk X N scope cl C s₂ H₂ fp pn) ifs tt)(he:∀ cl C s₂ H₂ fp pn,PE (blk X N scope cl C s₂ H₂ fp pn) elt te)(hs:autoParam (∀ x,foldedSetIterable iter X.env x=pure x) zAi):PE X (.ListComp elt [⟨tg,iter,ifs,0⟩] scope pos) (Z4 fr wi g tt te):=by
 intro pins s σ H Q I h
 obtain⟨cl,hclos,hclS,hclH⟩:=qx8 (env:=X.env) (scope:=scope) fun y hy hf=>I.ok.has y.1 (S.free y hy hf)
 rw[eval_ListComp]
 refine wpAny_comprehension_free (use:=none) rfl hs hclos S.kind S.names (thn (hi pins s σ H _ I h) fun v s1 h1=>thn h1 fun itv s2 h2=>?_)
 obtain⟨it,fp,tn,J,H2,e,I2,T,st2,f2,W,w0,turn⟩:=h2
 subst e
 refine wr4 (RR:=fun acc C=>compPost (model X.prog X.w) X.A X.xe none (EP X pins σ Q) acc C) hcalm S hclS hclH (hg cl) hgo (ht cl) (he cl) I2 T st2 f2 W w0 turn fun C D s' B=>?_
 obtain⟨ys,H',nD,hC,_,_,_,_,_,_,_,hI,q⟩:=B.ex
 obtain⟨m,hn⟩:=hC
 exact⟨m,hn,fun h' hs'=>⟨.ref D,_,hI h' hs',rfl,q⟩⟩
theorem wb8{spos py:Pos}{i:Nat}{y:Str}(hN:X.N.Nodup)(hy:X.N[i]?=some y)(hly:X.env.scope.names.lookup y=some .local)(hcalm:X.calm=true)(S:qw2 X scope N fr)(hi:PI X tg iter wi)(hg:∀ cl C s₂ H₂ fp pn,PG (blk X N scope cl C s₂ H₂ fp pn) tg g)(hgo:yv8 fr g)(ht:∀ cl C s₂ H₂ fp pn,PTs (blk X N scope cl C s₂ H₂ fp pn) ifs tt)(he:∀ cl C s₂ H₂ fp pn,PE (blk X N scope cl C s₂ H₂ fp pn) elt te)(hsw:autoParam (swapsWith (.ListComp elt [⟨tg,iter,ifs,0⟩] scope pos) (some (.Name y py)) spos.line X.env=pure true) zAr)(hs:autoParam (∀ x,foldedSetIterable iter X.env x=pure x) zAi):PS X (.Assign [.Name y py] (.ListComp elt [⟨tg,iter,ifs,0⟩] scope pos) spos) (D9 (Z4 fr wi g tt te) (B3 i)):=by
 intro pins s σ H D I h
 obtain⟨cl,hclos,hclS,hclH⟩:=qx8 (env:=X.env) (scope:=scope) fun y hy hf=>I.ok.has y.1 (S.free y hy hf)
 rw[exec_Assign_Name_used _ _ _ _ hsw]
 refine wpAny_bind (wpAny_standAt (wpAny_bind ?_))
 show wpAny _ X.A (do let _<-comprehension (.ListComp elt [⟨tg,iter,ifs,0⟩] scope pos) scope X.env _ (newList []) false (eval iter X.env) (some (assign (.Name y py) X.env))) _ _ s
 refine wpAny_bind (wpAny_mono (wpAny_comprehension_free (use:=some (assign (.Name y py) X.env)) (Q:=fun _ s'=>SP X pins D .next s') rfl hs hclos S.kind S.names
  (thn (hi pins s σ H _ I h) fun v s1 h1=>thn h1 fun itv s2 h2=>?_)) (fun _ s' hq=>wpAny_pure (wpAny_pure hq)) fun _ _ e=>e)
 obtain⟨it,fp,tn,J,H2,e,I2,T,st2,f2,W,w0,turn⟩:=h2
 subst e
 refine wr4 (Q:=fun x H1=>B3 i x σ H1 D.nx) (RR:=fun acc C=>compPost (model X.prog X.w) X.A X.xe (some (assign (.Name y py) X.env)) (fun _ s'=>SP X pins D .next s') acc C) hcalm S hclS hclH (hg cl) hgo (ht cl) (he cl) I2 T st2 f2 W w0 turn fun C D' s' B=>?_
 obtain⟨ys,H',nD,hC,hDC,hCL,hCc,hCp,hCs,hCf,hCn,hI,q⟩:=B.ex
 obtain⟨m,hn⟩:=hC
 have I1:Inv X pins σ (upd H' D' (.lst ys)) s':=by
  have:=hI s'.heap (.refl ..)
  obtain⟨hh,gg,dd,tt',os'⟩:=s'
  exact this
 show wpAny _ X.A (assign (.Name y py) X.env (.ref D')) _ _ _
 refine wpAny_assign_Name (xi5 I1 hN hy (.inl hly) (v:=.ref D') rfl (fun s2 I3 zq=>?_) (.inr hly))
 obtain⟨a,sb,ha⟩:=zq
 have hCa:C≠a:=by
  rcases ha with rfl|ha
  ·exact hCL
  ·exact fun z=>hCc y a ha z.symm
 refine⟨m,hn.sameBut sb hCa,fun h3 hs3=>?_⟩
 exact⟨_,_,I3.turned (it:=C) (t':=s2.toks) (fun b o hb e=>hs3.extBut b o hb e) hCn hCL (.inr hCs) hCc hCp,q⟩
mutual
def Dv(K:Fg)(H:Hp):PyData->V->Prop
 | .none,v=>v=.non
 | .bool b,v=>v=.bl b
 | .int i,v=>v=.int i
 | .str x,v=>v=.str x
 | .list ds,v=>∃ a vs,v=.ref a/\SqL K H a vs/\Dvs K H ds vs
 | .tuple ds,v=>∃ a vs,v=.ref a/\SqT K H a vs/\Dvs K H ds vs
 | .dict _,_=>False
def Dvs(K:Fg)(H:Hp):List PyData->List V->Prop
 | [],vs=>vs=[]
 | d::ds,vs=>∃ v r,vs=v::r/\Dv K H d v/\Dvs K H ds r
end
theorem Dvs.length:∀ {ds:List PyData} {vs:List V},Dvs K H ds vs->vs.length=ds.length
 | [],_,h=>by rw[Dvs] at h;subst h;rfl
 | d::ds,_,h=>by
   rw[Dvs] at h
   obtain⟨v,r,rfl,_,h⟩:=h
   rw[List.length_cons,List.length_cons,Dvs.length h]
theorem Dvs.get:∀ {ds:List PyData} {vs:List V} {i:Nat} {d:PyData},Dvs K H ds vs->ds[i]?=some d->∃ v,vs[i]?=some v/\Dv K H d v
 | [],_,_,_,_,e=>by simp at e
 | d::ds,_,0,_,h,e=>by
   rw[Dvs] at h
   obtain⟨v,r,rfl,h,_⟩:=h
   cases e
   exact⟨v,rfl,h⟩
 | d::ds,_,i+1,_,h,e=>by
   rw[Dvs] at h
   obtain⟨v,r,rfl,_,h⟩:=h
   exact Dvs.get (i:=i) h (by simpa using e)
theorem Dvs.get':∀ {ds:List PyData} {vs:List V} {i:Nat} {v:V},Dvs K H ds vs->vs[i]?=some v->∃ d,ds[i]?=some d/\Dv K H d v
 | [],_,_,_,h,e=>by rw[Dvs] at h;subst h;simp at e
 | d::ds,_,0,_,h,e=>by
   rw[Dvs] at h
   obtain⟨v,r,rfl,h,_⟩:=h
   cases e
   exact⟨d,rfl,h⟩
 | d::ds,_,i+1,_,h,e=>by
   rw[Dvs] at h
   obtain⟨v,r,rfl,_,h⟩:=h
   exact Dvs.get' (i:=i) h (by simpa using e)
theorem Dvs.append:∀ {ds es:List PyData} {vs ws:List V},Dvs K H ds vs->Dvs K H es ws->Dvs K H (ds++es) (vs++ws)
 | [],_,_,_,h,g=>by rw[Dvs] at h;subst h;exact g
 | d::ds,es,_,_,h,g=>by
   rw[Dvs] at h
   obtain⟨v,r,rfl,h1,h⟩:=h
   show Dvs K H (d::(ds++es)) _
   rw[Dvs]
   exact⟨v,r++_,rfl,h1,Dvs.append h g⟩
theorem G8:Dvs K H [] []:=by rw[Dvs]
variable{ds:List PyData}
theorem I9{d:PyData}(h:Dv K H d v)(t:Dvs K H ds vs):Dvs K H (d::ds) (v::vs):=by rw[Dvs];exact⟨v,vs,rfl,h,t⟩
theorem qo6:Dv K H .none v↔v=.non:=by rw[Dv]
theorem wb9{b:Bool}:Dv K H (.bool b) v↔v=.bl b:=by rw[Dv]
theorem qz7:Dv K H (.int i) v↔v=.int i:=by rw[Dv]
theorem P9:Dv K H (.str x) v↔v=.str x:=by rw[Dv]
theorem T5:Dv K H (.list ds) v↔∃ a vs,v=.ref a/\SqL K H a vs/\Dvs K H ds vs:=by rw[Dv]
theorem C6:Dv K H (.tuple ds) v↔∃ a vs,v=.ref a/\SqT K H a vs/\Dvs K H ds vs:=by rw[Dv]
def sDa(xs:List Str):List PyData:=xs.map .str
def D4(xs:List Str):List V:=xs.map .str
theorem V5:∀ {xs:List Str} {vs:List V},Dvs K H (sDa xs) vs↔vs=D4 xs
 | [],_=>by show Dvs K H [] _↔_=[];rw[Dvs]
 | x::xs,vs=>by
   show Dvs K H (.str x::sDa xs) vs↔vs=V.str x::D4 xs
   rw[Dvs]
   constructor
   ·rintro⟨v,r,rfl,h1,h2⟩
    rw[P9.mp h1,V5.mp h2]
   ·rintro rfl
    exact⟨_,_,rfl,P9.mpr rfl,V5.mpr rfl⟩
def qe3(H H':Hp):Prop:=(∀ b xs,H b=some (.tup xs)->H' b=some (.tup xs))/\∀ b o xs,H b=some (.frz o (.tup xs))->H' b=some (.frz o (.tup xs))
theorem A6.tupK(h:A6 H H'):qe3 H H':=⟨fun b xs e=>h b _ e,fun b o xs e=>h b _ e⟩
theorem qe3.trans(a:qe3 H H1)(b:qe3 H1 H2):qe3 H H2:=⟨fun c xs e=>b.1 c xs (a.1 c xs e),fun c o xs e=>b.2 c o xs (a.2 c o xs e)⟩
theorem qe3.sqT(e:qe3 H H')(h:SqT K H a xs):SqT K H' a xs:=by
 rcases h with(h|⟨o,h⟩)|h
 ·exact .inl (.inl (e.1 _ _ h))
 ·exact .inl (.inr ⟨o,e.2 _ _ _ h⟩)
 ·exact .inr h
theorem A6.sqT(e:A6 H H')(h:SqT K H a xs):SqT K H' a xs:=e.tupK.sqT h
theorem A6.sqL(e:A6 H H')(h:SqL K H a xs):SqL K H' a xs:=e.seq h
theorem A6.new(h:H p=none)(o:HO):A6 H (upd H p o):=fun b u q=>by rw[C1 (T0 q h)];exact q
def But(ps:List Addr)(H H':Hp):Prop:=∀ b o,H b=some o->b∉ps->H' b=some o
theorem But.refl(ps:List Addr)(H:Hp):But ps H H:=fun _ _ e _=>e
theorem But.upd{ps:List Addr}(h:p∈ps)(o:HO):But ps H (upd H p o):=fun b u q n=>by rw[C1 (by rintro rfl;exact n h)];exact q
theorem But.mono{ps qs:List Addr}(a:But ps H H')(h:∀ b∈ps,b∈qs):But qs H H':=fun c o e n=>a c o e fun z=>n (h c z)
mutual
/-- data without lists -/
def fix:PyData->Bool
 | .none=>true | .bool _=>true | .int _=>true | .str _=>true
 | .list _=>false
 | .tuple ds=>X2 ds
 | .dict _=>false
def X2:List PyData->Bool
 | []=>true
 | d::ds=>fix d && X2 ds
end
mutual
theorem Dv.tupK{K:Fg}{H H':Hp}(k:qe3 H H'):∀ (d:PyData) (v:V),fix d=true->Dv K H d v->Dv K H' d v
 | .none,_,_,h=>qo6.mpr (qo6.mp h)
 | .bool _,_,_,h=>wb9.mpr (wb9.mp h)
 | .int _,_,_,h=>qz7.mpr (qz7.mp h)
 | .str _,_,_,h=>P9.mpr (P9.mp h)
 | .list _,_,f,_=>by rw[fix] at f;cases f
 | .tuple ds,v,f,h=>by
   rw[fix] at f
   obtain⟨a,vs,rfl,hq,h⟩:=C6.mp h
   exact C6.mpr ⟨a,vs,rfl,k.sqT hq,Dvs.tupK k ds vs f h⟩
 | .dict _,_,f,_=>by rw[fix] at f;cases f
theorem Dvs.tupK{K:Fg}{H H':Hp}(k:qe3 H H'):∀ (ds:List PyData) (vs:List V),X2 ds=true->Dvs K H ds vs->Dvs K H' ds vs
 | [],_,_,h=>by rw[Dvs] at h ⊢;exact h
 | d::ds,vs,f,h=>by
   rw[X2,Bool.and_eq_true] at f
   rw[Dvs] at h ⊢
   obtain⟨v,r,e,h1,h2⟩:=h
   exact⟨v,r,e,Dv.tupK k d v f.1 h1,Dvs.tupK k ds r f.2 h2⟩
end
mutual
theorem Dv.same{K:Fg}{H H':Hp}(k:A6 H H'):∀ (d:PyData) (v:V),Dv K H d v->Dv K H' d v
 | .none,_,h=>qo6.mpr (qo6.mp h)
 | .bool _,_,h=>wb9.mpr (wb9.mp h)
 | .int _,_,h=>qz7.mpr (qz7.mp h)
 | .str _,_,h=>P9.mpr (P9.mp h)
 | .list ds,v,h=>by
   obtain⟨a,vs,rfl,hq,h⟩:=T5.mp h
   exact T5.mpr ⟨a,vs,rfl,k.sqL hq,Dvs.same k ds vs h⟩
 | .tuple ds,v,h=>by
   obtain⟨a,vs,rfl,hq,h⟩:=C6.mp h
   exact C6.mpr ⟨a,vs,rfl,k.sqT hq,Dvs.same k ds vs h⟩
 | .dict _,_,h=>by rw[Dv] at h;exact h.elim
theorem Dvs.same{K:Fg}{H H':Hp}(k:A6 H H'):∀ (ds:List PyData) (vs:List V),Dvs K H ds vs->Dvs K H' ds vs
 | [],_,h=>by rw[Dvs] at h ⊢;exact h
 | d::ds,vs,h=>by
   rw[Dvs] at h ⊢
   obtain⟨v,r,e,h1,h2⟩:=h
   exact⟨v,r,e,Dv.same k d v h1,Dvs.same k ds r h2⟩
end
mutual
theorem Dv.reads{X:Cx}{pins:List (Addr×Obj)}{σ:St}{H:Hp}{s:Shared}(I:Inv X pins σ H s):∀ (d:PyData) (v:V) (u:Value),Dv X.K H d v->L6 v u->∃ as,Reads s.heap u d as
 | .none,_,_,h,r=>by rw[qo6.mp h] at r;cases r;exact⟨_,.none⟩
 | .bool b,_,_,h,r=>by rw[wb9.mp h] at r;cases r;exact⟨_,.bool b⟩
 | .int i,_,_,h,r=>by rw[qz7.mp h] at r;obtain⟨t,rfl⟩:=r;exact⟨_,.int i t⟩
 | .str x,_,_,h,r=>by rw[P9.mp h] at r;obtain⟨t,rfl⟩:=r;exact⟨_,.str x t⟩
 | .list ds,_,_,h,r=>by
   obtain⟨a,vs,rfl,hq,h⟩:=T5.mp h
   cases r
   obtain⟨its,rv,pl,_⟩:=I.list hq
   obtain⟨o,e,c,n,d⟩:=pl.isList
   obtain⟨as,ra⟩:=Dvs.reads I ds vs its h rv
   exact⟨_,.list e c d (by simpa using ra)⟩
 | .tuple ds,_,_,h,r=>by
   obtain⟨a,vs,rfl,hq,h⟩:=C6.mp h
   cases r
   obtain⟨its,rv,pl,_⟩:=I.tuple hq
   obtain⟨o,e,c,n,d⟩:=pl
   obtain⟨as,ra⟩:=Dvs.reads I ds vs its h rv
   exact⟨_,.tuple e c d (by simpa using ra)⟩
 | .dict _,_,_,h,_=>by rw[Dv] at h;exact h.elim
theorem Dvs.reads{X:Cx}{pins:List (Addr×Obj)}{σ:St}{H:Hp}{s:Shared}(I:Inv X pins σ H s):∀ (ds:List PyData) (vs:List V) (us:List Value),Dvs X.K H ds vs->G0 vs us->∃ as,ReadsAll s.heap us ds as
 | [],_,_,h,r=>by rw[Dvs] at h;subst h;cases r;exact⟨_,.nil⟩
 | d :: ds,_,_,h,r=>by
   rw[Dvs] at h
   obtain⟨v,r',rfl,h1,h2⟩:=h
   cases r with
   | cons r1 r2 =>
     obtain⟨as,a1⟩:=Dv.reads I d v _ h1 r1
     obtain⟨bs,a2⟩:=Dvs.reads I ds r' _ h2 r2
     exact⟨_,.cons a1 a2⟩
end
open PySem.SeqAt
mutual
def nd:PyData->Bool
 | .none=>true | .bool _=>true | .int _=>true | .str _=>true
 | .list ds=>nds ds
 | .tuple ds=>nds ds
 | .dict _=>false
def nds:List PyData->Bool
 | []=>true
 | d::ds=>nd d && nds ds
end
mutual
theorem Dv.nd{K:Fg}{H:Hp}:∀ (d:PyData) (v:V),Dv K H d v->nd d=true
 | .none,_,_=>by rw[L2.nd]
 | .bool _,_,_=>by rw[L2.nd]
 | .int _,_,_=>by rw[L2.nd]
 | .str _,_,_=>by rw[L2.nd]
 | .list ds,_,h=>by
   obtain⟨a,vs,_,_,h⟩:=T5.mp h
   rw[L2.nd];exact Dvs.nd ds vs h
 | .tuple ds,_,h=>by
   obtain⟨a,vs,_,_,h⟩:=C6.mp h
   rw[L2.nd];exact Dvs.nd ds vs h
 | .dict _,_,h=>by rw[Dv] at h;exact h.elim
theorem Dvs.nd{K:Fg}{H:Hp}:∀ (ds:List PyData) (vs:List V),Dvs K H ds vs->nds ds=true
 | [],_,_=>by rw[nds]
 | d::ds,vs,h=>by
   rw[Dvs] at h
   obtain⟨v,r,_,h1,h2⟩:=h
   rw[nds,Dv.nd d v h1,Dvs.nd ds r h2];rfl
end
mutual
theorem wr5{h:Heap}:∀ (d d':PyData) (v:Value) (as as':List Addr),nd d=true->Reads h v d as->Reads h v d' as'->d=d'
 | .none,_,_,_,_,_,r,q=>by cases r;cases q;rfl
 | .bool _,_,_,_,_,_,r,q=>by cases r;cases q;rfl
 | .int _,_,_,_,_,_,r,q=>by cases r;cases q;rfl
 | .str _,_,_,_,_,_,r,q=>by cases r;cases q;rfl
 | .dict _,_,_,_,_,n,_,_=>by rw[L2.nd] at n;cases n
 | .list xs,d',_,_,_,n,r,q=>by
   rw[L2.nd] at n
   cases r with
   | list a1 a2 a3 a4 =>
     cases q with
     | list b1 b2 b3 b4=>rw[a1] at b1;cases b1;rw[a3] at b3;cases b3;rw[wf8 xs _ _ _ _ n a4 b4]
     | tuple b1 b2 b3 b4=>rw[a1] at b1;cases b1;rw[a2] at b2;exact absurd b2 (by simp)
     | dict b1 b2=>rw[a1] at b1;cases b1;rw[a2] at b2;exact absurd b2 (by simp)
 | .tuple xs,d',_,_,_,n,r,q=>by
   rw[L2.nd] at n
   cases r with
   | tuple a1 a2 a3 a4 =>
     cases q with
     | tuple b1 b2 b3 b4=>rw[a1] at b1;cases b1;rw[a3] at b3;cases b3;rw[wf8 xs _ _ _ _ n a4 b4]
     | list b1 b2 b3 b4=>rw[a1] at b1;cases b1;rw[a2] at b2;exact absurd b2 (by simp)
     | dict b1 b2=>rw[a1] at b1;cases b1;rw[a2] at b2;exact absurd b2 (by simp)
theorem wf8{h:Heap}:∀ (xs ys:List PyData) (vs:List Value) (as as':List Addr),nds xs=true->ReadsAll h vs xs as->ReadsAll h vs ys as'->xs=ys
 | [],_,_,_,_,_,r,q=>by cases r;cases q;rfl
 | x :: xs,_,_,_,_,n,r,q=>by
   rw[nds,Bool.and_eq_true] at n
   cases r with
   | cons r1 r2 =>
     cases q with
     | cons q1 q2=>rw[wr5 x _ _ _ _ n.1 r1 q1,wf8 xs _ _ _ _ n.2 r2 q2]
end
mutual
theorem wc0:∀ d:PyData,nd d=true->PyData.eqv d d=true
 | .none,_=>rfl
 | .bool b,_=>by simp[PyData.eqv]
 | .int i,_=>by simp[PyData.eqv]
 | .str x,_=>by simp[PyData.eqv]
 | .list xs,h=>by rw[PyData.eqv];rw[L2.nd] at h;exact wf9 xs h
 | .tuple xs,h=>by rw[PyData.eqv];rw[L2.nd] at h;exact wf9 xs h
 | .dict _,h=>by rw[L2.nd] at h;cases h
theorem wf9:∀ xs:List PyData,nds xs=true->PyData.eqvAll xs xs=true
 | [],_=>rfl
 | x::xs,h=>by
   rw[nds,Bool.and_eq_true] at h
   rw[PyData.eqvAll,wc0 x h.1,wf9 xs h.2];rfl
end
theorem M4{h:Heap}:∀ {xs:List PyData} {vs:List Value} {as:List Addr},ReadsAll h vs xs as->vs.length=xs.length
 | [],_,_,r=>by cases r;rfl
 | _::xs,_,_,r=>by
   cases r with
   | cons _ r'=>rw[List.length_cons,List.length_cons,M4 r']
mutual
theorem yv9:∀ (da db:PyData) (A:Around) (s:Shared) (a b:Value) (as bs:List Addr),Reads s.heap a da as->Reads s.heap b db bs->nd da=true->nd db=true->A.units+min da.depth db.depth<cLine->EqAt A s a b (PyData.eqv da db)
 | .none,db,A,s,_,_,_,_,ra,rb,_,hb,hu=>by
   cases ra
   cases rb with
   | none=>exact EqAt.same _
   | bool y=>exact EqAt.none_bool y
   | int y u=>exact EqAt.none_int y u
   | str y u=>exact EqAt.none_str y u
   | list k1 k2 k3 k4=>exact EqAt.none_list ⟨_,k1,k2,_,k3⟩ (room_here hu)
   | tuple k1 k2 k3 k4=>exact EqAt.none_tuple ⟨_,k1,k2,_,k3⟩ (room_here hu)
   | dict=>rw[L2.nd] at hb;cases hb
 | .bool x,db,A,s,_,_,_,_,ra,rb,_,hb,hu=>by
   cases ra
   cases rb with
   | none=>exact EqAt.bool_none x
   | bool y=>exact EqAt.bool_bool x y
   | int y u=>exact EqAt.bool_int x y u
   | str y u=>exact EqAt.bool_str x y u
   | list k1 k2 k3 k4=>exact EqAt.bool_list x ⟨_,k1,k2,_,k3⟩ (room_here hu)
   | tuple k1 k2 k3 k4=>exact EqAt.bool_tuple x ⟨_,k1,k2,_,k3⟩ (room_here hu)
   | dict=>rw[L2.nd] at hb;cases hb
 | .int x,db,A,s,_,_,_,_,ra,rb,_,hb,hu=>by
   cases ra
   cases rb with
   | none=>exact EqAt.int_none x _
   | bool y=>exact EqAt.int_bool x _ y
   | int y u=>exact EqAt.int_int x _ y u
   | str y u=>exact EqAt.int_str x _ y u
   | list k1 k2 k3 k4=>exact EqAt.int_list x _ ⟨_,k1,k2,_,k3⟩ (room_here hu)
   | tuple k1 k2 k3 k4=>exact EqAt.int_tuple x _ ⟨_,k1,k2,_,k3⟩ (room_here hu)
   | dict=>rw[L2.nd] at hb;cases hb
 | .str x,db,A,s,_,_,_,_,ra,rb,_,hb,hu=>by
   cases ra
   cases rb with
   | none=>exact EqAt.str_none x _
   | bool y=>exact EqAt.str_bool x _ y
   | int y u=>exact EqAt.str_int x _ y u
   | str y u=>exact EqAt.str_str x _ y u
   | list k1 k2 k3 k4=>exact EqAt.str_list x _ ⟨_,k1,k2,_,k3⟩ (room_here hu)
   | tuple k1 k2 k3 k4=>exact EqAt.str_tuple x _ ⟨_,k1,k2,_,k3⟩ (room_here hu)
   | dict=>rw[L2.nd] at hb;cases hb
 | .list xs,db,A,s,_,_,_,_,ra,rb,ha,hb,hu=>by
   have ra0:=ra
   have rb0:=rb
   cases ra with
   | @list l o1 vs1 n1 xs as h1 h2 h3 h4 =>
     cases rb with
     | none=>exact EqAt.list_none ⟨_,h1,h2,_,h3⟩ (room_here hu)
     | bool y=>exact EqAt.list_bool y ⟨_,h1,h2,_,h3⟩ (room_here hu)
     | int y u=>exact EqAt.list_int y u ⟨_,h1,h2,_,h3⟩ (room_here hu)
     | str y u=>exact EqAt.list_str y u ⟨_,h1,h2,_,h3⟩ (room_here hu)
     | tuple k1 k2 k3 k4=>exact EqAt.list_tuple ⟨_,h1,h2,_,h3⟩ ⟨_,k1,k2,_,k3⟩ (room_here hu)
     | @list b o vs2 n2 ys bs k1 k2 k3 k4 =>
       by_cases e:l=b
       ·subst e
        rw[wr5 _ _ _ _ _ ha ra0 rb0,wc0 _ hb]
        exact EqAt.same _
       ·refine EqAt.of_refs e ?_
        have l1:=M4 h4
        have l2:=M4 k4
        rw[L2.nd] at ha hb
        by_cases hz:xs.length=ys.length
        ·have:=RcAt.lists (A:=A) (s:=s) (e:=pairEq xs ys) ⟨_,h1,h2,_,h3⟩ ⟨_,k1,k2,_,k3⟩ (by simp at l1 l2;omega) (room_here hu) (fun j h1 h2=>by have q:=Y6 xs ys A.in1 s _ _ _ _ h4 k4 ha hb (room_in (by rw[PyData.depth,PyData.depth] at hu;exact hu)) j (by simpa using h1) (by simpa using h2);rw[Array.getElem_toList,Array.getElem_toList] at q;exact q)
         rw[show PyData.eqv (.list xs) (.list ys)=PyData.eqvAll xs ys by rw[PyData.eqv],<-eqvAll_same_length hz]
         have e1:vs1.size=xs.length:=by simpa using l1
         rw[e1] at this
         exact this
        ·rw[show PyData.eqv (.list xs) (.list ys)=PyData.eqvAll xs ys by rw[PyData.eqv],eqvAll_other_length hz]
         exact RcAt.lists_lengths ⟨_,h1,h2,_,h3⟩ ⟨_,k1,k2,_,k3⟩ (by simp at l1 l2;simp;omega) (room_here hu)
     | dict=>rw[L2.nd] at hb;cases hb
 | .tuple xs,db,A,s,_,_,_,_,ra,rb,ha,hb,hu=>by
   have ra0:=ra
   have rb0:=rb
   cases ra with
   | @tuple l o1 vs1 n1 xs as h1 h2 h3 h4 =>
     cases rb with
     | none=>exact EqAt.tuple_none ⟨_,h1,h2,_,h3⟩ (room_here hu)
     | bool y=>exact EqAt.tuple_bool y ⟨_,h1,h2,_,h3⟩ (room_here hu)
     | int y u=>exact EqAt.tuple_int y u ⟨_,h1,h2,_,h3⟩ (room_here hu)
     | str y u=>exact EqAt.tuple_str y u ⟨_,h1,h2,_,h3⟩ (room_here hu)
     | list k1 k2 k3 k4=>exact EqAt.tuple_list ⟨_,h1,h2,_,h3⟩ ⟨_,k1,k2,_,k3⟩ (room_here hu)
     | @tuple b o vs2 n2 ys bs k1 k2 k3 k4 =>
       by_cases e:l=b
       ·subst e
        rw[wr5 _ _ _ _ _ ha ra0 rb0,wc0 _ hb]
        exact EqAt.same _
       ·refine EqAt.of_refs e ?_
        have l1:=M4 h4
        have l2:=M4 k4
        rw[L2.nd] at ha hb
        have:=RcAt.tuples (A:=A) (s:=s) (e:=pairEq xs ys) ⟨_,h1,h2,_,h3⟩ ⟨_,k1,k2,_,k3⟩ (room_here hu) (fun j h1 h2=>by have q:=Y6 xs ys A.in1 s _ _ _ _ h4 k4 ha hb (room_in (by rw[PyData.depth,PyData.depth] at hu;exact hu)) j (by simpa using h1) (by simpa using h2);rw[Array.getElem_toList,Array.getElem_toList] at q;exact q)
        rw[show PyData.eqv (.tuple xs) (.tuple ys)=PyData.eqvAll xs ys by rw[PyData.eqv],<-eqvAll_eq xs ys]
        have e1:vs1.size=xs.length:=by simpa using l1
        have e2:vs2.size=ys.length:=by simpa using l2
        rw[e1,e2] at this
        exact this
     | dict=>rw[L2.nd] at hb;cases hb
 | .dict _,_,_,_,_,_,_,_,_,_,ha,_,_=>by rw[L2.nd] at ha;cases ha
theorem Y6:∀ (xs ys:List PyData) (A:Around) (s:Shared) (us ws:List Value) (as bs:List Addr),ReadsAll s.heap us xs as->ReadsAll s.heap ws ys bs->nds xs=true->nds ys=true->A.units+min (PyData.depthAll xs) (PyData.depthAll ys)<cLine ->
 ∀ j (h1:j<us.length) (h2:j<ws.length),EqAt A s us[j] ws[j] (pairEq xs ys j)
 | [],_,_,_,_,_,_,_,r,_,_,_,_=>by cases r;intro j h1;simp at h1
 | x :: xs,ys,A,s,_,ws,_,_,r,q,ha,hb,hu=>by
   cases r with
   | @cons u us d ds as1 as2 r1 r2 =>
     cases q with
     | nil=>intro j h1 h2;simp at h2
     | @cons w ws y ys bs1 bs2 q1 q2 =>
       rw[nds,Bool.and_eq_true] at ha hb
       rw[PyData.depthAll,PyData.depthAll] at hu
       intro j h1 h2
       cases j with
       | zero=>exact yv9 x y A s u w _ _ r1 q1 ha.1 hb.1 (room_head hu)
       | succ j =>
         exact Y6 xs ys A s us ws _ _ r2 q2 ha.2 hb.2 (room_tail hu) j (by simpa using h1) (by simpa using h2)
end
variable{db:PyData}
theorem zr2{da:PyData}{a b:Value}{bs:List Addr}(ra:Reads s.heap a da as)(rb:Reads s.heap b db bs)(ha:nd da=true)(hb:nd db=true)(hu:A.units+min da.depth db.depth<cLine):RcAt A s a b (PyData.eqv da db):=by
 cases ra with
 | none =>
   cases rb with
   | none=>exact RcAt.none_none
   | bool y=>exact RcAt.none_bool y
   | int y u=>exact RcAt.none_int y u
   | str y u=>exact RcAt.none_str y u
   | @list l2 o2 ws n2 ys bs k1 k2 k3 k4=>exact RcAt.none_list ⟨_,k1,k2,_,k3⟩ (room_here hu)
   | @tuple l2 o2 ws n2 ys bs k1 k2 k3 k4=>exact RcAt.none_tuple ⟨_,k1,k2,_,k3⟩ (room_here hu)
   | dict=>rw[L2.nd] at hb;cases hb
 | bool x =>
   cases rb with
   | none=>exact RcAt.bool_none x
   | bool y=>exact RcAt.bool_bool x y
   | int y u=>exact RcAt.bool_int x y u
   | str y u=>exact RcAt.bool_str x y u
   | @list l2 o2 ws n2 ys bs k1 k2 k3 k4=>exact RcAt.bool_list x ⟨_,k1,k2,_,k3⟩ (room_here hu)
   | @tuple l2 o2 ws n2 ys bs k1 k2 k3 k4=>exact RcAt.bool_tuple x ⟨_,k1,k2,_,k3⟩ (room_here hu)
   | dict=>rw[L2.nd] at hb;cases hb
 | int x t =>
   cases rb with
   | none=>exact RcAt.int_none x t
   | bool y=>exact RcAt.int_bool x t y
   | int y u=>exact RcAt.int_int x t y u
   | str y u=>exact RcAt.int_str x t y u
   | @list l2 o2 ws n2 ys bs k1 k2 k3 k4=>exact RcAt.int_list x t ⟨_,k1,k2,_,k3⟩ (room_here hu)
   | @tuple l2 o2 ws n2 ys bs k1 k2 k3 k4=>exact RcAt.int_tuple x t ⟨_,k1,k2,_,k3⟩ (room_here hu)
   | dict=>rw[L2.nd] at hb;cases hb
 | str x t =>
   cases rb with
   | none=>exact RcAt.str_none x t
   | bool y=>exact RcAt.str_bool x t y
   | int y u=>exact RcAt.str_int x t y u
   | str y u=>exact RcAt.str_str x t y u
   | @list l2 o2 ws n2 ys bs k1 k2 k3 k4=>exact RcAt.str_list x t ⟨_,k1,k2,_,k3⟩ (room_here hu)
   | @tuple l2 o2 ws n2 ys bs k1 k2 k3 k4=>exact RcAt.str_tuple x t ⟨_,k1,k2,_,k3⟩ (room_here hu)
   | dict=>rw[L2.nd] at hb;cases hb
 | @list l o vs n xs as h1 h2 h3 h4 =>
   cases rb with
   | none=>exact RcAt.list_none ⟨_,h1,h2,_,h3⟩ (room_here hu)
   | bool y=>exact RcAt.list_bool y ⟨_,h1,h2,_,h3⟩ (room_here hu)
   | int y u=>exact RcAt.list_int y u ⟨_,h1,h2,_,h3⟩ (room_here hu)
   | str y u=>exact RcAt.list_str y u ⟨_,h1,h2,_,h3⟩ (room_here hu)
   | @list l2 o2 ws n2 ys bs k1 k2 k3 k4 =>
     have l1:vs.size=xs.length:=by simpa using M4 h4
     have l2:ws.size=ys.length:=by simpa using M4 k4
     rw[L2.nd] at ha hb
     rw[PyData.depth,PyData.depth] at hu
     have hi:∀ j (h1:j<vs.size) (h2:j<ws.size),EqAt A.in1 s vs[j] ws[j] (pairEq xs ys j):=fun j h1 h2=>by
      have q:=Y6 xs ys A.in1 s _ _ _ _ h4 k4 ha hb (room_in hu) j (by simpa using h1) (by simpa using h2)
      rw[Array.getElem_toList,Array.getElem_toList] at q
      exact q
     have hu':A.units<cLine:=room_here hu
     rw[show PyData.eqv (.list xs) (.list ys)=PyData.eqvAll xs ys by rw[PyData.eqv]]
     by_cases hz:xs.length=ys.length
     ·have q:=RcAt.lists (A:=A) (s:=s) (e:=pairEq xs ys) ⟨_,h1,h2,_,h3⟩ ⟨_,k1,k2,_,k3⟩ (by omega) hu' hi
      rw[l1,eqvAll_same_length hz] at q
      exact q
     ·rw[eqvAll_other_length hz]
      exact RcAt.lists_lengths ⟨_,h1,h2,_,h3⟩ ⟨_,k1,k2,_,k3⟩ (by simp;omega) hu'
   | @tuple l2 o2 ws n2 ys bs k1 k2 k3 k4=>exact RcAt.list_tuple ⟨_,h1,h2,_,h3⟩ ⟨_,k1,k2,_,k3⟩ (room_here hu)
   | dict=>rw[L2.nd] at hb;cases hb
 | @tuple l o vs n xs as h1 h2 h3 h4 =>
   cases rb with
   | none=>exact RcAt.tuple_none ⟨_,h1,h2,_,h3⟩ (room_here hu)
   | bool y=>exact RcAt.tuple_bool y ⟨_,h1,h2,_,h3⟩ (room_here hu)
   | int y u=>exact RcAt.tuple_int y u ⟨_,h1,h2,_,h3⟩ (room_here hu)
   | str y u=>exact RcAt.tuple_str y u ⟨_,h1,h2,_,h3⟩ (room_here hu)
   | @list l2 o2 ws n2 ys bs k1 k2 k3 k4=>exact RcAt.tuple_list ⟨_,h1,h2,_,h3⟩ ⟨_,k1,k2,_,k3⟩ (room_here hu)
   | @tuple l2 o2 ws n2 ys bs k1 k2 k3 k4 =>
     have l1:vs.size=xs.length:=by simpa using M4 h4
     have l2:ws.size=ys.length:=by simpa using M4 k4
     rw[L2.nd] at ha hb
     rw[PyData.depth,PyData.depth] at hu
     have hi:∀ j (h1:j<vs.size) (h2:j<ws.size),EqAt A.in1 s vs[j] ws[j] (pairEq xs ys j):=fun j h1 h2=>by
      have q:=Y6 xs ys A.in1 s _ _ _ _ h4 k4 ha hb (room_in hu) j (by simpa using h1) (by simpa using h2)
      rw[Array.getElem_toList,Array.getElem_toList] at q
      exact q
     have hu':A.units<cLine:=room_here hu
     rw[show PyData.eqv (.tuple xs) (.tuple ys)=PyData.eqvAll xs ys by rw[PyData.eqv]]
     have q:=RcAt.tuples (A:=A) (s:=s) (e:=pairEq xs ys) ⟨_,h1,h2,_,h3⟩ ⟨_,k1,k2,_,k3⟩ hu' hi
     rw[l1,l2,eqvAll_eq xs ys] at q
     exact q
   | dict=>rw[L2.nd] at hb;cases hb
 | dict=>rw[L2.nd] at ha;cases ha
theorem yw0{da:PyData}{a b:Value}{bs:List Addr}(ra:Reads s.heap a da as)(rb:Reads s.heap b db bs)(ha:nd da=true)(hb:nd db=true)(hu:A.units+min da.depth db.depth<cLine):RcNeAt A s a b (!PyData.eqv da db):=by
 cases ra with
 | none =>
   cases rb with
   | none=>exact RcNeAt.none_none
   | bool y=>exact RcNeAt.none_bool y
   | int y u=>exact RcNeAt.none_int y u
   | str y u=>exact RcNeAt.none_str y u
   | @list l2 o2 ws n2 ys bs k1 k2 k3 k4=>exact RcNeAt.none_list ⟨_,k1,k2,_,k3⟩ (room_here hu)
   | @tuple l2 o2 ws n2 ys bs k1 k2 k3 k4=>exact RcNeAt.none_tuple ⟨_,k1,k2,_,k3⟩ (room_here hu)
   | dict=>rw[L2.nd] at hb;cases hb
 | bool x =>
   cases rb with
   | none=>exact RcNeAt.bool_none x
   | bool y=>exact RcNeAt.bool_bool x y
   | int y u=>exact RcNeAt.bool_int x y u
   | str y u=>exact RcNeAt.bool_str x y u
   | @list l2 o2 ws n2 ys bs k1 k2 k3 k4=>exact RcNeAt.bool_list x ⟨_,k1,k2,_,k3⟩ (room_here hu)
   | @tuple l2 o2 ws n2 ys bs k1 k2 k3 k4=>exact RcNeAt.bool_tuple x ⟨_,k1,k2,_,k3⟩ (room_here hu)
   | dict=>rw[L2.nd] at hb;cases hb
 | int x t =>
   cases rb with
   | none=>exact RcNeAt.int_none x t
   | bool y=>exact RcNeAt.int_bool x t y
   | int y u=>exact RcNeAt.int_int x t y u
   | str y u=>exact RcNeAt.int_str x t y u
   | @list l2 o2 ws n2 ys bs k1 k2 k3 k4=>exact RcNeAt.int_list x t ⟨_,k1,k2,_,k3⟩ (room_here hu)
   | @tuple l2 o2 ws n2 ys bs k1 k2 k3 k4=>exact RcNeAt.int_tuple x t ⟨_,k1,k2,_,k3⟩ (room_here hu)
   | dict=>rw[L2.nd] at hb;cases hb
 | str x t =>
   cases rb with
   | none=>exact RcNeAt.str_none x t
   | bool y=>exact RcNeAt.str_bool x t y
   | int y u=>exact RcNeAt.str_int x t y u
   | str y u=>exact RcNeAt.str_str x t y u
   | @list l2 o2 ws n2 ys bs k1 k2 k3 k4=>exact RcNeAt.str_list x t ⟨_,k1,k2,_,k3⟩ (room_here hu)
   | @tuple l2 o2 ws n2 ys bs k1 k2 k3 k4=>exact RcNeAt.str_tuple x t ⟨_,k1,k2,_,k3⟩ (room_here hu)
   | dict=>rw[L2.nd] at hb;cases hb
 | @list l o vs n xs as h1 h2 h3 h4 =>
   cases rb with
   | none=>exact RcNeAt.list_none ⟨_,h1,h2,_,h3⟩ (room_here hu)
   | bool y=>exact RcNeAt.list_bool y ⟨_,h1,h2,_,h3⟩ (room_here hu)
   | int y u=>exact RcNeAt.list_int y u ⟨_,h1,h2,_,h3⟩ (room_here hu)
   | str y u=>exact RcNeAt.list_str y u ⟨_,h1,h2,_,h3⟩ (room_here hu)
   | @list l2 o2 ws n2 ys bs k1 k2 k3 k4 =>
     have l1:vs.size=xs.length:=by simpa using M4 h4
     have l2:ws.size=ys.length:=by simpa using M4 k4
     rw[L2.nd] at ha hb
     rw[PyData.depth,PyData.depth] at hu
     have hi:∀ j (h1:j<vs.size) (h2:j<ws.size),EqAt A.in1 s vs[j] ws[j] (pairEq xs ys j):=fun j h1 h2=>by
      have q:=Y6 xs ys A.in1 s _ _ _ _ h4 k4 ha hb (room_in hu) j (by simpa using h1) (by simpa using h2)
      rw[Array.getElem_toList,Array.getElem_toList] at q
      exact q
     have hu':A.units<cLine:=room_here hu
     rw[show PyData.eqv (.list xs) (.list ys)=PyData.eqvAll xs ys by rw[PyData.eqv]]
     by_cases hz:xs.length=ys.length
     ·have q:=RcNeAt.lists (A:=A) (s:=s) (e:=pairEq xs ys) ⟨_,h1,h2,_,h3⟩ ⟨_,k1,k2,_,k3⟩ (by omega) hu' hi
      rw[l1,eqvAll_same_length hz] at q
      exact q
     ·rw[eqvAll_other_length hz]
      exact RcNeAt.lists_lengths ⟨_,h1,h2,_,h3⟩ ⟨_,k1,k2,_,k3⟩ (by simp;omega) hu'
   | @tuple l2 o2 ws n2 ys bs k1 k2 k3 k4=>exact RcNeAt.list_tuple ⟨_,h1,h2,_,h3⟩ ⟨_,k1,k2,_,k3⟩ (room_here hu)
   | dict=>rw[L2.nd] at hb;cases hb
 | @tuple l o vs n xs as h1 h2 h3 h4 =>
   cases rb with
   | none=>exact RcNeAt.tuple_none ⟨_,h1,h2,_,h3⟩ (room_here hu)
   | bool y=>exact RcNeAt.tuple_bool y ⟨_,h1,h2,_,h3⟩ (room_here hu)
   | int y u=>exact RcNeAt.tuple_int y u ⟨_,h1,h2,_,h3⟩ (room_here hu)
   | str y u=>exact RcNeAt.tuple_str y u ⟨_,h1,h2,_,h3⟩ (room_here hu)
   | @list l2 o2 ws n2 ys bs k1 k2 k3 k4=>exact RcNeAt.tuple_list ⟨_,h1,h2,_,h3⟩ ⟨_,k1,k2,_,k3⟩ (room_here hu)
   | @tuple l2 o2 ws n2 ys bs k1 k2 k3 k4 =>
     have l1:vs.size=xs.length:=by simpa using M4 h4
     have l2:ws.size=ys.length:=by simpa using M4 k4
     rw[L2.nd] at ha hb
     rw[PyData.depth,PyData.depth] at hu
     have hi:∀ j (h1:j<vs.size) (h2:j<ws.size),EqAt A.in1 s vs[j] ws[j] (pairEq xs ys j):=fun j h1 h2=>by
      have q:=Y6 xs ys A.in1 s _ _ _ _ h4 k4 ha hb (room_in hu) j (by simpa using h1) (by simpa using h2)
      rw[Array.getElem_toList,Array.getElem_toList] at q
      exact q
     have hu':A.units<cLine:=room_here hu
     rw[show PyData.eqv (.tuple xs) (.tuple ys)=PyData.eqvAll xs ys by rw[PyData.eqv]]
     have q:=RcNeAt.tuples (A:=A) (s:=s) (e:=pairEq xs ys) ⟨_,h1,h2,_,h3⟩ ⟨_,k1,k2,_,k3⟩ hu' hi
     rw[l1,l2,eqvAll_eq xs ys] at q
     exact q
   | dict=>rw[L2.nd] at hb;cases hb
 | dict=>rw[L2.nd] at ha;cases ha
theorem N8{k:Nat}(r:qc0 k A):A.units+190<cLine:=by have:=r.un;omega
def S4(K:Fg):R2:=fun x y H Q=>rEq x y H Q\/∃ d e,Dv K H d x/\Dv K H e y/\min d.depth e.depth<=190/\Q (.bl (PyData.eqv d e)) H
def Z2(K:Fg):R2:=fun x y H Q=>rNe x y H Q\/∃ d e,Dv K H d x/\Dv K H e y/\min d.depth e.depth<=190/\Q (.bl (!PyData.eqv d e)) H
theorem M3(hu:X.A.units+190<cLine):OpR X (compareOp .Eq) (S4 X.K):=by
 refine zx5.or ?_
 intro pins s σ H x y v u Q I rx ry h
 obtain⟨d,e,hx,hy,hz,q⟩:=h
 obtain⟨as,ra⟩:=Dv.reads I d x v hx rx
 obtain⟨bs,rb⟩:=Dv.reads I e y u hy ry
 have hroom:X.A.units+min d.depth e.depth<cLine:=Nat.lt_of_le_of_lt (Nat.add_le_add_left hz _) hu
 exact zr2 ra rb (Dv.nd d x hx) (Dv.nd e y hy) hroom X.prog X.w X.xe _ ⟨.bl _,H,I,rfl,q⟩
theorem R0(hu:X.A.units+190<cLine):OpR X (compareOp .NotEq) (Z2 X.K):=by
 refine zx6.or ?_
 intro pins s σ H x y v u Q I rx ry h
 obtain⟨d,e,hx,hy,hz,q⟩:=h
 obtain⟨as,ra⟩:=Dv.reads I d x v hx rx
 obtain⟨bs,rb⟩:=Dv.reads I e y u hy ry
 have hroom:X.A.units+min d.depth e.depth<cLine:=Nat.lt_of_le_of_lt (Nat.add_le_add_left hz _) hu
 exact yw0 ra rb (Dv.nd d x hx) (Dv.nd e y hy) hroom X.prog X.w X.xe _ ⟨.bl _,H,I,rfl,q⟩
def W5(K:Fg):R2:=fun x y H Q=>rI0 (fun i j=>.int (i+j)) x y H Q\/(∃ i j,x=.str i/\y=.str j/\i.length+j.length<=sizeLine/\Q (.str (i++j)) H)\/zy6 x y H Q\/zm1 K x y H Q
theorem Q6:OpR X (binaryOp .Add) (W5 X.K):=zo9.or (yb3.or (zq2.or zf1))
def zm4:R2:=fun x y H Q=>∃ z n,x=.str z/\y=.int n/\0<=n/\n<=1000/\z.length<=1000/\Q (.str (PySem.Txt.mul z n)) H
theorem yc6:OpR X (binaryOp .Mult) zm4:=by
 intro pins s σ H x y v u Q I rx ry h
 obtain⟨z,n,rfl,rfl,h0,h1,h2,q⟩:=h
 obtain⟨t,rfl⟩:=rx
 obtain⟨t',rfl⟩:=ry
 refine wpAny_with_toks (n:=1) I.tk (SB.mul ⟨?_,fun hn _=>?_,fun hn _=>?_⟩ fun t' k ht=>⟨.str _,H,I.tok _ ht,⟨_,rfl⟩,q⟩)
 ·rw[decide_eq_false (by omega),decide_eq_false (by omega)];rfl
 ·have e1:(2 ^ 63-1:Int) / n>=(2 ^ 63-1) / 1000:=by
   have hp:(0:Int)<n:=by omega
   apply Int.le_ediv_of_mul_le hp
   have:(2 ^ 63-1:Int) / 1000*n<=(2 ^ 63-1) / 1000*1000:=Int.mul_le_mul_of_nonneg_left h1 (by decide)
   have e:(2 ^ 63-1:Int) / 1000*1000<=2 ^ 63-1:=by decide
   omega
  have e2:(2 ^ 63-1:Int) / 1000>=1000:=by decide
  omega
 ·have:z.length*n.toNat<=1000*1000:=Nat.mul_le_mul h2 (by omega)
  have hs:sizeLine=16777216:=sizeLine_eq
  unfold Builtin.Str.tooLong
  exact decide_eq_false (by omega)
def qt3:R2:=fun x y H Q=>rI yt8 (fun i j=>.int (i*j)) x y H Q\/zm4 x y H Q\/zy7 x y H Q
theorem qj2:OpR X (binaryOp .Mult) qt3:=zp0.or (yc6.or zq3)
def Ad9:R2:=fun x y H Q=>∃ i j:Str,x=.str i/\y=.str j/\Q (.bl (decide (i.cps.toList<j.cps.toList))) H
def zz1:R2:=fun x y H Q=>∃ i j:Str,x=.str i/\y=.str j/\Q (.bl (!decide (j.cps.toList<i.cps.toList))) H
def zz2:R2:=fun x y H Q=>∃ i j:Str,x=.str i/\y=.str j/\Q (.bl (decide (j.cps.toList<i.cps.toList))) H
def zz3:R2:=fun x y H Q=>∃ i j:Str,x=.str i/\y=.str j/\Q (.bl (!decide (i.cps.toList<j.cps.toList))) H
theorem yp2:OpR X (compareOp .LtE) zz1:=by
 intro pins s σ H x y v u Q I rx ry h
 obtain⟨i,j,rfl,rfl,q⟩:=h
 obtain⟨t,rfl⟩:=rx
 obtain⟨t',rfl⟩:=ry
 exact PySem.P.le_str ⟨.bl _,H,I,rfl,q⟩
theorem yp3:OpR X (compareOp .Gt) zz2:=by
 intro pins s σ H x y v u Q I rx ry h
 obtain⟨i,j,rfl,rfl,q⟩:=h
 obtain⟨t,rfl⟩:=rx
 obtain⟨t',rfl⟩:=ry
 exact PySem.P.gt_str ⟨.bl _,H,I,rfl,q⟩
theorem yp4:OpR X (compareOp .GtE) zz3:=by
 intro pins s σ H x y v u Q I rx ry h
 obtain⟨i,j,rfl,rfl,q⟩:=h
 obtain⟨t,rfl⟩:=rx
 obtain⟨t',rfl⟩:=ry
 exact PySem.P.ge_str ⟨.bl _,H,I,rfl,q⟩
def yp5:R2:=fun x y H Q=>rI0 (fun i j=>.bl (decide (i<j))) x y H Q\/Ad9 x y H Q
def yc7:R2:=fun x y H Q=>rI0 (fun i j=>.bl (decide (i<=j))) x y H Q\/zz1 x y H Q
def xb8:R2:=fun x y H Q=>rI0 (fun i j=>.bl (decide (j<i))) x y H Q\/zz2 x y H Q
def zr3:R2:=fun x y H Q=>rI0 (fun i j=>.bl (decide (j<=i))) x y H Q\/zz3 x y H Q
theorem xn0:OpR X (compareOp .Lt) yp5:=zx7.or yo0
theorem wr6:OpR X (compareOp .LtE) yc7:=zx8.or yp2
theorem qo7:OpR X (compareOp .Gt) xb8:=zx9.or yp3
theorem zr4:OpR X (compareOp .GtE) zr3:=zy0.or yp4
def Ae0(neg:Bool):R2:=fun x y H Q=>∃ i j:Str,x=.str i/\y=.str j/\Q (.bl (if neg then !(!(Builtin.Str.occurrences j i 0 j.length 1).isEmpty) else !(Builtin.Str.occurrences j i 0 j.length 1).isEmpty)) H
def zr5(K:Fg)(neg:Bool):R2:=fun x y H Q=>rIn K neg x y H Q\/Ae0 neg x y H Q
theorem zr6:OpR X (compareOp .In) (zr5 X.K false):=yo7.or yo1
def xu0:R2:=fun x y H Q=>y=.non/\Q (.bl (decide (x=.non))) H
def qj3:R2:=fun x y H Q=>y=.non/\Q (.bl (!decide (x=.non))) H
theorem qz8:OpR X (compareOp .Is) xu0:=zp2
theorem qg6:OpR X (compareOp .IsNot) qj3:=ze7
def P6(K:Fg):List V->Hp->VK->Prop:=fun xs H Q=>(∃ p ys,xs=[.ref p]/\(SqL K H p ys\/SqT K H p ys)/\Q (.int ys.length) H)\/(∃ z,xs=[.str z]/\z.length<=sizeLine/\Q (.int z.length) H) \/
 ∃ a kvs,xs=[V.ref a]/\H a=some (.dK kvs)/\Q (.int kvs.length) H
theorem E3:W4 X (.builtin "len") (P6 X.K):=xm5.or (xm6.or yp1)
def xn1(K:Fg):List V->Hp->VK->Prop:=fun xs H Q=>∃ p ys,xs=[.ref p]/\(SqL K H p ys\/SqT K H p ys)/\∀ l,H l=none->Q (.ref l) (upd H l (.lst ys))
theorem qz9:W4 X (.type "list") (xn1 X.K):=xm7
def qo8(K:Fg):List V->Hp->VK->Prop:=fun xs H Q=>∃ p ys,xs=[.ref p]/\((SqL K H p ys/\∀ l,H l=none->Q (.ref l) (upd H l (.tup ys)))\/(SqT K H p ys/\Q (.ref p) H))
theorem V1:W4 X (.type "tuple") (qo8 X.K):=xb7
def yj1:List V->Hp->VK->Prop:=fun xs H Q=>(∃ i,xs=[.int i]/\Q (.int i) H)\/∃ k,xs=[.bl k]/\Q (.int (if k then 1 else 0)) H
theorem qw3:W4 X (.type "int") yj1:=yo2
theorem wc1:∀ {xs:List Str} {us:List Value},G0 (D4 xs) us->StrsAre us xs
 | [],_,h=>by cases h;exact .nil
 | x :: xs,_,h=>by
   have h:G0 (V.str x::D4 xs) _:=h
   cases h with
   | cons r t =>
     obtain⟨t',rfl⟩:=r
     exact .cons x t' (wc1 t)
theorem xj6:∀ {xs:List Str} {us:List Value},StrsAre us xs->G0 (D4 xs) us
 | _,_,.nil=>.nil
 | _,_,.cons y t h=>.cons ⟨t,rfl⟩ (xj6 h)
def xu1(K:Fg):List V->Hp->VK->Prop:=fun xs H Q=>∃ p ys,xs=[.ref p]/\SqL K H p (D4 ys)/\ys.length<64 /\
 ∀ l ys',ys'.Perm ys->sortedS ys'=true->H l=none->Q (.ref l) (upd H l (.lst (D4 ys')))
theorem xn2:W4 X (.builtin "sorted") (xu1 X.K):=by
 intro pins s σ H xs us Q I r h
 obtain⟨p,ys,rfl,hq,hl,q⟩:=h
 obtain⟨u,rfl,rx⟩:=qr8 r
 cases rx
 obtain⟨its,rv,pl,hz⟩:=I.list hq
 have hlen:=rv.length
 have hn:(D4 ys).length=ys.length:=List.length_map _
 refine sorted_strs pl.isList (wc1 rv) (by omega) fun out ss' h1 h2 h3=>?_
 have kp:∀ b o,s.heap.get? b=some o->(sortedAll s.heap its out).get? b=some o:=fun b o e=>sortedAll_old e
 obtain⟨e,he⟩:=sortedAll_at s.heap its out
 have hf:H (s.heap.objs.size+1)=none:=I.hok.fresh (Nat.le_succ _)
 have hz':(D4 ss').length<=sizeLine:=by
  have:=h2.length_eq
  show(ss'.map V.str).length<=_
  rw[List.length_map];rw[hn] at hz;omega
 refine⟨.ref (s.heap.objs.size+1),_,I.laid (t':=s.toks) (o:=.lst (D4 ss')) kp (Nat.le_succ _) ?_,rfl,q _ _ h2 h3 hf⟩
 exact⟨hz',out.toList,e,xj6 h1,by simpa [seqObj] using he⟩
def zm5(K:Fg):V->List V->Hp->VK->Prop:=fun x vs H Q=>∃ z p ys,x=.str z/\vs=[.ref p]/\(SqL K H p (D4 ys)\/SqT K H p (D4 ys))/\(ys.map (·.length)).sum+ys.length*z.length<=16777216/\Q (.str (PySem.Txt.join z ys)) H
theorem zf9:MtR X "str.join" (zm5 X.K):=by
 intro pins s σ H x vs v us Q I rx rv h
 obtain⟨z,p,ys,rfl,rfl,hq,hs,q⟩:=h
 obtain⟨t,rfl⟩:=rx
 obtain⟨u,rfl,ru⟩:=rv.one
 cases ru
 rcases hq with hq|hq
 ·obtain⟨its,r,pl,hz⟩:=I.list hq
  exact wpAny_with_toks (n:=1) I.tk (join_list pl.isList (by simpa using wc1 r) hs fun t' k ht=>⟨.str _,H,I.tok _ ht,⟨_,rfl⟩,q⟩)
 ·obtain⟨its,r,pl,hz⟩:=I.tuple hq
  exact wpAny_with_toks (n:=1) I.tk (join_tuple pl (by simpa using wc1 r) hs fun t' k ht=>⟨.str _,H,I.tok _ ht,⟨_,rfl⟩,q⟩)
def W6{α:Type}(xs:List α)(k:Nat)(y:α):List α:=xs.take k++y::xs.drop k
def xn3:V->List V->Hp->VK->Prop:=fun x vs H Q=>∃ (l:Addr) (xs:List V) (i:Int) (y:V),x=.ref l/\vs=[.int i,y]/\H l=some (.lst xs)/\0<=i/\i<=xs.length/\xs.length<sizeLine/\Q .non (upd H l (.lst (W6 xs i.toNat y)))
theorem yp6:MtR X "list.insert" xn3:=by
 intro pins s σ H x vs v us Q I rx rv h
 obtain⟨l,xs,i,y,rfl,rfl,hH,h0,h1,hz,q⟩:=h
 cases rx
 obtain⟨u,w',rfl,ru,rw'⟩:=rv.two
 obtain⟨t,rfl⟩:=ru
 obtain⟨z,its,n,r,hl,e⟩:=I.lstM hH
 have hs:sizeLine=16777216:=sizeLine_eq
 refine call_meets F.slot_list_insert ⟨_,e,rfl⟩ F.entry_list_insert (F.args_list_insert_3 _ _ _) (AutoListH.list_insert_list_int_val_1 l its.toArray n i t w' (by rw[fitsIndex_both (by omega) (by omega)];exact Bool.false_ne_true) (by rw[List.size_toArray];omega)) ⟨e,?_⟩
 refine⟨.non,_,I.lset (its':=W6 its i.toNat w') (t':=s.toks) hH e ?_ ?_ ?_,rfl,q⟩
 ·have hi:¬i<0:=by omega
  have hm:min i.toNat its.length=i.toNat:=by omega
  simp only[hi,if_false,List.size_toArray,hm]
  unfold W6
  apply Array.toList_inj.mp
  simp
  exact List.take_of_length_le (by rw[List.length_drop];exact Nat.le_refl _)
 ·exact G0.append (r.take i.toNat) (.cons rw' (r.drop i.toNat))
 ·unfold W6
  rw[List.length_append,List.length_cons,List.length_take,List.length_drop]
  omega
def ql5(K:Fg)(tl:TE):TI:=fun σ H R=>tl σ H fun x H1=>∃ a,x=.ref a/\(((∃ xs,SqL K H1 a xs)/\R (Itl K a) H1)\/((∃ xs,SqT K H1 a xs)/\R (Itt K a) H1))
theorem T6{l:Expr}{tl:TE}(hl:PE X l tl):PI X tg l (ql5 X.K tl):=by
 intro pins s σ H R I h
 refine thn (hl pins s σ H _ I h) fun v s1 zq=>?_
 obtain⟨x,H1,I1,r1,q1⟩:=zq
 obtain⟨a,e,q⟩:=q1
 subst e
 cases r1
 rcases q with⟨⟨xs,hq⟩,q⟩|⟨⟨xs,hq⟩,q⟩
 ·obtain⟨its,rv,p,hz⟩:=I1.list hq
  refine wpAny_pyIter_list p.isList ?_
  refine⟨s1.heap.objs.size,[s1.heap.objs.size],_,_,H1,rfl,I1.kept (t':=s1.toks) fun b o e=>Heap.get?_push_of_some _ e,yn6 a _,⟨_,Heap.get?_push_size _ rfl,rfl,rfl⟩,fun b hb=>?_,q⟩
  have e:b=s1.heap.objs.size:=by simpa using hb
  subst e
  exact I1.fpOk (Nat.le_refl _) (I1.hok.fresh (Nat.le_refl _))
 ·obtain⟨its,rv,p,hz⟩:=I1.tuple hq
  refine wpAny_pyIter_tuple (show s1.heap.IsTuple a its.toArray from p) ?_
  refine⟨s1.heap.objs.size,[s1.heap.objs.size],_,_,H1,rfl,I1.kept (t':=s1.toks) fun b o e=>Heap.get?_push_of_some _ e,yb0 a _,⟨_,Heap.get?_push_size _ rfl,rfl,rfl⟩,fun b hb=>?_,q⟩
  have e:b=s1.heap.objs.size:=by simpa using hb
  subst e
  exact I1.fpOk (Nat.le_refl _) (I1.hok.fresh (Nat.le_refl _))
theorem yw1 (h:wi σ H fun J H1=>∃ W:Nat->Nat->St->Hp->Prop,(∃ m,W 0 m σ H1)/\∀ i m σ H,W i m σ H ->
 (J.stop i H/\D.nx σ H)\/(J.go i H/\∃ N:St->Hp->Prop,(∀ σ' H',N σ' H'->∃ m',m'<m/\W (i+1) m' σ' H')/\∀ x H',J.yld i H x H'->g x σ H' fun σ2 H2=>tb {D with nx:=N,ct:=N,bk:=D.nx} σ2 H2)):qm3 wi g tb D σ H:=h
abbrev xb9(g:TG)(tb:TS)(D:U8)(σ:St)(J:It)(H1:Hp):Prop:=∃ W:Nat->Nat->St->Hp->Prop,(∃ m,W 0 m σ H1)/\∀ i m σ H,W i m σ H ->
 (J.stop i H/\D.nx σ H)\/(J.go i H/\∃ N:St->Hp->Prop,(∀ σ' H',N σ' H'->∃ m',m'<m/\W (i+1) m' σ' H')/\∀ x H',J.yld i H x H'->g x σ H' fun σ2 H2=>tb {D with nx:=N,ct:=N,bk:=D.nx} σ2 H2)
theorem yj2(hq:SqL K H a xs\/SqT K H a xs)(Pv:Nat->St->Hp->Prop)(h0:Pv 0 σ H)(hl:SqL K H a xs->∀ i σ H,i<=xs.length->Pv i σ H->SqL K H a xs)(ht:SqT K H a xs->∀ i σ H,i<=xs.length->Pv i σ H->SqT K H a xs)(hs:∀ i x σ H,xs[i]?=some x->Pv i σ H->g x σ H fun σ2 H2=>tb {D with nx:=PAt Pv (i+1),ct:=PAt Pv (i+1),bk:=D.nx} σ2 H2)(hd:∀ σ H,Pv xs.length σ H->D.nx σ H) :
 ∃ b,V.ref a=.ref b/\(((∃ xs,SqL K H b xs)/\xb9 g tb D σ (Itl K b) H)\/((∃ xs,SqT K H b xs)/\xb9 g tb D σ (Itt K b) H)):=by
 refine⟨a,rfl,?_⟩
 rcases hq with hq|hq
 ·exact .inl ⟨⟨xs,hq⟩,wb2 Pv h0 (hl hq) hs hd⟩
 ·exact .inr ⟨⟨xs,hq⟩,yi1 Pv h0 (ht hq) hs hd⟩
theorem qm5{n:Int}(h0:0<=n)(hn:n<2 ^ 62)(Pv:Nat->St->Hp->Prop)(p0:Pv 0 σ H)(hs:∀ (i:Nat) σ H,(i:Int)<n->Pv i σ H->g (.int i) σ H fun σ2 H2=>tb {D with nx:=PAt Pv (i+1),ct:=PAt Pv (i+1),bk:=D.nx} σ2 H2)(hd:∀ σ H,Pv n.toNat σ H->D.nx σ H) :
 ∃ j:Int,[V.int n]=[.int j]/\-(2 ^ 62)<=j/\j<2 ^ 62/\xb9 g tb D σ (Itr 0 j.toNat) H :=
 ⟨n,rfl,by omega,hn,yn9 (lo:=0) (n:=n.toNat) Pv p0 (fun i σ H hi p=>by rw[Int.zero_add];exact hs i σ H (by omega) p) hd⟩
abbrev qt4(g:TG)(tt:TT)(te:TE)(σ':St)(Q:VK)(J:It)(H1:Hp):Prop:=∃ W:Nat->Nat->List V->Hp->Prop,(∃ m,W 0 m [] H1)/\∀ i m ys H,W i m ys H->ys.length<=sizeLine /\
 ((J.stop i H/\∀ p,H p=none->Q (.ref p) (upd H p (.lst ys))) \/
  (J.go i H/\∃ NN:List V->Hp->Prop,(∀ ys' H',NN ys' H'->∃ m',m'<m/\W (i+1) m' ys' H')/\∀ x H',J.yld i H x H'->g x σ' H' fun σ2 H2=>tt σ2 H2 fun b H3 =>
   if b=true then te σ2 H3 fun y H4=>NN (ys++[y]) H4 else NN ys H3))
theorem zg0{Q:VK}(h:wi σ H (qt4 g tt te (qt2 fr σ) Q)):Z4 fr wi g tt te σ H Q:=h
variable{σ':St}
theorem wc2{Q:VK}(item:Nat->V->Prop)(Pv:Nat->List V->Hp->Prop)(h0:Pv 0 [] H)(hlen:∀ i ys H,i<=n->Pv i ys H->ys.length<=sizeLine)(hgo:∀ i ys H,i<n->Pv i ys H->J.go i H)(hy:∀ i ys H x H',i<n->Pv i ys H->J.yld i H x H'->H'=H/\item i x)(hst:∀ ys H,Pv n ys H->J.stop n H)(hs:∀ i x ys H,i<n->item i x->Pv i ys H->g x σ' H fun σ2 H2=>tt σ2 H2 fun b H3=>if b=true then te σ2 H3 fun y H4=>PAt Pv (i+1) (ys++[y]) H4 else PAt Pv (i+1) ys H3)(hd:∀ ys H,Pv n ys H->∀ p,H p=none->Q (.ref p) (upd H p (.lst ys))):qt4 g tt te σ' Q J H:=by
 refine⟨fun i m ys H=>m=n-i/\i<=n/\Pv i ys H,⟨n,by simp,Nat.zero_le _,h0⟩,?_⟩
 rintro i m ys H ⟨rfl,hi,p⟩
 refine⟨hlen i ys H hi p,?_⟩
 by_cases hlt:i<n
 ·refine .inr ⟨hgo i ys H hlt p,Pv (i+1),fun ys' H' q=>⟨n-(i+1),by omega,rfl,hlt,q⟩,fun x H' y=>?_⟩
  obtain⟨rfl,hx⟩:=hy i ys H x H' hlt p y
  exact hs i x ys _ hlt hx p
 ·have e:i=n:=by omega
  subst e
  exact .inl ⟨hst ys H p,hd ys H p⟩
theorem qc1{Q:VK}(hq:SqL K H a xs)(Pv:Nat->List V->Hp->Prop)(h0:Pv 0 [] H)(hlen:∀ i ys H,i<=xs.length->Pv i ys H->ys.length<=sizeLine)(hl:∀ i ys H,i<=xs.length->Pv i ys H->SqL K H a xs)(hs:∀ i x ys H,xs[i]?=some x->Pv i ys H->g x σ' H fun σ2 H2=>tt σ2 H2 fun b H3=>if b=true then te σ2 H3 fun y H4=>PAt Pv (i+1) (ys++[y]) H4 else PAt Pv (i+1) ys H3)(hd:∀ ys H,Pv xs.length ys H->∀ p,H p=none->Q (.ref p) (upd H p (.lst ys))) :
 ∃ b,V.ref a=.ref b/\(((∃ xs,SqL K H b xs)/\qt4 g tt te σ' Q (Itl K b) H)\/((∃ xs,SqT K H b xs)/\qt4 g tt te σ' Q (Itt K b) H)):=by
 refine⟨a,rfl,.inl ⟨⟨xs,hq⟩,wc2 (n:=xs.length) (fun i x=>xs[i]?=some x) Pv h0 hlen (fun i ys H hi p=>?_) (fun i ys H x H' hi p y=>?_) (fun ys H p=>?_) (fun i x ys H _ hx p=>hs i x ys H hx p) hd⟩⟩
 ·exact⟨xs,xs[i],hl i ys H (Nat.le_of_lt hi) p,by simp[hi]⟩
 ·exact⟨y.1,y.2 xs (hl i ys H (Nat.le_of_lt hi) p)⟩
 ·exact⟨xs,hl _ ys H (Nat.le_refl _) p,Nat.le_refl _⟩
theorem yw2(hq:SqL K H a xs)(Pv:Nat->St->Hp->Prop)(h0:Pv 0 σ H)(hl:∀ i σ H,i<=xs.length->Pv i σ H->SqL K H a xs)(hs:∀ i x σ H,xs[i]?=some x->Pv i σ H->g x σ H fun σ2 H2=>tb {D with nx:=PAt Pv (i+1),ct:=PAt Pv (i+1),bk:=D.nx} σ2 H2)(hd:∀ σ H,Pv xs.length σ H->D.nx σ H) :
 ∃ b,V.ref a=.ref b/\(((∃ xs,SqL K H b xs)/\xb9 g tb D σ (Itl K b) H)\/((∃ xs,SqT K H b xs)/\xb9 g tb D σ (Itt K b) H)) :=
 ⟨a,rfl,.inl ⟨⟨xs,hq⟩,wb2 Pv h0 hl hs hd⟩⟩
theorem qm6{Q:VK}{n:Int}(h0:0<=n)(hn:n<2 ^ 62)(Pv:Nat->List V->Hp->Prop)(p0:Pv 0 [] H)(hlen:∀ (i:Nat) ys H,(i:Int)<=n->Pv i ys H->ys.length<=sizeLine)(hs:∀ (i:Nat) ys H,(i:Int)<n->Pv i ys H->g (.int i) σ' H fun σ2 H2=>tt σ2 H2 fun b H3=>if b=true then te σ2 H3 fun y H4=>PAt Pv (i+1) (ys++[y]) H4 else PAt Pv (i+1) ys H3)(hd:∀ ys H,Pv n.toNat ys H->∀ p,H p=none->Q (.ref p) (upd H p (.lst ys))) :
 ∃ j:Int,[V.int n]=[.int j]/\-(2 ^ 62)<=j/\j<2 ^ 62/\qt4 g tt te σ' Q (Itr 0 j.toNat) H :=
 ⟨n,rfl,by omega,hn,wc2 (n:=n.toNat) (fun i x=>x=.int i) Pv p0 (fun i ys H hi p=>hlen i ys H (by omega) p) (fun i ys H hi _=>hi) (fun i ys H x H' hi _ y=>⟨y.1,by rw[y.2,Int.zero_add]⟩) (fun ys H _=>Nat.le_refl _)
  (fun i x ys H hi hx p=>by subst hx;exact hs i ys H (by omega) p) hd⟩
theorem yp7{Q:VK}{lo hi:Int}(h1:-(2 ^ 62)<=lo)(h2:lo<=hi)(h3:hi<2 ^ 62)(Pv:Nat->List V->Hp->Prop)(p0:Pv 0 [] H)(hlen:∀ (i:Nat) ys H,lo+i<=hi->Pv i ys H->ys.length<=sizeLine)(hs:∀ (i:Nat) ys H,lo+i<hi->Pv i ys H->g (.int (lo+i)) σ' H fun σ2 H2=>tt σ2 H2 fun b H3=>if b=true then te σ2 H3 fun y H4=>PAt Pv (i+1) (ys++[y]) H4 else PAt Pv (i+1) ys H3)(hd:∀ ys H,Pv (hi-lo).toNat ys H->∀ p,H p=none->Q (.ref p) (upd H p (.lst ys))) :
 ∃ i j:Int,[V.int lo,V.int hi]=[.int i,.int j]/\(-(2 ^ 62)<=i/\i<2 ^ 62/\-(2 ^ 62)<=j/\j<2 ^ 62)/\qt4 g tt te σ' Q (Itr i (j-i).toNat) H :=
 ⟨lo,hi,rfl,⟨h1,by omega,by omega,h3⟩,wc2 (n:=(hi-lo).toNat) (fun i x=>x=.int (lo+i)) Pv p0 (fun i ys H hi' p=>hlen i ys H (by omega) p) (fun i ys H hi' _=>hi') (fun i ys H x H' hi' _ y=>y) (fun ys H _=>Nat.le_refl _)
  (fun i x ys H hi' hx p=>by subst hx;exact hs i ys H (by omega) p) hd⟩
section
variable{Q:VK}
theorem xn4{t u:TS}(h:t {D with nx:=u D} σ H):C0 t u D σ H:=h
theorem xn5(h:D.nx σ H):E9 D σ H:=h
theorem zr7(h:te σ H fun x H1=>g x σ H1 D.nx):D9 te g D σ H:=h
theorem N7{i:Nat}{R:St->Hp->Prop}(h:R (σ.set i (some v)) H):B3 i v σ H R:=h
theorem xn6{i:Nat}(e:σ[i]?=some (some v))(h:Q v H):A4 i σ H Q:=⟨v,e,h⟩
theorem zz4(h:Q v H):tC v σ H Q:=h
theorem yw3{r:R2}{tb:TE}(h:ta σ H fun x H1=>tb σ H1 fun y H2=>r x y H2 Q):tOp r ta tb σ H Q:=h
theorem zz5{r:V->Hp->VK->Prop}(h:ta σ H fun x H1=>r x H1 Q):tUn r ta σ H Q:=h
theorem zr8(h:te σ H D.rt):I0 te D σ H:=h
theorem yj3(h:te σ H fun _ H1=>D.nx σ H1):qh3 te D σ H:=h
theorem zm6{c:TT}{t u:TS}(h:c σ H fun b H1=>if b=true then t D σ H1 else u D σ H1):M0 c t u D σ H:=h
theorem zr9{c:TT}{tb:TE}(h:c σ H fun b H1=>if b=true then ta σ H1 Q else tb σ H1 Q):tIf c ta tb σ H Q:=h
theorem yj4{t:TE}{R:Bool->Hp->Prop}(h:t σ H fun x H'=>∃ k,x=.bl k/\R k H'):D7 t σ H R:=h
theorem Ae1{t:TE}{R:Bool->Hp->Prop}(h:t σ H fun x H'=>∃ k,x=.bl k/\R k H'):tB t σ H R:=h
theorem zz6{b:Bool}{R:Bool->Prop}(h:R b):∃ k,V.bl b=.bl k/\R k:=⟨b,rfl,h⟩
theorem zs0{t u:TT}{R:Bool->Hp->Prop}(h:t σ H fun c H1=>if c=true then u σ H1 R else R false H1):qz3 t u σ H R:=h
theorem zz7{t u:TT}{R:Bool->Hp->Prop}(h:t σ H fun c H1=>if c=true then R true H1 else u σ H1 R):tOr t u σ H R:=h
theorem zs1{t:TT}{R:Bool->Hp->Prop}(h:t σ H fun c H1=>R (!c) H1):wq1 t σ H R:=h
theorem zg1{tb:TE}(h:ta σ H fun x H1=>∃ c,x=.bl c/\if c=true then tb σ H1 Q else Q (.bl false) H1):yt2 ta tb σ H Q:=h
theorem zs2{R:List V->Hp->Prop}(h:R [] H):B1 σ H R:=h
theorem zg2{tr:TA}{R:List V->Hp->Prop}(h:ta σ H fun x H1=>tr σ H1 fun xs H2=>R (x::xs) H2):A2 ta tr σ H R:=h
theorem zs3{t:TA}(h:t σ H fun xs H1=>xs.length<=sizeLine/\∀ p,H1 p=none->Q (.ref p) (upd H1 p (.tup xs))):O1 t σ H Q:=h
theorem zs4{t:TA}(h:t σ H fun xs H1=>xs.length<=sizeLine/\∀ p,H1 p=none->Q (.ref p) (upd H1 p (.lst xs))):X4 t σ H Q:=h
theorem zg3{dvs:List V}{E:XK}{t:TA}(h:t σ H fun vs H1=>sp (vs++dvs) H1 Q E):B9 sp dvs E t σ H Q:=h
theorem zz8{r:List V->Hp->VK->Prop}{t:TA}(h:t σ H fun vs H1=>r vs H1 Q):tCB r t σ H Q:=h
theorem zz9{R:Bool->Hp->Prop}(h:R true H):tTT σ H R:=h
theorem yw4{tl:TE}{R:It->Hp->Prop}(h:tl σ H fun x H1=>∃ a,x=.ref a/\(((∃ xs,SqL K H1 a xs)/\R (Itl K a) H1)\/((∃ xs,SqT K H1 a xs)/\R (Itt K a) H1))):ql5 K tl σ H R:=h
theorem zg4{ta:TA}{R:It->Hp->Prop}(h:ta σ H fun vs H1=>∃ j:Int,vs=[.int j]/\-(2 ^ 62)<=j/\j<2 ^ 62/\R (Itr 0 j.toNat) H1):qm2 ta σ H R:=h
theorem zg5{ta:TA}{R:It->Hp->Prop}(h:ta σ H fun vs H1=>∃ i j:Int,vs=[.int i,.int j]/\(-(2 ^ 62)<=i/\i<2 ^ 62/\-(2 ^ 62)<=j/\j<2 ^ 62)/\R (Itr i (j-i).toNat) H1):yt7 ta σ H R:=h
theorem zs5{t:yt6}{R:St->Hp->Prop}(h:to σ H fun o H1=>ti σ H1 fun i H2=>t o i v H2 fun H3=>R σ H3):yn5 to ti t v σ H R:=h
theorem Aa0{r:V->List V->Hp->VK->Prop}{t:TA}(h:to σ H fun x H1=>tyV K T x H1/\t σ H1 fun xs H2=>r x xs H2 Q):tBM K T r to t σ H Q:=h
theorem yw5{r r':R2}{tb:TE}(h:ta σ H fun x H1=>tb σ H1 fun y H2=>r x y H2 fun z H3=>∃ k,z=.bl k/\(if k=true then tc σ H3 fun w' H4=>r' y w' H4 Q else Q (.bl false) H3)):wf7 r r' ta tb tc σ H Q:=h
end
variable{z:Str}
section
variable{Q:VK}
theorem qe6(h:Q (.int (i+j)) H):W5 K (.int i) (.int j) H Q:=.inl ⟨i,j,rfl,rfl,h⟩
theorem yc8{i j:Str}(hz:i.length+j.length<=sizeLine)(h:Q (.str (i++j)) H):W5 K (.str i) (.str j) H Q:=.inr (.inl ⟨i,j,rfl,rfl,hz,h⟩)
theorem yw6(h1:H a=some (.lst xs))(h2:H b=some (.lst ys))(hz:xs.length+ys.length<=sizeLine)(h:∀ p,H p=none->Q (.ref p) (upd H p (.lst (xs++ys)))):W5 K (.ref a) (.ref b) H Q:=.inr (.inr (.inl ⟨a,b,xs,ys,rfl,rfl,h1,h2,hz,h⟩))
theorem zs6(h:Q (.int (i-j)) H):rI0 (fun i j=>.int (i-j)) (.int i) (.int j) H Q:=⟨i,j,rfl,rfl,h⟩
theorem wr7(c:yt8 i j)(h:Q (.int (i*j)) H):qt3 (.int i) (.int j) H Q:=.inl ⟨i,j,rfl,rfl,c,h⟩
theorem zs7{n:Int}(h0:0<=n)(h1:n<=1000)(h2:z.length<=1000)(h:Q (.str (PySem.Txt.mul z n)) H):qt3 (.str z) (.int n) H Q:=.inr (.inl ⟨z,n,rfl,rfl,h0,h1,h2,h⟩)
theorem zs8(c:xm0 i j)(h:Q (.int (i / j)) H):rI xm0 (fun i j=>.int (i / j)) (.int i) (.int j) H Q:=⟨i,j,rfl,rfl,c,h⟩
theorem Aa1(c:0<j)(h:Q (.int (i % j)) H):rI (fun _ j=>0<j) (fun i j=>.int (i % j)) (.int i) (.int j) H Q:=⟨i,j,rfl,rfl,c,h⟩
theorem Aa2(h:Q (.bl (decide (i<j))) H):yp5 (.int i) (.int j) H Q:=.inl ⟨i,j,rfl,rfl,h⟩
theorem Aa3(h:Q (.bl (decide (i<=j))) H):yc7 (.int i) (.int j) H Q:=.inl ⟨i,j,rfl,rfl,h⟩
theorem Aa4(h:Q (.bl (decide (j<i))) H):xb8 (.int i) (.int j) H Q:=.inl ⟨i,j,rfl,rfl,h⟩
theorem Aa5(h:Q (.bl (decide (j<=i))) H):zr3 (.int i) (.int j) H Q:=.inl ⟨i,j,rfl,rfl,h⟩
theorem yp8{x:V}(c:ze6 x y=true)(h:Q (.bl (decide (x=y))) H):S4 K x y H Q:=.inl ⟨c,h⟩
theorem zs9{x:V}(c:ze6 x y=true)(h:Q (.bl (!decide (x=y))) H):Z2 K x y H Q:=.inl ⟨c,h⟩
theorem yw7{x:V}{d e:PyData}(h1:Dv K H d x)(h2:Dv K H e y)(hz:min d.depth e.depth<=190)(h:Q (.bl (PyData.eqv d e)) H):S4 K x y H Q:=.inr ⟨d,e,h1,h2,hz,h⟩
theorem Aa6{x:V}{d e:PyData}(h1:Dv K H d x)(h2:Dv K H e y)(hz:d.depth<=64)(h:Q (.bl (!PyData.eqv d e)) H):Z2 K x y H Q:=.inr ⟨d,e,h1,h2,by omega,h⟩
theorem xj7{x:V}{d e:PyData}(h1:Dv K H d x)(h2:Dv K H e y)(hz:min d.depth e.depth<=190)(h:Q (.bl (!PyData.eqv d e)) H):Z2 K x y H Q:=.inr ⟨d,e,h1,h2,hz,h⟩
theorem Ae2{x:V}(h:Q (.bl (decide (x=.non))) H):xu0 x .non H Q:=⟨rfl,h⟩
theorem zg6{x:V}(h:Q (.bl (!decide (x=.non))) H):qj3 x .non H Q:=⟨rfl,h⟩
theorem R6(h1:SqL K H p xs)(e:atI xs i=some v)(h:Q v H):rIx K (.ref p) (.int i) H Q:=.inl ⟨p,xs,i,v,rfl,rfl,h1,e,h⟩
theorem J9(h1:SqT K H p xs)(e:atI xs i=some v)(h:Q v H):rIx K (.ref p) (.int i) H Q:=.inr (.inl ⟨p,xs,i,v,rfl,rfl,h1,e,h⟩)
theorem yw8{c:Nat}(hz:z.length<=sizeLine)(e:atI z.cps.toList i=some c)(h:Q (.str ⟨#[c]⟩) H):rIx K (.str z) (.int i) H Q:=.inr (.inr ⟨z,i,c,rfl,rfl,hz,e,h⟩)
theorem yp9{x:V}(h1:SqL K H p xs\/SqT K H p xs)(fx:qs8 x=true)(fs:xs.all qs8=true)(h:Q (.bl (inV x xs)) H):zr5 K false x (.ref p) H Q:=.inl ⟨p,xs,rfl,h1,fx,fs,h⟩
theorem M8(h1:SqL K H p xs\/SqT K H p xs)(h:Q (.int xs.length) H):P6 K [.ref p] H Q:=.inl ⟨p,xs,rfl,h1,h⟩
theorem zt0(hz:z.length<=sizeLine)(h:Q (.int z.length) H):P6 K [.str z] H Q:=.inr (.inl ⟨z,rfl,hz,h⟩)
theorem yw9{k:Int}{j:Nat}{R:Hp->Prop}(h1:H p=some (.lst xs))(e:ixN xs.length k=some j)(h:R (upd H p (.lst (xs.set j v)))):yu1 (.ref p) (.int k) v H R:=⟨p,xs,k,j,rfl,rfl,h1,e,h⟩
theorem X5(h1:H p=some (.lst xs))(hz:xs.length<sizeLine)(h:Q .non (upd H p (.lst (xs++[y])))):X8 (.ref p) [y] H Q:=⟨p,xs,y,rfl,rfl,h1,hz,h⟩
theorem yx0(h1:H p=some (.lst xs))(h0:0<=i)(hi:i<=xs.length)(hz:xs.length<sizeLine)(h:Q .non (upd H p (.lst (W6 xs i.toNat y)))):xn3 (.ref p) [.int i,y] H Q:=⟨p,xs,i,y,rfl,rfl,h1,h0,hi,hz,h⟩
end
def Itv(n:Nat):It:=⟨fun i _=>i<n,fun i H x H'=>H'=H/\x=.int ((n:Int)-1-i),fun i _=>n<=i⟩
theorem yx1(it:Addr)(n:Nat):ya9 P w K tg (Itv n) [it] it (fun i h=>IsRangeIter h it ((n:Int)-1+(i:Nat)*(-1)) ((n:Int)-(i:Nat)) (-1)) where
 mem:=by simp
 obj:=fun i h st b hb=>by
  have e:b=it:=by simpa using hb
  subst e
  exact⟨_,st,fun v z=>by
   have z':Data.fields _=Data.cell v:=z
   cases z'⟩
 keep:=fun i h h' st k=>k it (by simp) _ st
 item:=by
  intro X hP hw hK hc i pins s σ H E I hf st hg
  subst hP hw hK
  obtain⟨f0,f1,f2,f3,f4,f5⟩:=hf it (by simp)
  have W:=Walks.range (prog:=X.prog) (w:=X.w) (I.ok.hd hc) it ((n:Int)-1) (-1) n
  refine wpAny_with_toks (n:=1) I.tk (W.item i s _ _ hg st fun v h' tk hv st' kk ht=>?_)
  have ht:0<tk:=ht
  obtain⟨t,rfl⟩:=hv
  have I1:Inv X pins σ H {s with heap:=h',toks:=tk}:=I.turned (fun b o hb e=>kk b o (by simpa using hb) e) f0 f1 f3 f4 f5
  refine⟨_,rfl,yi0 (s:={s with heap:=h',toks:=tk}) (n := "range_iterator") st' rfl rfl (by decide) ⟨.int ((n:Int)-1-i),H,I1,⟨t,?_⟩,⟨rfl,rfl⟩,st',fun b hb=>(hf b hb).1⟩⟩
  have e:(n:Int)-1+(i:Int)*(-1)=(n:Int)-1-i:=by omega
  rw[e]
 done:=by
  intro X hP hw hK hc i pins s σ H E I hf st hg
  subst hP hw hK
  obtain⟨f0,f1,f2,f3,f4,f5⟩:=hf it (by simp)
  exact wpAny_pyNext_range_end (I.ok.hd hc) st (by have:n<=i:=hg;omega) fun h' eb=>⟨rfl,I.turned (t':=s.toks) (fun b o hb e=>eb b o hb e) f0 f1 f3 f4 f5⟩
 self:=fun _ _ _ _ _ st h=>wpAny_pyIter_rangeiter st h
theorem zg7(hn:(n:Int)<2 ^ 62)(Pv:Nat->St->Hp->Prop)(p0:Pv 0 σ H)(hs:∀ (i:Nat) σ H,i<n->Pv i σ H->g (.int ((n:Int)-1-i)) σ H fun σ2 H2=>tb {D with nx:=PAt Pv (i+1),ct:=PAt Pv (i+1),bk:=D.nx} σ2 H2)(hd:∀ σ H,Pv n σ H->D.nx σ H) :
 ∃ m:Nat,[V.int n]=[.int m]/\(m:Int)<2 ^ 62/\xb9 g tb D σ (Itv m) H:=by
 refine⟨n,rfl,hn,fun i m σ H=>m=n-i/\i<=n/\Pv i σ H,⟨n,by simp,Nat.zero_le _,p0⟩,?_⟩
 rintro i m σ H ⟨rfl,hi,p⟩
 by_cases hlt:i<n
 ·refine .inr ⟨hlt,Pv (i+1),fun σ' H' p'=>⟨n-(i+1),by omega,rfl,hlt,p'⟩,fun x H' y=>?_⟩
  obtain⟨e,y⟩:=y
  subst e y
  exact hs i σ _ hlt p
 ·have e:i=n:=by omega
  subst e
  exact .inl ⟨Nat.le_refl _,hd σ H p⟩
def xj8:yt6:=fun o i v H Q=>yu1 o i v H Q\/∃ a H',o=.ref a/\xt7 H a i v H'/\Q H'
theorem wc3(hu:X.A.units+1<cLine):zo7 X xj8:=by
 intro pins s σ H o i v ov iv u Q I ro ri rv h
 rcases h with h|⟨a,H',rfl,g,q⟩
 ·exact yu2 pins s σ H o i v ov iv u Q I ro ri rv h
 ·cases ro
  exact yp0 hu I g ri rv fun s' I'=>⟨H',I',q⟩
def J0(K:Fg):R2:=rIx K
theorem B4(hu:X.A.units+1<cLine):IxR X (J0 X.K):=zq0
def Ae3(neg:Bool):R2:=fun x y H Q=>∃ a o,y=.ref a/\qz5 H a x o/\Q (.bl (if neg then !o.isSome else o.isSome)) H
def wr8(K:Fg)(neg:Bool):R2:=fun x y H Q=>zr5 K neg x y H Q\/Ae3 neg x y H Q
theorem qt5(hu:X.A.units+1<cLine):OpR X (compareOp .In) (wr8 X.K false):=by
 refine zr6.or ?_
 intro pins s σ H x y v u Q I rx ry h
 obtain⟨a,o,rfl,g,q⟩:=h
 cases ry
 exact Ad8 hu I g rx fun s' I'=>⟨.bl o.isSome,H,I',rfl,q⟩
theorem m1(base:autoParam (attributeBase o m X.env (eval o X.env)=eval o X.env) zAr) (few:((backTo cpos (starEach [e] X.env)).all (fun x=>!x.1) && (backToKw cpos (keywordEach [] X.env)).all (fun x=>x.1.isSome)
 && decide (([e]:List Expr).length+([]:List Keyword).length+(if([]:List Keyword).isEmpty then 0 else 1)<30))=true:=by rfl) (line:autoParam ((apos.endLine == cpos.line)=true) zAr) (trees:autoParam (backTo cpos (starEach [e] X.env)=[(false,eval e X.env)]) zAr):M1 X o m apos e cpos:=⟨base,few,line,trees⟩
def wl2(K:Fg):List V->Hp->VK->Prop:=fun xs H Q=>(∃ (x:V) (T:String) (t:Value) (b:Bool),xs=[x,.ty T]/\wb4 K H x t/\PySem.W.kitOne K t (.type T)=some b/\Q (.bl b) H) \/
 ∃ (a:Addr) (ys:List V) (T:String) (b:Bool),xs=[.ref a,.ty T]/\SqT K H a ys/\PySem.W.kitOne K (.type "tuple") (.type T)=some b/\Q (.bl b) H
theorem Q3:W4 X (.builtin "isinstance") (wl2 X.K):=by
 intro pins s σ H xs us Q I r h
 rcases h with⟨x,T,t,b,rfl,ty,e,q⟩|⟨a,ys,T,b,rfl,hq,e,q⟩
 ·obtain⟨u,w',rfl,r1,r2⟩:=xt0 r
  cases r2
  exact wpAny_with_toks (n:=1) I.tk (yo5 I r1 ty e fun tk ht=>⟨.bl b,H,I.tok _ ht,rfl,q⟩)
 ·obtain⟨u,w',rfl,r1,r2⟩:=xt0 r
  cases r2
  cases r1
  obtain⟨its,rv,pl,hz⟩:=I.tuple hq
  obtain⟨o,h1,h2,_⟩:=pl
  exact wpAny_with_toks (n:=1) I.tk (PySem.W.kia_one PySem.W.kitx_tuple I.kIn ⟨o,h1,h2⟩ e (fun z=>nomatch z) fun tk ht=>⟨.bl b,H,I.tok _ ht,rfl,q⟩)
theorem yx2{Q:VK}{x:V}{t:Value}{b:Bool}(ty:wb4 K H x t)(e:PySem.W.kitOne K t (.type T)=some b)(h:Q (.bl b) H):wl2 K [x,.ty T] H Q:=.inl ⟨x,T,t,b,rfl,ty,e,h⟩
theorem yx3{Q:VK}{b:Bool}(hq:SqT K H a ys)(e:PySem.W.kitOne K (.type "tuple") (.type T)=some b)(h:Q (.bl b) H):wl2 K [.ref a,.ty T] H Q:=.inr ⟨a,ys,T,b,rfl,hq,e,h⟩
example (K:Fg):PySem.W.kitOne K (.type "str") (.type "str")=some true:=by rfl
example (K:Fg):PySem.W.kitOne K (.type "bool") (.type "int")=some true:=by rfl
example (K:Fg):PySem.W.kitOne K (.type "int") (.type "bool")=some false:=by rfl
example (K:Fg):PySem.W.kitOne K (.type "list") (.type "list")=some true:=by rfl
section
variable{σ:List (Option V)}
theorem Inv.turnLaid{o:HO}{ch:List Addr}(I:Inv X pins σ H s)(hf:∀ b∈ch,xb5 X pins H b)(k:∀ b u,b∉ch->s.heap.get? b=some u->h'.get? b=some u)(hp:s.heap.objs.size<=a)(new:O5 X.prog X.w (upd H a o) h' a o)(ht:0<t') :
 Inv X pins σ (upd H a o) {s with heap:=h',toks:=t'}:=by
 have hn:H a=none:=I.hok.fresh hp
 have nit:∀ b u,H b=some u->b∉ch:=fun b u e z=>by rw[(hf b z).1] at e;cases e
 have up:∀ {b:Addr} {u:HO},H b=some u->upd H a o b=some u:=fun{b u} e=>by rw[C1 (T0 e hn)];exact e
 have neA:∀ b u,s.heap.get? b=some u->b≠a:=fun b u e=>Nat.ne_of_lt (Nat.lt_of_lt_of_le (Heap.lt_size e) hp)
 refine I.step (g':=s.gens) (d':=s.drawn) (ch:=ch) (fun b hb=>?_) (fun b u _ _ hc e _=>k b u hc e) (fun b u _ _ hc e _=>⟨u.slots,k b u hc e⟩) (fun b u _ e n=>by rw[C1 (neA b u e)];exact n)
  (fun b u hc e=>⟨u,k b u hc e⟩) (fun _ _ e=>up e) (fun _ _ _ e=>up e) (fun b ps e=>⟨#[],by rw[up e];simp⟩) (fun m hm=>?_) (fun b u e=>?_) I.bare ht
 ·obtain⟨f0,f1,f2,f3,f4,f5⟩:=hf b hb
  exact⟨f3,f1,f4,f5⟩
 ·obtain⟨ob,es,ep,ho,r⟩:=hm
  exact⟨ob,es,ep,k _ ob (fun z=>(hf _ z).2.1 rfl) ho,r⟩
 ·by_cases hb:b=a
  ·subst hb;rw[A7] at e;cases e;exact new
  ·rw[C1 hb] at e
   refine(I.hok b u e).stay (fun c v hc q=>k c v ?_ q) (fun _ q=>up q) fun _ _ q=>up q
   rcases hc with z|z
   ·rw[z];exact nit b u e
   ·exact nit c _ z
end
section
variable{σ:List (Option V)}
theorem Inv.turnedL{ch:List Addr}(I:Inv X pins σ H s)(hf:∀ b∈ch,xb5 X pins H b)(k:∀ b u,b∉ch->s.heap.get? b=some u->h'.get? b=some u)(ht:0<t') :
 Inv X pins σ H {s with heap:=h',toks:=t'}:=by
 have nit:∀ b u,H b=some u->b∉ch:=fun b u e z=>by rw[(hf b z).1] at e;cases e
 refine I.step (g':=s.gens) (d':=s.drawn) (ch:=ch) (fun b hb=>?_) (fun b u _ _ hc e _=>k b u hc e) (fun b u _ _ hc e _=>⟨u.slots,k b u hc e⟩) (fun _ _ _ _ n=>n)
  (fun b u hc e=>⟨u,k b u hc e⟩) (fun _ _ e=>e) (fun _ _ _ e=>e) (fun b ps e=>⟨#[],by rw[e];simp⟩) (fun m hm=>?_) (fun b u e=>?_) I.bare ht
 ·obtain⟨f0,f1,f2,f3,f4,f5⟩:=hf b hb
  exact⟨f3,f1,f4,f5⟩
 ·obtain⟨ob,es,ep,ho,r⟩:=hm
  exact⟨ob,es,ep,k _ ob (fun z=>(hf _ z).2.1 rfl) ho,r⟩
 ·refine(I.hok b u e).stay (fun c v hc q=>k c v ?_ q) (fun _ q=>q) fun _ _ q=>q
  rcases hc with z|z
  ·rw[z];exact nit b u e
  ·exact nit c _ z
end
def yc9(x:Str)(lo hi:Option Int):Str:=⟨((x.cps.toList.drop (HT.sIx x.cps.toList.length 0 lo)).take (HT.sIx x.cps.toList.length x.cps.toList.length hi-HT.sIx x.cps.toList.length 0 lo)).toArray⟩
def Aa7:V->Option Int->Option Int->Hp->VK->Prop:=fun x lo hi H Q=>∃ z,x=.str z/\z.length<=sizeLine/\Q (.str (yc9 z lo hi)) H
theorem yq0(x:Str)(lo hi:Option Int):(⟨((Builtin.Str.strSliceIndices lo hi 1 x.length).filterMap (x.cps[·]?)).toArray⟩:Str)=yc9 x lo hi:=by
 obtain⟨h1,h2,h3⟩:=qo3 lo hi x.length
 have e:Builtin.Str.strSliceIndices lo hi 1 x.length=sliceRange (sliceBounds lo hi none x.length).1 (sliceBounds lo hi none x.length).2.1 (sliceBounds lo hi none x.length).2.2:=rfl
 rw[e,h1,h2,h3]
 unfold yc9
 rw[sliceRange_one,pick_run]
 rfl
theorem yb7(n d:Nat)(o:Option Int)(h:d<=n):HT.sIx n d o<=n:=by
 cases o with
 | none=>exact h
 | some v =>
   show(if v<0 then(v+(n:Int)).toNat else min v.toNat n)<=n
   split <;> omega
theorem zt1:SlR X Aa7:=by
 intro pins s σ H x v vl vu lo hi sl Q I rx hs pl pu h
 obtain⟨z,rfl,hz,q⟩:=h
 obtain⟨t,rfl⟩:=rx
 refine⟨"str",_,PySem.F.slot_str_getitem.lookup,typeIs_str _ _ _,?_⟩
 have part:∀ {v:Value} {k:Option Int},IsPart v k->∃ l:Option (Int×Tok),v=partValue l/\l.map (·.1)=k:=fun{v k} h=>by
  cases h with
  | none=>exact⟨none,rfl,rfl⟩
  | int i t=>exact⟨some (i,t),rfl,rfl⟩
 obtain⟨l,rfl,el⟩:=part pl
 obtain⟨u,rfl,eu⟩:=part pu
 refine wpAny_getItem_str_slice (l:=l) (u:=u) (st:=none) hs rfl ?_
 have ep:slicePicked z l u none=Builtin.Str.strSliceIndices lo hi 1 z.length:=by unfold slicePicked;rw[el,eu];rfl
 have ec:=yq0 z lo hi
 unfold sliceMade
 rw[ep]
 split
 ·rename_i hc
  have hlen:(Builtin.Str.strSliceIndices lo hi 1 z.length).length=z.length:=by simpa using hc
  have:yc9 z lo hi=z:=by
   obtain⟨h1,h2,h3⟩:=qo3 lo hi z.length
   have e:Builtin.Str.strSliceIndices lo hi 1 z.length=sliceRange (sliceBounds lo hi none z.length).1 (sliceBounds lo hi none z.length).2.1 (sliceBounds lo hi none z.length).2.2:=rfl
   rw[e,h1,h2,h3,sliceRange_one,List.length_map,List.length_range] at hlen
   have hb:=yb7 z.length z.length hi (Nat.le_refl _)
   have el:z.cps.toList.length=z.length:=Array.length_toList
   obtain⟨⟨l⟩⟩:=z
   unfold yc9
   rw[el,hlen]
   by_cases h0:HT.sIx (Str.length ⟨⟨l⟩⟩) 0 lo=0
   ·rw[h0,List.drop_zero,List.take_of_length_le (Nat.le_of_eq el)]
   ·have:Str.length ⟨⟨l⟩⟩=0:=by omega
    rw[this,List.take_zero]
    have:l=[]:=List.eq_nil_of_length_eq_zero (by rw[<-this];exact el.symm▸rfl)
    rw[this]
  rw[this] at q
  exact⟨.str z,H,I,⟨_,rfl⟩,q⟩
 ·rw[ec]
  refine⟨?_,.str _,H,I.tok _,⟨_,rfl⟩,q⟩
  have:(yc9 z lo hi).length<=z.length:=by
   unfold yc9 Str.length
   simp only[List.size_toArray,List.length_take,List.length_drop,Array.length_toList]
   omega
  omega
def yx4(K:Fg):V->Option Int->Option Int->Hp->VK->Prop:=fun x lo hi H Q=>Aa7 x lo hi H Q\/zy1 K x lo hi H Q\/zy5 K x lo hi H Q
theorem yd0:SlR X (yx4 X.K):=zt1.or (zp7.or zf4)
variable{hi lo:Option Int}
section
variable{Q:VK}
theorem zm7(hx:SqL K H a xs)(h:∀ p,H p=none->Q (.ref p) (upd H p (.lst (qb8 xs lo hi)))):yx4 K (.ref a) lo hi H Q:=.inr (.inr ⟨a,xs,rfl,hx,h⟩)
theorem Aa8{tl:TO}(h:te σ H fun x H1=>tl σ H1 fun l H2=>th σ H2 fun u H3=>r x l u H3 Q):tSl r te tl th σ H Q:=h
theorem zg8{t:TE}{R:Option Int->Hp->Prop}(h:t σ H fun x H1=>∃ i,x=.int i/\R (some i) H1):S6 t σ H R:=h
theorem yq1{R:Option Int->Hp->Prop}(h:R none H):N9 σ H R:=h
theorem zt2{R:Int->Prop}(h:R i):∃ j,V.int i=.int j/\R j:=⟨i,rfl,h⟩
theorem yj5{y:Str}(h:Q (.bl (decide (x=y))) H):S4 K (.str x) (.str y) H Q:=by
 refine yp8 rfl ?_
 have e:(decide ((V.str x)=V.str y))=decide (x=y):=by simp
 rw[e];exact h
theorem xu2{y:Str}(h:Q (.bl (!decide (x=y))) H):Z2 K (.str x) (.str y) H Q:=by
 refine zs9 rfl ?_
 have e:(decide ((V.str x)=V.str y))=decide (x=y):=by simp
 rw[e];exact h
theorem zm8{x y:Int}(h:Q (.bl (decide (x=y))) H):S4 K (.int x) (.int y) H Q:=by
 refine yp8 rfl ?_
 have e:(decide ((V.int x)=V.int y))=decide (x=y):=by simp
 rw[e];exact h
theorem Aa9{x y:Int}(h:Q (.bl (!decide (x=y))) H):Z2 K (.int x) (.int y) H Q:=by
 refine zs9 rfl ?_
 have e:(decide ((V.int x)=V.int y))=decide (x=y):=by simp
 rw[e];exact h
end
def xu3(xs:List Str):TA:=fun _ H R=>R (D4 xs) H
theorem Ab0:PA X [] (xu3 []):=A3
theorem wk2{xs:List Str}{j:Nat}{p:Pos}(h:PA X es (xu3 xs)):PA X (.Constant (.str x) j p::es) (xu3 (x::xs)):=A0 (te:=tC (.str x)) C9 h
theorem zg9{xs:List Str}{R:List V->Hp->Prop}(h:R (D4 xs) H):xu3 xs σ H R:=h
section
open PySem.Builtin PySem.Builtin.Str
theorem yx5:∀ {bs:List Bool} {us:List Value},G0 (bs.map V.bl) us->us=bs.map Value.bool
 | [],_,h=>by cases h;rfl
 | b::bs,_,h=>by
   have h:G0 (V.bl b::bs.map V.bl) _:=h
   cases h with
   | cons r t=>rw[yx5 t];cases (show _=Value.bool b from r);rfl
theorem yq2(bs:List Bool):(List.range bs.length).any (fun i=>(bs[i]?).getD false)=bs.any id:=by
 rw[Bool.eq_iff_iff,List.any_eq_true,List.any_eq_true]
 constructor
 ·rintro⟨i,hi,h⟩
  have hi:=List.mem_range.mp hi
  rw[List.getElem?_eq_getElem hi] at h
  exact⟨_,List.getElem_mem hi,h⟩
 ·rintro⟨b,hb,h⟩
  obtain⟨i,hi,e⟩:=List.getElem_of_mem hb
  exact⟨i,List.mem_range.mpr hi,by rw[List.getElem?_eq_getElem hi,e];exact h⟩
def yx6(K:Fg):List V->Hp->VK->Prop:=fun xs H Q=>∃ (p:Addr) (bs:List Bool),xs=[.ref p]/\SqL K H p (bs.map V.bl)/\Q (.bl (bs.any id)) H
theorem yq3(hc:X.calm=true):W4 X (.builtin "any") (yx6 X.K):=by
 intro pins s σ H xs us Q I r h
 obtain⟨p,bs,rfl,hq,q⟩:=h
 obtain⟨u,rfl,ru⟩:=qr8 r
 cases ru
 obtain⟨its,rv,pl,hz⟩:=I.list hq
 have ei:=yx5 rv
 subst ei
 refine wpAny_with_toks (n:=1) I.tk (call_any_walk (wpAny_pyIter_list pl.isList ?_))
 have ne:p≠s.heap.objs.size:=Nat.ne_of_lt (by obtain⟨o,e,_⟩:=pl.isList;exact Heap.lt_size e)
 refine⟨_,_,_,_,_,_,fun i=>(bs[i]?).getD false,rfl,Walks.list (show X.A.in1.handled=none from I.ok.hd hc) s.heap.objs.size p ne _,⟨⟨_,Heap.get?_push_size _ rfl,rfl,rfl⟩,pl.isList.at fun o e=>Heap.get?_push_of_some _ e⟩,?_,fun h' tk hk ht=>?_⟩
 ·intro i v s Q E hP hQ
  have hP:(bs.map Value.bool)[i]?=some v:=by simpa using hP
  rw[List.getElem?_map] at hP
  obtain⟨b,hb,rfl⟩:=Option.map_eq_some_iff.mp hP
  have hQ:Q ((bs[i]?).getD false) s:=hQ
  rw[hb] at hQ
  exact wpAny_pure hQ
 ·refine⟨.bl (bs.any id),H,I.kept (fun b o e=>hk b o ?_ (Heap.get?_push_of_some _ e)) ht,?_,q⟩
  ·intro z
   have:b=s.heap.objs.size:=by simpa using z
   exact absurd (Heap.lt_size e) (by rw[this];exact Nat.lt_irrefl _)
  ·show Value.bool _=Value.bool _
   rw[<-yq2 bs]
   congr 2
   simp
section
variable{Q:VK}
theorem Ab1{bs:List Bool}(h:SqL K H p (bs.map V.bl))(q:Q (.bl (bs.any id)) H):yx6 K [.ref p] H Q:=⟨p,bs,rfl,h,q⟩
end
end
theorem yq4(n:Nat):((List.range n).map fun(k:Nat)=>((n:Int)-1 + -1*(k:Int)).toNat)=(List.range n).reverse:=by
 apply List.ext_getElem
 ·simp
 ·intro i h1 h2
  simp only[List.getElem_map,List.getElem_range,List.getElem_reverse,List.length_range]
  simp only[List.length_map,List.length_range] at h1
  omega
theorem yd1(xs:List α):(List.range xs.length).filterMap (xs[·]?)=xs:=by
 induction xs with
 | nil=>rfl
 | cons x xs ih =>
   rw[List.length_cons,List.range_succ_eq_map,List.filterMap_cons,List.filterMap_map]
   show x::_=_
   congr 1
theorem xc0(items:List Value):slicePick items.toArray none none (some (-1))=items.reverse.toArray:=by
 unfold slicePick sliceBounds sliceRange
 simp only[Option.getD_some,List.size_toArray]
 have h:¬((-1:Int) > 0):=by decide
 simp only[if_neg h]
 have ec:(if(items.length:Int)-1 > -1 then((items.length:Int)-1 - -1 - -1-1) / (- -1) else 0).toNat=items.length:=by
  by_cases h0:(items.length:Int)-1 > -1
  ·rw[if_pos h0]
   have:(- -1:Int)=1:=by decide
   rw[this,Int.ediv_one];omega
  ·rw[if_neg h0];omega
 rw[ec,yq4,List.filterMap_reverse]
 congr 2
 have:(fun(x:Nat)=>(items.toArray)[x]?)=fun(x:Nat)=>items[x]?:=by funext x;simp
 rw[this,yd1]
def yx7(K:Fg)(te:TE):TE:=fun σ H Q=>te σ H fun x H1=>∃ a xs,x=.ref a/\SqL K H1 a xs/\∀ p,H1 p=none->Q (.ref p) (upd H1 p (.lst xs.reverse))
theorem zh0{k:Expr}(he:PE X e te)(hk:PE X k (tUn (rU fun i=>.int (-i)) (tC (.int 1)))):PE X (.Subscript e (.Slice none none (some k) p2) pos) (yx7 X.K te):=by
 intro pins s σ H Q I h
 refine Subscript_ (thn (he pins s σ H _ I h) fun v s1 zq=>?_)
 obtain⟨x,H1,I1,r1,q1⟩:=zq
 obtain⟨a,xs,rfl,hx,q⟩:=q1
 refine wpAny_Slice ?_
 rw[evalPart_none]
 refine wpAny_pure (wpAny_pure ?_)
 rw[evalPart_some]
 refine thn (hk pins s1 σ H1 (fun y H2=>y=.int (-1)/\H2=H1) I1 ⟨1,rfl,rfl,rfl⟩) fun vk s2 zq=>?_
 obtain⟨y,H2,I2,r2,ey,eH⟩:=zq
 subst ey
 subst eH
 obtain⟨tk,rfl⟩:=r2
 have I4:Inv X pins σ H2 {s2 with heap:=s2.heap.push {cls:=.type "slice",data:=.fields #[.none,.none,.int (-1) tk]}}:=I2.kept (t':=s2.toks) fun b ob q=>Heap.get?_push_of_some _ q
 cases r1
 obtain⟨its,r,ht,hz⟩:=I4.list hx
 have hlen:=r.length
 refine tail_any (ops:=[.ref a,.ref s2.heap.objs.size]) ht.isList.typeIs slot_list_getitem.lookup ?_ (by with_unfolding_all rfl)
 refine wpAny_getItem_list_slice ht.isList (Heap.IsSliceOf.new ..) .none .none (.int (-1) tk) (by simp) ?_ (by rw[List.size_toArray] <;> omega)
 rw[xc0]
 refine⟨.ref _,_,I4.laid (t':=s2.toks) (o:=.lst xs.reverse) (fun b ob q=>Heap.get?_push_of_some _ q) (Nat.le_refl _) ?_,rfl,q _ (I4.hok.fresh (Nat.le_refl _))⟩
 exact⟨by rw[List.length_reverse];exact hz,_,0,G0.reverse r,Heap.get?_push_size _ rfl⟩
section
variable{Q:VK}
theorem zh1(h:te σ H fun x H1=>∃ a xs,x=.ref a/\SqL K H1 a xs/\∀ p,H1 p=none->Q (.ref p) (upd H1 p (.lst xs.reverse))):yx7 K te σ H Q:=h
theorem zt3{r:V->List V->Hp->VK->Prop}(h:to σ H fun x H1=>tyV K T x H1/\r x [] H1 Q):yu4 K T r to σ H Q:=h
theorem yx8(h1:H p=some (.lst (xs++[y])))(h:Q y (upd H p (.lst xs))):yu5 (.ref p) [] H Q :=
 ⟨p,xs++[y],y,rfl,rfl,h1,by simp,by rw[List.dropLast_concat];exact h⟩
end
variable{items:Array Value}
theorem qx7{t sl:Addr}{vl vu:Value}(ht:IsTup s.heap t items)(hs:s.heap.IsSliceOf sl vl vu .none)(pl:IsPart vl lo)(pu:IsPart vu hi)(hw:HT.sIx items.size 0 lo=0/\HT.sIx items.size items.size hi=items.size)(h:Q (.ref t) s):wpAny (model prog w) A (getItem (.ref t) (.ref sl)) Q E s:=by
 obtain⟨os,hos,hcs,hds⟩:=id hs
 have hTs:s.TypeIs (.ref sl) "slice":=⟨os,hos,hcs⟩
 unfold getItem
 try with_reducible refine wpAny_holding ?_
 first|refine wpAny_bind (wpAny_pure ?_)|skip
 refine wpAny_bind (wpAny_sequenceKey ht.typeIs (by decide) ?_)
 refine wpAny_bind (wpAny_callSpecial?_slot (name:=Str.ofString "__getitem__") ht.typeIs PyProof.Rows.slot_tuple_getitem
  (wpAny_call_entry PyProof.Rows.slot_tuple_getitem ht.typeIs entry_tuple_getitem ?_ (args_tuple_getitem _ _)))
 show wpAny _ _ (Builtin.Tuple.tupleItemsOf (.ref t) >>= _) _ _ s
 refine wpAny_bind (tupleItemsOf_ ht ?_)
 refine wpAny_bind (wpAny_typeOf hTs ?_)
 rw[if_pos (by decide)]
 refine wpAny_bind (HT.qm4 hs pl pu ?_)
 have hyes:((((HT.sIx items.size 0 lo:Nat):Int) == 0 && (1:Int) == 1 && (HT.sIx items.size items.size hi-HT.sIx items.size 0 lo) == items.size)=true):=by
  rw[hw.1,hw.2];simp
 show wpAny _ _ (if(((HT.sIx items.size 0 lo:Nat):Int) == 0 && (1:Int) == 1 && (HT.sIx items.size items.size hi-HT.sIx items.size 0 lo) == items.size)=true then _ else _) _ _ s
 rw[if_pos hyes]
 refine wpAny_bind (m:=Builtin.Tuple.tupleIsExact (.ref t)) ?_
 unfold Builtin.Tuple.tupleIsExact
 refine wpAny_bind (wpAny_typeOf ht.typeIs (wpAny_pure ?_))
 rw[if_pos (by decide)]
 first
  | exact wpAny_bind (wpAny_rule (wpAny_bind (wpAny_pure ⟨_,rfl,wpAny_pure h⟩)))
  | exact wpAny_bind (wpAny_rule (wpAny_pure ⟨_,rfl,wpAny_pure h⟩))
  | exact wpAny_bind (wpAny_rule (wpAny_pure (wpAny_pure ⟨_,rfl,wpAny_pure h⟩)))
def Ab2(K:Fg):V->Option Int->Option Int->Hp->VK->Prop:=fun x lo hi H Q=>∃ a xs,x=.ref a/\SqT K H a xs/\(HT.sIx xs.length 0 lo=0/\HT.sIx xs.length xs.length hi=xs.length)/\Q (.ref a) H
theorem zh2:SlR X (Ab2 X.K):=by
 intro pins s σ H x v vl vu lo hi sl Q I rx hs pl pu h
 obtain⟨a,xs,rfl,hx,hw,q⟩:=h
 cases rx
 obtain⟨its,r,ht,hz⟩:=I.tuple hx
 have hlen:its.toArray.size=xs.length:=by rw[List.size_toArray];exact r.length.symm
 refine⟨"tuple",_,PyProof.Rows.slot_tuple_getitem.lookup,ht.typeIs,?_⟩
 exact qx7 ht hs pl pu (by rw[hlen];exact hw) ⟨.ref a,H,I,rfl,q⟩
def qh5(K:Fg):V->Option Int->Option Int->Hp->VK->Prop:=fun x lo hi H Q=>yx4 K x lo hi H Q\/Ab2 K x lo hi H Q
theorem P7:SlR X (qh5 X.K):=yd0.or zh2
def zm9(K:Fg):R2:=fun x y H Q=>∃ a b ys,x=.ref a/\y=.ref b/\SqT K H a []/\SqT K H b ys/\Q (.ref b) H
theorem zh3:OpR X (binaryOp .Add) (zm9 X.K):=by
 intro pins s σ H x y v u Q I rx ry h
 obtain⟨a,b,ys,rfl,rfl,ha,hb,q⟩:=h
 cases rx
 cases ry
 obtain⟨its,r1,p1,_⟩:=I.tuple ha
 obtain⟨its2,r2,p2,_⟩:=I.tuple hb
 cases r1
 obtain⟨⟨cls,dd,data,sl⟩,ho,hc,n,hd⟩:=id p1
 obtain⟨⟨cls2,dd2,data2,sl2⟩,ho2,hc2,n2,hd2⟩:=id p2
 simp only at hc hd hc2 hd2
 subst hc hd hc2 hd2
 exact concat_meets ⟨_,ho,rfl⟩ ⟨_,ho2,rfl⟩ noFill_tuple_add seq_tuple_add PySem.F.slot_tuple_add PySem.F.entry_tuple_add (PySem.F.args_tuple_add_2 _ _)
  (tuple_addW0 a b _ its2.toArray n n2 dd dd2 sl sl2 (by simp)) ⟨ho,ho2,⟨.ref b,H,I,rfl,q⟩⟩
def O7(K:Fg):R2:=fun x y H Q=>W5 K x y H Q\/zm9 K x y H Q
theorem L0:OpR X (binaryOp .Add) (O7 X.K):=Q6.or zh3
section
variable{Q:VK}
theorem qc2(h1:SqT K H a xs)(h2:SqT K H b ys)(hz:xs.length+ys.length<=sizeLine)(h:∀ p H',A6 H H'->SqT K H' p (xs++ys)->Q (.ref p) H'):O7 K (.ref a) (.ref b) H Q:=by
 by_cases hx:xs=[]
 ·subst hx
  exact .inr ⟨a,b,ys,rfl,rfl,h1,h2,h b H (fun _ _ e=>e) h2⟩
 ·refine .inl (.inr (.inr (.inr ⟨a,b,xs,ys,rfl,rfl,h1,h2,hx,hz,fun hy=>?_,fun hy p hp=>h p _ (A6.new hp _) (SqT.of A7)⟩)))
  subst hy
  exact h a H (fun _ _ e=>e) (by rw[List.append_nil];exact h1)
theorem Z6(h1:SqT K H a xs)(h:∀ p H',A6 H H'->SqT K H' p (qb8 xs lo hi)->Q (.ref p) H'):qh5 K (.ref a) lo hi H Q:=by
 by_cases hw:HT.sIx xs.length 0 lo=0/\HT.sIx xs.length xs.length hi=xs.length
 ·refine .inr ⟨a,xs,rfl,h1,hw,h a H (fun _ _ e=>e) ?_⟩
  unfold qb8
  rw[hw.1,hw.2,List.drop_zero,Nat.sub_zero,List.take_length];exact h1
 ·exact .inl (.inr (.inl ⟨a,xs,rfl,h1,hw,fun p hp=>h p _ (A6.new hp _) (SqT.of A7)⟩))
end
def yj6(ta:TA):TI:=fun σ H R=>ta σ H fun vs H1=>∃ n:Nat,vs=[.int ((n:Int)-1),.int (-1),.int (-1)]/\(n:Int)<2 ^ 62/\R (Itv n) H1
theorem xj9(n:Nat):Builtin.Range.rangeSize ((n:Int)-1) (-1) (-1)=n:=by
 unfold Builtin.Range.rangeSize
 rw[if_neg (by decide)]
 have e:(- (-1):Int)=1:=by decide
 rw[e,Int.ediv_one]
 split <;> omega
theorem xk0 {a b:Expr} {ta:TA} {p:Pos} (hg:Gl X "range") (hm:X.mg "range"=none) (ha:PA X [a,b,c] ta) (hs:autoParam (starEach [a,b,c] X.env=(false,eval a X.env)::starEach [b,c] X.env) zAr) (hs2:autoParam (starEach [b,c] X.env=[(false,eval b X.env),(false,eval c X.env)]) zAr) :
 PI X tg (.Call (.Name "range" p) [a,b,c] [] pos) (yj6 ta):=by
 intro pins s σ H R I h
 refine Call_ (qz2 I hg hm boot_range (PyProof.Rows.callWith_type1 (thn (ha pos pins s σ H _ I h) fun us s1 zq=>?_) hs (by rw[hs2];rfl)))
 obtain⟨vs,H1,I1,r1,q1⟩:=zq
 obtain⟨n,e,q1,q⟩:=q1
 subst e
 cases r1 with
 | cons r rr =>
   cases rr with
   | cons r' rr =>
     cases rr with
     | cons r'' rr =>
       cases rr
       obtain⟨t,rfl⟩:=r
       obtain⟨t',rfl⟩:=r'
       obtain⟨t'',rfl⟩:=r''
       refine call_range_3 (by decide) ?_ (Or.inl (PyProof.noPylong_small (by decide)))
       have I2:Inv X pins σ H1 {s1 with heap:=s1.heap.push {cls:=.type "range",data:=.fields #[.int ((n:Int)-1) t,.int (-1) t',.int (-1) t'']},toks:=s1.toks}:=I1.kept (t':=s1.toks) fun b o e=>Heap.get?_push_of_some _ e
       refine wpAny_pyIter_range (IsRange.new ..) ?_ ?_
       ·unfold Builtin.Range.small
        rw[xj9]
        simp only[Builtin.Range.rangeFitsLong,Bool.and_eq_true,Bool.or_eq_true,decide_eq_true_eq,beq_iff_eq,show ¬((-1:Int) > 0) by decide,if_false]
        omega
       refine⟨_,[_],_,_,H1,rfl,I2.kept (t':=s1.toks) fun b o e=>Heap.get?_push_of_some _ e,yx1 _ n,?_,fun b hb=>?_,q⟩
       ·have e1:(n:Int)-1+((0:Nat):Int)*(-1)=(n:Int)-1:=by simp
        have e2:(n:Int)-((0:Nat):Int)=n:=by simp
        rw[e1,e2]
        have:=Heap.get?_push_size (s1.heap.push {cls:=.type "range",data:=.fields #[.int ((n:Int)-1) t,.int (-1) t',.int (-1) t'']}) (o:={cls:=.type "range_iterator",data:=.fields #[rawInt ((n:Int)-1),rawInt (Builtin.Range.rangeSize ((n:Int)-1) (-1) (-1)),rawInt (-1)]}) rfl
        rw[xj9] at this ⊢
        exact this
       ·have e:b=(s1.heap.push {cls:=.type "range",data:=.fields #[.int ((n:Int)-1) t,.int (-1) t',.int (-1) t'']}).objs.size:=by simpa using hb
        subst e
        exact I2.fpOk (Nat.le_refl _) (I2.hok.fresh (Nat.le_refl _))
theorem zh4{ta:TA}{R:It->Hp->Prop}(h:ta σ H fun vs H1=>∃ n:Nat,vs=[.int ((n:Int)-1),.int (-1),.int (-1)]/\(n:Int)<2 ^ 62/\R (Itv n) H1):yj6 ta σ H R:=h
theorem wc4{i:Nat}{items}{x:Value}(hit:s.heap.IsTupleIter it l i)(hl:s.heap.IsTuple l items)(hx:items[i]?=some x)(hQ:∀ h',h'.IsTupleIter it l (i+1)->Heap.SameBut it s.heap h'->Q x {s with heap:=h'}) :
 wpAny (model prog w) A (Builtin.SmallTypes.nextOf (.ref it)) Q E s:=by
 obtain⟨o,ho,hc,hd⟩:=id hit
 obtain⟨ol,hol,_,nl,hdl⟩:=hl
 unfold Builtin.SmallTypes.nextOf
 refine wpAny_bind (wpAny_callSpecial?_slot (name:=Str.ofString "__next__") hit.typeIs F.slot_tuple_iterator_next
  (wpAny_call_entry F.slot_tuple_iterator_next hit.typeIs F.entry_tuple_iterator_next ?_ (F.args_tuple_iterator_next_1 _)))
 show wpAny _ _ (field (.ref it) 0 >>= _) _ _ s
 refine wpAny_bind (wpAny_field ho hd (x:=.ref l) rfl ?_)
 show wpAny _ _ (if(Value.ref l == Value.none)=true then _ else _) _ _ s
 rw[if_neg (show ¬((Value.ref l == Value.none)=true) from Bool.false_ne_true)]
 show wpAny _ _ (field (.ref it) 1 >>= _) _ _ s
 refine wpAny_bind (wpAny_field ho hd (x:=.int i 0) rfl ?_)
 show wpAny _ _ (seqItems? (.ref l) >>= _) _ _ s
 refine wpAny_bind (wpAny_seqItems hol hdl ?_)
 simp only[Int.toNat_natCast,hx]
 refine wpAny_bind (wpAny_setField ho hd (by simp) (wpAny_pure ⟨x,rfl,wpAny_pure (hQ _ ?_ (Heap.SameBut.update ..))⟩))
 exact⟨_,Heap.get?_update_self _ ho (Obj.isFreed_of_fields (Obj.data_mapFields hd _)),(Obj.cls_mapFields ..).trans hc,by
  rw[Obj.data_mapFields hd];simp[rawInt]⟩
theorem qm7{i:Nat}{items}(hh:A.handled=none)(hit:s.heap.IsTupleIter it l i)(hl:s.heap.IsTuple l items)(hx:items[i]?=none)(hE:∀ h' e,Heap.ExtBut it s.heap h'->(∃ o,h'.get? e=some o/\o.cls=.type "StopIteration")->E (.ref e) {s with heap:=h'}) :
 wpAny (model prog w) A (Builtin.SmallTypes.nextOf (.ref it)) Q E s:=by
 obtain⟨o,ho,hc,hd⟩:=id hit
 obtain⟨ol,hol,_,nl,hdl⟩:=hl
 unfold Builtin.SmallTypes.nextOf
 refine wpAny_bind (wpAny_callSpecial?_slot (name:=Str.ofString "__next__") hit.typeIs F.slot_tuple_iterator_next
  (wpAny_call_entry F.slot_tuple_iterator_next hit.typeIs F.entry_tuple_iterator_next ?_ (F.args_tuple_iterator_next_1 _)))
 show wpAny _ _ (field (.ref it) 0 >>= _) _ _ s
 refine wpAny_bind (wpAny_field ho hd (x:=.ref l) rfl ?_)
 show wpAny _ _ (if(Value.ref l == Value.none)=true then _ else _) _ _ s
 rw[if_neg (show ¬((Value.ref l == Value.none)=true) from Bool.false_ne_true)]
 show wpAny _ _ (field (.ref it) 1 >>= _) _ _ s
 refine wpAny_bind (wpAny_field ho hd (x:=.int i 0) rfl ?_)
 show wpAny _ _ (seqItems? (.ref l) >>= _) _ _ s
 refine wpAny_bind (wpAny_seqItems hol hdl ?_)
 simp only[Int.toNat_natCast,hx]
 refine wpAny_bind (wpAny_rule (wpAny_bind (wpAny_setField ho hd (by simp) ?_)))
 show wpAny _ _ (newExc (.type "StopIteration") [] >>= _) _ _ _
 refine wpAny_bind ?_
 simp only[newExc,newTuple]
 refine wpAny_bind (wpAny_newObj_type ?_ (by size_fits))
 refine wpAny_bind (m:=firstArgMember _ _) (wpAny_of_eq (a:=Value.none) (by first|rfl|(simp only[firstArgMember];rfl)) ?_)
 refine wpAny_newObj_type ?_ (by size_fits)
 simp only[raiseNew]
 refine wpAny_bind (wpAny_handled ?_)
 first|rw[show A.in1.handled=none from hh]|rw[hh]
 refine wpAny_bind (wpAny_pure (wpAny_throw ?_))
 exact hE _ _ (((Heap.SameBut.update ..).extBut.push _).push _) ⟨_,Heap.get?_push_size _ rfl,rfl⟩
theorem xu4(hh:A.handled=none)(it l:Addr)(hne:l≠it)(items:Array Value) :
 Draws prog w A it [it,l] items.size (fun i v=>items[i]?=some v) (fun i h=>h.IsTupleIter it l i/\h.IsTuple l items) where
 live:=fun _ _ st=>let ⟨o,ho,_⟩:=st.1;⟨o,ho⟩
 frame:=fun _ _ _ st hk=>⟨st.1.at fun o e=>hk it (by simp) o e,st.2.at fun o e=>hk l (by simp) o e⟩
 item:=fun i s Q E hi st hQ=>by
  refine wc4 st.1 st.2 (x:=items[i]) (by simp[hi]) fun h' hit' hs'=>?_
  exact hQ _ h' s.toks (by simp[hi]) ⟨hit',st.2.extBut hs'.extBut hne⟩ hs'
 done:=fun s Q E st hE=>qm7 hh st.1 st.2 (by simp) hE
set_option maxHeartbeats 1000000 in
theorem qt6(l:Addr)(items:Array Value)(n:Nat)(dct:Option Addr)(sl:Array (Option Value)) :
 Meets (Builtin.«enumerate.__new__» ⟨[.type "enumerate",.ref l],[]⟩) (fun _ R s=>s.heap.get? l=some {cls:=.type "tuple",dict:=dct,data:=.seq items n,slots:=sl} /\
  R (.ok (.ret (.ref (s.heap.push {cls:=.type "tuple_iterator",data:=.fields #[.ref l,.int 0 0]}).objs.size)))
   {s with heap:=(s.heap.push {cls:=.type "tuple_iterator",data:=.fields #[.ref l,.int 0 0]}).push {cls:=.type "enumerate",data:=.fields #[.none,.bool false,.ref s.heap.objs.size,rawInt 0,.none,.none]}}) :=
 .of_wp fun prog w A R s h=>by
  obtain⟨hp,g,d,tk,os⟩:=s;obtain⟨hl,h⟩:=h
  have hsub:=sub_enumerate
  have hL:Heap.IsTuple (Shared.heap ⟨hp,g,d,tk,os⟩) l items:=⟨_,hl,rfl,n,rfl⟩
  wp_walk using AutoSeq1.wpAny_loadPart' hl
  refine wpAny_stack_any fun st=>wpAny_pure ?_
  split
  ·rename_i c _ _ _ _ _
   cases (c == Value.type "enumerate")
   ·wp_walk using AutoSeq1.wpAny_loadPart' hl,wpAny_pyIter_tuple hL
    exact⟨_,rfl,h⟩
   ·wp_walk using AutoSeq1.wpAny_loadPart' hl,wpAny_pyIter_tuple hL
    exact⟨_,rfl,h⟩
  ·wp_walk using AutoSeq1.wpAny_loadPart' hl,wpAny_pyIter_tuple hL
   exact⟨_,rfl,h⟩
theorem qt7(hL:s.heap.IsTuple l items) (h:∀ h',IsEnum h' (s.heap.objs.size+1) s.heap.objs.size 0 .none->h'.IsTupleIter s.heap.objs.size l 0->h'.objs.size=s.heap.objs.size+2 ->
  (∀ b o,s.heap.get? b=some o->h'.get? b=some o)->Q (.ref (s.heap.objs.size+1)) {s with heap:=h'}) :
 wpAny (model prog w) A (call (.type "enumerate") [.ref l]) Q E s:=by
 obtain⟨⟨c,dct,dt,sl⟩,hl,hc,n,hd⟩:=hL
 replace hc:c=.type "tuple":=hc
 replace hd:dt=.seq items n:=hd
 subst hc hd
 refine callType_new F.called_enumerate (by decide) (F.typeCall_enumerate_1 _) (F.newCall_enumerate_1 _) (fun obj=>F.args_object_init_2 obj _) F.entry_enumerate_new
  (qt6 l items n dct sl) ⟨hl,?_⟩
 have hz:(s.heap.push {cls:=.type "tuple_iterator",data:=.fields #[.ref l,.int 0 0]}).objs.size=s.heap.objs.size+1:=Heap.size_push ..
 show _/\_
 rw[hz]
 have he:IsEnum ((s.heap.push {cls:=.type "tuple_iterator",data:=.fields #[.ref l,.int 0 0]}).push
  {cls:=.type "enumerate",data:=.fields #[.none,.bool false,.ref s.heap.objs.size,rawInt 0,.none,.none]}) (s.heap.objs.size+1) s.heap.objs.size 0 .none:=by
  have:=Heap.get?_push_size (s.heap.push {cls:=.type "tuple_iterator",data:=.fields #[.ref l,.int 0 0]})
   (o:={cls:=.type "enumerate",data:=.fields #[.none,.bool false,.ref s.heap.objs.size,rawInt 0,.none,.none]}) rfl
  rw[hz] at this;exact this
 refine⟨⟨_,he,rfl⟩,h _ he ⟨_,Heap.get?_push_of_some _ (Heap.get?_push_size _ rfl),rfl,rfl⟩ (by rw[Heap.size_push,hz]) fun b o y=>Heap.get?_push_of_some _ (Heap.get?_push_of_some _ y)⟩
def Ite(K:Fg)(a:Addr):It:=⟨fun i H=>∃ xs x,SqT K H a xs/\xs[i]?=some x,fun i H x H'=>∃ p y,x=.ref p/\H p=none/\(∀ xs,SqT K H a xs->xs[i]?=some y)/\H'=upd H p (.tup [.int i,y]),fun i H=>∃ xs,SqT K H a xs/\xs.length<=i⟩
variable{elts:List Expr}
theorem yd2{k:Nat}(a e it:Addr)(hei:e≠it) :
 ya9 P w K (.Tuple elts k pos) (Ite K a) [e,it] e (fun i h=>(∃ old,IsEnum h e it i old)/\h.IsTupleIter it a i) where
 mem:=by simp
 obj:=by
  rintro i h ⟨⟨old,e1⟩,o2,e2,_,d2⟩ b hb
  have hb:b=e\/b=it:=by simpa using hb
  rcases hb with rfl|rfl
  ·exact⟨_,e1,fun v z=>by cases (show Data.fields _=Data.cell v from z)⟩
  ·exact⟨_,e2,fun v z=>by rw[d2] at z;cases z⟩
 keep:=fun i h h' st kk=>⟨let ⟨old,e1⟩:=st.1;⟨old,kk e (by simp) _ e1⟩,st.2.at fun o q=>kk it (by simp) o q⟩
 item:=by
  intro X hP hw hK hc i pins s σ H E I hf st hg
  subst hP hw hK
  obtain⟨xs,x,hq,hx⟩:=hg
  obtain⟨its,rv,p,hz⟩:=I.tuple hq
  obtain⟨u,hu,ru⟩:=rv.get hx
  have hil:i<its.toArray.size:=by rw[List.size_toArray];exact(List.getElem?_eq_some_iff.mp hu).1
  have pT:s.heap.IsTuple a its.toArray:=p
  have nea:a≠it:=fun z=>by
   obtain⟨o1,h1,c1,_⟩:=pT
   obtain⟨o2,h2,c2,_⟩:=st.2
   rw[z,h2] at h1
   cases h1
   rw[c1] at c2
   exact absurd c2 (by decide)
  have nee:e≠a:=fun z=>by
   obtain⟨o1,h1,c1,_⟩:=pT
   obtain⟨old,h2⟩:=st.1
   rw[<-z] at h1
   have h2:s.heap.get? e=some _:=h2
   rw[h2] at h1
   cases h1
   exact absurd c1 (show ¬(Value.type "enumerate"=Value.type "tuple") by decide)
  have W:=WalksT.enumerateD (prog:=X.prog) (w:=X.w) (A:=X.A) (xu4 (A:=X.A.in1) (show X.A.in1.handled=none from I.ok.hd hc) it a nea its.toArray) e hei (by simp[hei,nee]) (by simp)
  refine wpAny_with_toks (n:=1) I.tk (W.item i s _ _ hil ⟨st.1,st.2,pT⟩ fun T vs h' tk hv hT htup hmid kk ht=>?_)
  have ht:0<tk:=ht
  obtain⟨tk1,y,hy,rfl⟩:=hv
  have hy:its[i]?=some y:=by simpa using hy
  rw[hu] at hy
  injection hy with hy
  subst hy
  have hap:=W.apart i T h' hmid
  refine⟨_,rfl,W.go elts k pos i T {s with heap:=h',toks:=tk} _ _ hmid fun h2 st2 k2=>?_⟩
  have htup2:IsTup h2 T [Value.int i tk1,u].toArray:=by
   obtain⟨o,e,c⟩:=htup
   exact⟨o,k2 T o hap e,by simpa using c⟩
  have I1:Inv X pins σ (upd H T (.tup [.int i,x])) {s with heap:=h2,toks:=tk}:=I.turnLaid (ch:=[e,it]) (fun b hb=>hf b hb) (fun b u hb e=>k2 b u hb (kk b u hb e)) hT ⟨by rw[sizeLine_eq];simp,[Value.int i tk1,u],.cons ⟨tk1,rfl⟩ (.cons ru .nil),htup2⟩ ht
  refine⟨.ref T,_,I1,rfl,⟨T,x,rfl,I.hok.fresh hT,fun ys hy=>by rw[I.tuple_inj hy hq];exact hx,rfl⟩,⟨st2.1,st2.2.1⟩,fun b hb=>?_⟩
  have hb2:∃ o,s.heap.get? b=some o:=by
   have hb:b=e\/b=it:=by simpa using hb
   rcases hb with rfl|rfl
   ·obtain⟨old,e1⟩:=st.1;exact⟨_,e1⟩
   ·obtain⟨o,e1,_⟩:=st.2;exact⟨_,e1⟩
  obtain⟨o,e⟩:=hb2
  rw[C1 (Nat.ne_of_lt (Nat.lt_of_lt_of_le (Heap.lt_size e) hT))]
  exact(hf b hb).1
 done:=by
  intro X hP hw hK hc i pins s σ H E I hf st hg
  subst hP hw hK
  obtain⟨xs,hq,hx⟩:=hg
  obtain⟨its,rv,p,hz⟩:=I.tuple hq
  have pT:s.heap.IsTuple a its.toArray:=p
  have hno:its.toArray[i]?=none:=by
   have:=rv.length
   simp;omega
  obtain⟨old,he⟩:=st.1
  have D:Draws X.prog X.w X.A.in1 it [it,a] 0 (fun _ _=>True) (fun _ h=>h.IsTupleIter it a i/\h.IsTuple a its.toArray) :=
   { live:=fun _ _ st=>let ⟨o,ho,_⟩:=st.1;⟨o,ho⟩
     frame:=fun _ _ _ st hk=>⟨st.1.at fun o e=>hk it (by simp) o e,st.2.at fun o e=>hk a (by simp) o e⟩
     item:=fun j s Q E hj=>absurd hj (Nat.not_lt_zero _)
     done:=fun s Q E st hE=>qm7 (show X.A.in1.handled=none from I.ok.hd hc) st.1 st.2 hno hE}
  exact wpAny_pyNext_enum_endD D he ⟨st.2,pT⟩ fun h' hx=>⟨rfl,I.turnedL (ch:=[e,it]) (t':=s.toks) (fun b hb=>hf b hb) (fun b o hb y=>hx b o (fun z=>hb (by simp[z])) y) I.tk⟩
 self:=fun A i s Q E st h=>let ⟨old,e1⟩:=st.1;wpAny_pyIter_enum e1 h
def yd3(K:Fg)(ta:TA):TI:=fun σ H R=>ta σ H fun vs H1=>∃ a xs,vs=[.ref a]/\SqT K H1 a xs/\R (Ite K a) H1
theorem yx9{k:Nat}{p:Pos}{l:Expr}{ta:TA}(hg:Gl X "enumerate")(hm:X.mg "enumerate"=none)(ha:PA X [l] ta)(hs:autoParam (starEach [l] X.env=[(false,eval l X.env)]) zAr) :
 PI X (.Tuple elts k tpos) (.Call (.Name "enumerate" p) [l] [] pos) (yd3 X.K ta):=by
 intro pins s σ H R I h
 refine Call_ (qz2 I hg hm boot_enumerate (PyProof.Rows.callWith_type1 (thn (ha pos pins s σ H _ I h) fun us s1 zq=>?_) hs rfl))
 obtain⟨vs,H1,I1,r1,q1⟩:=zq
 obtain⟨a,xs,e,hq,q⟩:=q1
 subst e
 obtain⟨v,rfl,rv⟩:=qr8 r1
 cases rv
 obtain⟨its,rv,pT,hz⟩:=I1.tuple hq
 refine qt7 (show s1.heap.IsTuple a its.toArray from pT) fun h' he hit hz hk=>?_
 have I2:Inv X pins σ H1 {s1 with heap:=h'}:=I1.kept (t':=s1.toks) hk
 refine wpAny_pyIter_enum he ?_
 have ne:s1.heap.objs.size+1≠s1.heap.objs.size:=by omega
 refine⟨s1.heap.objs.size+1,_,_,_,H1,rfl,I2,yd2 a (s1.heap.objs.size+1) s1.heap.objs.size ne,⟨⟨_,he⟩,hit⟩,fun b hb=>?_,q⟩
 have hb:b=s1.heap.objs.size+1\/b=s1.heap.objs.size:=by simpa using hb
 rcases hb with rfl|rfl
 ·exact I1.fpOk (Nat.le_succ _) (I1.hok.fresh (Nat.le_succ _))
 ·exact I1.fpOk (Nat.le_refl _) (I1.hok.fresh (Nat.le_refl _))
theorem yy0{ta:TA}{R:It->Hp->Prop}(h:ta σ H fun vs H1=>∃ a xs,vs=[.ref a]/\SqT K H1 a xs/\R (Ite K a) H1):yd3 K ta σ H R:=h
theorem yq5(hq:SqT K H a xs)(Pv:Nat->St->Hp->Prop)(h0:Pv 0 σ H)(hk:∀ i σ H',Pv i σ H'->SqT K H' a xs)(hs:∀ i x σ H p,xs[i]?=some x->Pv i σ H->H p=none->g (.ref p) σ (upd H p (.tup [.int i,x])) fun σ2 H2=>tb {D with nx:=PAt Pv (i+1),ct:=PAt Pv (i+1),bk:=D.nx} σ2 H2)(hd:∀ σ H,Pv xs.length σ H->D.nx σ H) :
 ∃ b ys,[V.ref a]=[.ref b]/\SqT K H b ys/\xb9 g tb D σ (Ite K b) H:=by
 refine⟨a,xs,rfl,hq,fun i m σ H=>m=xs.length-i/\i<=xs.length/\Pv i σ H,⟨xs.length,by simp,Nat.zero_le _,h0⟩,?_⟩
 rintro i m σ H ⟨rfl,hi,p⟩
 have sq:=hk i σ H p
 by_cases hlt:i<xs.length
 ·refine .inr ⟨⟨xs,xs[i],sq,by simp[hlt]⟩,Pv (i+1),fun σ' H' p'=>⟨xs.length-(i+1),by omega,rfl,hlt,p'⟩,fun x H' y=>?_⟩
  obtain⟨t,z,rfl,ht,hz,rfl⟩:=y
  exact hs i z σ H t (hz xs sq) p ht
 ·have e:i=xs.length:=by omega
  subst e
  exact .inl ⟨⟨xs,sq,Nat.le_refl _⟩,hd σ H p⟩
theorem yy1(hn:(n:Int)<2 ^ 62)(Pv:Nat->St->Hp->Prop)(p0:Pv 0 σ H)(hs:∀ (i:Nat) σ H,i<n->Pv i σ H->g (.int ((n:Int)-1-i)) σ H fun σ2 H2=>tb {D with nx:=PAt Pv (i+1),ct:=PAt Pv (i+1),bk:=D.nx} σ2 H2)(hd:∀ σ H,Pv n σ H->D.nx σ H) :
 ∃ m:Nat,[V.int ((n:Int)-1),V.int (-1),V.int (-1)]=[.int ((m:Int)-1),.int (-1),.int (-1)]/\(m:Int)<2 ^ 62/\xb9 g tb D σ (Itv m) H:=by
 obtain⟨m,e,h1,h2⟩:=zg7 hn Pv p0 hs hd
 injection e with e
 injection e with e
 have:n=m:=by omega
 subst this
 exact⟨n,rfl,h1,h2⟩
theorem yj7:∀ {js:List Int} {us:List Value},G0 (js.map V.int) us->∃ ps:List (Int×Tok),us=ps.map (fun p=>Value.int p.1 p.2)/\ps.map (·.1)=js
 | [],_,h=>by cases h;exact⟨[],rfl,rfl⟩
 | j :: js,_,h=>by
   have h:G0 (V.int j::js.map V.int) _:=h
   cases h with
   | cons r t =>
     obtain⟨k,rfl⟩:=r
     obtain⟨ps,rfl,e⟩:=yj7 t
     exact⟨(j,k)::ps,rfl,by simp[e]⟩
def yy2(K:Fg):List V->Hp->VK->Prop:=fun xs H Q=>∃ (p:Addr) (js:List Int),xs=[.ref p]/\SqL K H p (js.map V.int)/\∀ j:Int,Q (.int j) H
theorem yq6(hc:X.calm=true):W4 X (.builtin "sum") (yy2 X.K):=by
 intro pins s σ H xs us Q I r h
 obtain⟨p,js,rfl,hq,q⟩:=h
 obtain⟨u,rfl,ru⟩:=qr8 r
 cases ru
 obtain⟨its,rv,pl,hz⟩:=I.list hq
 obtain⟨ps,rfl,e⟩:=yj7 rv
 have hl:s.heap.IsList p (intItems ps.toArray):=by
  have:=pl.isList
  rw[show intItems ps.toArray=(ps.map (fun p=>Value.int p.1 p.2)).toArray by unfold intItems;simp]
  exact this
 refine wpAny_with_toks (n:=1) I.tk (sum_intListG (I.ok.hd hc) hl fun h' tk t' hk ht=>?_)
 exact⟨.int _,H,I.kept hk ht,⟨_,rfl⟩,q _⟩
variable{js:List Int}
section
variable{Q:VK}
theorem Ab3(h:SqL K H p (js.map V.int))(q:∀ j:Int,Q (.int j) H):yy2 K [.ref p] H Q:=⟨p,js,rfl,h,q⟩
theorem zt4(h1:H p=some (.lst (y::xs)))(h:Q y (upd H p (.lst xs))):yc4 (.ref p) [.int 0] H Q :=
 ⟨p,y::xs,0,0,y,rfl,rfl,h1,by decide,by decide,by unfold seqIndex?;simp,rfl,h⟩
theorem yy3(h1:H p=some (.lst xs))(h2:H b=some (.lst zs))(hz:xs.length+zs.length<=sizeLine)(h:Q .non (upd H p (.lst (xs++zs)))):xm9 (.ref p) [.ref b] H Q:=⟨p,b,xs,zs,rfl,rfl,h1,h2,hz,h⟩
end
def xu5(i j:Int):Prop:=0<j/\j<2 ^ 200
theorem xu6:OpR X (binaryOp .FloorDiv) (rI xu5 fun i j=>.int (i / j)):=opI fun i j _ _ _ _ _ hc q=>by
 have h1:(0:Int)<j:=hc.1
 have h2:j<2 ^ 200:=hc.2
 refine floordiv_int (by omega) (by rw[Int.fdiv_eq_ediv_of_nonneg i (by omega)];exact q) (.inl (PyProof.noPylong_of_log2 ?_))
 refine Nat.lt_trans ((Nat.log2_lt (by omega)).mpr (?_:j.natAbs<2 ^ 200)) (by decide)
 have:((j.natAbs:Nat):Int)<((2 ^ 200:Nat):Int):=by
  rw[Int.natAbs_of_nonneg (by omega)]
  have e:((2 ^ 200:Nat):Int)=(2:Int) ^ 200:=by decide +kernel
  rw[e];exact h2
 exact Int.ofNat_lt.mp this
theorem yj8{Q:VK}(c:xu5 i j)(h:Q (.int (i / j)) H):rI xu5 (fun i j=>.int (i / j)) (.int i) (.int j) H Q:=⟨i,j,rfl,rfl,c,h⟩
theorem wr9:plainId "proto.contains_iter"=true:=by decide +kernel
theorem xu7:entryFor table "proto.contains_iter"=some Builtin.«proto.contains_iter»:=entryFor_of_fast (by kernel_rfl)
theorem qt8:typeLookup (.type "dict_values") "__contains__"=pure none:=by rw[typeLookup_type,builtinLookup_eq_fast];kernel_rfl
variable{ep:Nat}
section
variable[DecidableEq κ]{knd:KeyKind prog w κ}
theorem zh5{d:Addr}{kvs:List (κ×Value)}{x:Int}{tx:Tok}(hne:it≠d)(hh:A.in1.handled=none)(hj:∀ (i:Nat) (k:κ) (v:Value),kvs[i]?=some (k,v)->∃ (j:Int) (t:Tok),js[i]?=some j/\v=Value.int j t)(hl:js.length=kvs.length) :
 ∀ (m i:Nat) (s:Shared),kvs.length-i=m->i<=kvs.length->s.heap.IsValIter it d i kvs.length ep->s.heap.DictAt knd d kvs ep ->
  (∀ h',Heap.ExtBut it s.heap h'->R (.ok (.ret (.bool (decide (x∈js.drop i))))) {s with heap:=h'})->codeAny (model prog w) A (.builtin "proto.contains_iter" ⟨[.ref it,.int x tx],[]⟩) R s:=by
 intro m
 induction m with
 | zero =>
   intro i s hm hi st hd hR
   refine codeAny_builtin xu7 ?_
   rw[Around.under_plainId wr9 _]
   show wpAny _ A.in1 (pyNext (.ref it) >>= _) _ _ s
   refine wpAny_bind (wpAny_pyNext_values_end hh st hd (by rw[List.getElem?_eq_none];omega) fun h' hb=>?_)
   refine wpAny_bind (wpAny_rule (wpAny_pure ?_))
   have:=hR h' hb
   rw[List.drop_eq_nil_of_le (by omega)] at this
   simpa using this
 | succ m ih =>
   intro i s hm hi st hd hR
   have hlt:i<kvs.length:=by omega
   refine codeAny_builtin xu7 ?_
   rw[Around.under_plainId wr9 _]
   show wpAny _ A.in1 (pyNext (.ref it) >>= _) _ _ s
   obtain⟨⟨k,v⟩,hkv⟩:∃ p,kvs[i]?=some p:=⟨_,List.getElem?_eq_getElem hlt⟩
   obtain⟨j,t,ej,rfl⟩:=hj i k v hkv
   refine wpAny_bind (wpAny_pyNext_values_item st hd hkv fun h' st' sb=>?_)
   refine wpAny_bind (wpAny_eqBool_int ?_)
   have ed:js.drop i=j::js.drop (i+1):=by
    obtain⟨hi',e⟩:=List.getElem?_eq_some_iff.mp ej
    rw[<-e,<-List.drop_eq_getElem_cons]
   by_cases e:j=x
   ·subst e
    rw[show(j == j)=true by simp,if_pos rfl]
    refine wpAny_bind (wpAny_rule (wpAny_pure ?_))
    have:=hR h' sb.extBut
    rw[ed] at this
    simpa using this
   ·rw[show(j == x)=false by simpa using e,if_neg (by decide)]
    refine wpAny_pure ⟨plainId_quiet wr9 _,ih (i+1) _ (by omega) hlt st' ?_ fun h'' hb=>?_⟩
    ·obtain⟨o,es,ho,r⟩:=hd
     exact⟨o,es,sb.extBut d o (Ne.symm hne) ho,r⟩
    ·have:=hR h'' (fun b o hb' e'=>hb b o hb' (sb.extBut b o hb' e'))
     rw[ed] at this
     have e':¬x=j:=fun z=>e z.symm
     simpa [e'] using this
theorem yd4{v d:Addr}{kvs:List (κ×Value)}{x:Int}{tx:Tok}{Q:Bool->Shared->Prop}(hh:A.in1.handled=none)(hv:s.heap.IsValuesView v d)(hd:s.heap.DictAt knd d kvs ep)(hj:∀ (i:Nat) (k:κ) (v:Value),kvs[i]?=some (k,v)->∃ (j:Int) (t:Tok),js[i]?=some j/\v=Value.int j t)(hl:js.length=kvs.length)(h:∀ h',(∀ b o,s.heap.get? b=some o->h'.get? b=some o)->Q (decide (x∈js)) {s with heap:=h'}):wpAny (model prog w) A (contains (.ref v) (.int x tx)) Q E s:=by
 unfold contains
 refine wpAny_holding ?_
 rw[stdlibNamesSay?_of_typeIs hv.typeIs]
 refine wpAny_bind (wpAny_specialOf hv.typeIs qt8 ?_)
 show wpAny _ A (if((none:Option Value) == some Value.none)=true then _ else _) Q E s
 rw[if_neg (by simp)]
 refine wpAny_bind (wpAny_callSpecialUnlessNone?_none hv.typeIs qt8 ?_)
 refine wpAny_bind (wpAny_rule ?_)
 refine wpAny_bind (wpAny_tryCatch (wpAny_pyIter_values hv hd ?_))
 refine wpAny_bind (wpAny_runValue ?_)
 have dlt:d<s.heap.objs.size:=by obtain⟨o,es,ho,_⟩:=hd;exact Heap.lt_size ho
 refine zh5 (knd:=knd) (js:=js) (Nat.ne_of_gt dlt) hh hj hl _ 0 _ rfl (Nat.zero_le _) ⟨_,Heap.get?_push_size _ rfl,rfl,rfl⟩ ?_ fun h' hb=>?_
 ·obtain⟨o,es,ho,r⟩:=hd
  exact⟨o,es,Heap.get?_push_of_some _ ho,r⟩
 ·refine wpAny_pure ?_
  exact h h' fun b o e=>hb b o (Nat.ne_of_lt (Heap.lt_size e)) (Heap.get?_push_of_some _ e)
end
def yd5(neg:Bool)(tx td:TE):TE:=fun σ H Q=>tx σ H fun x H1=>td σ H1 fun y H2=>∃ (i:Int) (a:Addr) (kvs:List (Key×V)) (js:List Int),x=.int i/\y=.ref a/\H2 a=some (.dK kvs)/\kvs.map (·.2)=js.map V.int/\Q (.bl (if neg then !decide (i∈js) else decide (i∈js))) H2
theorem yj9:∀ {kvs:List (Key×V)} {vs:List (Key×Value)} {js:List Int},KV kvs vs->kvs.map (·.2)=js.map V.int->js.length=vs.length/\∀ (i:Nat) (k:Key) (v:Value),vs[i]?=some (k,v)->∃ (j:Int) (t:Tok),js[i]?=some j/\v=Value.int j t
 | [],vs,js,h,e=>by
   cases h
   cases js with
   | nil=>exact⟨rfl,fun i k v h=>by simp at h⟩
   | cons _ _=>cases e
 | (k0,v0)::kvs,vs,js,h,e=>by
   cases h with
   | cons r t =>
     rename_i q qs
     cases js with
     | nil=>cases e
     | cons j js =>
       injection e with e1 e2
       obtain⟨h1,h2⟩:=yj9 t e2
       refine⟨by simp[h1],fun i k v h=>?_⟩
       cases i with
       | zero =>
         have h:q=(k,v):=by simpa using h
         subst h
         obtain⟨_,r⟩:=r
         have e1:v0=V.int j:=e1
         rw[e1] at r
         obtain⟨t,rfl⟩:=r
         exact⟨j,t,rfl,rfl⟩
       | succ i=>exact h2 i k v (by simpa using h)
theorem ws0{Q:Bool->Shared->Prop}(hc:X.calm=true)(I:Inv X pins σ H s){t:Tok}{kvs:List (Key×V)}(e:H a=some (.dK kvs))(ej:kvs.map (·.2)=js.map V.int)(q:∀ s',Inv X pins σ H s'->Q (decide (i∈js)) s'):wpAny (model X.prog X.w) X.A (call (.builtin "dict.values") [.ref a]) (fun u s1=>wpAny (model X.prog X.w) X.A (contains u (.int i t)) Q X.xe s1) X.xe s:=by
 obtain⟨z,hm,vs,kv,dd⟩:=zm3 I.hok e
 obtain⟨o,es,ep,ho,hx,hdat,hk,hp,hn⟩:=id dd
 refine call_meetsIn PySem.F.slot_dict_values dd.typeIs PySem.F.entry_dict_values (PySem.F.args_dict_values_1 _) (meets_dict_values (Q5 X.prog X.w) a hm) ⟨⟨vs,dd⟩,?_⟩
 obtain⟨h1,h2⟩:=yj9 kv ej
 refine yd4 (knd:=Q5 X.prog X.w) (d:=a) (kvs:=vs) (ep:=ep) (js:=js) (show X.A.in1.handled=none from I.ok.hd hc) ⟨_,Heap.get?_push_size _ rfl,rfl,rfl⟩ ⟨o,es,Heap.get?_push_of_some _ ho,hx,hdat,hk,hp,hn⟩ h2 h1 fun h' hb=>?_
 exact q _ (I.kept (t':=s.toks) (h':=h') fun b o e=>hb b o (Heap.get?_push_of_some _ e))
theorem yy4{kvs:List (Key×V)}(e:H a=some (.dK kvs)):tyV K "dict" (.ref a) H:=.inr (.inr (.inl ⟨rfl,.inl ⟨kvs,e⟩⟩))
theorem zt5(hc:X.calm=true)(hx:PE X e tx)(ho:PE X o td)(hm:behindInMarks .In (.Call (.Attribute o "values" apos) [] [] cpos)=false:=by with_unfolding_all rfl)(hbase:autoParam (attributeBase o "values" X.env (eval o X.env)=eval o X.env) zAr)(hline:autoParam ((apos.endLine == cpos.line)=true) zAr):PE X (.Compare e [.In] [.Call (.Attribute o "values" apos) [] [] cpos] pos) (yd5 false tx td):=by
 intro pins s σ H Q I h
 refine wpAny_Compare1 (thn (hx pins s σ H _ I h) fun v s1 zq=>?_) hm
 obtain⟨x,H1,I1,r1,q1⟩:=zq
 refine wpAny_Call_method0_late hbase hline (thn (ho pins s1 σ H1 _ I1 q1) fun u s2 zq=>?_)
 obtain⟨y,H2,I2,r2,i,a,kvs,js,ex,ey,ed,ej,q⟩:=zq
 subst ex ey
 obtain⟨t,rfl⟩:=r1
 obtain⟨h1,h2⟩:=xm8 I2 r2 (yy4 ed)
 cases r2
 refine⟨"dict",_,PySem.F.plainAttrs_dict,PySem.F.slot_dict_values,PySem.F.type_dict_values,h1,h2,Calls.callWith_builtin rfl (PySem.evalArgs_none ?_)⟩
 exact thn (ws0 (Q:=fun bb s'=>EP X pins σ Q (.bool bb) s') hc I2 ed ej fun s' I'=>⟨.bl _,H2,I',rfl,q⟩) fun u s3 hu=>wpAny_bind (wpAny_mono hu (fun bb s4 h4=>wpAny_pure h4) fun _ _ z=>z)
theorem wg0(hc:X.calm=true)(hx:PE X e tx)(ho:PE X o td)(hm:behindInMarks .NotIn (.Call (.Attribute o "values" apos) [] [] cpos)=false:=by with_unfolding_all rfl)(hbase:autoParam (attributeBase o "values" X.env (eval o X.env)=eval o X.env) zAr)(hline:autoParam ((apos.endLine == cpos.line)=true) zAr):PT X (.Compare e [.NotIn] [.Call (.Attribute o "values" apos) [] [] cpos] pos) (D7 (yd5 true tx td)):=by
 intro pins s σ H Q I h
 refine wpAny_isTrue_Compare1 (thn (hx pins s σ H _ I h) fun v s1 zq=>?_) hm
 obtain⟨x,H1,I1,r1,q1⟩:=zq
 refine wpAny_Call_method0_late hbase hline (thn (ho pins s1 σ H1 _ I1 q1) fun u s2 zq=>?_)
 obtain⟨y,H2,I2,r2,i,a,kvs,js,ex,ey,ed,ej,kk,ek,q⟩:=zq
 subst ex ey
 obtain⟨t,rfl⟩:=r1
 obtain⟨h1,h2⟩:=xm8 I2 r2 (yy4 ed)
 cases r2
 refine⟨"dict",_,PySem.F.plainAttrs_dict,PySem.F.slot_dict_values,PySem.F.type_dict_values,h1,h2,Calls.callWith_builtin rfl (PySem.evalArgs_none ?_)⟩
 exact thn (ws0 (Q:=fun bb s'=>TP X pins σ Q (!bb) s') hc I2 ed ej fun s' I'=>⟨H2,I',by injection ek with ek;subst ek;exact q⟩) fun u s3 hu=>wpAny_bind (wpAny_mono hu (fun bb s4 h4=>wpAny_pure (wpAny_truthy_bool h4)) fun _ _ z=>z)
section
variable{Q:VK}
theorem zh6(h:td σ H fun x H1=>ty σ H1 fun y H2=>∃ a v,x=.ref a/\qz5 H2 a y (some v)/\Q v H2):yu9 td ty σ H Q:=h
theorem zt6{neg:Bool}(h:tx σ H fun x H1=>td σ H1 fun y H2=>∃ (i:Int) (a:Addr) (kvs:List (Key×V)) (js:List Int),x=.int i/\y=.ref a/\H2 a=some (.dK kvs)/\kvs.map (·.2)=js.map V.int/\Q (.bl (if neg then !decide (i∈js) else decide (i∈js))) H2):yd5 neg tx td σ H Q:=h
end
def zt7(K:Fg)(ta tb:TE):TE:=fun σ H Q=>ta σ H fun x H1=>∃ k,zp3 K x H1 k/\if k=true then Q x H1 else tb σ H1 Q
theorem zt8{a b:Expr}{rest:List Expr}{tb:TE}(ha:PE X a ta)(hb:PE X (.BoolOp .Or (b::rest) pos) tb):PE X (.BoolOp .Or (a::b::rest) pos) (zt7 X.K ta tb):=by
 intro pins s σ H Q I h
 refine BoolOp_or (thn (ha pins s σ H _ I h) fun v s1 zq=>?_)
 obtain⟨x,H1,I1,r1,k,tv,q1⟩:=zq
 refine thn (zp4 pins s1 σ H1 x v (fun b H'=>H'=H1/\b=k) I1 r1 ⟨k,tv,rfl,rfl⟩) fun b' s2 zq=>?_
 obtain⟨H2,I2,e1,e2⟩:=zq
 subst e1 e2
 cases b' with
 | false=>exact hb pins s2 σ H2 Q I2 q1
 | true=>exact⟨x,H2,I2,r1,q1⟩
section
variable{Q:VK}
theorem zt9{tb:TE}(h:ta σ H fun x H1=>∃ k,zp3 K x H1 k/\if k=true then Q x H1 else tb σ H1 Q):zt7 K ta tb σ H Q:=h
theorem yd6(h1:H a=some (.tup xs))(h2:H b=some (.tup ys))(hz:xs.length+ys.length<=sizeLine)(h:∀ p H',A6 H H'->H' p=some (.tup (xs++ys))->Q (.ref p) H'):O7 K (.ref a) (.ref b) H Q:=by
 by_cases hx:xs=[]
 ·subst hx
  exact .inr ⟨a,b,ys,rfl,rfl,SqT.of h1,SqT.of h2,h b H (fun _ _ e=>e) h2⟩
 ·refine .inl (.inr (.inr (.inr ⟨a,b,xs,ys,rfl,rfl,SqT.of h1,SqT.of h2,hx,hz,fun hy=>?_,fun hy p hp=>h p _ (A6.new hp _) A7⟩)))
  subst hy
  exact h a H (fun _ _ e=>e) (by rw[List.append_nil];exact h1)
theorem Ab4(h1:H a=some (.tup xs))(h:∀ p H',A6 H H'->H' p=some (.tup (qb8 xs lo hi))->Q (.ref p) H'):qh5 K (.ref a) lo hi H Q:=by
 by_cases hw:HT.sIx xs.length 0 lo=0/\HT.sIx xs.length xs.length hi=xs.length
 ·refine .inr ⟨a,xs,rfl,SqT.of h1,hw,h a H (fun _ _ e=>e) ?_⟩
  unfold qb8
  rw[hw.1,hw.2,List.drop_zero,Nat.sub_zero,List.take_length];exact h1
 ·exact .inl (.inr (.inl ⟨a,xs,rfl,SqT.of h1,hw,fun p hp=>h p _ (A6.new hp _) A7⟩))
end
def Dk{α:Type}:Sem α->Prop
 | .pure _=>True
 | .raise _=>True
 | .unsupported _=>True
 | .finish _=>True
 | .rule _ k=>Dk (k ())
 | .at _ k=>Dk (k ())
 | .load _ _ k=>∀ o,Dk (k o)
 | .update _ _ f k=>(∀ o:Obj,(f o).dict=o.dict)/\Dk (k ())
 | .loadIfAlive _ k=>∀ o,Dk (k o)
 | .point _ k=>Dk (k ())
 | .alloc _ k=>∀ a,Dk (k a)
 | .fresh k=>∀ a,Dk (k a)
 | .ask k=>∀ a,Dk (k a)
 | .handled _ k=>∀ a,Dk (k a)
 | .stack k=>∀ a,Dk (k a)
 | .thread k=>∀ a,Dk (k a)
 | _=>False
def ws2(e:Addr)(od:Option Addr)(s:Shared):Prop:=∃ o,s.heap.objs[e]?=some o/\o.dict=od
theorem ws2.at{e:Addr}{o:Obj}(h:ws2 e od s)(g:s.heap.get? e=some o):o.dict=od:=by
 obtain⟨o',e1,e2⟩:=h
 have:=(Heap.get?_some_iff.mp g).1
 rw[e1] at this;cases this;exact e2
theorem ws2.of{e:Addr}{o:Obj}(g:s.heap.get? e=some o)(h:o.dict=od):ws2 e od s:=⟨o,(Heap.get?_some_iff.mp g).1,h⟩
variable{Γ:PySem.Ctx}
theorem Ab5{e:Addr}{E:Value->Pos->Shared->Prop}{t:Sem α}(d:Dk t):∀ {Q:α->Pos->Shared->Prop} {p:Pos} {s:Shared},ws2 e od s->Sem.wp M Γ t Q E p s->Sem.wp M Γ t (fun a p s=>Q a p s/\ws2 e od s) E p s:=by
 induction t with
 | pure a=>intro Q p s h w;exact⟨w,h⟩
 | raise v=>intro Q p s h w;exact w
 | unsupported v=>intro Q p s h w;exact w
 | finish v=>intro Q p s h w;exact w
 | rule _ k ih=>intro Q p s h w;exact ih () d h w
 | «at» _ k ih=>intro Q p s h w;exact ih () d h w
 | load a _ k ih=>intro Q p s h w;obtain⟨o,ho,w⟩:=w;exact⟨o,ho,ih o (d o) h w⟩
 | update a _ f k ih =>
   intro Q p s h w
   obtain⟨ha,w⟩:=w
   refine⟨ha,ih () d.2 ?_ w⟩
   obtain⟨o,h1,h2⟩:=h
   obtain⟨⟨objs,l⟩,g,dr,tk,os⟩:=s
   show ∃ o,(objs.modify a f)[e]?=some o/\o.dict=od
   have h1:objs[e]?=some o:=h1
   rw[Array.getElem?_modify]
   by_cases z:a=e
   ·rw[if_pos z,h1];exact⟨_,rfl,(d.1 o).trans h2⟩
   ·rw[if_neg z];exact⟨o,h1,h2⟩
 | loadIfAlive a k ih=>intro Q p s h w;exact ih _ (d _) h w
 | point _ k ih=>intro Q p s h w;exact ih () d h w
 | alloc ob k ih =>
   intro Q p s h w
   refine ih _ (d _) ?_ w
   obtain⟨o,h1,h2⟩:=h
   obtain⟨⟨objs,l⟩,g,dr,tk,os⟩:=s
   show ∃ o,(objs.push ob)[e]?=some o/\o.dict=od
   have h1:objs[e]?=some o:=h1
   have hlt:e<objs.size:=(Array.getElem?_eq_some_iff.mp h1).1
   refine⟨o,?_,h2⟩
   rw[Array.getElem?_push,if_neg (Nat.ne_of_lt hlt)];exact h1
 | fresh k ih=>intro Q p s h w;exact ih _ (d _) h w
 | ask k ih=>intro Q p s h w;exact ih _ (d _) h w
 | handled _ k ih=>intro Q p s h w;exact ih _ (d _) h w
 | stack k ih=>intro Q p s h w;exact ih _ (d _) h w
 | thread k ih=>intro Q p s h w;exact ih _ (d _) h w
 | register|choose|os|call|newGen|genState|resume|yield|fork|await=>exact False.elim d
theorem ws3{e:Addr}{t:Sem α}{Q:α->Shared->Prop}(d:Dk t)(h:ws2 e od s)(w:wpAny M A t Q E s):wpAny M A t (fun a s=>Q a s/\ws2 e od s) E s :=
 fun Γ p hΓ=>Ab5 d h (w Γ p hΓ)
variable{β:Type}
theorem N3{t:Sem α}{k:α->Sem β}(h:Dk t)(hk:∀ a,Dk (k a)):Dk (t >>= k):=by
 show Dk (t.bind k)
 induction t with
 | pure a=>exact hk a
 | raise v=>exact True.intro
 | unsupported v=>exact True.intro
 | finish v=>exact True.intro
 | rule _ k ih=>exact ih () h
 | «at» _ k ih=>exact ih () h
 | load a _ k ih=>exact fun o=>ih o (h o)
 | update a _ f k ih=>exact⟨h.1,ih () h.2⟩
 | loadIfAlive a k ih=>exact fun o=>ih o (h o)
 | point _ k ih=>exact ih () h
 | alloc ob k ih=>exact fun o=>ih o (h o)
 | fresh k ih=>exact fun o=>ih o (h o)
 | ask k ih=>exact fun o=>ih o (h o)
 | handled _ k ih=>exact fun o=>ih o (h o)
 | stack k ih=>exact fun o=>ih o (h o)
 | thread k ih=>exact fun o=>ih o (h o)
 | register|choose|os|call|newGen|genState|resume|yield|fork|await=>exact False.elim h
theorem Q7{a:α}:Dk (pure a:Sem α):=True.intro
theorem ql6{w:String}:Dk (unsupported w:Sem α):=True.intro
theorem xn7:Dk (load a):=fun _=>True.intro
theorem ws4:Dk stack:=fun _=>True.intro
theorem xu8(v:Value):Dk (fieldsOf v):=by
 unfold fieldsOf
 split
 ·refine N3 xn7 fun o=>?_
  split
  ·exact Q7
  ·exact ql6
 ·exact ql6
theorem wc5(v:Value)(i:Nat):Dk (field v i):=by
 unfold field
 refine N3 (xu8 v) fun o=>?_
 split
 ·exact Q7
 ·exact ql6
theorem ws5(f:Array Value->Array Value)(o:Obj):(Obj.mapFields f o).dict=o.dict:=by
 unfold Obj.mapFields
 split <;> rfl
theorem qt9(v:Value)(i:Nat)(x:Value):Dk (setField v i x):=by
 unfold setField
 split
 ·unfold updateField
  refine N3 xn7 fun o=>?_
  split
  ·split
   ·exact⟨fun o=>ws5 _ o,True.intro⟩
   ·exact ql6
  ·exact ql6
 ·exact ql6
theorem qo9(e:Value)(f:Option Addr):Dk (setFlight e f):=by
 unfold setFlight
 refine N3 (wc5 _ _) fun tb=>?_
 split
 ·exact qt9 _ _ _
 ·exact Q7
theorem yq7(env:Env)(outer:List Env):Dk (behindIsImport env outer):=by
 unfold behindIsImport
 split
 ·exact Q7
 ·split
  ·exact Q7
  ·exact N3 (wc5 _ _) fun _=>Q7
theorem yy5:Dk underTheClaimsCaller:=by
 unfold underTheClaimsCaller
 exact N3 ws4 fun _=>Q7
theorem zh7(env:Env)(i:Bool):∀ outer:List Env,Dk (keptBack env i outer)
 | []=>by
   show Dk (if(env.scope.isGenerator || env.scope.isCoroutine)=true then pure Value.none else do return if<-underTheClaimsCaller then .notImplemented else .none)
   split
   ·exact Q7
   ·exact N3 yy5 fun b=>Q7
 | c::l=>Q7
theorem xu9:∀ l:List Env,Dk (readyFrames l)
 | []=>Q7
 | env::outer=>by
   unfold readyFrames
   split
   ·refine N3 xn7 fun o=>?_
    split
    ·exact Q7
    ·exact N3 (yq7 _ _) fun b=>N3 (zh7 _ _ _) fun v=>N3 ⟨fun o=>rfl,True.intro⟩ fun _=>xu9 outer
   ·exact ql6
theorem ws6(l:List Env):Dk (frameObject l):=by
 cases l with
 | nil=>exact Q7
 | cons env outer=>unfold frameObject;exact N3 (xu9 _) fun _=>Q7
theorem yd7(env:Env):Dk (PySem.frameOf env):=by
 unfold PySem.frameOf frameEnvs
 refine N3 (N3 ws4 fun _=>Q7) fun l=>N3 (ws6 _) fun o=>?_
 split
 ·exact Q7
 ·exact ql6
theorem yy6(f:Addr)(b:Bool):Dk (entryPlaceOf f b):=by
 unfold entryPlaceOf
 refine N3 ws4 fun l=>?_
 split <;> exact Q7
theorem xv0(a b c d e:Value)(l:List Value):Dk (EntryCells.newEntry a b c d e l):=by
 unfold EntryCells.newEntry newFields
 have last:∀ dt:Data,Dk (newObjAsIs (.type "traceback") dt):=fun dt=>by unfold newObjAsIs;exact fun a=>True.intro
 have two:∀ vs:List Value,Dk (newObj (.type "traceback") (.fields vs.toArray)):=fun vs=>by
  show Dk (if vs.toArray.size > sizeLine+2 then(unsupported "record:memory" >>= fun _=>newObjAsIs (.type "traceback") (.fields vs.toArray)) else newObjAsIs (.type "traceback") (.fields vs.toArray))
  split
  ·exact N3 ql6 fun _=>last _
  ·exact last _
 exact two _
theorem yk0(e:Value)(env:Env):Dk (noteFrame e env):=by
 unfold noteFrame
 split
 ·refine N3 (wc5 _ _) fun head=>?_
  have last:∀ f,Dk (do setField e 1 (<-EntryCells.newEntry head (<-PySem.frameOf env) .none (rawInt f) .none (<-entryPlaceOf f (head != .none)))):=fun f =>
   N3 (yd7 _) fun a=>N3 (yy6 _ _) fun b=>N3 (xv0 _ _ _ _ _ _) fun c=>qt9 _ _ _
  split
  ·refine N3 (wc5 _ _) fun x=>?_
   split
   ·exact Q7
   ·exact N3 (qt9 _ _ _) fun _=>last _
  ·exact last _
 ·exact ql6
theorem ws7(env:Env)(e:Value):Dk (leaving env e):=N3 (yk0 _ _) fun _=>qo9 _ _
variable{cls:Value}
section
variable{T:Addr}{o:HO}{l:List Env}
theorem O5.lies(x:O5 P w H h a o):∃ u,h.get? a=some u:=by
 cases o with
 | lst xs=>obtain⟨_,_,_,_,e⟩:=x;exact⟨_,e⟩
 | tup xs=>obtain⟨_,_,_,_,e,_⟩:=x;exact⟨_,e⟩
 | dK kvs=>obtain⟨_,_,_,_,o,_,_,e,_⟩:=x;exact⟨_,e⟩
 | dT kvs=>obtain⟨_,_,_,_,o,_,_,e,_⟩:=x;exact⟨_,e⟩
 | set S n=>obtain⟨o,_,_,_,e,_⟩:=x;exact⟨_,e⟩
 | ins C dx fs=>obtain⟨_,_,_,e,_⟩:=x;exact⟨_,e⟩
 | own y=>obtain⟨_,e⟩:=x;exact⟨_,e⟩
 | xd fs=>obtain⟨_,⟨_,_,_,e,_⟩,_⟩:=x;exact⟨_,e⟩
 | rng lo hi=>obtain⟨_,_,_,e⟩:=x;exact⟨_,e⟩
 | frz ob u=>obtain⟨e,_⟩:=x;exact⟨_,e⟩
 | tbl ps=>exact⟨_,(show h.get? a=some _ from x)⟩
 | met f y=>exact⟨_,(show h.get? a=some _ from x)⟩
 | ext φ=>obtain⟨_,⟨_,e⟩,_⟩:=x;exact⟨_,e⟩
theorem HOk.gone(x:HOk P w H h)(e:h.get? a=none):H a=none:=by
 cases q:H a with
 | none=>rfl
 | some u =>
   obtain⟨v,z⟩:=(x a u q).lies
   rw[e] at z;cases z
structure Aw(l:List Env)(a T:Addr)(h h':Heap):Prop where
 keep:∀ b o,h.get? b=some o->b≠a->b≠T->b∉frs l->h'.get? b=some o
 slot:∀ b o,h.get? b=some o->b∈frs l->∃ sl,h'.get? b=some {o with slots:=sl}
theorem Un.away(u:Un (frs l) [] H H' h h1)(na:h.get? a=none)(nT:h.get? T=none)(w:Aw l a T h1 h2):Un (frs l) [] H H' h h2:=by
 have ne:∀ {b o c},h.get? b=some o->h.get? c=none->b≠c:=fun e n z=>by rw[z,n] at e;cases e
 refine⟨fun b o q n hb hx=>w.keep b o (u.keep b o q n hb hx) (ne q na) (ne q nT) hb,fun b o q n hb hx=>?_,u.free,fun b o q hx=>?_,u.tups,u.frzs,u.tbls⟩
 ·obtain⟨sl,e⟩:=u.slot b o q n hb hx
  obtain⟨sl',e'⟩:=w.slot b _ e hb
  exact⟨sl',e'⟩
 ·obtain⟨o',e⟩:=u.there b o q hx
  by_cases hb:b∈frs l
  ·obtain⟨sl,e'⟩:=w.slot b o' e hb
   exact⟨_,e'⟩
  ·exact⟨o',w.keep b o' e (ne q na) (ne q nT) hb⟩
theorem HOk.away(x:HOk P w H h1)(nf:∀ b∈frs l,H b=none)(na:H a=none)(nT:H T=none)(y:Aw l a T h1 h2):HOk P w H h2:=fun b u e=>by
 have ne:∀ {b o c},H b=some o->H c=none->b≠c:=fun e n z=>by rw[z,n] at e;cases e
 refine(x b u e).stay (fun c v hc q=>?_) (fun _ q=>q) fun _ _ q=>q
 have hs:∃ o,H c=some o:=by
  rcases hc with rfl|hc
  ·exact⟨_,e⟩
  ·exact⟨_,hc⟩
 obtain⟨o,e'⟩:=hs
 exact y.keep c v q (ne e' na) (ne e' nT) fun hb=>by rw[nf c hb] at e';cases e'
theorem Ab6{B:Heap}:∀ {l:List Env},h.FunFrames base l->(∀ b∈frs l,B.get? b=none)->(∀ b o,h.get? b=some o->b∈frs l->∃ sl,h1.get? b=some {o with slots:=sl})->h1.FunFrames B l:=by
 intro l
 induction l with
 | nil=>intro _ _ _;trivial
 | cons env r ih =>
   intro hl hB hs
   obtain⟨hk,⟨L,o,hf,hn,ho,hd⟩,hr⟩:=hl
   have sub:∀ b∈frs r,b∈frs (env::r):=fun b hb=>by unfold frs;rw[List.filterMap_cons,hf];exact List.mem_cons_of_mem _ hb
   have hL:L∈frs (env::r):=by unfold frs;rw[List.filterMap_cons,hf];exact List.mem_cons_self
   obtain⟨sl,e⟩:=hs L o ho hL
   exact⟨hk,⟨L,_,hf,hB L hL,e,hd⟩,ih hr (fun b hb=>hB b (sub b hb)) fun b o q hb=>hs b o q (sub b hb)⟩
structure Trc(h h':Heap)(H:Hp)(a:Addr)(cls:Value)(od:Option Addr):Prop where
 new:h.get? a=none
 nH:H a=none
 ex:∃ oe vs a0 T oT ts,h'.get? a=some oe/\oe.cls=cls/\vs[0]?=some a0/\oe.data=Data.fields vs/\vs[1]?=some (Value.ref T)/\T≠a/\h'.get? T=some oT/\oT.data=Data.fields ts/\ts[3]?=some Value.none/\h.get? T=none/\H T=none/\oe.dict=od
def Fly(P:Program)(w:World):CXT:=fun outer H s E e s' =>
 ∃ a cls od H',e=Value.ref a/\0<s'.toks/\s'.os=s.os/\AllBare s'.gens/\Un (frs outer) [] H H' s.heap s'.heap/\HOk P w H' s'.heap/\Trc s.heap s'.heap H' a cls od/\E cls od H'
abbrev qp0(h:Heap)(a T:Addr)(l:List Env):Heap:=PySem.W.hideAll h (a::T::frs l)
theorem wa0(h:Heap)(a T:Addr)(l:List Env):(qp0 h a T l).StaysIn h:=fun b o e=>PySem.W.of_hideAll _ e
theorem yd8:(qp0 h a T l).get? a=none:=PySem.W.hideAll_none _ (by simp)
theorem yy7:(qp0 h a T l).get? T=none:=PySem.W.hideAll_none _ (by simp)
theorem xn8:∀ b∈frs l,(qp0 h a T l).get? b=none:=fun b hb=>PySem.W.hideAll_none _ (by simp[hb])
theorem yy8(hs:(qp0 h a T l).StaysIn h2)(hf:∀ b o,h.get? b=some o->(∀ vs:Array Value,o.data≠Data.fields vs)->∃ sl,h2.get? b=some {cls:=o.cls,dict:=o.dict,data:=o.data,slots:=sl})(ff:h.FunFrames base l):Aw l a T h h2:=by
 refine⟨fun b o e n1 n2 n3=>hs b o (PySem.W.hideAll_get _ e (by simp[n1,n2,n3])),fun b o e hb=>?_⟩
 obtain⟨_,o',e',d⟩:=ff.mem hb
 rw[e] at e';cases e'
 exact hf b _ e d
theorem yy9{a0:Value}{h0:Heap}(new:h0.get? a=none)(nH:H a=none)(nT0:h0.get? T=none)(nT:H T=none)(hu:∀ b o,h0.get? b=some o->∃ o',h.get? b=some o')(hok:HOk P w H h)(ff:h2.FunFrames base l)(t:h2.TracedW (qp0 h a T l) a cls a0)(hd:∀ o,h2.get? a=some o->o.dict=od):Trc h0 h2 H a cls od:=by
 obtain⟨oe,vs,T',oT,ts,e1,⟨e2,e3⟩,e4,e5,e6,e7,e8,e9,e10⟩:=t
 have q:h0.get? T'=none/\H T'=none:=by
  by_cases z:T'=T
  ·rw[z];exact⟨nT0,nT⟩
  ·have hb:T'∉frs l:=fun hb=>by
    obtain⟨_,o,eo,d⟩:=ff.mem hb
    rw[e8] at eo;cases eo
    exact d _ e9
   have hh:h.get? T'=none:=by
    cases q:h.get? T' with
    | none=>rfl
    | some u =>
      have:=PySem.W.hideAll_get (a::T::frs l) q (by simp[z,e7,hb])
      rw[e6] at this;cases this
   refine⟨?_,hok.gone hh⟩
   cases q:h0.get? T' with
   | none=>rfl
   | some u =>
     obtain⟨_,r⟩:=hu _ _ q
     rw[hh] at r;cases r
 exact⟨new,nH,oe,vs,a0,T',oT,ts,e1,e2,e3,e4,e5,e7,e8,e9,e10,q.1,q.2,hd _ e1⟩
end
variable{d:Drawn}{Q':Value->Shared->Prop}
section
variable{E:XK}
theorem yz0(I:Inv X pins σ H s)(u:Un (frs X.stack) [] H H' s.heap h'):∀ b∈frs X.stack,H' b=none:=fun b hb=>by
 obtain⟨_,o,e,_⟩:=I.stack.mem hb
 exact u.free b o e (I.stkFree b hb) (by simp)
theorem yd9(I:Inv X pins σ H s){B:Heap}(u:Un (frs X.stack) [] H H' s.heap h')(hB:∀ b∈frs X.stack,B.get? b=none):h'.FunFrames B X.stack :=
 Ab6 I.stack hB fun b o e hb=>u.slot b o e (I.stkFree b hb) hb (by simp)
theorem Inv.landed{T:Addr}{g:Array GenState}{t:Nat}(I:Inv X pins σ H s)(u:Un (frs X.stack) [] H H' s.heap s'.heap)(hok:HOk X.prog X.w H' s'.heap)(hg:AllBare g)(ht:0<t)(na:s.heap.get? a=none)(nT:s.heap.get? T=none)(ha:H' a=none)(hT:H' T=none)(w:Aw X.stack a T s'.heap h2):Inv X pins σ H' {s with heap:=h2,gens:=g,drawn:=d,toks:=t} :=
 I.call (ch:=[]) (u.away na nT w) (hok.away (yz0 I u) ha hT w) hg (fun b z=>absurd z (by simp)) ht
def yz1(X:Cx)(E:XK):Prop:=∀ (pins:List (Addr×Obj)) (σ:St) (H:Hp) (s:Shared) (h':Heap) (a:Addr) (cls:Value) (vs:List Value),Inv X pins σ H s->s.heap.MadeExcOf h' a cls vs->E cls none H->X.xe (.ref a) {s with heap:=h'}
theorem ws8{t:Addr}(hst:X.stack=X.env::X.outer)(hex:X.ex=[])(hf:X.env.frame=some X.env.locals)(I:Inv X pins σ H s)(u:Un (frs X.stack) [] H H' s.heap s'.heap)(hok:HOk X.prog X.w H' s'.heap)(tk:0<s'.toks)(os:s'.os=s.os)(bare:AllBare s'.gens)(new:s.heap.get? a=none)(na:H' a=none)(e1:s'.heap.get? a=some {cls:=cls,dict:=od,data:=.fields #[.ref t,.none,.none,.none,.bool false,.none]})(hE:E cls od H') :
 wpAny (model X.prog X.w) X.A (leaving X.env (.ref a)) (fun _ s''=>Fly X.prog X.w X.outer X.H₀ X.s₀ E (.ref a) s'') Q' s':=by
 have ff:s'.heap.FunFrames (qp0 s'.heap a a X.stack) X.stack:=yd9 I u xn8
 refine wpAny_mono (ws3 (ws7 _ _) (ws2.of e1 rfl) (wpAny_leaving_firstW (Q:=fun _ s''=>∃ h2,s''={s' with heap:=h2}/\Heap.LeftW (qp0 s'.heap a a X.stack) (X.env::X.outer) a cls (.ref t) s'.heap h2) (base:=qp0 s'.heap a a X.stack) (outer:=X.outer) (L:=X.env.locals) (a0:=Value.ref t) (by rw[I.ok.frames,hst]) (by rw[<-hst];exact ff) hf e1 (wa0 _ _ _ _) yd8 rfl rfl rfl fun h2 L=>⟨h2,rfl,L⟩)) (fun _ s2 h=>?_) fun _ _ h=>h
 obtain⟨⟨h2,rfl,L⟩,hD⟩:=h
 rw[<-hst] at L
 obtain⟨L1,L2,L3,L4⟩:=L
 have aw:Aw X.stack a a s'.heap h2:=yy8 L1 L4 ff
 have J:Inv X pins σ H' {s with heap:=h2,gens:=s'.gens,drawn:=s'.drawn,toks:=s'.toks}:=I.landed u hok bare tk new new na na aw
 have hs0:∀ b o,X.s₀.heap.get? b=some o->∃ o',s.heap.get? b=some o':=fun b o e=>I.base.there b o e (by rw[hex];simp)
 have new0:X.s₀.heap.get? a=none:=by
  cases q:X.s₀.heap.get? a with
  | none=>rfl
  | some o=>obtain⟨_,r⟩:=hs0 a o q;rw[new] at r;cases r
 refine⟨a,cls,od,H',rfl,tk,os.trans I.os,bare,?_,J.hok,yy9 new0 na new0 na (fun b o e=>?_) hok L2 L3 (fun o g=>hD.at g),hE⟩
 ·have:=J.base;rw[hex] at this;exact this
 ·obtain⟨o',r⟩:=hs0 b o e
  exact u.there b o' r (by simp)
theorem yq8{vs:List Value}(hst:X.stack=X.env::X.outer)(hex:X.ex=[])(hf:X.env.frame=some X.env.locals)(I:Inv X pins σ H s)(m:s.heap.MadeExcOf h' a cls vs)(hE:E cls none H) :
 wpAny (model X.prog X.w) X.A (leaving X.env (.ref a)) (fun _ s''=>Fly X.prog X.w X.outer X.H₀ X.s₀ E (.ref a) s'') Q' {s with heap:=h'}:=by
 obtain⟨t,e1,e2,e3⟩:=m.there
 exact ws8 (s':={s with heap:=h'}) hst hex hf I (Un.kept m.keeps) (I.hok.kept m.keeps) I.tk rfl I.bare m.new (I.hok.gone m.new) e1 hE
theorem yz2{e:Value}(hst:X.stack=X.env::X.outer)(hex:X.ex=[])(hf:X.env.frame=some X.env.locals)(I:Inv X pins σ H s)(F:Fly X.prog X.w X.stack H s E e s') :
 wpAny (model X.prog X.w) X.A (leaving X.env e) (fun _ s''=>Fly X.prog X.w X.outer X.H₀ X.s₀ E e s'') Q' s':=by
 obtain⟨a,cls,od,H',rfl,tk,os,bare,u,hok,tr,hE⟩:=F
 obtain⟨oe,vs,a0,T,oT,ts,e1,e2,e3,e4,e5,e6,e7,e8,e9,e10,e11,e12⟩:=tr.ex
 have ff:s'.heap.FunFrames (qp0 s'.heap a T X.stack) X.stack:=yd9 I u xn8
 refine wpAny_mono (ws3 (ws7 _ _) (ws2.of e1 e12) (wpAny_leaving_nextW (Q:=fun _ s''=>∃ h2,s''={s' with heap:=h2}/\Heap.LeftW (qp0 s'.heap a T X.stack) (X.env::X.outer) a cls a0 s'.heap h2) (base:=qp0 s'.heap a T X.stack) (outer:=X.outer) (L:=X.env.locals) (cls:=cls) (a0:=a0) (by rw[I.ok.frames,hst]) (by rw[<-hst];exact ff) hf ⟨oe,vs,T,oT,ts,e1,⟨e2,e3⟩,e4,e5,yy7,e6,e7,e8,e9⟩ (wa0 _ _ _ _) yd8 fun h2 L=>⟨h2,rfl,L⟩)) (fun _ s2 h=>?_) fun _ _ h=>h
 obtain⟨⟨h2,rfl,L⟩,hD⟩:=h
 rw[<-hst] at L
 obtain⟨L1,L2,L3,L4⟩:=L
 have aw:Aw X.stack a T s'.heap h2:=yy8 L1 L4 ff
 have J:Inv X pins σ H' {s with heap:=h2,gens:=s'.gens,drawn:=s'.drawn,toks:=s'.toks}:=I.landed u hok bare tk tr.new e10 tr.nH e11 aw
 have hs0:∀ b o,X.s₀.heap.get? b=some o->∃ o',s.heap.get? b=some o':=fun b o e=>I.base.there b o e (by rw[hex];simp)
 have new0:∀ c,s.heap.get? c=none->X.s₀.heap.get? c=none:=fun c n=>by
  cases q:X.s₀.heap.get? c with
  | none=>rfl
  | some o=>obtain⟨_,r⟩:=hs0 c o q;rw[n] at r;cases r
 refine⟨a,cls,od,H',rfl,tk,os.trans I.os,bare,?_,J.hok,yy9 (new0 a tr.new) tr.nH (new0 T e10) e11 (fun b o e=>?_) hok L2 L3 (fun o g=>hD.at g),hE⟩
 ·have:=J.base;rw[hex] at this;exact this
 ·obtain⟨o',r⟩:=hs0 b o e
  exact u.there b o' r (by simp)
end
section
variable{f:Addr}{E:XK}
theorem qm8:yz1 (qx6 (Fly P w) P w K mg base N qual scope f cd A outer s H E) E:=fun pins σ H1 s1 h' a cls vs I m hE =>
 yq8 (X:=qx6 (Fly P w) P w K mg base N qual scope f cd A outer s H E) rfl rfl rfl I m hE
def yk1(X:Cx)(E:XK):Prop:=∀ (pins:List (Addr×Obj)) (σ:St) (H H':Hp) (s s':Shared) (a t:Addr) (cls:Value) (od:Option Addr),Inv X pins σ H s->Un (frs X.stack) [] H H' s.heap s'.heap->HOk X.prog X.w H' s'.heap->0<s'.toks->s'.os=s.os->AllBare s'.gens->s.heap.get? a=none->H' a=none ->
 s'.heap.get? a=some {cls:=cls,dict:=od,data:=.fields #[.ref t,.none,.none,.none,.bool false,.none]}->E cls od H'->X.xe (.ref a) s'
theorem ye0:yk1 (qx6 (Fly P w) P w K mg base N qual scope f cd A outer s H E) E:=fun pins σ H1 H2 s1 s2 a t cls od I u hok tk os bare new na e1 hE =>
 ws8 (X:=qx6 (Fly P w) P w K mg base N qual scope f cd A outer s H E) rfl rfl rfl I u hok tk os bare new na e1 hE
theorem P8:xm1 (Fly P w) (qx6 (Fly P w) P w K mg base N qual scope f cd A outer s H E) E:=fun pins σ H1 s1 e s' I F =>
 yz2 (X:=qx6 (Fly P w) P w K mg base N qual scope f cd A outer s H E) rfl rfl rfl I F
theorem zu0:PassesOwn (model P w) (qx6 (Fly P w) P w K mg base N qual scope f cd A outer s H E).A (qx6 (Fly P w) P w K mg base N qual scope f cd A outer s H E).env (qx6 (Fly P w) P w K mg base N qual scope f cd A outer s H E).xe :=
 PassesOwn.leaving
theorem Fun.okX{k:Nat}(F:Fun K x qual st f fd)(S:D0 N ps (B5 st))(len:∀ vs H Q E,sp vs H Q E->vs.length=ps.length) (hbody:∀ (cdv:Value) (A:Around) (outer:List Env) (s:Shared) (H:Hp) (vs:List V) (Q:VK) (E:XK),qc0 k (A.deeper (envOfC qual (B5 st) s.heap.objs.size f cdv))->sp vs H Q E ->
  ∃ t,PSs (qx6 (Fly P w) P w K mg base N qual (B5 st) f cdv A outer s H E) (qo4 st) t/\t {nx:=fun _ H'=>Q .non H',rt:=Q} (G9 N vs) H):M5 P w K mg base (Fly P w) (k+1) f fd ps sp:=by
 obtain⟨oc,od,kV,doc,pm,an,cdv,ct,osl,rfl,lk,hcd⟩:=F.ex
 exact zm0 lk hcd S len fun A outer s H vs Q E hr hsp=>hbody cdv A outer s H vs Q E hr hsp
end
abbrev bmV:List Value:=[Value.type "ValueError",Value.type "Exception",Value.type "BaseException",Value.type "object"]
structure Ab7(K:Fg)(mg:Str->Option Value)(x:Str)(C:Addr):Prop where
 mx:mg x=some (.ref C)
 ix:PySem.W.excIn K C bmV "ValueError.__new__"=true
variable{bmB:List Value}{newId:String}
theorem zh8(X:K.In h)(q:PySem.W.excIn K C bmB newId=true) :
 ∃ bm N nm qn bs hd sn sub ab col dd k0 k1 k2 k3 k5 mN,h.get? C=some (excClassObj nm qn C N bs bm hd sn sub ab col dd k0 k1 k2 k3 k5 newId)/\h.Ns N mN/\mN "__init__"=none/\OwnTail h bmB bm:=by
 revert q
 unfold PySem.W.excIn
 split
 next dd cd sl ho =>
  split
  next C' bm k0 k1 k2 k3 n k5 hm hs =>
   intro q
   simp only[Bool.and_eq_true,beq_iff_eq,Bool.not_eq_true'] at q
   obtain⟨⟨⟨⟨⟨q1,q2⟩,q3⟩,q4⟩,q5⟩,q6⟩:=q
   subst q1 q2
   cases cd
   simp only at hm q3 q5 q6
   subst hm q3
   obtain⟨sl⟩:=sl
   simp only at hs
   subst hs
   exact⟨bm,_,_,_,_,_,_,_,_,_,dd,k0,k1,k2,k3,k5,_,X _ _ ho,.of_isNs (PySem.W.isNs_of_in X q5),PySem.W.nsMap_none_of_in X q5 q6,PySem.W.tail_of_in X q4⟩
  next=>intro q;cases q
 next=>intro q;cases q
variable{e₀:Expr}{np:Pos}
section
variable{t:TA}{E:XK}
def wg1(C:Addr)(E:XK)(t:TA):TS:=fun _ σ H=>t σ H fun vs H1=>vs.length<=sizeLine/\E (.ref C) none H1
theorem qu0(hx:yz1 X E)(hg:Gl X x)(O:Ab7 X.K X.mg x C)(hc:X.calm=true)(ha:PA X (e₀::es) t)(hdb:autoParam ((x == ("__debug__":Str))=false) zAd)(he:autoParam (starEach (e₀::es) X.env=(false,eval e₀ X.env)::starEach es X.env) zAr)(hpl:autoParam ((backTo cpos (starEach es X.env)).any (·.1)=false) zAr) :
 PS X (.Raise (some (.Call (.Name x np) (e₀::es) [] cpos)) none pos) (wg1 C E t):=by
 intro pins s σ H D I h
 obtain⟨bm,N,nm,qn,bs,hd,sn,sub,ab,col,dd,k0,k1,k2,k3,k5,mN,c1,c2,c3,c4⟩:=zh8 I.ok.mod.kin O.ix
 refine wpAny_Raise_call_subT (k5:=k5) (k3:=k3) (k2:=k2) (k1:=k1) (k0:=k0) (dd:=dd) (col:=col) (ab:=ab) (sub:=sub) (sn:=sn) (hdct:=hd) (bs:=bs) (nm:=nm) (q:=qn) (C:=C) (N:=N) (bm:=bm) (mN:=mN) F.excBase_ValueError (c4.hasType F.excBase_ValueError.hasBase) (I.ok.hd hc) (by rw[he];show(false || (backTo cpos (starEach es X.env)).any (·.1))=false;rw[hpl];rfl) c3 (qn8 I hg O.mx ⟨rfl,?_⟩ hdb)
 have A:=ha cpos pins s σ H _ I h
 rw[he] at A ⊢
 refine Calls.evalArgs_plain (thn A fun us s1 zq=>?_)
 obtain⟨vs,H1,I1,r,q1,q2⟩:=zq
 exact⟨rfl,by rw[<-r.length];exact q1,I1.bk _ _ c1,c2.keeps I1.bk,c4.keeps I1.bk,fun h' a m=>hx pins σ H1 s1 h' a _ us I1 m q2⟩
end
abbrev Cx.held(X:Cx)(a:Addr)(E:Value->Shared->Prop):Cx:={X with A:=X.A.mark (some (.ref a)),calm:=false,xe:=E}
theorem Cx.Ok.held(ok:X.Ok)(a:Addr)(E:Value->Shared->Prop):(X.held a E).Ok :=
 ⟨ok.mod,ok.kind,ok.glob,ok.blt,ok.above,ok.inj,ok.has,ok.cab,(fun z=>Bool.noConfusion z),ok.frames,ok.stk,ok.exf,ok.bs,ok.bsz,ok.noex,ok.exfs,ok.funs,ok.frf⟩
theorem Inv.held(I:Inv X pins σ H s)(a:Addr)(E:Value->Shared->Prop):Inv (X.held a E) pins σ H s:=⟨I.ok.held a E,I.os,I.bare,I.base,I.loc,I.cell,I.free,I.freeC,I.pin,I.hok,I.len,I.tk⟩
theorem Inv.unheld(ok:X.Ok)(I:Inv (X.held a E) pins σ H s):Inv X pins σ H s:=⟨ok,I.os,I.bare,I.base,I.loc,I.cell,I.free,I.freeC,I.pin,I.hok,I.len,I.tk⟩
theorem SP.unheld{f:Flow}(ok:X.Ok)(h:SP (X.held a E) pins D f s'):SP X pins D f s':=by
 cases f with
 | next=>obtain⟨σ',H',I,q⟩:=h;exact⟨σ',H',I.unheld ok,q⟩
 | brk=>obtain⟨σ',H',I,q⟩:=h;exact⟨σ',H',I.unheld ok,q⟩
 | cont=>obtain⟨σ',H',I,q⟩:=h;exact⟨σ',H',I.unheld ok,q⟩
 | ret u=>obtain⟨v,σ',H',I,r,q⟩:=h;exact⟨v,σ',H',I.unheld ok,r,q⟩
def PX(X:Cx)(e:Expr)(t:XK->TE):Prop :=
 ∀ (pins:List (Addr×Obj)) (s:Shared) (σ:St) (H:Hp) (Q:VK) (E:XK) (xe':Value->Shared->Prop),Inv X pins σ H s->(∀ H1 s1 e s2,Inv X pins σ H1 s1->Fly X.prog X.w X.stack H1 s1 E e s2->xe' e s2)->t E σ H Q ->
  wpAny (model X.prog X.w) X.A (eval e X.env) (EP X pins σ Q) xe' s
section
variable{k:Nat}{f D:Addr}{dvs:List V}{ds:List Value}{p:Pos}{t:TA}
theorem zh9(F:M5 X.prog X.w X.K X.mg X.base (Fly X.prog X.w) k f fd ps sp)(hr:qc0 k X.A)(hg:Gl X x)(hm:X.mg x=some (.ref f))(hk:PySem.W.keepIn X.K (.ref f)=true)(hb:wb5 X.K fd ps ds)(hd:G0 dvs ds)(ha:∀ xe',PA (X.wish xe') (e::es) t)(hdb:autoParam ((x == ("__debug__":Str))=false) zAd)(he:autoParam (starEach (e::es) X.env=(false,eval e X.env)::starEach es X.env) zAr)(hpl:autoParam ((backTo pos (starEach es X.env)).any (·.1)=false) zAr) :
 PX X (.Call (.Name x p) (e::es) [] pos) (fun E=>B9 sp dvs E t):=by
 intro pins s σ H Q E xe' I hx h
 refine wpAny_Call_Name_kw (qn8 I hg hm ?_ hdb)
 refine PySem.W.callWith_K (h₀:=X.base) I.ok.mod.kin hk (thn (ha xe' pos pins s σ H _ (I.wish xe') h) fun us s1 ⟨vs,H1,I1,r,q⟩=>⟨I1.kIn,?_⟩) he hpl
 have J:=I1.unwish
 have r2:G0 (vs++dvs) (us++ds):=r.append hd
 have hl:(us++ds).length=ps.length:=by rw[<-r2.length];exact F.len _ _ _ _ q
 refine wpAny_call (codeAny_mono (F.run X.A X.stack s1 H1 ⟨us,[]⟩ (us++ds) (vs++dvs) Q E hr J.env0 (hb s1 us J.kIn hl) r2 q) fun r s' hq=>?_)
 cases r with
 | error e=>exact hx H1 s1 e s' J hq
 | ok fl =>
   cases fl with
   | ret u=>exact J.after hq
   | next=>exact False.elim hq
   | brk=>exact False.elim hq
   | cont=>exact False.elim hq
theorem Ab8{E:XK}{e:Value}{hs:List ExceptHandler}{Q:Flow->Shared->Prop}{E':Value->Shared->Prop}(hst:X.stack=X.env::X.outer)(hf:X.env.frame=some X.env.locals)(I:Inv X pins σ H s)(F:Fly X.prog X.w X.stack H s E e s') (k:∀ a cls od H' s2,e=.ref a->s.heap.get? a=none->E cls od H'->Inv X pins σ H' s2->(∃ oe,s2.heap.get? a=some oe/\oe.cls=cls) ->
  (∀ (A:Around) (E2:Value->Shared->Prop) (Q2:Unit->Shared->Prop),(∀ s3,Inv X pins σ H' s3->(∃ oe,s3.heap.get? a=some oe/\oe.cls=cls/\oe.dict=od/\∃ vs,oe.data=Data.fields vs)->H' a=none->Q2 () s3)->wpAny (model X.prog X.w) A (setFlight (.ref a) none) Q2 E2 s2) ->
  wpAny (model X.prog X.w) X.A (handleBy (.ref a) X.env hs) Q E' s2) :
 wpAny (model X.prog X.w) X.A (noteFrame e X.env) (fun _ s₂=>wpAny (model X.prog X.w) X.A (setFlight e none) (fun _ s₃=>wpAny (model X.prog X.w) X.A (handleBy e X.env hs) Q E' s₃) E' s₂) E' s':=by
 obtain⟨a,cls,od,H',rfl,tk,os,bare,u,hok,tr,hE⟩:=F
 obtain⟨oe,vs,a0,T,oT,ts,e1,e2,e3,e4,e5,e6,e7,e8,e9,e10,e11,e12⟩:=tr.ex
 have ff:s'.heap.FunFrames (qp0 s'.heap a T X.stack) X.stack:=yd9 I u xn8
 have W:(qp0 s'.heap a T X.stack).FlyingW X.stack a cls a0 s'.heap:=⟨wa0 _ _ _ _,yd8,ff,oe,vs,T,oT,ts,e1,⟨e2,e3⟩,e4,e5,yy7,e6,e7,e8,e9⟩
 have inv:∀ {h2:Heap},(qp0 s'.heap a T X.stack).FlyingW X.stack a cls a0 h2->s'.heap.UpToSlots h2->Inv X pins σ H' {s' with heap:=h2}:=fun{h2} W2 U2=>by
  have aw:Aw X.stack a T s'.heap h2:=yy8 W2.1 U2 ff
  have J:=I.landed (g:=s'.gens) (d:=s'.drawn) (t:=s'.toks) u hok bare tk tr.new e10 tr.nH e11 aw
  obtain⟨hh,g,d,t,os'⟩:=s'
  obtain rfl:os'=s.os:=os
  exact J
 refine wpAny_mono (ws3 (yk0 _ _) (ws2.of e1 e12) (wpAny_looks_onW (Q:=fun _ s2=>∃ h1,s2={s' with heap:=h1}/\Heap.HeldW (qp0 s'.heap a T X.stack) (X.env::X.outer) a cls a0 X.env.locals h1/\s'.heap.UpToSlots h1) (base:=qp0 s'.heap a T X.stack) (outer:=X.outer) (by rw[I.ok.frames,hst]) hf (by rw[<-hst];exact W) fun h1 W1 U1=>⟨h1,rfl,W1,U1⟩)) (fun _ sA h=>?_) fun _ _ h=>h
 obtain⟨⟨h1,rfl,W1,U1⟩,D1⟩:=h
 refine wpAny_mono (ws3 (qo9 _ _) D1 (wpAny_landsW (s:={s' with heap:=h1}) (Q:=fun _ s2=>∃ h2,s2={s' with heap:=h2}/\Heap.FlyingW (qp0 s'.heap a T X.stack) (X.env::X.outer) a cls a0 h2/\h1.UpToSlots h2) W1 fun h2 W2 U2=>⟨h2,rfl,W2,U2⟩)) (fun _ sB h=>?_) fun _ _ h=>h
 obtain⟨⟨h2,rfl,W2,U2⟩,D2⟩:=h
 rw[<-hst] at W2
 have U12:=U1.trans U2
 refine k a cls od H' _ rfl tr.new hE (inv W2 U12) ?_ fun A E2 Q2 hQ=>wpAny_mono (ws3 (qo9 _ _) D2 (lands_againW (s:={s' with heap:=h2}) (Q:=fun _ s3=>∃ h3,s3={s' with heap:=h3}/\Heap.FlyingW (qp0 s'.heap a T X.stack) X.stack a cls a0 h3/\h2.UpToSlots h3) W2 fun h3 W3 U3=>⟨h3,rfl,W3,U3⟩)) (fun _ sC h=>?_) fun _ _ h=>h
 ·obtain⟨oe',vs',T',oT',ts',f1,⟨f2,f3⟩,_⟩:=W2.2.2.2
  exact⟨oe',f1,f2⟩
 ·obtain⟨⟨h3,rfl,W3,U3⟩,D3⟩:=h
  refine hQ _ (inv W3 (U12.trans U3)) ?_ tr.nH
  obtain⟨oe',vs',T',oT',ts',f1,⟨f2,f3⟩,f4,_⟩:=W3.2.2.2
  exact⟨oe',f1,f2,D3.at f1,vs',f4⟩
end
structure ws9(K:Fg)(C:Addr):Prop where
 ga:PySem.W.findIn K (.ref C) "__getattribute__"=some (some (.builtin "BaseException.__getattribute__"))
 gn:PySem.W.findIn K (.ref C) "__getattr__"=some none
 cl:PySem.W.findIn K (.ref C) "__class__"=some (some (.builtin "object.__class__"))
 bx:PySem.W.subIn K (.ref C) (.type "BaseException")=some true
 ob:PySem.W.subIn K (.ref C) (.type "object")=some true
variable{os:OsState}{nameV:Value}{tk:Tok}{B:String}
section
variable{g:Array GenState}{t:Nat}{o:Obj}
theorem yz3(X:K.In h)(Z:ws9 K C)(hx:h.get? a=some o)(hc:o.cls=.ref C)(hq:R (.ok (.ret (.ref C))) ⟨h,g,d,t,os⟩) :
 codeAny (model prog w) A (.call (.builtin "getset_descriptor.__get__") ⟨[.builtin "object.__class__",.ref a,.ref C],[]⟩) R ⟨h,g,d,t,os⟩:=by
 have hT5:(⟨h,g,d,t,os⟩:Shared).TypeIs (.builtin "object.__class__") "getset_descriptor":=F.typeOf_object_class
 have L:=PySem.W.looks_subIn (M:=model prog w) X Z.ob
 rw[<-F.owner_object_class] at L
 refine codeAny_call_builtin F.slot_gs_get.plain F.entry_gs_get (F.slot_gs_get.check _ _ _ _ _ _ _ _ hT5 (F.args_gs_get _ _ _) ?_)
 repeat (any_goals (first|assumption|(with_reducible refine wpAny_loadPart_at hx ?_;rw[hc])|with_reducible refine L.at ?_|wp_step))
 refine⟨Code.quiet_builtin _ (by decide +kernel),codeAny_builtin F.entry_object_class ?_⟩
 repeat (any_goals (first|assumption|(with_reducible refine wpAny_loadPart_at hx ?_;rw[hc])|wp_step))
theorem wt0{Q:Unit->Shared->Prop}(X:K.In h)(Z:ws9 K C)(hx:h.get? a=some o)(hc:o.cls=.ref C)(hq:Q () ⟨h,g,d,t,os⟩) :
 wpAny M A (checkBuiltinCall "BaseException.__getattribute__" ⟨[.ref a,nameV],[]⟩) Q E ⟨h,g,d,t,os⟩:=by
 have hk:builtinKind "BaseException.__getattribute__"=some .slot:=by decide +kernel
 have hs:splitId "BaseException.__getattribute__"=some ("BaseException","__getattribute__"):=by decide +kernel
 have L:=PySem.W.looks_subIn (M:=M) X Z.bx
 have ha:=F.args_bexc_ga (.ref a) nameV
 simp only[checkBuiltinCall,hk,hs]
 refine wpAny_bind ?_
 ·unfold isInstance
  repeat (first|(with_reducible refine wpAny_loadPart_at hx ?_;rw[hc])|with_reducible refine L.at ?_|wp_step)
  exact hq
theorem ye1{Q:Fin->Shared->Prop}(X:K.In h)(Z:ws9 K C)(hx:h.get? a=some o)(hc:o.cls=.ref C)(hq:Q (.done (.ret (.ref C))) ⟨h,g,d,t,os⟩) :
 wpAny (model prog w) A (Builtin.«object.__getattribute__» ⟨[.ref a,.str "__class__" tk],[]⟩) Q E ⟨h,g,d,t,os⟩:=by
 have hT5:(⟨h,g,d,t,os⟩:Shared).TypeIs (.builtin "object.__class__") "getset_descriptor":=F.typeOf_object_class
 have f5:=F.typeOf_object_class
 have f6:=F.slot_gs_get.lookup
 have f7:=F.slot_gs_set.lookup
 have L:=PySem.W.looks_findIn (M:=model prog w) X Z.cl
 repeat (any_goals (first|assumption|(with_reducible refine wpAny_loadPart_at hx ?_;rw[hc])|with_reducible refine L.at ?_|wp_step))
 refine yz3 X Z hx hc ?_
 repeat (any_goals (first|assumption|wp_step))
theorem yq9(FB:ExcAttrFacts B)(X:K.In h)(Z:ws9 K C)(hx:h.get? a=some o)(hc:o.cls=.ref C)(hq:R (.ok (.ret (.ref C))) ⟨h,g,d,t,os⟩) :
 codeAny (model prog w) A (.call (.builtin "BaseException.__getattribute__") ⟨[.ref a,.str "__class__" tk],[]⟩) R ⟨h,g,d,t,os⟩ :=
 codeAny_call_builtin FB.ga.plain F.entry_bexc_ga (wt0 X Z hx hc (ye1 X Z hx hc hq))
theorem zi0(FB:ExcAttrFacts B)(X:K.In h)(Z:ws9 K C)(hx:h.get? a=some o)(hc:o.cls=.ref C)(hq:Q (.ref C) ⟨h,g,d,t,os⟩) :
 wpAny (model prog w) A (getAttrBy (.ref a) (.str "__class__" tk) false) Q E ⟨h,g,d,t,os⟩:=by
 have f3:=FB.ga.bind (.ref a)
 have hx0:(false && onTheHeap (Value.builtin "BaseException.__getattribute__"))=false:=rfl
 have hx2:(Value.builtin "BaseException.__getattribute__" == Value.builtin "object.__getattribute__")=false:=by decide +kernel
 have hx1:(onTheHeap (Value.ref C) && Value.builtin "BaseException.__getattribute__" == Value.builtin "object.__getattribute__")=false:=by rw[hx2];rfl
 have L1:=PySem.W.looks_findIn (M:=model prog w) X Z.ga
 have L2:=PySem.W.looks_findIn (M:=model prog w) X Z.gn
 repeat (any_goals (first|assumption|(with_reducible refine wpAny_loadPart_at hx ?_;rw[hc])|with_reducible refine L1.at ?_|with_reducible refine L2.at ?_|wp_step))
 refine yq9 FB X Z hx hc ?_
 repeat (any_goals (first|assumption|wp_step))
theorem yr0{Q:Option Value->Shared->Prop}(FB:ExcAttrFacts B)(X:K.In h)(Z:ws9 K C)(hx:h.get? a=some o)(hc:o.cls=.ref C)(hq:Q (some (.ref C)) ⟨h,g,d,t+1,os⟩) :
 wpAny (model prog w) A (getAttr? (.ref a) "__class__") Q E ⟨h,g,d,t,os⟩:=by
 unfold getAttr? getAttrBy?
 repeat (any_goals (first|assumption|with_reducible apply zi0 FB X Z hx hc|wp_step))
end
theorem wp2{i:Nat}{n:Str}{Q:Unit->Shared->Prop}(I:Inv X pins σ H s)(hN:X.N.Nodup)(hi:X.N[i]?=some n)(hk:X.env.scope.names.lookup n=some .local)(h:∀ s',Inv X pins (σ.set i none) H s'->Q () s'):wpAny M A (do bindName X.env n .none;unbindBehindTheSuite X.env n pos) Q E s:=by
 obtain⟨m,hn,hl⟩:=id I.loc
 have hp:(X.env.scope.kind == .class || (X.env.scope.kind == .module && X.env.locals != X.env.globals))=false:=by rw[I.ok.kind];rfl
 refine wpAny_nameGoes_keeps hk hn hp fun h' v hn' hs=>h _ ?_
 have other:∀ {b:Addr} {o:Obj},b≠X.env.locals->s.heap.get? b=some o->h'.get? b=some o:=fun nb e=>(hs.2 _ nb).trans e
 have low:∀ {b:Addr} {o:Obj},X.s₀.heap.get? b=some o->b≠X.env.locals:=fun e=>Nat.ne_of_lt (Nat.lt_of_lt_of_le (Heap.lt_size e) I.ok.above)
 have trk:∀ {b:Addr} {u:HO},H b=some u->b≠X.env.locals:=fun e z=>by rw[z,I.free] at e;cases e
 refine⟨I.ok,I.os,I.bare,⟨fun b o e z hb hx=>other (low e) (I.base.keep b o e z hb hx),fun b o e z hb hx=>?_,I.base.free,fun b o e hx=>?_,I.base.tups,I.base.frzs,I.base.tbls⟩,⟨_,hn',fun j y w e1 e2 e3=>?_⟩,fun y c e=>?_,I.free,I.freeC,fun p hp=>?_,fun b u e=>?_,?_,Nat.succ_pos _⟩
 ·obtain⟨sl,q⟩:=I.base.slot b o e z hb hx
  exact⟨sl,other (low e) q⟩
 ·obtain⟨o',q⟩:=I.base.there b o e hx
  exact⟨o',other (low e) q⟩
 ·by_cases hj:j=i
  ·subst hj
   have:=List.getElem?_set_self (l:=σ) (a:=(none:Option V)) (i:=j) (by rw[I.len];exact(List.getElem?_eq_some_iff.mp hi).1)
   rw[this] at e2;cases e2
  ·rw[List.getElem?_set_ne (Ne.symm hj)] at e2
   obtain⟨u,r,q⟩:=hl j y w e1 e2 e3
   refine⟨u,r,?_⟩
   rcases q with⟨k,e⟩|⟨k,c,e,z⟩
   ·have:y≠n:=fun e=>hj (wq0 hN e1 (e▸hi))
    exact .inl ⟨k,by simp[this,e]⟩
   ·exact .inr ⟨k,c,e,z.sameBut hs (I.cne y c e)⟩
 ·obtain⟨w,z⟩:=I.cell y c e
  exact⟨w,z.sameBut hs (I.cne y c e)⟩
 ·obtain⟨e,z,ne,nf,d⟩:=I.pin p hp
  exact⟨other ne e,z,ne,nf,d⟩
 ·refine(I.hok b u e).stay (fun c w hc q=>other ?_ q) (fun _ q=>q) fun _ _ q=>q
  rcases hc with rfl|hc
  ·exact trk e
  ·exact trk hc
 ·rw[List.length_set];exact I.len
theorem Inv.track{o:HO}(I1:Inv X pins σ H s)(na:s.heap.get? a=none)(I:Inv X pins σ H' s2)(ha:H' a=none)(hex:X.ex=[])(new:O5 X.prog X.w (upd H' a o) s2.heap a o):Inv X pins σ (upd H' a o) s2:=by
 have ne:∀ {b:Addr} {u:Obj},s.heap.get? b=some u->b≠a:=fun e z=>by rw[z,na] at e;cases e
 have nH:∀ {b:Addr} {u:HO},H' b=some u->b≠a:=fun e z=>by rw[z,ha] at e;cases e
 have n0:∀ {b:Addr} {u:Obj},X.s₀.heap.get? b=some u->b≠a:=fun{b u} e=>by
  obtain⟨u',q⟩:=I1.base.there b u e (by rw[hex];simp)
  exact ne q
 refine⟨I.ok,I.os,I.bare,⟨I.base.keep,I.base.slot,fun b u e z hx=>?_,I.base.there,fun b xs e=>?_,fun b u xs e=>?_,fun b ps e=>?_⟩,I.loc,I.cell,?_,fun y c e=>?_,fun p hp=>?_,fun b u e=>?_,I.len,I.tk⟩
 ·rw[C1 (n0 e)];exact I.base.free b u e z hx
 ·have:=I.base.tups b xs e;rw[C1 (nH this)];exact this
 ·have:=I.base.frzs b u xs e;rw[C1 (nH this)];exact this
 ·obtain⟨m,q⟩:=I.base.tbls b ps e
  exact⟨m,by rw[C1 (nH q)];exact q⟩
 ·obtain⟨m,⟨u,_,_,q,_⟩,_⟩:=I1.loc
  rw[C1 (ne q)];exact I.free
 ·obtain⟨v,u,q,_⟩:=I1.cell y c e
  rw[C1 (ne q)];exact I.freeC y c e
 ·obtain⟨e,z,n1,nf,d⟩:=I.pin p hp
  exact⟨e,by rw[C1 (ne (I1.pin p hp).1)];exact z,n1,nf,d⟩
 ·by_cases hb:b=a
  ·subst hb;rw[A7] at e;cases e;exact new
  ·rw[C1 hb] at e
   exact(I.hok b u e).stay (fun c v _ q=>q) (fun c q=>by rw[C1 (nH q)];exact q) fun c xs q=>by rw[C1 (nH q)];exact q
structure qs6(K:Fg)(D:Addr):Prop where
 c:PySem.W.isClsIn K D=true
 t:PySem.W.typeIn K (.ref D)=some (.type "type")
section
variable{D:Addr}{b:Bool}
theorem yk2(hs:PySem.W.subIn K (.ref C) (.ref C)=some true)(hc:qs6 K D)(h:PySem.W.subIn K (.ref C) (.ref D)=some b):PySem.W.kitOne K (.ref C) (.ref D)=some b:=by
 unfold PySem.W.kitOne
 by_cases e:C=D
 ·subst e
  rw[hs] at h;cases h
  rw[if_pos (by simp)]
 ·rw[if_neg (by simpa using e)]
  unfold PySem.W.kitCls
  dsimp only
  have h1:(PySem.W.clsIn K D).isSome=true:=hc.c
  rw[if_pos (by rw[h1,hc.t];rfl)]
  exact h
theorem zu1(hm:PySem.W.kitMeta T=true)(h:PySem.W.subIn K (.ref C) (.type T)=some b):PySem.W.kitOne K (.ref C) (.type T)=some b:=by
 unfold PySem.W.kitOne
 rw[if_neg (by simp)]
 unfold PySem.W.kitCls
 dsimp only
 rw[if_pos hm]
 exact h
theorem xv1(Z:ws9 K C)(hc:qs6 K C):PySem.W.KitX K (.ref a) (.ref C) (fun h=>∃ o,h.get? a=some o/\o.cls=.ref C) where
 ty:=fun M h X ⟨o,e,c⟩=>c▸(PySem.W.Looks.ld e).andThen .now
 it:=fun M h X _=>by
  have z:(PySem.W.clsIn K C).isSome=true:=hc.c
  unfold PySem.W.clsIn at z
  split at z
  next o1 o2 cd o3 ho =>
   intro A' Q' E' s' k q
   unfold isType loadHead
   exact wpAny_bind (wpAny_loadPart (k _ _ (X _ _ ho)) (wpAny_pure q))
  next=>cases z
 ne:=fun h tp dd its n sl X e=>by
  have z:(PySem.W.clsIn K C).isSome=true:=hc.c
  unfold PySem.W.clsIn at z
  split at z
  next o1 o2 cd o3 ho =>
   refine Bool.eq_false_iff.mpr fun q=>?_
   obtain rfl:C=tp:=Value.ref.inj (beq_iff_eq.mp q)
   have:=(X _ _ ho).symm.trans e
   cases this
  next=>cases z
 ca:=fun{prog w A E Q s} X ⟨o,e,c⟩ q=>by
  obtain⟨h,g,d,t,os⟩:=s
  exact yr0 F.excAttr_ValueError X Z e c q
end
structure xn9(K:Fg)(C:Addr):Prop where
 z:ws9 K C
 c:qs6 K C
 s:PySem.W.subIn K (.ref C) (.ref C)=some true
theorem xk1:∀ {cs:List Addr} {us:List Value},G0 (cs.map V.ref) us->us=cs.map Value.ref
 | [],_,.nil=>rfl
 | c::cs,_,.cons r t=>by
   have e:=xk1 t
   cases (show _=Value.ref c from r)
   rw[e];rfl
variable{cs:List Addr}
section
variable{Q:VK}{D:Addr}{b:Bool}
theorem yz4(E:xn9 K C)(h:∀ D∈cs,qs6 K D/\PySem.W.subIn K (.ref C) (.ref D)=some false):PySem.W.kitAny K (.ref C) (cs.map Value.ref)=some false:=by
 induction cs with
 | nil=>rfl
 | cons D cs ih =>
   obtain⟨h1,h2⟩:=h D List.mem_cons_self
   rw[List.map_cons,PySem.W.kitAny,yk2 E.s h1 h2]
   exact ih fun D' hD=>h D' (List.mem_cons_of_mem _ hD)
end
theorem wl3:bootBuiltins ("ValueError":Str)=some (.type "ValueError"):=PyProof.Rows.Boot.«ValueError»
theorem qs6.obj(c:qs6 K C)(X:K.In h):∃ o,h.get? C=some o/\o.cls=.type "type":=by
 have z:(PySem.W.clsIn K C).isSome=true:=c.c
 have t:=c.t
 unfold PySem.W.clsIn at z
 split at z
 next o1 o2 cd o3 ho =>
  refine⟨_,X _ _ ho,?_⟩
  simpa [PySem.W.typeIn,ho] using t
 next=>cases z
theorem yr1{x:Sem Value}{Q:Flow->Shared->Prop}(hb:PySem.W.subIn K (.ref C) (.type "BaseException")=some true)(hc:qs6 K C)(hh:A.handled=none)(h:wpAny M A x (fun v s₁=>∃ e dx t,v=.ref e/\K.In s₁.heap/\s₁.heap.get? e=some {cls:=.ref C,dict:=dx,data:=.fields #[t,.none,.none,.none,.bool false,.none]}/\E (.ref e) s₁) E s) :
 wpAny M A (raiseStmt env (some x) none) Q E s:=by
 unfold raiseStmt
 refine wpAny_bind (wpAny_mono h (fun v s₁ h₁=>?_) fun _ _ x=>x)
 obtain⟨e,dx,t,rfl,X,he,hE⟩:=h₁
 obtain⟨hp,g,d,tk,os⟩:=s₁
 have L:=PySem.W.looks_subIn (M:=M) X hb
 obtain⟨oC,hC,hCc⟩:=hc.obj X
 repeat (first|with_reducible refine wpAny_loadPart_at he ?_|(with_reducible refine wpAny_loadPart_at hC ?_;rw[hCc])|with_reducible refine L.at ?_|wp_step)
 exact wpAny_raiseNew_none hh hE
variable{ab:Bool}{bm sub rest:List Value}{col:Option Bool}{dd:Option Addr}{k0 k1 k2 k3 k5:Option Value}{q:Str}{sn:List Str}{fI:Addr}
section
variable{g:Array GenState}{t:Nat}
variable{nm:Str}{N:Addr}{bs:List Value}{hdct:Bool}{initId:String}
theorem Ab9(F:ExcBaseFacts B newId initId bmB)(T:OwnTail h bmB bm)(X:K.In h){Q:Fin->Shared->Prop}(hC:h.get? C=some (excClassObj nm q C N bs bm hdct sn sub ab col dd k0 k1 k2 k3 k5 newId))(hi:PySem.W.findIn K (.ref C) "__init__"=some (some (.ref fI)))(hf:PySem.W.typeIn K (.ref fI)=some (.type "function"))(hq:∀ h' e,h.objs.size<=e->Heap.MadeExcOf h h' e (.ref C) rest->wpAny (model prog w) A (call (.ref fI) (.ref e::rest)) (fun r s'=>r=.none/\Q (.done (.ret (.ref e))) s') E ⟨h',g,d,t,os⟩)(hz:rest.length<=sizeLine) :
 wpAny (model prog w) A (Builtin.«type.__call__» ⟨.ref C::rest,[]⟩) Q E ⟨h,g,d,t,os⟩:=by
 repeat (first|with_reducible refine wpAny_loadPart_at hC ?_|with_reducible refine wpAny_madeBy_exc hC ?_|wp_step)
 refine codeAny_call_builtin_code (Code.quiet_builtin _ F.quiet) (wpAny_check_new_subT F T hC ?_)
 refine codeAny_exc_new_subT F T hC ?_ hz
 show wpAny _ _ _ _ _ _
 have keep:∀ b o,h.get? b=some o->((h.push {cls:=.type "tuple",data:=.seq rest.toArray}).push {cls:=.ref C,data:=.fields #[.ref h.objs.size,.none,.none,.none,.bool false,.none]}).get? b=some o:=fun b o e=>Heap.get?_push_of_some _ (Heap.get?_push_of_some _ e)
 have here:((h.push {cls:=.type "tuple",data:=.seq rest.toArray}).push {cls:=.ref C,data:=.fields #[.ref h.objs.size,.none,.none,.none,.bool false,.none]}).get? (h.objs.size+1)=some {cls:=.ref C,data:=.fields #[.ref h.objs.size,.none,.none,.none,.bool false,.none]}:=by heap_get
 have own:(Value.ref C::bm).contains (.ref C)=true:=by simp
 have X1:=X.keeps keep
 have hC1:=keep _ _ hC
 unfold isInstance
 repeat (first|with_reducible refine wpAny_loadPart_at here ?_|(with_reducible refine wpAny_isSubtype_exc hC1 ?_;rw[own])|wp_step)
 show wpAny _ _ (typeLookup (.ref C) _) _ _ _
 refine(PySem.W.looks_findIn X1 hi).at ?_
 refine wpAny_holding (wpAny_bind ?_)
 unfold bindSpecial
 refine wpAny_bind ((PySem.W.looks_typeIn X1 hf).at ?_)
 rw[if_pos (by decide)]
 refine wpAny_pure (wpAny_bind (wpAny_mono (hq _ (h.objs.size+1) (Nat.le_succ _) ⟨keep,Heap.get?_none_of_le (Nat.le_succ _),h.objs.size,here,Heap.get?_none_of_le (Nat.le_refl _),?_⟩) (fun r s' hr=>?_) fun _ _ x=>x))
 ·exact Heap.get?_push_of_some _ (Heap.get?_push_at rfl rfl)
 ·obtain⟨rfl,hQ⟩:=hr
  wp_walk
  exact hQ
theorem Ac0(F:ExcBaseFacts B newId initId bmB)(T:OwnTail h bmB bm)(X:K.In h)(hC:h.get? C=some (excClassObj nm q C N bs bm hdct sn sub ab col dd k0 k1 k2 k3 k5 newId))(hi:PySem.W.findIn K (.ref C) "__init__"=some (some (.ref fI)))(hf:PySem.W.typeIn K (.ref fI)=some (.type "function"))(hq:∀ h' e,h.objs.size<=e->Heap.MadeExcOf h h' e (.ref C) rest->wpAny (model prog w) (A.under (.builtin "type.__call__" ⟨.ref C::rest,[]⟩)) (call (.ref fI) (.ref e::rest)) (fun r s'=>r=.none/\Q (.ref e) s') E ⟨h',g,d,t,os⟩)(hz:rest.length<=sizeLine) :
 wpAny (model prog w) A (call (.ref C) rest) Q E ⟨h,g,d,t,os⟩:=by
 have f1:=tc_lookup
 have f2:=tc_bind (.ref C)
 have hT:(⟨h,g,d,t,os⟩:Shared).TypeIs (.ref C) "type":=⟨_,hC,rfl⟩
 refine wpAny_call (codeAny_of_tree ?_)
 show wpAny _ _ (callAny (.ref C) _) _ _ _
 repeat (any_goals (first|assumption|with_reducible refine wpAny_loadPart_at hC ?_|wp_step))
 refine⟨rfl,?_⟩
 refine codeAny_call_builtin_at (Code.quiet_builtin _ (by decide +kernel)) entry_typeCall (wpAny_check_type_call_sub hC (Ab9 F T X hC hi hf (fun h' e hle hm=>?_) hz))
 exact hq h' e hle hm
theorem Ac1(F:ExcBaseFacts B newId initId bmB)(T:OwnTail h bmB bm){e t0:Addr}{dx:Option Addr}{v:Value}(hC:h.get? C=some (excClassObj nm q C N bs bm hdct sn sub ab col dd k0 k1 k2 k3 k5 newId))(he:h.get? e=some {cls:=.ref C,dict:=dx,data:=.fields #[.ref t0,.none,.none,.none,.bool false,.none]})(hq:∀ h' a,(∀ b o,b≠e->h.get? b=some o->h'.get? b=some o)->h'.get? e=some {cls:=.ref C,dict:=dx,data:=.fields #[.ref a,.none,.none,.none,.bool false,.none]}->Q .none ⟨h',g,d,t,os⟩) :
 wpAny (model prog w) A (call (.builtin initId) [.ref e,v]) Q E ⟨h,g,d,t,os⟩:=by
 refine wpAny_call (codeAny_call_builtin F.init.plain F.initEntry (wpAny_check_init_subT F T hC he rfl ?_))
 wp_walk
 refine hq _ h.objs.size (fun b o nb hb=>?_) ?_
 ·rw[Heap.get?_update_other _ _ (Ne.symm nb)]
  exact Heap.get?_push_of_some _ hb
 ·rw[Heap.get?_update_self _ (Heap.get?_push_of_some _ he) rfl]
  rfl
end
section
open Builtin Builtin.ObjectAttr
variable{g:Array GenState}{t:Nat}
variable{nm:Str}{N x:Addr}{bs:List Value}{y:Str}{v:Value}
theorem xv2{tl:List Value}(self:Value)(what:Str)(T:OwnTail h bmB tl):refuseLoop self what tl=refuseLoop self what bmB:=by
 induction T with
 | base=>rfl
 | own _ _ _ _ ih=>rw[refuseLoop_ref];exact ih
theorem ye2{Q:Fin->Shared->Prop}{ns:List Str}(SF:StoreFacts "ValueError" bmV "object.__setattr__" "object")(T:OwnTail h bmV bm)(X:K.In h)(hC:h.get? C=some (excClassObj nm q C N bs bm true sn sub ab col dd k0 k1 k2 k3 k5 newId))(hy:PySem.W.findIn K (.ref C) y=some none)(I:h.Inst x C mA) (hq:∀ h' tk',h'.Inst x C (fun z=>if z=y then some v else mA z) ->
  (∀ b o,b≠x->(∀ o0 dx,h.get? x=some o0->o0.dict=some dx->b≠dx)->h.get? b=some o->h'.get? b=some o) ->
  (∀ o0,h.get? x=some o0->∃ o1,h'.get? x=some o1/\o1.cls=o0.cls/\o1.data=o0.data/\o1.slots=o0.slots/\(∀ dx,o0.dict=some dx->o1.dict=some dx)/\(o0.dict=none->o1.dict=some h.objs.size))->t<=tk'->Q (.done (.ret .none)) ⟨h',g,d,tk',os⟩) (hw:Within mA ns) (hz:ns.length<=1000):wpAny (model prog w) A (Builtin.«object.__setattr__» ⟨[.ref x,.str y tk,v],[]⟩) Q E ⟨h,g,d,t,os⟩:=by
 obtain⟨o,ex,ec,enc,ed⟩:=I
 have hp:refuseLoop (.ref x) "__setattr__" bm=pure ():=(xv2 _ _ T).trans (SF.passes (.ref x))
 have L:=PySem.W.looks_findIn (M:=model prog w) X hy
 unfold Builtin.«object.__setattr__»
 repeat (first|rw[refuse_eq]|(rw[refuseLoop_ref,hp])|(with_reducible refine wpAny_loadPart_at ex ?_;rw[ec])|with_reducible refine wpAny_mroOf_exc hC ?_|with_reducible refine L.at ?_|wp_step)
 rcases ed with⟨dn,mn⟩|⟨dx,de,nx,hns⟩
 ·rw[dn,if_neg (by simp[typeHasDict])]
  split
  ·rename_i z;cases z
  split
  ·rename_i c z;exact absurd z (enc c)
  ·have ex1:(h.push {cls:=.type "dict",data:=.dict #[]}).get? x=some o:=Heap.get?_push_of_some _ ex
   have nxs:x≠h.objs.size:=Nat.ne_of_lt (Heap.lt_size ex)
   refine wpAny_bind (wpAny_alloc' (wpAny_bind (wpAny_update' ex1 (wpAny_pure ?_))))
   have e2:((h.push {cls:=.type "dict",data:=.dict #[]}).update x fun o=>{cls:=o.cls,dict:=some h.objs.size,data:=o.data,slots:=o.slots}).get? h.objs.size=some {cls:=.type "dict",data:=.dict #[]}:=(Heap.get?_update_ne _ _ _ _ nxs.symm).trans (Heap.get?_push_at rfl rfl)
   have e3:((h.push {cls:=.type "dict",data:=.dict #[]}).update x fun o=>{cls:=o.cls,dict:=some h.objs.size,data:=o.data,slots:=o.slots}).Ns h.objs.size (fun _=>none):=⟨_,#[],_,e2,rfl,fun e he=>absurd he (by simp),fun _=>rfl⟩
   show wpAny _ _ (storeInDict h.objs.size (.str y tk) y v) _ _ _
   unfold storeInDict newKeyGuard
   refine wpAny_bind (wpAny_pure (wpAny_bind (wpAny_nsSet1 (Heap.Ns1.of_empty e3) fun h' en es=>?_)))
   obtain⟨oD,eD,pD,f1,f2,f3⟩:=en.count (Within.cons y v Within.nil)
   refine wpAny_bind (wpAny_lookBehind f1 (by rw[f2];exact pastItsLine_dict (Nat.le_trans f3 (by rw[List.length_cons,List.length_nil,sizeLine_eq];omega))) ?_)
   wp_walk
   have ex':h'.get? x=some {cls:=o.cls,dict:=some h.objs.size,data:=o.data,slots:=o.slots}:=by
    refine(es.2 x nxs).trans (Heap.get?_update_self _ ex1 ?_)
    have fr:=(Heap.get?_some_iff.mp ex).2
    obtain⟨oc,od,odt,osl⟩:=o
    cases odt <;> first|rfl|exact fr
   refine hq h' _ ⟨_,ex',ec,enc,.inr ⟨h.objs.size,rfl,nxs.symm,?_⟩⟩ (fun b ob nb _ eb=>?_) (fun o0 e0=>?_) (Nat.le_succ _)
   ·obtain⟨o',l,p,a1,a2,a3,a4,a5⟩:=en
    exact⟨o',l,p,a1,a2,a3,a4,fun z=>by rw[a5 z];by_cases hz:z=y <;> simp[hz,mn]⟩
   ·exact(es.2 b (Nat.ne_of_lt (Heap.lt_size eb))).trans ((Heap.get?_update_ne _ _ _ _ nb).trans (Heap.get?_push_of_some _ eb))
   ·rw[ex] at e0;cases e0
    exact⟨_,ex',rfl,rfl,rfl,fun dx e=>(by rw[dn] at e;cases e),fun _=>rfl⟩
 ·rw[de]
  refine wpAny_pure ?_
  show wpAny _ _ (storeInDict dx (.str y tk) y v) _ _ _
  unfold storeInDict newKeyGuard
  refine wpAny_bind (wpAny_pure (wpAny_bind (wpAny_nsSet1 hns fun h' en es=>?_)))
  obtain⟨oD,eD,pD,f1,f2,f3⟩:=en.count (Within.cons y v hw)
  refine wpAny_bind (wpAny_lookBehind f1 (by rw[f2];exact pastItsLine_dict (Nat.le_trans f3 (by rw[List.length_cons,sizeLine_eq];omega))) ?_)
  wp_walk
  refine hq h' _ ⟨o,(es.2 x nx.symm).trans ex,ec,enc,.inr ⟨dx,de,nx,en⟩⟩ (fun b ob _ nb eb=>(es.2 b (nb o dx ex de)).trans eb) (fun o0 e0=>⟨o0,(es.2 x nx.symm).trans e0,rfl,rfl,rfl,fun _ e=>e,fun z=>by rw[ex] at e0;cases e0;rw[de] at z;cases z⟩) (Nat.le_succ _)
theorem ye3{o:Obj}{Q:Unit->Shared->Prop}(SF:StoreFacts "ValueError" bmV "object.__setattr__" "object")(T:OwnTail h bmV bm)(hC:h.get? C=some (excClassObj nm q C N bs bm true sn sub ab col dd k0 k1 k2 k3 k5 newId))(ex:h.get? x=some o)(ec:o.cls=.ref C)(hq:Q () ⟨h,g,d,t,os⟩) :
 wpAny M A (checkBuiltinCall "object.__setattr__" ⟨[.ref x,nameV,v],[]⟩) Q E ⟨h,g,d,t,os⟩:=by
 have cb:(Value.ref C::bm).contains (.type "object")=true:=by rw[List.contains_cons,T.hasType SF.hasOwner,Bool.or_true]
 have ha:=SF.args (.ref x) nameV v
 simp only[checkBuiltinCall,SF.kind,SF.split]
 refine wpAny_bind ?_
 ·unfold isInstance
  repeat (first|(with_reducible refine wpAny_loadPart_at ex ?_;rw[ec])|(with_reducible refine wpAny_isSubtype_exc hC ?_;rw[cb])|wp_step)
  exact hq
theorem Ac2{Q:Unit->Shared->Prop}{ns:List Str}(SF:StoreFacts "ValueError" bmV "object.__setattr__" "object")(T:OwnTail h bmV bm)(X:K.In h)(hC:h.get? C=some (excClassObj nm q C N bs bm true sn sub ab col dd k0 k1 k2 k3 k5 newId))(hsa:PySem.W.findIn K (.ref C) "__setattr__"=some (some (.builtin "object.__setattr__")))(hy:PySem.W.findIn K (.ref C) y=some none)(I:h.Inst x C mA) (hq:∀ h' tk',h'.Inst x C (fun z=>if z=y then some v else mA z) ->
  (∀ b o,b≠x->(∀ o0 dx,h.get? x=some o0->o0.dict=some dx->b≠dx)->h.get? b=some o->h'.get? b=some o) ->
  (∀ o0,h.get? x=some o0->∃ o1,h'.get? x=some o1/\o1.cls=o0.cls/\o1.data=o0.data/\o1.slots=o0.slots/\(∀ dx,o0.dict=some dx->o1.dict=some dx)/\(o0.dict=none->o1.dict=some h.objs.size))->t<=tk'->Q () ⟨h',g,d,tk',os⟩) (hw:Within mA ns) (hz:ns.length<=1000):wpAny (model prog w) A (setAttr (.ref x) y v) Q E ⟨h,g,d,t,os⟩:=by
 obtain⟨o,ex,ec,_⟩:=id I
 have f3:=SF.slot.bind (.ref x)
 have L:=PySem.W.looks_findIn (M:=model prog w) X hsa
 unfold setAttr callSpecial? specialOf
 repeat (any_goals (first|assumption|(with_reducible refine wpAny_loadPart_at ex ?_;rw[ec])|with_reducible refine L.at ?_|wp_step))
 refine codeAny_call_builtin SF.slot.plain SF.entry (ye3 SF T hC ex ec (ye2 SF T X hC hy I (fun h' tk' I' a b c=>?_) hw hz))
 repeat (any_goals (first|assumption|wp_step))
 exact hq h' tk' I' a b (by omega)
end
def yk3:R2:=fun x y H Q=>∃ a b:Bool,x=.bl a/\y=.bl b/\Q (.bl (!decide (a=b))) H
theorem yr2:OpR X (compareOp .IsNot) yk3:=by
 intro pins s σ H x y v u Q I rx ry h
 obtain⟨a,b,rfl,rfl,q⟩:=h
 cases rx
 cases ry
 show wpAny _ _ (isSame (.bool a) (.bool b) >>= _) _ _ s
 refine wpAny_bind (wpAny_of_eq (a:=(Value.bool a == Value.bool b)) rfl (wpAny_pure (M2 I q ?_)))
 cases a <;> cases b <;> rfl
def wt1(K:Fg)(C:Addr):Bool:=match K.lookup C with
 | some ⟨.type "type",_,.cls cd,sl⟩=>(match cd.mro,sl.toList with
   | .ref C'::bm,[_,_,_,_,some (.builtin n),_]=>C' == C && n == "ValueError.__new__" && !cd.hasDel && PySem.W.tailIn K bmV bm && cd.hasDict
   | _,_=>false)
 | _=>false
theorem qu1(X:K.In h)(q:wt1 K C=true) :
 ∃ bm N nm qn bs sn sub ab col dd k0 k1 k2 k3 k5,h.get? C=some (excClassObj nm qn C N bs bm true sn sub ab col dd k0 k1 k2 k3 k5 "ValueError.__new__")/\OwnTail h bmV bm:=by
 revert q
 unfold wt1
 split
 next dd cd sl ho =>
  split
  next C' bm k0 k1 k2 k3 n k5 hm hs =>
   intro q
   simp only[Bool.and_eq_true,beq_iff_eq,Bool.not_eq_true'] at q
   obtain⟨⟨⟨⟨q1,q2⟩,q3⟩,q4⟩,q5⟩:=q
   subst q1 q2
   cases cd
   simp only at hm q3 q5
   subst hm q3 q5
   obtain⟨sl⟩:=sl
   simp only at hs
   subst hs
   exact⟨bm,_,_,_,_,_,_,_,_,dd,k0,k1,k2,k3,k5,X _ _ ho,PySem.W.tail_of_in X q4⟩
  next=>intro q;cases q
 next=>intro q;cases q
section
variable{g:Array GenState}{t:Nat}{o:Obj}{y:Str}{v:Value}
theorem ye4{Q:Fin->Shared->Prop}(X:K.In h)(qi:wt1 K C=true)(hy:PySem.W.findIn K (.ref C) y=some none)(hx:h.get? a=some o)(hc:o.cls=.ref C)(hnc:∀ c,o.data≠.cls c)(hd:o.dict=some dx)(hn:h.Ns1 dx mA)(hv:mA y=some v)(hq:Q (.done (.ret v)) ⟨h,g,d,t,os⟩) :
 wpAny (model prog w) A (Builtin.«object.__getattribute__» ⟨[.ref a,.str y tk],[]⟩) Q E ⟨h,g,d,t,os⟩:=by
 obtain⟨bm,N,nm,qn,bs,sn,sub,ab,col,dd,k0,k1,k2,k3,k5,hC,T⟩:=qu1 X qi
 have L:=PySem.W.looks_findIn (M:=model prog w) X hy
 repeat (any_goals (first|assumption|(with_reducible refine wpAny_loadPart_at hx ?_;rw[hc])|with_reducible refine L.at ?_|wp_step))
 split
 ·rename_i c z;exact absurd z (hnc c)
 unfold instanceDict
 repeat (any_goals (first|assumption|(with_reducible refine wpAny_loadPart_at hx ?_;rw[hc])|with_reducible refine wpAny_loadPart_at hC ?_|with_reducible refine L.at ?_|wp_step))
 rw[hd]
 refine wpAny_pure ?_
 show wpAny _ _ (nsGet dx y) _ _ _
 refine wpAny_nsGet hn.ns ?_
 rw[hv]
 repeat (any_goals (first|assumption|wp_step))
theorem yr3(FB:ExcAttrFacts B)(X:K.In h)(Z:ws9 K C)(qi:wt1 K C=true)(hy:PySem.W.findIn K (.ref C) y=some none)(hx:h.get? a=some o)(hc:o.cls=.ref C)(hnc:∀ c,o.data≠.cls c)(hd:o.dict=some dx)(hn:h.Ns1 dx mA)(hv:mA y=some v)(hq:R (.ok (.ret v)) ⟨h,g,d,t,os⟩) :
 codeAny (model prog w) A (.call (.builtin "BaseException.__getattribute__") ⟨[.ref a,.str y tk],[]⟩) R ⟨h,g,d,t,os⟩ :=
 codeAny_call_builtin FB.ga.plain F.entry_bexc_ga (wt0 X Z hx hc (ye4 X qi hy hx hc hnc hd hn hv hq))
theorem Ae4{b:Bool}(FB:ExcAttrFacts B)(X:K.In h)(Z:ws9 K C)(qi:wt1 K C=true)(hy:PySem.W.findIn K (.ref C) y=some none)(hx:h.get? a=some o)(hc:o.cls=.ref C)(hnc:∀ c,o.data≠.cls c)(hd:o.dict=some dx)(hn:h.Ns1 dx mA)(hv:mA y=some v)(hh:PySem.W.handedIn v=true)(hq:Q v ⟨h,g,d,t+1,os⟩) :
 wpAny (model prog w) A (getAttr (.ref a) y b) Q E ⟨h,g,d,t,os⟩:=by
 have f3:=FB.ga.bind (.ref a)
 have hx2:(Value.builtin "BaseException.__getattribute__" == Value.builtin "object.__getattribute__")=false:=by decide +kernel
 have hx1:(onTheHeap (Value.ref C) && Value.builtin "BaseException.__getattribute__" == Value.builtin "object.__getattribute__")=false:=by rw[hx2];rfl
 have L1:=PySem.W.looks_findIn (M:=model prog w) X Z.ga
 have L2:=PySem.W.looks_findIn (M:=model prog w) X Z.gn
 unfold getAttr
 repeat (any_goals (first|assumption|(with_reducible refine wpAny_loadPart_at hx ?_;rw[hc])|with_reducible refine L1.at ?_|with_reducible refine L2.at ?_|wp_step))
 rw[if_neg (by show ¬(b && false)=true;cases b <;> decide)]
 repeat (any_goals (first|assumption|(with_reducible refine wpAny_loadPart_at hx ?_;rw[hc])|wp_step))
 refine yr3 FB X Z qi hy hx hc hnc hd hn hv ?_
 repeat (any_goals (first|assumption|wp_step))
 show wpAny _ _ (handedOut v) _ _ _
 rw[PySem.W.handedOut_of hh];exact wpAny_pure hq
end
def qm9(a C:Addr)(od:Option Addr):HO:=.ext fun h=>∃ o,h.get? a=some o/\o.cls=.ref C/\o.dict=od/\∃ vs,o.data=.fields vs
theorem zi1{o:Obj}(e:h.get? a=some o)(c:o.cls=.ref C)(d:o.dict=od)(v:∃ vs,o.data=.fields vs):O5 P w H h a (qm9 a C od) :=
 ⟨⟨o,e,c,d,v⟩,⟨o,e⟩,fun h1 h2 ⟨u,e1,r⟩ k=>⟨u,k u e1,r⟩⟩
structure ExI(K:Fg)(C:Addr)(f:Str):Prop where
 Z:ws9 K C
 qi:wt1 K C=true
 hy:PySem.W.findIn K (.ref C) f=some none
def yr4(K:Fg)(ta:TE)(f:Str):TE:=fun σ H Q=>ta σ H fun x H1=>∃ a C dx fs v,x=.ref a/\H1 a=some (qm9 a C (some dx))/\H1 dx=some (.xd fs)/\ExI K C f/\fs.lookup f=some v/\Q v H1
section
variable{f:Str}
theorem xo0(he:PE X e ta)(hb:attributeBase e f X.env (eval e X.env)=eval e X.env):PE X (.Attribute e f pos) (yr4 X.K ta f):=by
 intro pins s σ H Q I h
 refine ze9 hb (thn (he pins s σ H _ I h) fun u s1 zq=>?_)
 obtain⟨x,H1,I1,rx,a,C,dx,fs,v,ex,ea,ed,c,l,q⟩:=zq
 subst ex
 obtain rfl:u=Value.ref a:=rx
 obtain⟨⟨o,o1,o2,o3,vs,o4⟩,_⟩:=I1.hok _ _ ea
 obtain⟨mA,hn,r⟩:=I1.hok _ _ ed
 obtain⟨u,hu,ru⟩:=qx5.some_of (v:=v) (o:=mA f) (by rw[<-l];exact r f)
 obtain⟨hh,g,d,t,os⟩:=s1
 exact Ae4 F.excAttr_ValueError I1.kIn c.Z c.qi c.hy o1 o2 (fun c z=>by rw[o4] at z;cases z) o3 hn hu (yo4 ru) ⟨v,H1,I1.tok _,ru,q⟩
end
def ErX(e C:Addr)(od:Option Addr):HO:=.ext fun h=>∃ t,h.get? e=some {cls:=.ref C,dict:=od,data:=.fields #[.ref t,.none,.none,.none,.bool false,.none]}
theorem ye5{e t:Addr}(g:h.get? e=some {cls:=.ref C,dict:=od,data:=.fields #[.ref t,.none,.none,.none,.bool false,.none]}):O5 P w H h e (ErX e C od) :=
 ⟨⟨t,g⟩,⟨_,g⟩,fun h1 h2 ⟨u,e1⟩ k=>⟨u,k _ e1⟩⟩
def rmv(H:Hp)(e:Addr):Hp:=fun b=>if b=e then none else H b
theorem xv3{e:Addr}:rmv H e e=none:=by unfold rmv;rw[if_pos rfl]
theorem qp1{e:Addr}(h:b≠e):rmv H e b=H b:=by unfold rmv;rw[if_neg h]
structure InI(K:Fg)(mg:Str->Option Value)(x:Str)(C f:Addr):Prop where
 mx:mg x=some (.ref C)
 qi:wt1 K C=true
 hi:PySem.W.findIn K (.ref C) "__init__"=some (some (.ref f))
 hf:PySem.W.typeIn K (.ref f)=some (.type "function")
 kp:PySem.W.keepIn K (.ref C)=true
 bx:PySem.W.subIn K (.ref C) (.type "BaseException")=some true
 ck:qs6 K C
def xo1(C:Addr)(E:XK)(sp:Sp)(t:TA):TS:=fun _ σ H=>t σ H fun vs H1=>vs.length<=sizeLine/\∀ e,H1 e=none->sp (.ref e::vs) (upd H1 e (ErX e C none)) (fun v H2=>v=.non/\∃ od,H2 e=some (ErX e C od)/\E (.ref C) od (rmv H2 e)) E0
section
variable{e:Addr}{fs:List Addr}
theorem HOk.rmv(x:HOk P w H2 h2)(he:H2 e=some (ErX e C od)):HOk P w (rmv H2 e) h2:=fun b u q=>by
 have nb:b≠e:=fun z=>by rw[z,xv3] at q;cases q
 rw[qp1 nb] at q
 refine(x b u q).stay (fun c v _ q=>q) (fun c q=>?_) fun c xs q=>?_
 ·rw[qp1 (fun z=>by rw[z,he] at q;cases q)];exact q
 ·rw[qp1 (fun z=>by rw[z,he] at q;cases q)];exact q
theorem Un.rmv(hok:HOk P w H1 h)(k:∀ b o,h.get? b=some o->h1.get? b=some o)(ne:h.get? e=none)(u:Un fs [] (upd H1 e (ErX e C od)) H2 h1 h2):Un fs [] H1 (rmv H2 e) h h2:=by
 have nb:∀ {b:Addr} {o:Obj},h.get? b=some o->b≠e:=fun g z=>by rw[z,ne] at g;cases g
 have nH:∀ {b:Addr} {o:HO},H1 b=some o->b≠e:=fun g=>by obtain⟨_,q⟩:=(hok _ _ g).lies;exact nb q
 refine⟨fun b o g n hb hx=>u.keep b o (k b o g) (by rw[C1 (nb g)];exact n) hb hx,fun b o g n hb hx=>u.slot b o (k b o g) (by rw[C1 (nb g)];exact n) hb hx,fun b o g n hx=>?_,fun b o g hx=>u.there b o (k b o g) hx,fun b xs g=>?_,fun b o v g=>?_,fun b ps g=>?_⟩
 ·rw[qp1 (nb g)];exact u.free b o (k b o g) (by rw[C1 (nb g)];exact n) hx
 ·rw[qp1 (nH g)];exact u.tups b xs (by rw[C1 (nH g)];exact g)
 ·rw[qp1 (nH g)];exact u.frzs b o v (by rw[C1 (nH g)];exact g)
 ·obtain⟨m,q⟩:=u.tbls b ps (by rw[C1 (nH g)];exact g)
  exact⟨m,by rw[qp1 (nH g)];exact q⟩
end
section
variable{f:Addr}{t:TA}{E:XK}{k:Nat}
theorem yr5(O:InI X.K X.mg x C f)(FI:M5 X.prog X.w X.K X.mg X.base CX0 k f fd ps sp)(hr:qc0 (k+1) X.A)(hb:wb5 X.K fd ps [])(hx:yk1 X E)(hg:Gl X x)(hc:X.calm=true)(ha:PA X (e₀::es) t)(hdb:autoParam ((x == ("__debug__":Str))=false) zAd)(he:autoParam (starEach (e₀::es) X.env=(false,eval e₀ X.env)::starEach es X.env) zAr)(hpl:autoParam ((backTo cpos (starEach es X.env)).any (·.1)=false) zAr) :
 PS X (.Raise (some (.Call (.Name x np) (e₀::es) [] cpos)) none pos) (xo1 C E sp t):=by
 intro pins s σ H D I h
 rw[arm_exec_Raise]
 refine wpAny_bind (wpAny_standAt (yr1 (K:=X.K) (C:=C) O.bx O.ck (I.ok.hd hc) ?_))
 refine wpAny_bind (wpAny_mono (Q:=fun v s₁=>∃ e dx t,v=.ref e/\X.K.In s₁.heap/\s₁.heap.get? e=some {cls:=.ref C,dict:=dx,data:=.fields #[t,.none,.none,.none,.bool false,.none]}/\X.xe (.ref e) s₁) ?_ (fun v s3 h3=>wpAny_bind (wpAny_standAt (wpAny_pure h3))) fun _ _ x=>x)
 refine wpAny_Call_Name_kw (qn8 I hg O.mx ?_ hdb)
 refine PySem.W.callWith_K (h₀:=X.base) I.ok.mod.kin O.kp (thn (ha cpos pins s σ H _ I h) fun us s1 ⟨vs,H1,I1,r,hz,q⟩=>⟨I1.kIn,?_⟩) he hpl
 obtain⟨bm,N,nm,qn,bs,sn,sub,ab,col,dd,k0,k1,k2,k3,k5,hC,T⟩:=qu1 I1.kIn O.qi
 obtain⟨hh,g,d,tt,os⟩:=s1
 rw[List.nil_append]
 refine Ac0 F.excBase_ValueError T I1.kIn hC O.hi O.hf (fun h' e hle hm=>?_) (by rw[<-r.length];exact hz)
 obtain⟨t0,e1,e2,e3⟩:=hm.there
 have I2:Inv X pins σ (upd H1 e (ErX e C none)) _:=I1.laid (o:=ErX e C none) hm.keeps hle (ye5 e1)
 have hq:=q e (I1.hok.gone hm.new)
 have r2:G0 (V.ref e::vs) (Value.ref e::us):=.cons rfl r
 have hl:(Value.ref e::us++[]).length=ps.length:=by
  rw[List.append_nil]
  have e:=r2.length
  rw[FI.len _ _ _ _ hq] at e
  exact e.symm
 refine wpAny_call (codeAny_mono (FI.run _ X.stack _ _ ⟨Value.ref e::us,[]⟩ (Value.ref e::us) _ _ E0 (hr.make C us []) (I2.env0.make C us []) (by have:=hb _ (Value.ref e::us) I2.kIn hl;rw[List.append_nil] at this;exact this) r2 hq) fun r s' hq'=>?_)
 cases r with
 | error e=>exact False.elim hq'
 | ok fl =>
   cases fl with
   | ret u =>
     have J:=I2.after hq'
     obtain⟨v,H',tk,os',bare,un,hok,rv,ev,od,hH,hE⟩:=hq'
     obtain⟨v',H'',I3,_⟩:=J
     subst ev
     obtain⟨⟨t1,g1⟩,_⟩:=hok _ _ hH
     exact⟨rv,e,od,.ref t1,rfl,I3.kIn,g1,hx pins σ H1 (rmv H' e) _ s' e t1 (.ref C) od I1 (un.rmv I1.hok hm.keeps hm.new) (hok.rmv hH) tk os' bare hm.new xv3 g1 hE⟩
   | next=>exact False.elim hq'
   | brk=>exact False.elim hq'
   | cont=>exact False.elim hq'
end
structure BaI(K:Fg)(mg:Str->Option Value)(x:Str)(B:Addr):Prop where
 mx:mg x=some (.ref B)
 hg:PySem.W.specialIn K (.ref B) "__getattribute__"=some (some (.builtin "type.__getattribute__"))
 hr:PySem.W.readsIn K B (.type "type")=true
 e:PySem.W.findCls K (.ref B) (.type "type") "__init__"=some (.val (.builtin "ValueError.__init__"))
theorem zu2{o:HO}(h:H a=some o):upd H a o=H:=by
 funext b
 by_cases z:b=a
 ·subst z;rw[A7,h]
 ·rw[C1 z]
def zu3(K:Fg)(t:TA):TE:=fun σ H Q=>t σ H fun vs H1=>∃ e C od v,vs=[.ref e,v]/\H1 e=some (ErX e C od)/\wt1 K C=true/\Q .non H1
structure SeI(K:Fg)(C:Addr)(f:Str):Prop where
 qi:wt1 K C=true
 sa:PySem.W.findIn K (.ref C) "__setattr__"=some (some (.builtin "object.__setattr__"))
 hy:PySem.W.findIn K (.ref C) f=some none
def zi2(K:Fg)(ta tv:TE)(f:Str):TS:=fun D σ H=>tv σ H fun y H1=>ta σ H1 fun x H2=>∃ e C,x=.ref e/\H2 e=some (ErX e C none)/\SeI K C f /\
 ∀ dx,H2 dx=none->dx≠e->D.nx σ (upd (upd H2 e (ErX e C (some dx))) dx (.xd [(f,y)]))
section
variable{B:Addr}{f:Str}{t:TA}
theorem zu4{pl:Sem Bool}(O:BaI X.K X.mg x B)(hg:Gl X x)(ha:PA X (e₀::es) t)(hdb:autoParam ((x == ("__debug__":Str))=false) zAd)(hst:autoParam (starEach (e₀::es) X.env=(false,eval e₀ X.env)::starEach es X.env) zAr)(hpl:autoParam ((backTo pos (starEach es X.env)).any (·.1)=false) zAr) (ht:eval (.Call (.Attribute (.Name x np) "__init__" apos) (e₀::es) [] pos) X.env=(do
  let ov<-eval (.Name x np) X.env
  standAt apos.atName
  let (f,first)<-holding [ov] (getMethod ov "__init__" pl)
  callWith pos f first (backTo pos (starEach (e₀::es) X.env)) (backToKw pos (keywordEach [] X.env))):=by rfl) :
 PE X (.Call (.Attribute (.Name x np) "__init__" apos) (e₀::es) [] pos) (zu3 X.K t):=by
 intro pins s σ H Q I h
 refine PySem.W.methodCall_KW (pl:=pl) (qn8 I hg O.mx ?_ hdb) ht
 refine PySem.W.method_cls I.kIn O.hg (PySem.W.cls_value I.kIn O.hr O.e rfl ?_)
 have I':Inv X pins σ H {s with toks:=s.toks+1}:=I.tok _
 show wpAny _ _ (callWith pos (.builtin "ValueError.__init__") [] (backTo pos (starEach (e₀::es) X.env)) []) _ _ _
 refine PyProof.Rows.callWith_builtin1 (thn (ha pos pins _ σ H _ I' h) fun us s2 zq=>?_) hst hpl
 obtain⟨vs,H2,I2,r,e,C,od,v,ev,hH,qi,q2⟩:=zq
 subst ev
 obtain⟨u0,us,rfl,r0,r1⟩:∃ u0 us',us=u0::us'/\L6 (.ref e) u0/\G0 [v] us':=by
  cases r with|cons r0 r1=>exact⟨_,_,rfl,r0,r1⟩
 obtain rfl:u0=Value.ref e:=r0
 obtain⟨u1,rfl,r2⟩:∃ u1,us=[u1]/\L6 v u1:=by
  cases r1 with|cons r2 r3=>cases r3;exact⟨_,rfl,r2⟩
 obtain⟨bm,N,nm,qn,bs,sn,sub,ab,col,dd,k0,k1,k2,k3,k5,hC,T⟩:=qu1 I2.kIn qi
 obtain⟨⟨t0,g0⟩,_⟩:=I2.hok _ _ hH
 obtain⟨hh,g,d,tt,os⟩:=s2
 show wpAny _ _ (call (.builtin "ValueError.__init__") [.ref e,u1]) _ _ _
 refine Ac1 F.excBase_ValueError T hC g0 fun h' a k g1=>?_
 have J:=I2.write (x:=e) (e:=e) (o:=ErX e C od) (h':=h') (t':=tt) (by rw[hH];exact True.intro) (.inl rfl) k ⟨_,g1⟩ (ye5 g1) I2.tk
 rw[zu2 hH] at J
 exact⟨.non,H2,J,rfl,q2⟩
theorem zu5(ha:PE X o ta)(hv:PE X value tv)(hs:swapsWith value (some (.Attribute o f pos')) pos.line X.env=pure false)(hex:autoParam (X.ex=[]) zAr):PS X (.Assign [.Attribute o f pos'] value pos) (zi2 X.K ta tv f):=by
 intro pins s σ H D I h
 refine plainObj_wpAny_Assign_Attribute (thn (hv pins s σ H _ I h) fun u s1 ⟨y,H1,I1,ry,q⟩=>thn (ha pins s1 σ H1 _ I1 q) fun ov s2 zq=>?_) hs
 obtain⟨x,H2,I2,rx,e,C,ex,he,S,q2⟩:=zq
 subst ex
 obtain rfl:ov=Value.ref e:=rx
 obtain⟨bm,N,nm,qn,bs,sn,sub,ab,col,dd,k0,k1,k2,k3,k5,hC,T⟩:=qu1 I2.kIn S.qi
 obtain⟨⟨t0,g0⟩,_⟩:=I2.hok _ _ he
 have In:s2.heap.Inst e C (fun _=>none):=⟨_,g0,rfl,fun c z=>(by cases z),.inl ⟨rfl,fun _=>rfl⟩⟩
 obtain⟨hh,g,d,tt,os⟩:=s2
 refine Ac2 F.store_ValueError T I2.kIn hC S.sa S.hy In (fun h' tk' I' k c ht=>?_) (ns:=[]) Within.nil (by simp)
 obtain⟨o1,g1,c1,c2,c3,c4,c5⟩:=c _ g0
 have c5:=c5 rfl
 have ne:hh.objs.size≠e:=Nat.ne_of_gt (Heap.lt_size g0)
 have k':∀ b u,b≠e->hh.get? b=some u->h'.get? b=some u:=fun b u nb gb=>k b u nb (fun o0 dx z1 z2=>by rw[g0] at z1;cases z1;cases z2) gb
 have g1':h'.get? e=some {cls:=.ref C,dict:=some hh.objs.size,data:=.fields #[.ref t0,.none,.none,.none,.bool false,.none]}:=by
  obtain⟨oc,od,odt,osl⟩:=o1
  have c1:oc=.ref C:=c1
  have c2:odt=.fields #[.ref t0,.none,.none,.none,.bool false,.none]:=c2
  have c3:osl=#[]:=c3
  have c5:od=some hh.objs.size:=c5
  rw[c1,c2,c3,c5] at g1
  exact g1
 obtain⟨o2,f1,f2,f3,f4⟩:=I'
 rw[g1'] at f1
 cases f1
 obtain⟨dx,e1,e2,hn⟩:∃ d,(some hh.objs.size:Option Addr)=some d/\d≠e/\h'.Ns1 d (fun z=>if z=f then some u else none):=by
  rcases f4 with⟨z,_⟩|h
  ·cases z
  ·exact h
 cases e1
 have J:=I2.write (x:=e) (e:=e) (o:=ErX e C (some hh.objs.size)) (h':=h') (t':=tk') (by rw[he];exact True.intro) (.inl rfl) k' ⟨_,g1'⟩ (ye5 g1') (Nat.lt_of_lt_of_le I2.tk ht)
 have hfr:H2 hh.objs.size=none:=I2.fresh
 have J2:=Inv.track (a:=hh.objs.size) (o:=.xd [(f,y)]) I2 (Heap.get?_none_of_le (Nat.le_refl _)) J (by rw[C1 ne];exact hfr) hex ⟨_,hn,fun f'=>?_⟩
 ·exact⟨σ,_,J2,q2 _ hfr ne⟩
 ·show qx5 ([(f,y)].lookup f') (if f'=f then some u else none)
  by_cases z:f'=f
  ·subst z;rw[if_pos rfl,List.lookup_cons_self];exact ry
  ·rw[if_neg z,List.lookup_cons,show(f' == f)=false from beq_false_of_ne z];exact True.intro
end
variable{c1 c2:Str}
section
variable{Q:VK}{t:TA}{f:Str}{E:XK}
theorem zu6(h:t σ H fun vs H1=>∃ e C od v,vs=[.ref e,v]/\H1 e=some (ErX e C od)/\wt1 K C=true/\Q .non H1):zu3 K t σ H Q:=h
theorem zu7(h:tv σ H fun y H1=>ta σ H1 fun x H2=>∃ e C,x=.ref e/\H2 e=some (ErX e C none)/\SeI K C f/\∀ dx,H2 dx=none->dx≠e->D.nx σ (upd (upd H2 e (ErX e C (some dx))) dx (.xd [(f,y)]))):zi2 K ta tv f D σ H:=h
theorem yr6(h:t σ H fun vs H1=>vs.length<=sizeLine/\∀ e,H1 e=none->sp (.ref e::vs) (upd H1 e (ErX e C none)) (fun v H2=>v=.non/\∃ od,H2 e=some (ErX e C od)/\E (.ref C) od (rmv H2 e)) E0):xo1 C E sp t D σ H:=h
theorem xo2(h:ta σ H fun x H1=>∃ a C dx fs v,x=.ref a/\H1 a=some (qm9 a C (some dx))/\H1 dx=some (.xd fs)/\ExI K C f/\fs.lookup f=some v/\Q v H1):yr4 K ta f σ H Q:=h
end
def yz5(K:Fg):List V->Hp->VK->Prop:=fun xs H Q=>wl2 K xs H Q \/
 ∃ (a C:Addr) (od:Option Addr) (y:V) (c:Value) (b:Bool),xs=[.ref a,y]/\H a=some (qm9 a C od)/\xn9 K C/\(∀ u,L6 y u->u=c)/\PySem.W.kitOne K (.ref C) c=some b/\Q (.bl b) H
theorem wg2:W4 X (.builtin "isinstance") (yz5 X.K):=by
 intro pins s σ H xs us Q I r h
 rcases h with h|⟨a,C,od,y,c,b,rfl,ha,E,hu,e,q⟩
 ·exact Q3 pins s σ H xs us Q I r h
 ·obtain⟨u,w',rfl,r1,r2⟩:=xt0 r
  cases r1
  obtain rfl:=hu _ r2
  obtain⟨⟨o,e1,e2,_⟩,_,_⟩:=(show O5 X.prog X.w H s.heap a (qm9 a C od) from I.hok a _ ha)
  exact wpAny_with_toks (n:=1) I.tk (PySem.W.kia_one (xv1 E.z E.c) I.kIn ⟨o,e1,e2⟩ e (fun z=>nomatch z) fun tk ht=>⟨.bl b,H,I.tok _ ht,rfl,q⟩)
section
variable{Q:VK}{D:Addr}{b:Bool}
theorem zu8(ha:H a=some (qm9 a C od))(E:xn9 K C)(hc:qs6 K D)(h:PySem.W.subIn K (.ref C) (.ref D)=some b)(q:Q (.bl b) H):yz5 K [.ref a,.ref D] H Q :=
 .inr ⟨a,C,od,.ref D,.ref D,b,rfl,ha,E,fun u r=>r,yk2 E.s hc h,q⟩
end
theorem zi3{p:α->Prop}:∀ a∈([]:List α),p a:=fun _ h=>nomatch h
theorem all_cons{p:α->Prop}{a:α}{l:List α}(h:p a)(t:∀ b∈l,p b):∀ b∈a::l,p b:=fun b hb=>(List.mem_cons.mp hb).elim (fun e=>e▸h) (t b)
def yk4(Cs:List Addr)(i j:Nat)(te:XK->TE)(ts:TS):TS:=fun D σ H =>
 te (fun cls od H'=>∃ C∈Cs,cls=.ref C/\∀ a,H' a=none->ts {nx:=fun σ' H2=>D.nx (σ'.set i none) H2,rt:=D.rt,bk:=fun σ' H2=>D.bk (σ'.set i none) H2,ct:=fun σ' H2=>D.ct (σ'.set i none) H2} (σ.set i (some (.ref a))) (upd H' a (qm9 a C od))) σ H fun v H'=>D.nx (σ.set j (some v)) H'
section
variable{D:Addr}
theorem zi4{Cs:List Addr}{te:XK->TE}{ts:TS}{b₀:Stmt}{suite:List Stmt}{ep hp zp:Pos}{y n:Str}{i j:Nat}(he:PX X e te)(hg:Gl X y)(hm:X.mg y=some (.ref D))(hx:∀ C∈Cs,PySem.W.exmOne X.K (.ref C) (.ref D)=some true)(hN:X.N.Nodup)(hi:X.N[i]?=some n)(hk:X.env.scope.names.lookup n=some .local)(hj:X.N[j]?=some z)(hz:X.env.scope.names.lookup z=some .local)(hs:∀ a xe',PSs (X.held a xe') (b₀::suite) ts)(hex:autoParam (X.ex=[]) zAr)(hst:autoParam (X.stack=X.env::X.outer) zAr)(hf:autoParam (X.env.frame=some X.env.locals) zAr)(hsw:autoParam (swapsWith e (some (.Name z zp)) ep.line X.env=pure false) zAr)(hdb:autoParam ((y == ("__debug__":Str))=false) zAd) :
 PS X (.Try [.Assign [.Name z zp] e ep] [.ExceptHandler (some (.Name y np)) (some n) (b₀::suite) hp] [] [] pos) (yk4 Cs i j te ts):=by
 intro pins s σ H D I h
 refine wpAny_Try_except (wpAny_execs_cons (wpAny_Assign_Name (thn (he pins s σ H _ _ _ I (fun H1 s1 e s2 I1 F=>?_) h) fun v s1 ⟨v',H1,I1,r1,q1⟩=>?_) hsw))
 ·refine Ab8 hst hf I1 F fun a cls od H' s3 e1 na hE J ⟨oe,o1,o2⟩ k=>?_
  obtain⟨C,hC,rfl,q⟩:=hE
  refine wpAny_handleBy_cons (codeAny_handlers_test (qn8 (J.held a fun _ _=>False) hg hm ?_ hdb)) (by intro q;cases q)
  have lk:PySem.W.Looks (model X.prog X.w) s3.heap (typeOf (.ref a)) (.ref C):=o2▸(PySem.W.Looks.ld o1).andThen .now
  refine(PySem.W.exm_one J.kIn lk (hx C hC)).here ?_
  refine codeAny_handlers_suite_as (k _ _ _ fun s4 J4 ⟨oe4,p1,p2,p3⟩ nH=>?_)
  have J5:=Inv.track I1 na J4 nH hex (zi1 p1 p2 p3.1 p3.2)
  refine wb1 J5 hN hi (.inl hk) (v:=.ref a) rfl (fun s5 J6=>?_) (.inr hk)
  refine wpAny_mono (hs a _ pins s5 _ _ _ (J6.held a _) (q a nH)) (fun f s6 z=>?_) fun _ _ z=>z
  have z:=z.unheld I.ok
  cases f with
  | next=>obtain⟨σ',H2,J7,q7⟩:=z;exact wp2 J7 hN hi hk fun s7 J8=>⟨_,H2,J8,q7⟩
  | brk=>obtain⟨σ',H2,J7,q7⟩:=z;exact wp2 J7 hN hi hk fun s7 J8=>⟨_,H2,J8,q7⟩
  | cont=>obtain⟨σ',H2,J7,q7⟩:=z;exact wp2 J7 hN hi hk fun s7 J8=>⟨_,H2,J8,q7⟩
  | ret u=>obtain⟨v,σ',H2,J7,r7,q7⟩:=z;exact wp2 J7 hN hi hk fun s7 J8=>⟨v,_,H2,J8,r7,q7⟩
 ·exact wb1 I1 hN hj (.inl hz) r1 (fun s2 I2=>wpAny_execs_nil (wpAny_execs_nil ⟨_,H1,I2,q1⟩)) (.inr hz)
end
def xv4(K:Fg)(ta tv:TE)(f:Str):TS:=fun D σ H=>tv σ H fun y H1=>ta σ H1 fun x H2=>∃ e C dx fs,x=.ref e/\H2 e=some (ErX e C (some dx))/\H2 dx=some (.xd fs)/\fs.length<=100/\SeI K C f /\
 D.nx σ (upd H2 dx (.xd ((f,y)::fs)))
section
variable{f:Str}
theorem ye6{fs:List (Str×V)}{f:Str}(h:fs.lookup f≠none):f∈fs.map (·.1):=by
 induction fs with
 | nil=>exact absurd rfl h
 | cons p r ih =>
   obtain⟨k,v⟩:=p
   by_cases e:f=k
   ·subst e;simp
   ·rw[List.lookup_cons,show(f == k)=false from beq_false_of_ne e] at h
    exact List.mem_cons_of_mem _ (ih h)
theorem zi5(ha:PE X o ta)(hv:PE X value tv)(hs:swapsWith value (some (.Attribute o f pos')) pos.line X.env=pure false):PS X (.Assign [.Attribute o f pos'] value pos) (xv4 X.K ta tv f):=by
 intro pins s σ H D I h
 refine plainObj_wpAny_Assign_Attribute (thn (hv pins s σ H _ I h) fun u s1 ⟨y,H1,I1,ry,q⟩=>thn (ha pins s1 σ H1 _ I1 q) fun ov s2 zq=>?_) hs
 obtain⟨x,H2,I2,rx,e,C,dx,fs,ex,he,hd,hl,S,q2⟩:=zq
 subst ex
 obtain rfl:ov=Value.ref e:=rx
 obtain⟨bm,N,nm,qn,bs,sn,sub,ab,col,dd,k0,k1,k2,k3,k5,hC,T⟩:=qu1 I2.kIn S.qi
 obtain⟨⟨t0,g0⟩,_⟩:=I2.hok _ _ he
 obtain⟨mA,hn,r⟩:=I2.hok _ _ hd
 have ne:dx≠e:=fun z=>by subst z;unfold ErX at he;rw[he] at hd;cases hd
 have In:s2.heap.Inst e C mA:=⟨_,g0,rfl,fun c z=>(by cases z),.inr ⟨dx,rfl,ne,hn⟩⟩
 obtain⟨hh,g,d,tt,os⟩:=s2
 refine Ac2 F.store_ValueError T I2.kIn hC S.sa S.hy In (fun h' tk' I' k c ht=>?_) (ns:=fs.map (·.1)) (fun z hz=>ye6 fun e=>?_) (by rw[List.length_map];omega)
 ·obtain⟨o1,g1,c1,c2,c3,c4,c5⟩:=c _ g0
  have c4:=c4 dx rfl
  have g1':h'.get? e=some {cls:=.ref C,dict:=some dx,data:=.fields #[.ref t0,.none,.none,.none,.bool false,.none]}:=by
   obtain⟨oc,od,odt,osl⟩:=o1
   have c1:oc=.ref C:=c1
   have c2:odt=.fields #[.ref t0,.none,.none,.none,.bool false,.none]:=c2
   have c3:osl=#[]:=c3
   have c4:od=some dx:=c4
   rw[c1,c2,c3,c4] at g1
   exact g1
  have k':∀ b u,b≠dx->hh.get? b=some u->h'.get? b=some u:=fun b u nb gb=>by
   by_cases z:b=e
   ·subst z;rw[g0] at gb;cases gb;exact g1'
   ·exact k b u z (fun o0 dx' z1 z2=>by rw[g0] at z1;cases z1;cases z2;exact nb) gb
  obtain⟨o2,f1,f2,f3,f4⟩:=I'
  rw[g1'] at f1
  cases f1
  obtain⟨d',e1,e2,hn'⟩:∃ d',(some dx:Option Addr)=some d'/\d'≠e/\h'.Ns1 d' (fun z=>if z=f then some u else mA z):=by
   rcases f4 with⟨z,_⟩|h
   ·cases z
   ·exact h
  cases e1
  have J:=Inv.write (x:=dx) (e:=dx) (o:=.xd ((f,y)::fs)) (h':=h') (t':=tk') I2 (by rw[hd];exact True.intro) (.inl rfl) k' (by obtain⟨o,es,ep,e,_⟩:=hn';exact⟨_,e⟩) ⟨_,hn',fun f'=>?_⟩ (Nat.lt_of_lt_of_le I2.tk ht)
  ·exact⟨σ,_,J,q2⟩
  ·show qx5 (((f,y)::fs).lookup f') (if f'=f then some u else mA f')
   by_cases z:f'=f
   ·subst z;rw[if_pos rfl,List.lookup_cons_self];exact ry
   ·rw[if_neg z,List.lookup_cons,show(f' == f)=false from beq_false_of_ne z];exact r f'
 ·have:=r z
  rw[e] at this
  cases h:mA z with
  | none=>exact hz h
  | some u=>rw[h] at this;exact this
theorem zi6(h:tv σ H fun y H1=>ta σ H1 fun x H2=>∃ e C dx fs,x=.ref e/\H2 e=some (ErX e C (some dx))/\H2 dx=some (.xd fs)/\fs.length<=100/\SeI K C f/\D.nx σ (upd H2 dx (.xd ((f,y)::fs)))):xv4 K ta tv f D σ H:=h
end
theorem xk2{P:Program}{w:World}:∀ {ns:List Int} {us:List Value},G0 (ns.map V.int) us->(∀ n∈ns,n.natAbs<2 ^ 200)->ReprAll P w us (ns.map fun n=>Str.ofString (toString n))
 | [],_,h,_=>by cases h;exact .nil
 | n :: ns,_,h,hb=>by
   cases h with
   | cons r t =>
     obtain⟨tk,rfl⟩:=r
     refine .cons (ReprIs.int tk ?_) (xk2 t fun m hm=>hb m (List.mem_cons_of_mem _ hm))
     have:=hb n (List.mem_cons_self ..)
     by_cases z:n.natAbs=0
     ·rw[z];decide
     ·exact Nat.lt_of_lt_of_le ((Nat.log2_lt z).mpr this) (by decide)
theorem yz6(hb:∀ n∈ns,n.natAbs<2 ^ 200):(tupleText (ns.map fun n=>Str.ofString (toString n))).length<=2000*ns.length+3:=by
 refine Nat.le_trans (tupleText_len_le _) ?_
 have:∀ l:List Int,(∀ n∈l,n.natAbs<2 ^ 200)->((l.map fun n=>Str.ofString (toString n)).map (·.length)).sum<=1921*l.length:=by
  intro l
  induction l with
  | nil=>intro _;simp
  | cons n r ih =>
    intro h
    have h1:=ih fun m hm=>h m (List.mem_cons_of_mem _ hm)
    have h2:(Str.ofString (toString n)).length<=1921:=by
     have:=h n (List.mem_cons_self ..)
     refine int_text_len_1921 ?_
     by_cases z:n.natAbs=0
     ·rw[z];decide
     ·exact Nat.lt_of_lt_of_le ((Nat.log2_lt z).mpr this) (by decide)
    simp only[List.map_cons,List.sum_cons,List.length_cons]
    omega
 have:=this ns hb
 rw[List.length_map]
 omega
def zu9(K:Fg)(c1 c2:Str)(t1 t2:TE):TE:=fun σ H Q=>t1 σ H fun x H1=>∃ r:Str,x=.str r/\r.length<=4096/\t2 σ H1 fun y H2=>∃ (p:Addr) (ns:List Int),y=.ref p/\SqT K H2 p (ns.map V.int)/\ns.length<=1000/\(∀ n∈ns,n.natAbs<2 ^ 200)/\∀ z,Q (.str z) H2
variable{t1 t2:TE}
theorem zv0{Q:VK}(h:t1 σ H fun x H1=>∃ r:Str,x=.str r/\r.length<=4096/\t2 σ H1 fun y H2=>∃ (p:Addr) (ns:List Int),y=.ref p/\SqT K H2 p (ns.map V.int)/\ns.length<=1000/\(∀ n∈ns,n.natAbs<2 ^ 200)/\∀ z,Q (.str z) H2):zu9 K c1 c2 t1 t2 σ H Q:=h
section
variable{e1 e2:Expr}
theorem zv1{j1 j2:Nat}{p1 p3 p4:Pos}(hg:X.A.guards=some [])(hu:X.A.units<cLine)(he1:PE X e1 t1)(he2:PE X e2 t2)(h1:autoParam (c1.length<=4096) zAd)(h2:autoParam (c2.length<=4096) zAd) :
 PE X (.JoinedStr [.Constant (.str c1) j1 p1,.FormattedValue e1 (-1) none p2,.Constant (.str c2) j2 p3,.FormattedValue e2 114 none p4] pos) (zu9 X.K c1 c2 t1 t2):=by
 intro pins s σ H Q I h
 have e0:Str.empty++c1=c1:=Str.empty_append c1
 have hs:sizeLine=16777216:=sizeLine_eq
 refine JoinedStr_many (joinParts_cons (Calls.Constant_str ?_))
 refine⟨by rw[e0,hs];omega,?_⟩
 rw[e0]
 refine joinParts_cons (FormattedValue_plain (thn (he1 pins _ σ H _ (I.tok _) h) fun u s1 zq=>?_))
 obtain⟨x,H1,I1,r1,z,ez,hz,q⟩:=zq
 subst ez
 obtain⟨tk,rfl⟩:=r1
 refine wpAny_with_toks (n:=1) I1.tk (formatField_str (fun t' tk'=>?_) (by rw[hs];omega))
 intro htk
 refine⟨by rw[strLen_append,hs];omega,?_⟩
 refine joinParts_consE (joinParts_cons (Calls.Constant_str ?_))
 refine⟨by rw[strLen_append,strLen_append,hs];omega,?_⟩
 refine joinParts_consE (joinParts_cons (wpAny_FormattedValue_repr (thn (he2 pins _ σ H1 _ (I1.tok _) q) fun u s2 zq=>?_)))
 obtain⟨y,H2,I2,r2,p,ns,ey,hp,hl,hb,q2⟩:=zq
 subst ey
 obtain rfl:u=Value.ref p:=r2
 have hlen:=yz6 hb
 obtain⟨its,rv,⟨o,ho,hc,n,hdt⟩,_⟩:=I2.tuple hp
 refine wpAny_with_toks (n:=1) I2.tk (wpAny_pyReprObj_tuple (g:=[]) ⟨o,ho,hc⟩ hg (fun c hc=>nomatch hc) hu ho hdt (xk2 rv hb) (fun u tk2=>?_) (by rw[hs];omega))
 intro htk2
 refine wpAny_with_toks (n:=1) htk2 (formatField_str (fun t' tk'=>?_) (by rw[hs];omega))
 intro htk3
 refine⟨by rw[strLen_append,strLen_append,strLen_append,hs];omega,joinParts_nilE (joinParts_nil ?_ (by rw[strLen_append,strLen_append,strLen_append,hs];omega))⟩
 exact⟨.str _,H2,I2.tok _,⟨_,rfl⟩,q2 _⟩
end
def qr9(K:Fg):List V->Hp->VK->Prop:=fun xs H Q=>yz5 K xs H Q \/
 ∃ (a C p:Addr) (od:Option Addr) (cs:List Addr) (b:Bool),xs=[.ref a,.ref p]/\H a=some (qm9 a C od)/\xn9 K C/\SqT K H p (cs.map V.ref)/\PySem.W.kitAny K (.ref C) (cs.map Value.ref)=some b/\Q (.bl b) H
theorem O3:W4 X (.builtin "isinstance") (qr9 X.K):=by
 intro pins s σ H xs us Q I r h
 rcases h with h|⟨a,C,p,od,cs,b,rfl,ha,E,hq,e,q⟩
 ·exact wg2 pins s σ H xs us Q I r h
 ·obtain⟨u,w',rfl,r1,r2⟩:=xt0 r
  cases r1
  cases r2
  obtain⟨⟨o',e1,e2,_⟩,_,_⟩:=(show O5 X.prog X.w H s.heap a (qm9 a C od) from I.hok a _ ha)
  obtain⟨its,rv,⟨o,h1,h2,n,h3⟩,hz⟩:=I.tuple hq
  obtain⟨oc,od',odt,osl⟩:=o
  simp only at h2 h3
  subst h2 h3
  rw[xk1 rv] at h1
  exact wpAny_with_toks (n:=1) I.tk (PySem.W.kia_tup (xv1 E.z E.c) I.kIn ⟨o',e1,e2⟩ h1 e (fun z=>nomatch z) fun tk ht=>⟨.bl b,H,I.tok _ ht,rfl,q⟩)
section
variable{Q:VK}{D:Addr}{b:Bool}
theorem xo3(ha:H a=some (qm9 a C od))(E:xn9 K C)(hc:qs6 K D)(h:PySem.W.subIn K (.ref C) (.ref D)=some b)(q:Q (.bl b) H):qr9 K [.ref a,.ref D] H Q:=.inl (zu8 ha E hc h q)
theorem yk5(ha:H a=some (qm9 a C od))(E:xn9 K C)(hm:PySem.W.kitMeta T=true)(h:PySem.W.subIn K (.ref C) (.type T)=some b)(q:Q (.bl b) H):qr9 K [.ref a,.ty T] H Q :=
 .inl (.inr ⟨a,C,od,.ty T,.type T,b,rfl,ha,E,fun u r=>r,zu1 hm h,q⟩)
theorem yk6(ha:H a=some (qm9 a C od))(E:xn9 K C)(hq:SqT K H p (cs.map V.ref))(h:∀ D∈cs,qs6 K D/\PySem.W.subIn K (.ref C) (.ref D)=some false)(q:Q (.bl false) H):qr9 K [.ref a,.ref p] H Q :=
 .inr ⟨a,C,p,od,cs,false,rfl,ha,E,hq,yz4 E h,q⟩
theorem yk7(h:wl2 K xs H Q):qr9 K xs H Q:=.inl (.inl h)
end
end L2
local macro_rules | `(tactic| lk) => do
 let a <- ("xn4 W9 V4 zr7 N7 zz4 yw3 zz5 zr8 yj3 zm6 zr9 yj4 Ae1 zz6 zs0 zz7 zs1 zg1 zs2 zg2 zs3 zs4 zg3 zz8 zz9 xn5 zs5 Aa0 yw5 yw1 zg0 yw4 zg4 zg5 Aa8 zg8 yq1 zt2 zt3 zh4 yy0 zh1 zt6 zh6 zt9 zg9 qe6 zs6 Aa2 Aa3 Aa4 Aa5 zm8 yj5 xu2 Aa9 Ae2 zg6".splitOn " ").toArray.mapM fun n => `(Lean.Parser.Tactic.tacticSeq| refine $(Lean.mkIdent (.str `L2 n)) ?_)
 `(tactic| (repeat (first | (with_reducible first $[| $a]*) | ((with_reducible refine' L2.xn6 ?ev ?_); (case ev => exact rfl)) | ((with_reducible refine L2.Aa1 ?ec ?_); (case ec => first | decide | omega | assumption)) | ((with_reducible refine L2.zs8 ?ec ?_); (case ec => first | exact ⟨by decide, by decide⟩ | exact ⟨by omega, by omega⟩)))))
local macro_rules | `(tactic| x_go) => `(tactic| refine L2.W9 ?_)
local macro_rules | `(tactic| k_go) => `(tactic| refine L2.V4 ?_)
namespace My
open PySem L2
variable{H H':Hp}{K:Fg}{Q:VK}{v:V}{y:Str}{i:Nat}{α:Type}{E:XK}{vs:List V}
section
open PyProof.Rows
set_option genInjectivity false in
structure Row where
 name:Str
 sort:Str
 host:Str
 shuts:List Str
 bars:List Str
def Row.da(r:Row):PyData:=.tuple [.str r.name,.str r.sort,.str r.host,.tuple (sDa r.shuts),.tuple (sDa r.bars)]
def oV:Option Str->V
 | some s=>.str s
 | none=>.non
theorem N0{r:Row}(h:Dv K H r.da v):∃ b sv bv,v=.ref b/\SqT K H b [.str r.name,.str r.sort,.str r.host,sv,bv]/\Dv K H (.tuple (sDa r.shuts)) sv/\Dv K H (.tuple (sDa r.bars)) bv:=by
 obtain⟨b,ys,rfl,hb,h⟩:=C6.mp h
 rw[Dvs] at h;obtain⟨v1,r1,rfl,e1,h⟩:=h
 rw[Dvs] at h;obtain⟨v2,r2,rfl,e2,h⟩:=h
 rw[Dvs] at h;obtain⟨v3,r3,rfl,e3,h⟩:=h
 rw[Dvs] at h;obtain⟨v4,r4,rfl,e4,h⟩:=h
 rw[Dvs] at h;obtain⟨v5,r5,rfl,e5,h⟩:=h
 rw[Dvs] at h;subst h
 rw[P9.mp e1,P9.mp e2,P9.mp e3] at hb
 exact⟨b,v4,v5,rfl,hb,e4,e5⟩
def Rws(K:Fg)(H:Hp)(v:V)(rs:List Row):Prop:=∃ a vs,v=.ref a/\(SqL K H a vs\/SqT K H a vs)/\Dvs K H (rs.map Row.da) vs
theorem zn0 {x:Str} {n:Option Str} (h:Q (.bl (decide (some x=n))) H):S4 K (.str x) (oV n) H Q:=by
 cases n with
 | none => refine yp8 rfl ?_;have e:(decide ((V.str x)=oV none))=decide (some x=none):=by simp[oV]
           rw[e];exact h
 | some y => refine yp8 rfl ?_;have e:(decide ((V.str x)=oV (some y)))=decide (some x=some y):=by simp[oV]
             rw[e];exact h
theorem yj5{x:Str}(h:Q (.bl (decide (x=y))) H):S4 K (.str x) (.str y) H Q:=by
 refine yp8 rfl ?_
 have e:(decide ((V.str x)=V.str y))=decide (x=y):=by simp
 rw[e];exact h
theorem xu2{x:Str}(h:Q (.bl (!decide (x=y))) H):Z2 K (.str x) (.str y) H Q:=by
 refine zs9 rfl ?_
 have e:(decide ((V.str x)=V.str y))=decide (x=y):=by simp
 rw[e];exact h
theorem zm8{x y:Int}(h:Q (.bl (decide (x=y))) H):S4 K (.int x) (.int y) H Q:=by
 refine yp8 rfl ?_
 have e:(decide ((V.int x)=V.int y))=decide (x=y):=by simp
 rw[e];exact h
def X6(rs:List Row)(n:Option Str):Option Row:=rs.find? fun r=>decide (some r.name=n)
def Y7(rs:List Row)(n:Option Str):Option Str:=(X6 rs n).map (·.sort)
def T7(rs:List Row)(n:Option Str):Option Str:=(X6 rs n).bind fun r=>if r.sort=("frame":Str) then some r.host else none
def frameOf(rs:List Row)(n:Option Str):Option Str:=(rs.find? fun r=>decide (r.sort=("frame":Str)) && decide (some r.host=n)).map (·.name)
def qg7(K:Fg):Sp:=fun vs H Q _=>∃ v n rs,vs=[v,oV n]/\Rws K H v rs/\(X6 rs n=none->Q .non H)/\∀ r u,X6 rs n=some r->Dv K H r.da u->Q u H
theorem ye7(K:Fg):∀ vs H Q E,qg7 K vs H Q E->vs.length=["rows","name"].length:=by
 rintro vs H Q E ⟨v,n,rs,rfl,_⟩;rfl
def wc6(K:Fg):TS :=
 (C0 (qm3 (ql5 K (A4 0)) (B3 2)
 (M0 (D7 (tOp (S4 K) (tOp (J0 K) (A4 2) (tC (.int 0))) (A4 1)))
 (I0 (A4 2)) E9))
 (I0 (tC .non)))
theorem Z7{α:Type}{p:α->Bool}:∀ {l:List α} {i:Nat} {x:α},l[i]?=some x->(∀ y∈l.take i,p y=false)->p x=true->l.find? p=some x
 | y::l,0,x,e,_,hp=>by cases e;rw[List.find?_cons,hp]
 | y::l,i+1,x,e,h,hp=>by
   have hy:p y=false:=h y (by simp)
   rw[List.find?_cons,hy]
   exact Z7 (i:=i) (by simpa using e) (fun z hz=>h z (by simp[hz])) hp
theorem qu2{P:α->Prop}{l:List α}{x:α}(e:l[i]?=some x)(h:∀ y∈l.take i,P y)(hx:P x):∀ y∈l.take (i+1),P y:=by
 intro y hy
 rw[List.take_add_one,e] at hy
 rcases List.mem_append.mp hy with z|z
 ·exact h y z
 ·have:y=x:=by simpa using z
  subst this;exact hx
theorem yr7(h:qg7 K vs H Q E):wc6 K {nx:=fun _ H'=>Q .non H',rt:=Q} (G9 ["rows","name","row"] vs) H:=by
 obtain⟨v,n,rs,rfl,⟨a,xs,rfl,hq,hd⟩,h1,h2⟩:=h
 show wc6 K _ [some (.ref a),some (oV n),none] H
 have hlen:xs.length=rs.length:=by have:=hd.length;simpa using this
 unfold wc6
 refine xn4 (yw1 (yw4 (xn6 rfl ?_)))
 refine yj2 hq (fun i σ H'=>H'=H/\(∃ w,σ=[some (.ref a),some (oV n),w])/\∀ r∈rs.take i,decide (some r.name=n)=false) ⟨rfl,⟨_,rfl⟩,by simp⟩ (fun hl i σ H' _ p=>p.1▸hl) (fun ht i σ H' _ p=>p.1▸ht) ?_ ?_
 ·rintro i x σ H' hx ⟨rfl,⟨w,rfl⟩,hn⟩
  obtain⟨d,hd1,hd2⟩:=hd.get' hx
  rw[List.getElem?_map] at hd1
  obtain⟨r,hr,rfl⟩:=Option.map_eq_some_iff.mp hd1
  obtain⟨b,sv,bv,rfl,hb,hsv,hbv⟩:=N0 hd2
  refine N7 (zm6 (yj4 (yw3 (yw3 (xn6 rfl (zz4 (J9 hb rfl (xn6 rfl (zn0 ⟨_,rfl,?_⟩)))))))))
  by_cases e:some r.name=n
  ·rw[decide_eq_true e,if_pos rfl]
   refine⟨_,rfl,?_⟩
   exact h2 r _ (Z7 hr hn (decide_eq_true e)) hd2
  ·rw[decide_eq_false e,if_neg Bool.false_ne_true]
   exact xn5 ⟨rfl,⟨_,rfl⟩,qu2 hr hn (decide_eq_false e)⟩
 ·rintro σ H' ⟨rfl,⟨w,rfl⟩,hn⟩
  show Q .non H'
  refine h1 ?_
  unfold X6
  rw[List.find?_eq_none]
  intro r hr
  rw[hlen,List.take_length] at hn
  simp[hn r hr]
end
section
open PyProof.Rows
def qh6(K:Fg):Sp:=fun vs H Q _=>∃ v n rs,vs=[v,oV n]/\Rws K H v rs/\Q (oV (Y7 rs n)) H
def wg3(K:Fg):TS :=
 (C0 (D9 (B9 (qg7 K) [] E0 (A2 (A4 0) (A2 (A4 1) B1))) (B3 2))
 (I0 (tIf (D7 (tOp xu0 (A4 2) (tC .non))) (tC .non) (tOp (J0 K) (A4 2) (tC (.int 1))))))
theorem ye8(h:qh6 K vs H Q E):wg3 K {nx:=fun _ H'=>Q .non H',rt:=Q} (G9 ["book","name","row"] vs) H:=by
 obtain⟨v,n,rs,rfl,hR,q⟩:=h
 show wg3 K _ [some v,some (oV n),none] H
 refine⟨_,rfl,_,rfl,v,n,rs,rfl,hR,fun e=>?_,fun r u e hu=>?_⟩
 ·refine⟨_,rfl,rfl,_,rfl,?_⟩
  show Q .non H
  have:Y7 rs n=none:=by unfold Y7;rw[e];rfl
  rw[this] at q;exact q
 ·obtain⟨b,sv,bv,rfl,hb,_,_⟩:=N0 hu
  refine⟨_,rfl,rfl,_,rfl,?_⟩
  show(if decide (V.ref b=V.non)=true then _ else _)
  rw[decide_eq_false (by simp)];refine V4 ?_
  refine⟨_,rfl,J9 hb rfl ?_⟩
  have:Y7 rs n=some r.sort:=by unfold Y7;rw[e];rfl
  rw[this] at q;exact q
def qh7(K:Fg):Sp:=fun vs H Q _=>∃ v n rs,vs=[v,oV n]/\Rws K H v rs/\Q (oV (T7 rs n)) H
def wg4(K:Fg):TS :=
 (C0 (D9 (B9 (qg7 K) [] E0 (A2 (A4 0) (A2 (A4 1) B1))) (B3 2))
 (C0 (M0 (tOr (D7 (tOp xu0 (A4 2) (tC .non))) (D7 (tOp (Z2 K) (tOp (J0 K) (A4 2) (tC (.int 1))) (tC (.str ("frame":Str))))))
 (I0 (tC .non)) E9)
 (I0 (tOp (J0 K) (A4 2) (tC (.int 2))))))
theorem ye9(h:qh7 K vs H Q E):wg4 K {nx:=fun _ H'=>Q .non H',rt:=Q} (G9 ["book","name","row"] vs) H:=by
 obtain⟨v,n,rs,rfl,hR,q⟩:=h
 show wg4 K _ [some v,some (oV n),none] H
 refine⟨_,rfl,_,rfl,v,n,rs,rfl,hR,fun e=>?_,fun r u e hu=>?_⟩
 ·refine⟨_,rfl,rfl,_,rfl,?_⟩
  show Q .non H
  have:T7 rs n=none:=by unfold T7;rw[e];rfl
  rw[this] at q;exact q
 ·obtain⟨b,sv,bv,rfl,hb,_,_⟩:=N0 hu
  refine⟨_,rfl,rfl,_,rfl,?_⟩
  show(if decide (V.ref b=V.non)=true then _ else _)
  rw[decide_eq_false (by simp)];refine V4 ?_
  refine⟨_,rfl,J9 hb rfl (xu2 ⟨_,rfl,?_⟩)⟩
  by_cases hs:r.sort=("frame":Str)
  ·rw[decide_eq_true hs,Bool.not_true];refine V4 ?_
   refine⟨_,rfl,J9 hb rfl ?_⟩
   have:T7 rs n=some r.host:=by unfold T7;rw[e];show(if r.sort=("frame":Str) then some r.host else none)=_;rw[if_pos hs]
   rw[this] at q;exact q
  ·rw[decide_eq_false hs,Bool.not_false];refine W9 ?_
   show Q .non H
   have:T7 rs n=none:=by unfold T7;rw[e];show(if r.sort=("frame":Str) then some r.host else none)=_;rw[if_neg hs]
   rw[this] at q;exact q
def qj4(K:Fg):Sp:=fun vs H Q _=>∃ v n rs,vs=[v,oV n]/\Rws K H v rs/\Q (oV (frameOf rs n)) H
def wa1(K:Fg):TS :=
 (C0 (qm3 (ql5 K (A4 0)) (B3 2)
 (M0 (qz3 (D7 (tOp (S4 K) (tOp (J0 K) (A4 2) (tC (.int 1))) (tC (.str ("frame":Str))))) (D7 (tOp (S4 K) (tOp (J0 K) (A4 2) (tC (.int 2))) (A4 1))))
 (I0 (tOp (J0 K) (A4 2) (tC (.int 0)))) E9))
 (I0 (tC .non)))
theorem xv7(h:qj4 K vs H Q E):wa1 K {nx:=fun _ H'=>Q .non H',rt:=Q} (G9 ["book","name","row"] vs) H:=by
 obtain⟨v,n,rs,rfl,⟨a,xs,rfl,hq,hd⟩,q⟩:=h
 show wa1 K _ [some (.ref a),some (oV n),none] H
 have hlen:xs.length=rs.length:=by have:=hd.length;simpa using this
 refine⟨_,rfl,yj2 hq (fun i σ H'=>H'=H/\(∃ w,σ=[some (.ref a),some (oV n),w])/\∀ r∈rs.take i,(decide (r.sort=("frame":Str)) && decide (some r.host=n))=false) ⟨rfl,⟨_,rfl⟩,by simp⟩ (fun hl i σ H' _ p=>p.1▸hl) (fun ht i σ H' _ p=>p.1▸ht) ?_ ?_⟩
 ·rintro i x σ H' hx ⟨rfl,⟨w,rfl⟩,hn⟩
  obtain⟨d,hd1,hd2⟩:=hd.get' hx
  rw[List.getElem?_map] at hd1
  obtain⟨r,hr,rfl⟩:=Option.map_eq_some_iff.mp hd1
  obtain⟨b,sv,bv,rfl,hb,hsv,hbv⟩:=N0 hd2
  refine⟨_,rfl,J9 hb rfl (yj5 ⟨_,rfl,?_⟩)⟩
  by_cases hs:r.sort=("frame":Str)
  ·rw[decide_eq_true hs];refine W9 ?_
   refine⟨_,rfl,J9 hb rfl ⟨_,rfl,zn0 ⟨_,rfl,?_⟩⟩⟩
   by_cases e:some r.host=n
   ·rw[decide_eq_true e];refine W9 ?_
    refine⟨_,rfl,J9 hb rfl ?_⟩
    have:frameOf rs n=some r.name:=by
     unfold frameOf
     rw[Z7 hr hn (by rw[decide_eq_true hs,decide_eq_true e];rfl)];rfl
    rw[this] at q;exact q
   ·rw[decide_eq_false e];refine V4 ?_
    exact⟨rfl,⟨_,rfl⟩,qu2 hr hn (by rw[decide_eq_false e,Bool.and_false])⟩
  ·rw[decide_eq_false hs];refine V4 ?_
   k_go
   exact⟨rfl,⟨_,rfl⟩,qu2 hr hn (by rw[decide_eq_false hs,Bool.false_and])⟩
 ·rintro σ H' ⟨rfl,⟨w,rfl⟩,hn⟩
  show Q .non H'
  have:frameOf rs n=none:=by
   unfold frameOf
   rw[List.find?_eq_none.mpr]
   ·rfl
   ·intro r hr
    rw[hlen,List.take_length] at hn
    rw[hn r hr];exact Bool.false_ne_true
  rw[this] at q;exact q
end
variable{n:Nat}{H1 H2 H0:Hp}{p d a b e:Addr}{xs ys:List V}{D:U8}{g:TG}{tb:TS}{σ σ':St}{te:TE}{tt:TT}{ds:List PyData}
section
variable{K:Fg}{vs:List V}{H:Hp}{Q:VK}{E:XK}
theorem L5(xs:List Str):(D4 xs).length=xs.length:=List.length_map _
def ch(c:Nat):Str:=⟨#[c]⟩
def Lt:Str := "abcdefghijklmnopqrstuvwxyz"
theorem yk8{x:Str}(h:x.cps.toList=y.cps.toList):x=y:=by
 obtain⟨a⟩:=x
 obtain⟨b⟩:=y
 exact congrArg Str.mk (Array.toList_inj.mp h)
theorem zv2:∀ j:Nat,j<26->Lt.cps.toList[j]?=some (97+j):=by decide +kernel
theorem yz7:Lt.length=26:=by decide +kernel
theorem zn1{i:Int}(h0:0<=i)(h1:i<26):atI Lt.cps.toList i=some (97+i.toNat):=by
 have e:i=((i.toNat:Nat):Int):=by omega
 have q:atI Lt.cps.toList ((i.toNat:Nat):Int)=some (97+i.toNat):=E8 (zv2 _ (by omega))
 rw[<-e] at q
 exact q
theorem zi7:∀ bs:List Nat,(PySem.Txt.join ("":Str) (bs.map ch)).cps.toList=bs:=by
 intro bs
 have e:PySem.Txt.join ("":Str) (bs.map ch)=Str.join ("":Str) (bs.map ch):=PySem.StrLaws.glued_eq_join _ _
 rw[e]
 induction bs with
 | nil=>rfl
 | cons b r ih =>
   cases r with
   | nil=>rfl
   | cons c r =>
     show((ch b++("":Str)++Str.join ("":Str) ((c::r).map ch)).cps).toList=_
     have ih:=ih (PySem.StrLaws.glued_eq_join _ _)
     show((ch b).cps++("":Str).cps++(Str.join ("":Str) ((c::r).map ch)).cps).toList=_
     rw[Array.toList_append,Array.toList_append,ih]
     rfl
theorem zv3{c:Nat}{n:Int}(h:1<=n):(PySem.Txt.mul (ch c) n).cps.toList=List.replicate n.toNat c:=by
 unfold PySem.Txt.mul
 rw[if_neg (by omega)]
 have f:∀ (k:Nat) (acc:Array Nat),((List.replicate k #[c]).foldl (·++·) acc).toList=acc.toList++List.replicate k c:=by
  intro k
  induction k with
  | zero=>intro acc;simp
  | succ k ih=>intro acc;rw[List.replicate_succ,List.foldl_cons,ih];simp[List.replicate_succ]
 by_cases h1:n=1
 ·subst h1;rfl
 ·have e:(n == 1 || (ch c).length == 0)=false:=by
   have:(n == 1)=false:=by simpa using h1
   rw[this];rfl
  rw[e,if_neg Bool.false_ne_true]
  have:=f n.toNat #[]
  show(List.foldl (fun x1 x2=>x1++x2) #[] (List.replicate n.toNat #[c])).toList=_
  simpa using this
theorem D8(h:n<=100000):n<=sizeLine:=by rw[sizeLine_eq];omega
theorem A6.tr(a:A6 H H1)(b:A6 H1 H2):A6 H H2:=fun c o e=>b c o (a c o e)
theorem A6.put(s:A6 H H1)(h:H p=none)(o:HO):A6 H (upd H1 p o):=fun b u e=>by
 have nb:b≠p:=fun z=>by rw[z,h] at e;cases e
 rw[C1 nb];exact s b u e
theorem T9(h:H d=some (.lst xs)):qe3 H (upd H d (.lst ys)) :=
 ⟨fun b zs e=>by rw[C1 (fun z=>by rw[z,h] at e;cases e)];exact e,fun b o zs e=>by rw[C1 (fun z=>by rw[z,h] at e;cases e)];exact e⟩
theorem M9{o:HO}(h:H a=some o)(g:H b=none):a≠b:=fun e=>by rw[e,g] at h;cases h
theorem qg8(xs:List Str):(D4 xs).all qs8=true:=by unfold D4;rw[List.all_map];exact List.all_eq_true.mpr fun _ _=>rfl
theorem qh8(x:Str):∀ xs:List Str,inV (.str x) (D4 xs)=decide (x∈xs)
 | []=>by simp[D4,inV]
 | y::ys=>by
   have ih:=qh8 x ys
   unfold inV at ih ⊢
   show(eqV (.str y) (.str x) || (D4 ys).any fun z=>eqV z (.str x))=_
   rw[ih]
   by_cases e:x=y
   ·subst e;simp[eqV]
   ·have e':¬y=x:=fun z=>e z.symm
    simp[eqV,e,e']
def E4(ns:List Int):List V:=ns.map V.int
theorem L8(ns:List Int):(E4 ns).length=ns.length:=List.length_map _
theorem qu3(ns:List Int)(x:Int):E4 ns++[V.int x]=E4 (ns++[x]):=by simp[E4]
theorem xo5(a b:Str):(a++b).length=a.length+b.length:=PySem.Str.length_append a b
theorem zi8{ns:List Int}(h:i<ns.length):(E4 ns)[i]?=some (.int ns[i]):=by unfold E4;rw[List.getElem?_map,List.getElem?_eq_getElem h];rfl
theorem yz8(h:1<=n):ixN n (-1)=some (n-1):=by
 unfold ixN
 rw[if_neg (by decide),if_pos (by omega)]
 congr 1
 omega
theorem zi9(h:1<=xs.length)(e:xs[xs.length-1]?=some v):atI xs (-1)=some v:=by
 unfold atI
 rw[yz8 h];exact e
theorem Ac3(h:1<=n):ixN n 0=some 0:=by
 unfold ixN
 rw[if_pos (by decide),if_pos (by omega)];rfl
theorem qn0(hq:SqL K H0 a xs\/SqT K H0 a xs)(s0:A6 H0 H)(Pv:Nat->St->Hp->Prop)(h0:Pv 0 σ H)(hk:∀ i σ H',Pv i σ H'->A6 H0 H')(hs:∀ i x σ H,xs[i]?=some x->Pv i σ H->g x σ H fun σ2 H2=>tb {D with nx:=PAt Pv (i+1),ct:=PAt Pv (i+1),bk:=D.nx} σ2 H2)(hd:∀ σ H,Pv xs.length σ H->D.nx σ H) :
 ∃ b,V.ref a=.ref b/\(((∃ xs,SqL K H b xs)/\xb9 g tb D σ (Itl K b) H)\/((∃ xs,SqT K H b xs)/\xb9 g tb D σ (Itt K b) H)):=by
 rcases hq with hq|hq
 ·exact⟨a,rfl,.inl ⟨⟨xs,s0.sqL hq⟩,wb2 Pv h0 (fun i σ H' _ p=>(hk i σ H' p).sqL hq) hs hd⟩⟩
 ·exact⟨a,rfl,.inr ⟨⟨xs,s0.sqT hq⟩,yi1 Pv h0 (fun i σ H' _ p=>(hk i σ H' p).sqT hq) hs hd⟩⟩
abbrev WlN(tb:TS)(D:U8)(Pv:St->Hp->Prop)(μ:St->Hp->Nat)(k:Nat)(σ:St)(H1:Hp):Prop :=
 ∃ N:St->Hp->Prop,(∀ σ' H',N σ' H'->∃ m',m'<k/\m'=μ σ' H'/\Pv σ' H')/\tb {D with nx:=N,ct:=N,bk:=D.nx} σ H1
theorem wg5{c:TT}(Pv:St->Hp->Prop)(μ:St->Hp->Nat)(h0:Pv σ H)(hs:∀ σ H,Pv σ H->c σ H fun b H1=>if b=true then WlN tb D Pv μ (μ σ H) σ H1 else D.nx σ H1):wq5 c tb D σ H:=by
 refine⟨fun m σ H=>m=μ σ H/\Pv σ H,⟨_,rfl,h0⟩,?_⟩
 rintro m σ H ⟨rfl,p⟩
 exact hs σ H p
theorem xk3(hq:SqL K H0 a xs\/SqT K H0 a xs)(s0:A6 H0 H)(Pv:Nat->List V->Hp->Prop)(h0:Pv 0 [] H)(hlen:∀ i ys H,i<=xs.length->Pv i ys H->ys.length<=sizeLine)(hk:∀ i ys H',Pv i ys H'->A6 H0 H')(hs:∀ i x ys H,xs[i]?=some x->Pv i ys H->g x σ' H fun σ2 H2=>tt σ2 H2 fun b H3=>if b=true then te σ2 H3 fun y H4=>PAt Pv (i+1) (ys++[y]) H4 else PAt Pv (i+1) ys H3)(hd:∀ ys H,Pv xs.length ys H->∀ p,H p=none->Q (.ref p) (upd H p (.lst ys))) :
 ∃ b,V.ref a=.ref b/\(((∃ xs,SqL K H b xs)/\qt4 g tt te σ' Q (Itl K b) H)\/((∃ xs,SqT K H b xs)/\qt4 g tt te σ' Q (Itt K b) H)):=by
 rcases hq with hq|hq
 ·exact qc1 (s0.sqL hq) Pv h0 hlen (fun i ys H' _ p=>(hk i ys H' p).sqL hq) hs hd
 ·refine⟨a,rfl,.inr ⟨⟨xs,s0.sqT hq⟩,wc2 (n:=xs.length) (fun i x=>xs[i]?=some x) Pv h0 hlen (fun i ys H hi p=>?_) (fun i ys H x H' hi p y=>?_) (fun ys H p=>?_) (fun i x ys H _ hx p=>hs i x ys H hx p) hd⟩⟩
  ·exact⟨xs,xs[i],(hk i ys H p).sqT hq,by simp[hi]⟩
  ·exact⟨y.1,y.2 xs ((hk i ys H p).sqT hq)⟩
  ·exact⟨xs,(hk _ ys H p).sqT hq,Nat.le_refl _⟩
theorem wc7{xs:List Str}{x:V}(h:(D4 xs)[i]?=some x):∃ y,xs[i]?=some y/\x=.str y:=by
 unfold D4 at h
 rw[List.getElem?_map] at h
 obtain⟨y,hy,e⟩:=Option.map_eq_some_iff.mp h
 exact⟨y,hy,e.symm⟩
theorem X9{xs:List Str}(h:i<xs.length):(D4 xs)[i]?=some (.str xs[i]):=by unfold D4;rw[List.getElem?_map,List.getElem?_eq_getElem h];rfl
theorem Z8(xs:List Str)(x:Str):D4 xs++[V.str x]=D4 (xs++[x]):=by simp[D4]
theorem ixI{xs:List α}{i:Int}{v:α}(h0:0<=i)(e:xs[i.toNat]?=some v):atI xs i=some v:=by
 have:=E8 e
 rwa [Int.toNat_of_nonneg h0] at this
def Dk(H:Hp)(d:Addr):Prop:=∃ ns:List Int,H d=some (.lst (E4 ns))/\1<=ns.length/\ns.length<=1000
structure Mv(d:Addr)(H H':Hp):Prop where
 but:But [d] H H'
 dk:Dk H' d
theorem But.tr{ps:List Addr}(a:But ps H H1)(b:But ps H1 H2):But ps H H2:=fun c o e n=>b c o (a c o e n) n
theorem Mv.refl(h:Dk H d):Mv d H H:=⟨fun _ _ e _=>e,h⟩
theorem Mv.tr(a:Mv d H H1)(b:Mv d H1 H2):Mv d H H2:=⟨But.tr a.but b.but,b.dk⟩
theorem Mv.at{o:HO}(a:Mv d H H')(h:H p=some o)(n:p≠d):H' p=some o:=a.but p o h (by simpa using n)
theorem Dk.ne(h:Dk H d)(g:H p=none):p≠d:=fun e=>by obtain⟨ns,h,_⟩:=h;rw[<-e,g] at h;cases h
theorem Mv.put(a:Mv d H H1)(h0:Dk H d)(h:H p=none)(o:HO):Mv d H (upd H1 p o):=by
 have np:=h0.ne h
 refine⟨fun b u e n=>?_,?_⟩
 ·have nb:b≠p:=fun z=>by rw[z,h] at e;cases e
  rw[C1 nb];exact a.but b u e n
 ·obtain⟨ns,h1,h2⟩:=a.dk
  exact⟨ns,by rw[C1 (Ne.symm np)];exact h1,h2⟩
theorem Mv.new(a:Mv d H H1)(h:H1 p=none)(o:HO):Mv d H (upd H1 p o):=by
 refine⟨fun b u e n=>?_,?_⟩
 ·have:=a.but b u e n
  rw[C1 (M9 this h)];exact this
 ·obtain⟨ns,h1,h2⟩:=a.dk
  exact⟨ns,by rw[C1 (M9 h1 h)];exact h1,h2⟩
theorem Mv.same(a:Mv d H H1)(b:A6 H1 H2):Mv d H H2:=⟨fun c o e n=>b c o (a.but c o e n),by obtain⟨ns,h1,h2⟩:=a.dk;exact⟨ns,b _ _ h1,h2⟩⟩
theorem Mv.tupK(a:Mv d H H1)(h:Dk H d):qe3 H H1:=by
 obtain⟨ns,h,_⟩:=h
 exact⟨fun b xs e=>a.but b _ e (by simp;rintro rfl;rw[h] at e;cases e),fun b o xs e=>a.but b _ e (by simp;rintro rfl;rw[h] at e;cases e)⟩
theorem Dvs.snoc{d:PyData}:∀ {vs:List V},Dvs K H (ds++[d]) vs->∃ ws y,vs=ws++[y]/\Dvs K H ds ws/\Dv K H d y:=by
 induction ds with
 | nil =>
   intro vs h
   rw[List.nil_append,Dvs] at h
   obtain⟨v,r,rfl,h1,h2⟩:=h
   rw[Dvs] at h2;subst h2
   exact⟨[],v,rfl,G8,h1⟩
 | cons e ds ih =>
   intro vs h
   rw[List.cons_append,Dvs] at h
   obtain⟨v,r,rfl,h1,h2⟩:=h
   obtain⟨ws,y,rfl,h3,h4⟩:=ih h2
   exact⟨v::ws,y,rfl,I9 h1 h3,h4⟩
theorem Dvs.one{d:PyData}(h:Dv K H d v):Dvs K H [d] [v]:=I9 h G8
theorem xv8:∀ {vs:List V},vs.length=ds.length->(∀ (i:Nat) (d:PyData) (v:V),ds[i]?=some d->vs[i]?=some v->Dv K H d v)->Dvs K H ds vs:=by
 induction ds with
 | nil=>intro vs h _;rw[List.length_eq_zero_iff.mp h];exact G8
 | cons d ds ih =>
   intro vs h g
   cases vs with
   | nil=>cases h
   | cons v vs =>
     refine I9 (g 0 d v rfl rfl) (ih (by simpa using h) fun i d' v' a b=>g (i+1) d' v' (by simpa using a) (by simpa using b))
def qp2(ns:List Int):List PyData:=ns.map .int
theorem O8:∀ {ns:List Int} {vs:List V},Dvs K H (qp2 ns) vs↔vs=E4 ns
 | [],_=>by show Dvs K H [] _↔_=[];rw[Dvs]
 | x::xs,vs=>by
   show Dvs K H (.int x::qp2 xs) vs↔vs=V.int x::E4 xs
   rw[Dvs]
   constructor
   ·rintro⟨v,r,rfl,h1,h2⟩
    rw[qz7.mp h1,O8.mp h2]
   ·rintro rfl
    exact⟨_,_,rfl,qz7.mpr rfl,O8.mpr rfl⟩
theorem yr8(hn:(n:Int)<2 ^ 62)(Pv:Nat->List V->Hp->Prop)(p0:Pv 0 [] H)(hlen:∀ (i:Nat) ys H,i<=n->Pv i ys H->ys.length<=sizeLine)(hs:∀ (i:Nat) ys H,i<n->Pv i ys H->g (.int ((n:Int)-1-i)) σ' H fun σ2 H2=>tt σ2 H2 fun b H3=>if b=true then te σ2 H3 fun y H4=>PAt Pv (i+1) (ys++[y]) H4 else PAt Pv (i+1) ys H3)(hd:∀ ys H,Pv n ys H->∀ p,H p=none->Q (.ref p) (upd H p (.lst ys))) :
 ∃ m:Nat,[V.int ((n:Int)-1),V.int (-1),V.int (-1)]=[.int ((m:Int)-1),.int (-1),.int (-1)]/\(m:Int)<2 ^ 62/\qt4 g tt te σ' Q (Itv m) H :=
 ⟨n,rfl,hn,wc2 (n:=n) (fun i x=>x=.int ((n:Int)-1-i)) Pv p0 hlen (fun i ys H hi _=>hi) (fun i ys H x H' hi _ y=>⟨y.1,y.2⟩) (fun ys H _=>Nat.le_refl _) (fun i x ys H hi hx p=>by subst hx;exact hs i ys H hi p) hd⟩
theorem yk9(h1:Dv K H (.list ds) (.ref p))(h2:H e=some (.lst []))(h:Q (.bl (!ds.isEmpty)) H):Z2 K (.ref p) (.ref e) H Q:=by
 refine xj7 h1 (e:=.list []) (T5.mpr ⟨e,[],rfl,SqL.of h2,G8⟩) ?_ ?_
 ·exact Nat.le_trans (Nat.min_le_right _ _) (by decide)
 ·cases ds <;> exact h
theorem Ac4(h1:Dv K H (.list ds) (.ref p))(h2:H e=some (.lst []))(h:Q (.bl ds.isEmpty) H):S4 K (.ref p) (.ref e) H Q:=by
 refine yw7 h1 (e:=.list []) (T5.mpr ⟨e,[],rfl,SqL.of h2,G8⟩) ?_ ?_
 ·exact Nat.le_trans (Nat.min_le_right _ _) (by decide)
 ·cases ds <;> exact h
theorem But.two{k:Addr}(b:But [d,k] H H')(h1:H d=some (.lst xs))(h2:H k=some (.lst ys)):qe3 H H' :=
 ⟨fun c zs e=>b c _ e (by simp;exact⟨(by rintro rfl;rw[h1] at e;cases e),(by rintro rfl;rw[h2] at e;cases e)⟩),
  fun c o zs e=>b c _ e (by simp;exact⟨(by rintro rfl;rw[h1] at e;cases e),(by rintro rfl;rw[h2] at e;cases e)⟩)⟩
theorem Mv.two(k:Addr)(a:Mv d H H'):But [d,k] H H':=But.mono a.but (by simp)
theorem A6.two(d k:Addr)(a:A6 H H'):But [d,k] H H':=fun b o e _=>a b o e
theorem Dk.lst{d:Addr}(h:Dk H d):∃ xs,H d=some (.lst xs):=let ⟨ns,h,_⟩:=h;⟨_,h⟩
theorem Dk.same(h:Dk H d)(s:A6 H H'):Dk H' d:=let ⟨ns,h,r⟩:=h;⟨ns,s _ _ h,r⟩
theorem Dk.put(h:Dk H d)(n:p≠d)(o:HO):Dk (upd H p o) d:=let ⟨ns,h,r⟩:=h;⟨ns,by rw[C1 (Ne.symm n)];exact h,r⟩
theorem qw4(s:A6 H H')(h:H' p=none):H p=none:=by
 cases e:H p with
 | none=>rfl
 | some o=>have:=s _ _ e;rw[h] at this;cases this
theorem xo6(s:Mv d H H')(h0:Dk H d)(h:H' p=none):H p=none:=by
 cases e:H p with
 | none=>rfl
 | some o =>
   by_cases n:p=d
   ·subst n;obtain⟨ns,h1,_⟩:=s.dk;rw[h] at h1;cases h1
   ·have:=s.at e n;rw[h] at this;cases this
inductive Tr where
 | tx (s:Str)
 | nd (n:Str) (ps:List Tr)
mutual
def Tr.da:Tr->PyData
 | .tx s=>.str s
 | .nd n ps=>.tuple [.str n,.tuple (Tr.das ps)]
def Tr.das:List Tr->List PyData
 | []=>[]
 | t::ts=>t.da::Tr.das ts
end
theorem O6:∀ ts:List Tr,Tr.das ts=ts.map Tr.da
 | []=>by rw[Tr.das];rfl
 | t::ts=>by rw[Tr.das,O6 ts];rfl
mutual
theorem Z9:∀ t:Tr,fix t.da=true
 | .tx s=>by rw[Tr.da,fix]
 | .nd n ps=>by rw[Tr.da,fix,X2,fix,X2,fix,X2,Y0 ps];rfl
theorem Y0:∀ ts:List Tr,X2 (Tr.das ts)=true
 | []=>by rw[Tr.das,X2]
 | t::ts=>by rw[Tr.das,X2,Z9 t,Y0 ts];rfl
end
def Tr.isTx:Tr->Bool
 | .tx _=>true
 | .nd _ _=>false
def Tr.kids:Tr->List Tr
 | .tx _=>[]
 | .nd _ ps=>ps
def qe4(pl:List Int):Nat->List Tr->List (List Int×Tr)
 | _,[]=>[]
 | k,t::ts=>(pl++[(k:Int)],t)::qe4 pl (k+1) ts
theorem qg9(pl:List Int):∀ (k:Nat) (ts:List Tr),(qe4 pl k ts).length=ts.length
 | _,[]=>rfl
 | k,t::ts=>by rw[qe4,List.length_cons,List.length_cons,qg9 pl (k+1) ts]
theorem xk4(pl:List Int):∀ (k:Nat) (ts:List Tr) (i:Nat),(qe4 pl k ts)[i]?=(ts[i]?).map fun t=>(pl++[((k+i:Nat):Int)],t)
 | _,[],i=>by simp[qe4]
 | k,t::ts,0=>by simp[qe4]
 | k,t::ts,i+1=>by
   rw[qe4,List.getElem?_cons_succ,xk4 pl (k+1) ts i,List.getElem?_cons_succ]
   congr 1;funext t;rw[show k+1+i=k+(i+1) by omega]
mutual
def pre(pl:List Int):Tr->List (List Int×Tr)
 | .tx s=>[(pl,.tx s)]
 | .nd n ps=>(pl,.nd n ps)::qn1 pl 0 ps
def qn1(pl:List Int)(k:Nat):List Tr->List (List Int×Tr)
 | []=>[]
 | t::ts=>pre (pl++[(k:Int)]) t++qn1 pl (k+1) ts
end
def qs7(stk:List (List Int×Tr)):List (List Int×Tr):=stk.flatMap fun p=>pre p.1 p.2
theorem xk5(pl:List Int):∀ (k:Nat) (ts:List Tr),qn1 pl k ts=qs7 (qe4 pl k ts)
 | k,[]=>by rw[qn1];rfl
 | k,t::ts=>by rw[qn1,xk5 pl (k+1) ts,qe4];rfl
theorem yz9(pl:List Int):∀ t:Tr,pre pl t=(pl,t)::qs7 (qe4 pl 0 t.kids)
 | .tx s=>by rw[pre];rfl
 | .nd n ps=>by rw[pre,xk5];rfl
theorem wc8(a b:List (List Int×Tr)):qs7 (a++b)=qs7 a++qs7 b:=by unfold qs7;rw[List.flatMap_append]
theorem wg6(p:List Int×Tr)(r:List (List Int×Tr)):qs7 (p::r)=p::qs7 (qe4 p.1 0 p.2.kids++r):=by
 rw[wc8]
 show pre p.1 p.2++qs7 r=_
 rw[yz9];rfl
mutual
def wt:Tr->Nat
 | .tx s=>1+s.length
 | .nd _ ps=>1+wts ps
def wts:List Tr->Nat
 | []=>0
 | t::ts=>wt t+wts ts
end
theorem za0:∀ t:Tr,1<=wt t
 | .tx s=>by rw[wt];omega
 | .nd _ ps=>by rw[wt];omega
mutual
theorem yf0(pl:List Int):∀ t:Tr,(pre pl t).length<=wt t
 | .tx s=>by rw[pre,wt,List.length_singleton];omega
 | .nd n ps=>by rw[pre,wt,List.length_cons];have:=yl0 pl 0 ps;omega
theorem yl0(pl:List Int)(k:Nat):∀ ts:List Tr,(qn1 pl k ts).length<=wts ts
 | []=>by rw[qn1,wts];exact Nat.le_refl _
 | t::ts=>by rw[qn1,wts,List.length_append];have:=yf0 (pl++[(k:Int)]) t;have:=yl0 pl (k+1) ts;omega
end
theorem V6:∀ ts:List Tr,ts.length<=wts ts
 | []=>Nat.zero_le _
 | t::ts=>by rw[wts,List.length_cons];have:=za0 t;have:=V6 ts;omega
mutual
theorem za1(pl:List Int):∀ (t:Tr) (p:List Int×Tr),p∈pre pl t->p.1.length+1<=pl.length+wt t
 | .tx s,p,h=>by rw[pre,List.mem_singleton] at h;subst h;rw[wt];show pl.length+1<=_;omega
 | .nd n ps,p,h=>by
   rw[pre,List.mem_cons] at h
   rw[wt]
   rcases h with rfl|h
   ·show pl.length+1<=_;omega
   ·have:=yl1 pl 0 ps p h;omega
theorem yl1(pl:List Int)(k:Nat):∀ (ts:List Tr) (p:List Int×Tr),p∈qn1 pl k ts->p.1.length<=pl.length+wts ts
 | [],p,h=>by rw[qn1] at h;cases h
 | t::ts,p,h=>by
   rw[qn1,List.mem_append] at h
   rw[wts]
   rcases h with h|h
   ·have:=za1 _ t p h;rw[List.length_append,List.length_singleton] at this;omega
   ·have:=yl1 pl (k+1) ts p h;omega
end
def pD(p:List Int×Tr):PyData:=.tuple [.tuple (qp2 p.1),p.2.da]
theorem wt2:∀ ns:List Int,X2 (qp2 ns)=true
 | []=>by show X2 []=true;rw[X2]
 | x::xs=>by show X2 (.int x::qp2 xs)=true;rw[X2,wt2 xs,fix];rfl
theorem wt3(p:List Int×Tr):fix (pD p)=true:=by unfold pD;rw[fix,X2,fix,X2,X2,Z9,wt2];rfl
theorem R7{α:Type}{f:α->PyData}(h:∀ x,fix (f x)=true):∀ l:List α,X2 (l.map f)=true
 | []=>by show X2 []=true;rw[X2]
 | x::l=>by show X2 (f x::l.map f)=true;rw[X2,h,R7 h l];rfl
theorem xv9{p:List Int×Tr}(h:Dv K H (pD p) v):∃ a b u,v=.ref a/\SqT K H a [.ref b,u]/\SqT K H b (E4 p.1)/\Dv K H p.2.da u:=by
 obtain⟨a,xs,rfl,ha,h⟩:=C6.mp h
 rw[Dvs] at h;obtain⟨v1,r1,rfl,e1,h⟩:=h
 rw[Dvs] at h;obtain⟨v2,r2,rfl,e2,h⟩:=h
 rw[Dvs] at h;subst h
 obtain⟨b,ys,rfl,hb,h⟩:=C6.mp e1
 rw[O8] at h;subst h
 exact⟨a,b,v2,rfl,ha,hb,e2⟩
variable{ps:List Tr}
theorem qh9{n:Str}(h:Dv K H (Tr.nd n ps).da v):∃ a b us,v=.ref a/\SqT K H a [.str n,.ref b]/\SqT K H b us/\Dvs K H (Tr.das ps) us:=by
 rw[Tr.da] at h
 obtain⟨a,xs,rfl,ha,h⟩:=C6.mp h
 rw[Dvs] at h;obtain⟨v1,r1,rfl,e1,h⟩:=h
 rw[Dvs] at h;obtain⟨v2,r2,rfl,e2,h⟩:=h
 rw[Dvs] at h;subst h
 rw[P9.mp e1] at ha
 obtain⟨b,ys,rfl,hb,h⟩:=C6.mp e2
 exact⟨a,b,ys,rfl,ha,hb,h⟩
variable{s:Str}
theorem xw0(h:Dv K H (Tr.tx s).da v):v=.str s:=by rw[Tr.da] at h;exact P9.mp h
variable{ts:List Tr}
theorem qa0{us:List V}(h:Dvs K H (Tr.das ts) us){t:Tr}(e:ts[i]?=some t):∃ u,us[i]?=some u/\Dv K H t.da u :=
 h.get (by rw[O6,List.getElem?_map,e];rfl)
theorem O0{us:List V}(h:Dvs K H (Tr.das ts) us):us.length=ts.length:=by have:=h.length;rw[O6,List.length_map] at this;exact this
theorem wt4{t:Tr}(h:Dv K H t.da v)(q:Q (.bl t.isTx) H):wl2 K [v,.ty "str"] H Q:=by
 cases t with
 | tx s=>rw[xw0 h];exact yx2 (.str _) (b:=true) rfl q
 | nd n ps=>obtain⟨a,b,us,rfl,ha,_⟩:=qh9 h;exact yx3 ha (b:=false) rfl q
def S1(K:Fg):Sp:=fun vs H Q _=>∃ (t:Tr) (v:V),vs=[v]/\Dv K H t.da v/\Q (.bl t.isTx) H
def qw5(K:Fg):TS :=
 (I0 (tCB (wl2 K) (A2 (A4 0) (A2 (tC (.ty "str")) B1))))
theorem yf1(h:S1 K vs H Q E):qw5 K {nx:=fun _ H'=>Q .non H',rt:=Q} (G9 ["part"] vs) H:=by
 obtain⟨t,v,rfl,hd,q⟩:=h
 show qw5 K _ [some v] H
 unfold qw5
 lk
 exact wt4 hd q
def O9(K:Fg):Sp:=fun vs H Q _=>∃ (t:Tr) (v:V),vs=[v]/\Dv K H t.da v/\∀ (p:Addr) (us:List V) (H':Hp),A6 H H'->SqT K H' p us->Dvs K H' (Tr.das t.kids) us->Q (.ref p) H'
def qp3(K:Fg):TS :=
 (I0 (tIf (tB (B9 (S1 K) [] E0 (A2 (A4 0) B1))) (O1 B1) (tOp (J0 K) (A4 0) (tC (.int 1)))))
theorem xw2(h:O9 K vs H Q E):qp3 K {nx:=fun _ H'=>Q .non H',rt:=Q} (G9 ["part"] vs) H:=by
 obtain⟨t,v,rfl,hd,q⟩:=h
 show qp3 K _ [some v] H
 unfold qp3
 lk
 refine⟨t,v,rfl,hd,?_⟩
 lk
 cases t with
 | tx s =>
   x_go
   lk
   exact⟨D8 (by z_go),fun p hp=>q p [] _ (A6.new hp _) (SqT.of A7) (by show Dvs K _ (Tr.das []) [];rw[Tr.das];exact G8)⟩
 | nd n ps =>
   obtain⟨a,b,us,rfl,ha,hb,hu⟩:=qh9 hd
   k_go
   lk
   refine J9 ha (v:=.ref b) rfl ?_
   exact q b us H (fun _ _ e=>e) hb hu
abbrev wl4(K:Fg):TS :=
 (I0 (Z4 [some 0,some 2,none] (yj6 (A2 (tOp (rI0 fun i j=>.int (i-j)) (tCB (P6 K) (A2 (A4 2) B1)) (tC (.int 1))) (A2 (tUn (rU fun i=>.int (-i)) (tC (.int 1))) (A2 (tUn (rU fun i=>.int (-i)) (tC (.int 1))) B1)))) (B3 2) tTT (O1 (A2 (tOp (O7 K) (A4 0) (O1 (A2 (A4 2) B1))) (A2 (tOp (J0 K) (A4 1) (A4 2)) B1)))))
def qa1(K:Fg):Sp:=fun vs H Q _=>∃ (pl:List Int) (t:Tr) (a:Addr) (v:V),vs=[.ref a,v]/\SqT K H a (E4 pl)/\Dv K H t.da v/\pl.length+t.kids.length<=90000/\∀ (p:Addr) (us:List V) (H':Hp),A6 H H'->H' p=some (.lst us)->H p=none->Dvs K H' ((qe4 pl 0 t.kids).reverse.map pD) us->Q (.ref p) H'
def qc6(K:Fg):TS :=
 (C0 (D9 (B9 (O9 K) [] E0 (A2 (A4 1) B1)) (B3 2))
 (wl4 K))
theorem wt5(h:qa1 K vs H Q E):qc6 K {nx:=fun _ H'=>Q .non H',rt:=Q} (G9 ["place","part","parts"] vs) H:=by
 obtain⟨pl,t,a,v,rfl,ha,hd,hz,q⟩:=h
 show qc6 K _ [some (.ref a),some v,none] H
 unfold qc6
 lk
 refine⟨t,v,rfl,hd,fun p us H1 s1 hp hu=>?_⟩
 lk
 have hul:=O0 hu
 refine M8 (.inr hp) ?_
 rw[hul]
 lk
 refine⟨1,rfl,?_⟩
 lk
 refine⟨1,rfl,?_⟩
 lk
 refine yr8 (n:=t.kids.length) (by omega) (fun i ys H'=>A6 H1 H'/\ys.length=i/\Dvs K H' (((qe4 pl 0 t.kids).reverse.take i).map pD) ys) ⟨fun _ _ e=>e,rfl,G8⟩ ?_ ?_ ?_
 ·rintro i ys H' hi ⟨_,hl,_⟩
  exact D8 (by omega)
 ·rintro i ys H' hi ⟨s2,hl,hds⟩
  lk
  refine⟨D8 (by z_go),fun c hc=>?_⟩
  have ha':SqT K (upd H' c (.tup [V.int ((t.kids.length:Int)-1-i)])) a (E4 pl):=A6.sqT (A6.tr (A6.tr s1 s2) (A6.new hc _)) ha
  refine qc2 ha' (SqT.of A7) (by rw[L8];exact D8 (by simp;omega)) fun t1 H2 st2 sq2=>?_
  lk
  have hp':SqT K H2 p us:=A6.sqT (A6.tr (A6.tr s2 (A6.new hc _)) st2) hp
  have hk:t.kids.length-1-i<t.kids.length:=by omega
  obtain⟨u,eu,du⟩:=qa0 hu (List.getElem?_eq_getElem hk)
  have e1:(t.kids.length:Int)-1-i=((t.kids.length-1-i:Nat):Int):=by omega
  rw[e1]
  refine J9 hp' (v:=u) (E8 eu) ?_
  lk
  refine⟨D8 (by z_go),fun t2 ht2=>?_⟩
  have s3:A6 H1 (upd H2 t2 (.tup [.ref t1,u])):=A6.tr s2 (A6.tr (A6.new hc _) (A6.tr st2 (A6.new ht2 _)))
  refine⟨s3,by simp[hl],?_⟩
  have s4:A6 H' (upd H2 t2 (.tup [.ref t1,u])):=A6.tr (A6.new hc _) (A6.tr st2 (A6.new ht2 _))
  rw[List.take_add_one,List.map_append]
  refine Dvs.append (Dvs.same s4 _ _ hds) ?_
  have eg:(qe4 pl 0 t.kids).reverse[i]?=some (pl++[((t.kids.length-1-i:Nat):Int)],t.kids[t.kids.length-1-i]):=by
   rw[List.getElem?_reverse (by rw[qg9];omega),qg9,xk4,List.getElem?_eq_getElem hk]
   simp
  rw[eg]
  refine Dvs.one ?_
  unfold pD
  refine C6.mpr ⟨t2,_,rfl,SqT.of A7,I9 (C6.mpr ⟨t1,_,rfl,A6.sqT (A6.new ht2 _) sq2,?_⟩) (I9 (Dv.same s3 _ _ du) G8)⟩
  rw[O8,e1]
  simp[E4]
 ·rintro ys H' ⟨s2,hl,hds⟩ p2 hp2
  rw[List.take_of_length_le (by rw[List.length_reverse,qg9];exact Nat.le_refl _)] at hds
  have s5:=A6.tr s1 s2
  have hn:H p2=none:=by
   cases e:H p2 with
   | none=>rfl
   | some o=>have:=s5 _ _ e;rw[hp2] at this;cases this
  exact q p2 ys _ (A6.tr s5 (A6.new hp2 _)) A7 hn (Dvs.same (A6.new hp2 _) _ _ hds)
abbrev wg7(K:Fg):TS :=
 (qh3 (tBM K "list" xm9 (A4 2) (A2 (B9 (qa1 K) [] E0 (A2 (tOp (J0 K) (A4 3) (tC (.int 0))) (A2 (tOp (J0 K) (A4 3) (tC (.int 1))) B1))) B1)))
abbrev wg8(K:Fg):TS :=
 (C0 (D9 (yu4 K "list" yu5 (A4 2)) (B3 3))
 (C0 (qh3 (tBM K "list" X8 (A4 1) (A2 (A4 3) B1)))
 (wg7 K)))
abbrev wg9(K:Fg):TS :=
 (C0 (wq5 (D7 (tOp xb8 (tCB (P6 K) (A2 (A4 2) B1)) (tC (.int 0))))
 (wg8 K))
 (I0 (A4 1)))
abbrev wh0(K:Fg):TS :=
 (C0 (D9 (X4 (A2 (O1 (A2 (O1 B1) (A2 (A4 0) B1))) B1)) (B3 2))
 (wg9 K))
def Y1(K:Fg):Sp:=fun vs H Q _=>∃ (t:Tr) (v:V),vs=[v]/\Dv K H t.da v/\wt t<=40000/\∀ (p:Addr) (us:List V) (H':Hp),A6 H H'->H p=none->H' p=some (.lst us)->Dvs K H' ((pre [] t).map pD) us->Q (.ref p) H'
def qa2(K:Fg):TS :=
 (C0 (D9 (X4 B1) (B3 1))
 (wh0 K))
theorem wl6(h:Y1 K vs H Q E):qa2 K {nx:=fun _ H'=>Q .non H',rt:=Q} (G9 ["tree","placed","ahead","step"] vs) H:=by
 obtain⟨t,v,rfl,hd,hz,q⟩:=h
 show qa2 K _ [some v,none,none,none] H
 unfold qa2
 have hpl:=yf0 [] t
 lk
 refine⟨D8 (by z_go),fun p1 hp1=>?_⟩
 lk
 refine⟨D8 (by z_go),fun c0 hc0=>?_⟩
 lk
 refine⟨D8 (by z_go),fun c1 hc1=>?_⟩
 lk
 refine⟨D8 (by z_go),fun p2 hp2=>?_⟩
 lk
 have sA:A6 H (upd (upd (upd (upd H p1 (.lst [])) c0 (.tup [])) c1 (.tup [.ref c0,v])) p2 (.lst [.ref c1])):=A6.tr (A6.new hp1 _) (A6.tr (A6.new hc0 _) (A6.tr (A6.new hc1 _) (A6.new hp2 _)))
 have n2:H p2=none:=by
  cases e:H p2 with
  | none=>rfl
  | some o=>have:=A6.tr (A6.new hp1 (.lst [])) (A6.tr (A6.new hc0 (.tup [])) (A6.new hc1 (.tup [.ref c0,v]))) _ _ e;rw[hp2] at this;cases this
 have np:p1≠p2:=fun e=>by
  have:=A6.tr (A6.new hc0 (.tup [])) (A6.new hc1 (.tup [.ref c0,v])) p1 (.lst []) A7
  rw[<-e] at hp2;rw[hp2] at this;cases this
 have hA1:(upd (upd (upd (upd H p1 (.lst [])) c0 (.tup [])) c1 (.tup [.ref c0,v])) p2 (.lst [.ref c1])) p1=some (.lst []) :=
  A6.tr (A6.new hc0 (.tup [])) (A6.tr (A6.new hc1 (.tup [.ref c0,v])) (A6.new hp2 _)) p1 (.lst []) A7
 have hA2:(upd (upd (upd (upd H p1 (.lst [])) c0 (.tup [])) c1 (.tup [.ref c0,v])) p2 (.lst [.ref c1])) p2=some (.lst [.ref c1]):=A7
 have hAd:Dvs K (upd (upd (upd (upd H p1 (.lst [])) c0 (.tup [])) c1 (.tup [.ref c0,v])) p2 (.lst [.ref c1])) [pD ([],t)] [.ref c1]:=by
  refine Dvs.one ?_
  unfold pD
  have sc0:A6 (upd (upd H p1 (.lst [])) c0 (.tup [])) (upd (upd (upd (upd H p1 (.lst [])) c0 (.tup [])) c1 (.tup [.ref c0,v])) p2 (.lst [.ref c1])):=A6.tr (A6.new hc1 _) (A6.new hp2 _)
  have sc1:A6 (upd (upd (upd H p1 (.lst [])) c0 (.tup [])) c1 (.tup [.ref c0,v])) (upd (upd (upd (upd H p1 (.lst [])) c0 (.tup [])) c1 (.tup [.ref c0,v])) p2 (.lst [.ref c1])):=A6.new hp2 _
  exact C6.mpr ⟨c1,_,rfl,A6.sqT sc1 (SqT.of A7),I9 (C6.mpr ⟨c0,[],rfl,A6.sqT sc0 (SqT.of A7),G8⟩) (I9 (Dv.same sA _ _ hd) G8)⟩
 generalize (upd (upd (upd (upd H p1 (.lst [])) c0 (.tup [])) c1 (.tup [.ref c0,v])) p2 (.lst [.ref c1]))=HA at *
 refine wg5 (fun σ H'=>∃ (w:Option V) (us ws:List V) (done stk:List (List Int×Tr)),σ=[some v,some (.ref p1),some (.ref p2),w]/\A6 H H'/\H' p1=some (.lst us)/\H' p2=some (.lst ws)/\Dvs K H' (done.map pD) us/\Dvs K H' (stk.reverse.map pD) ws/\done++qs7 stk=pre [] t)
  (fun σ H'=>match H' p1 with|some (.lst us)=>(pre [] t).length-us.length|_=>0) ⟨none,[],[.ref c1],[],[([],t)],rfl,sA,hA1,hA2,G8,hAd,by simp[qs7]⟩ ?_
 rintro σ H' ⟨w,us,ws,done,stk,rfl,s1,h1,h2,d1,d2,e⟩
 have hel:done.length+(qs7 stk).length=(pre [] t).length:=by rw[<-e,List.length_append]
 have hdl:us.length=done.length:=by have:=d1.length;rw[List.length_map] at this;exact this
 have hwl:ws.length=stk.length:=by have:=d2.length;rw[List.length_map,List.length_reverse] at this;exact this
 lk
 refine M8 (.inl (SqL.of h2)) ?_
 lk
 rw[hwl]
 cases stk with
 | nil =>
   k_go
   lk
   have:done=pre [] t:=by simpa [qs7] using e
   rw[this] at d1
   exact q p1 us H' s1 hp1 h1 d1
 | cons pt rest =>
   rw[decide_eq_true (by rw[List.length_cons];omega)]
   x_go
   obtain⟨pl,u⟩:=pt
   rw[List.reverse_cons,List.map_append] at d2
   obtain⟨ws',y,rfl,d3,d4⟩:=Dvs.snoc d2
   rw[wg6] at e hel
   dsimp only at e hel
   rw[List.length_cons,wc8,List.length_append] at hel
   have hm:(pl,u)∈pre [] t:=by rw[<-e];simp
   have hplw:=za1 [] t _ hm
   have hkw:(qs7 (qe4 pl 0 u.kids)).length>=u.kids.length:=by
    have:∀ (l:List (List Int×Tr)),l.length<=(qs7 l).length:=fun l=>by
     induction l with
     | nil=>exact Nat.zero_le _
     | cons p r ih=>rw[wg6,wc8,List.length_cons,List.length_cons,List.length_append];omega
    have:=this (qe4 pl 0 u.kids)
    rw[qg9] at this;exact this
   have hrl:rest.length<=(qs7 rest).length:=by
    have:∀ (l:List (List Int×Tr)),l.length<=(qs7 l).length:=fun l=>by
     induction l with
     | nil=>exact Nat.zero_le _
     | cons p r ih=>rw[wg6,wc8,List.length_cons,List.length_cons,List.length_append];omega
    exact this rest
   dsimp only at hplw
   rw[List.length_nil] at hplw
   refine⟨fun σ' H''=>∃ (w:Option V) (us ws:List V) (stk:List (List Int×Tr)),σ'=[some v,some (.ref p1),some (.ref p2),w]/\A6 H H''/\H'' p1=some (.lst us)/\H'' p2=some (.lst ws)/\Dvs K H'' ((done++[(pl,u)]).map pD) us/\Dvs K H'' (stk.reverse.map pD) ws/\done++[(pl,u)]++qs7 stk=pre [] t,?_,?_⟩
   ·rintro σ' H'' ⟨w,us',ws,stk,rfl,s1',h1',h2',d1',d2',e'⟩
    have hl':us'.length=done.length+1:=by have:=d1'.length;rw[List.length_map,List.length_append] at this;exact this
    refine⟨_,?_,rfl,w,us',ws,_,stk,rfl,s1',h1',h2',d1',d2',e'⟩
    dsimp only
    rw[h1,h1']
    dsimp only
    omega
   ·lk
    refine⟨.inl ⟨rfl,_,SqL.of h2⟩,?_⟩
    refine yx8 h2 ?_
    lk
    have h1':(upd H' p2 (.lst ws')) p1=some (.lst us):=by rw[C1 np];exact h1
    refine⟨.inl ⟨rfl,_,SqL.of h1'⟩,?_⟩
    lk
    refine X5 h1' (by rw[sizeLine_eq];omega) ?_
    lk
    have sB:A6 H (upd (upd H' p2 (.lst ws')) p1 (.lst (us++[y]))):=A6.put (A6.put s1 n2 _) hp1 _
    have tB:qe3 H' (upd (upd H' p2 (.lst ws')) p1 (.lst (us++[y]))):=(T9 h2).trans (T9 h1')
    have hB1:(upd (upd H' p2 (.lst ws')) p1 (.lst (us++[y]))) p1=some (.lst (us++[y])):=A7
    have hB2:(upd (upd H' p2 (.lst ws')) p1 (.lst (us++[y]))) p2=some (.lst ws'):=by rw[C1 (Ne.symm np)];exact A7
    have dB1:Dvs K (upd (upd H' p2 (.lst ws')) p1 (.lst (us++[y]))) ((done++[(pl,u)]).map pD) (us++[y]):=by
     rw[List.map_append]
     exact Dvs.tupK tB _ _ (by rw[<-List.map_append];exact R7 wt3 _) (Dvs.append d1 (Dvs.one d4))
    have dB2:Dvs K (upd (upd H' p2 (.lst ws')) p1 (.lst (us++[y]))) (rest.reverse.map pD) ws':=Dvs.tupK tB _ _ (R7 wt3 _) d3
    have dBy:Dv K (upd (upd H' p2 (.lst ws')) p1 (.lst (us++[y]))) (pD (pl,u)) y:=Dv.tupK tB _ _ (wt3 _) d4
    generalize (upd (upd H' p2 (.lst ws')) p1 (.lst (us++[y])))=HB at *
    refine⟨.inl ⟨rfl,_,SqL.of hB2⟩,?_⟩
    obtain⟨a,bq,uu,rfl,ha,hb,hu⟩:=xv9 dBy
    lk
    refine J9 ha (v:=.ref bq) rfl ?_
    lk
    refine J9 ha (v:=uu) rfl ?_
    lk
    refine⟨pl,u,bq,uu,rfl,hb,hu,by omega,fun p3 zs HC sC hC3 n3 dC=>?_⟩
    lk
    have hC2:=sC _ _ hB2
    have hzl:zs.length=u.kids.length:=by have:=dC.length;rw[List.length_map,List.length_reverse,qg9] at this;exact this
    have hwl':ws'.length=rest.length:=by have:=d3.length;rw[List.length_map,List.length_reverse] at this;exact this
    refine yy3 hC2 hC3 (D8 (by omega)) ?_
    lk
    have hC1:=sC _ _ hB1
    have tC:qe3 HC (upd HC p2 (.lst (ws'++zs))):=T9 hC2
    refine⟨_,_,_,qe4 pl 0 u.kids++rest,rfl,A6.put (A6.tr sB sC) n2 _,by rw[C1 np];exact hC1,A7,Dvs.tupK tC _ _ (R7 wt3 _) (Dvs.same sC _ _ dB1),?_,by simp[e]⟩
    rw[List.reverse_append,List.map_append]
    refine Dvs.tupK tC _ _ (by rw[<-List.map_append];exact R7 wt3 _) (Dvs.append (Dvs.same sC _ _ dB2) dC)
theorem Row.fix(r:Row):L2.fix r.da=true:=by
 unfold Row.da
 have hs:∀ xs:List Str,X2 (sDa xs)=true:=fun xs=>R7 (f:=PyData.str) (fun x=>by rw[L2.fix]) xs
 rw[L2.fix,X2,X2,X2,X2,X2,X2,L2.fix,L2.fix,L2.fix,L2.fix,L2.fix,hs,hs];rfl
theorem zj0{d:PyData}{us:List V}{u:V}{k:Nat}(h:Dvs K H ds us)(hd:Dv K H d u)(hk:k<=us.length):Dvs K H (W6 ds k d) (W6 us k u):=by
 have hl:=h.length
 refine xv8 ?_ ?_
 ·unfold W6;simp;omega
 ·intro i e v he hv
  unfold W6 at he hv
  have ld:(ds.take k).length=k:=by rw[List.length_take];omega
  have lu:(us.take k).length=k:=by rw[List.length_take];omega
  by_cases h1:i<k
  ·rw[List.getElem?_append_left (by omega),List.getElem?_take_of_lt h1] at he
   rw[List.getElem?_append_left (by omega),List.getElem?_take_of_lt h1] at hv
   obtain⟨v',hv',dv'⟩:=h.get he
   rw[hv] at hv';cases hv';exact dv'
  ·rw[List.getElem?_append_right (by omega),ld] at he
   rw[List.getElem?_append_right (by omega),lu] at hv
   by_cases h2:i=k
   ·subst h2
    rw[Nat.sub_self] at he hv
    cases he;cases hv;exact hd
   ·obtain⟨j,rfl⟩:∃ j,i=k+1+j:=⟨i-(k+1),by omega⟩
    rw[show k+1+j-k=j+1 by omega,List.getElem?_cons_succ,List.getElem?_drop] at he hv
    obtain⟨v',hv',dv'⟩:=h.get he
    rw[hv] at hv';cases hv';exact dv'
variable{β:Type}
theorem qc3(f:α->β)(l:List α)(k:Nat)(x:α):(W6 l k x).map f=W6 (l.map f) k (f x):=by unfold W6;simp
theorem yr9(l:List α)(k:Nat)(x:α)(h:k<=l.length):(W6 l k x).length=l.length+1:=by unfold W6;simp;omega
theorem ys0{l:List α}{k:Nat}{x y:α}(h:y∈W6 l k x):y=x\/y∈l:=by
 unfold W6 at h
 rcases List.mem_append.mp h with h|h
 ·exact .inr (List.mem_of_mem_take h)
 ·rcases List.mem_cons.mp h with h|h
  ·exact .inl h
  ·exact .inr (List.mem_of_mem_drop h)
theorem wt6{n:Str}{r t:Addr}{us:List V}(h1:SqT K H r [.str n,.ref t])(h2:SqT K H t us)(h3:Dvs K H (Tr.das ps) us):Dv K H (Tr.nd n ps).da (.ref r):=by
 rw[Tr.da]
 exact C6.mpr ⟨r,_,rfl,h1,I9 (P9.mpr rfl) (I9 (C6.mpr ⟨t,us,rfl,h2,h3⟩) G8)⟩
theorem za2(s:Str):Dv K H (Tr.tx s).da (.str s):=by rw[Tr.da];exact P9.mpr rfl
mutual
def hgt:Tr->Nat
 | .tx _=>0
 | .nd _ ps=>1+L9 ps
def L9:List Tr->Nat
 | []=>0
 | t::ts=>max (hgt t) (L9 ts)
end
theorem Q8:∀ a b:List Tr,wts (a++b)=wts a+wts b
 | [],b=>by rw[List.nil_append,wts,Nat.zero_add]
 | t::a,b=>by rw[List.cons_append,wts,wts,Q8 a b];omega
theorem O2:∀ a b:List Tr,L9 (a++b)=max (L9 a) (L9 b)
 | [],b=>by rw[List.nil_append,L9];omega
 | t::a,b=>by rw[List.cons_append,L9,L9,O2 a b];omega
mutual
theorem za3(pl:List Int):∀ (t:Tr) (p:List Int×Tr),p∈pre pl t->p.1.length<=pl.length+hgt t
 | .tx s,p,h=>by rw[pre,List.mem_singleton] at h;subst h;show pl.length<=_;omega
 | .nd n ps,p,h=>by
   rw[pre,List.mem_cons] at h
   rw[hgt]
   rcases h with rfl|h
   ·show pl.length<=_;omega
   ·have:=za4 pl 0 ps p h;omega
theorem za4(pl:List Int)(k:Nat):∀ (ts:List Tr) (p:List Int×Tr),p∈qn1 pl k ts->p.1.length<=pl.length+1+L9 ts
 | [],p,h=>by rw[qn1] at h;cases h
 | t::ts,p,h=>by
   rw[qn1,List.mem_append] at h
   rw[L9]
   rcases h with h|h
   ·have:=za3 _ t p h;rw[List.length_append,List.length_singleton] at this;omega
   ·have:=za4 pl (k+1) ts p h;omega
end
abbrev wh2(K:Fg):TS :=
 (C0 (D9 (tOp (rI (fun _ j=>0<j) fun i j=>.int (i % j)) (tOp (W5 K) (tOp (W5 K) (tOp qt3 (A4 4) (A4 4)) (tOp qt3 (tC (.int 69621)) (A4 4))) (tC (.int 7))) (tC (.int 2147483629))) (B3 4))
 (qh3 (tBM K "list" X8 (A4 2) (A2 (A4 4) B1))))
abbrev wh3(K:Fg):TS :=
 (C0 (D9 (tOp (rI (fun _ j=>0<j) fun i j=>.int (i % j)) (tOp (W5 K) (tOp (W5 K) (tOp qt3 (A4 4) (A4 4)) (tOp qt3 (tC (.int 48271)) (A4 4))) (tCB (P6 K) (A2 (A4 2) B1))) (tC (.int 2147483647))) (B3 4))
 (wh2 K))
abbrev wh4(K:Fg):TS :=
 (C0 (wq5 (D7 (tOp yp5 (tCB (P6 K) (A2 (A4 2) B1)) (A4 1)))
 (wh3 K))
 (I0 (tOp (W5 K) (X4 (A2 (A4 3) B1)) (yx7 K (A4 2)))))
def zv4(K:Fg):TS :=
 (C0 (D9 (tOp (W5 K) (tC (.int 48271)) (tOp (rI (fun _ j=>0<j) fun i j=>.int (i % j)) (tCB (yy2 K) (A2 (A4 2) B1)) (tC (.int 2147483647)))) (B3 4))
 (wh4 K))
def za5(K:Fg):TS :=
 (D9 (tOp (W5 K) (A4 6) (tOp (J0 K) (A4 2) (tOp (rI (fun _ j=>0<j) fun i j=>.int (i % j)) (tOp (W5 K) (A4 3) (A4 8)) (tC (.int 26))))) (B3 6))
abbrev wh5(K:Fg):TS :=
 (D9 (tOp (rI xm0 fun i j=>.int (i / j)) (tOp (J0 K) (A4 2) (tC (.int 0))) (tC (.int 2))) (yn5 (A4 2) (tC (.int 0)) xj8))
abbrev wh6(K:Fg):TS :=
 (C0 (D9 (tOp (rI (fun _ j=>0<j) fun i j=>.int (i % j)) (tOp (J0 K) (A4 2) (tC (.int 0))) (tC (.int 2))) (B3 3))
 (wh5 K))
abbrev wh7(K:Fg):TS :=
 (C0 (M0 (D7 (tOp (Z2 K) (A4 2) (X4 B1)))
 (wh6 K) E9)
 (zv4 K))
def Y2(K:Fg):Sp:=fun vs H Q _=>∃ (a:Addr) (ns:List Int) (m:Nat),vs=[.ref a,.int m]/\SqL K H a (E4 ns)/\m<=900/\∀ (d:Addr) (H':Hp),A6 H H'->H d=none->Dk H' d->Q (.ref d) H'
def qa3(K:Fg):TS :=
 (C0 (D9 (tCB (xn1 K) (A2 (tSl (yx4 K) (A4 0) N9 (S6 (tC (.int 63)))) B1)) (B3 2))
 (C0 (D9 (tC (.int 0)) (B3 3))
 (wh7 K)))
theorem wl7(h:Y2 K vs H Q E):qa3 K {nx:=fun _ H'=>Q .non H',rt:=Q} (G9 ["_law_script","_law_most","_law_deck","_law_kind","_law_last"] vs) H:=by
 obtain⟨sc,ns,m,rfl,hS,hm,q⟩:=h
 show qa3 K _ [some (.ref sc),some (.int m),none,none,none] H
 unfold qa3
 lk
 refine zm7 hS fun p hp=>?_
 lk
 obtain⟨ms,ems,hms⟩:∃ ms:List Int,qb8 (E4 ns) none (some 63)=E4 ms/\ms.length<=63:=by
  refine⟨ns.take 63,?_,by rw[List.length_take];omega⟩
  have:qb8 (E4 ns) none (some 63)=(E4 ns).take 63:=by
   unfold qb8
   show((E4 ns).drop 0).take (HT.sIx (E4 ns).length (E4 ns).length (some 63)-0)=_
   rw[List.drop_zero,Nat.sub_zero]
   unfold HT.sIx
   simp only[]
   by_cases h:(E4 ns).length<=63
   ·rw[List.take_of_length_le h,List.take_of_length_le]
    simp;omega
   ·congr 1
    simp;omega
  rw[this];unfold E4;rw[List.map_take]
 rw[ems]
 refine⟨p,_,rfl,.inl (SqL.of A7),fun d hd=>?_⟩
 have s1:A6 H (upd (upd H p (.lst (E4 ms))) d (.lst (E4 ms))):=A6.tr (A6.new hp _) (A6.new hd _)
 have hd1:(upd (upd H p (.lst (E4 ms))) d (.lst (E4 ms))) d=some (.lst (E4 ms)):=A7
 have hd0:H d=none:=by
  cases e:H d with
  | none=>rfl
  | some o=>have:=A6.new hp (.lst (E4 ms)) _ _ e;rw[hd] at this;cases this
 generalize upd (upd H p (.lst (E4 ms))) d (.lst (E4 ms))=H1 at *
 lk
 refine⟨D8 (by z_go),fun e he=>?_⟩
 have hd2:(upd H1 e (.lst [])) d=some (.lst (E4 ms)):=by rw[C1 (M9 hd1 he)];exact hd1
 have s2:A6 H (upd H1 e (.lst [])):=A6.tr s1 (A6.new he _)
 have he2:(upd H1 e (.lst [])) e=some (.lst []):=A7
 generalize upd H1 e (.lst [])=H2 at *
 refine yk9 (ds:=qp2 ms) (T5.mpr ⟨d,_,rfl,SqL.of hd2,O8.mpr rfl⟩) he2 ?_
 lk
 have fin:∀ (ms:List Int) (kind:Int) (H2:Hp),A6 H H2->H2 d=some (.lst (E4 ms))->ms.length<=63->(zv4 K) {nx:=fun _ H'=>Q .non H',rt:=Q} [some (.ref sc),some (.int m),some (.ref d),some (.int kind),none] H2:=by
  clear hd1 hd2 s1 s2 he2 ems
  intro ms kind H2 s2 hd2 hms
  unfold zv4
  lk
  refine Ab3 (js:=ms) (SqL.of hd2) fun j=>?_
  lk
  have j0:=Int.emod_nonneg j (show(2147483647:Int)≠0 by decide)
  have j1:=Int.emod_lt_of_pos j (show(0:Int)<2147483647 by decide)
  generalize hL:48271+j % 2147483647=L at *
  refine wg5 (fun σ H'=>∃ (L:Int) (ms:List Int),σ=[some (.ref sc),some (.int m),some (.ref d),some (.int kind),some (.int L)]/\A6 H H'/\H' d=some (.lst (E4 ms))/\ms.length<=900/\0<=L/\L<2 ^ 40)
   (fun σ H'=>match H' d with|some (.lst us)=>m-us.length|_=>0) ⟨L,ms,rfl,s2,hd2,by omega,by omega,by omega⟩ ?_
  rintro σ H' ⟨L,ms,rfl,s1,h1,hl,l0,l1⟩
  lk
  refine M8 (.inl (SqL.of h1)) ?_
  rw[L8]
  lk
  by_cases hlt:((ms.length:Nat):Int)<(m:Int)
  ·rw[decide_eq_true hlt]
   x_go
   refine⟨fun σ' H''=>∃ (L:Int) (ms':List Int),σ'=[some (.ref sc),some (.int m),some (.ref d),some (.int kind),some (.int L)]/\A6 H H''/\H'' d=some (.lst (E4 ms'))/\ms'.length=ms.length+1/\0<=L/\L<2 ^ 40,?_,?_⟩
   ·rintro σ' H'' ⟨L',ms',rfl,s1',h1',hl',l0',l1'⟩
    refine⟨_,?_,rfl,L',ms',rfl,s1',h1',by omega,l0',l1'⟩
    dsimp only
    rw[h1,h1']
    dsimp only
    rw[L8,L8]
    omega
   ·lk
    refine wr7 (.inl ⟨by omega,by omega⟩) ?_
    lk
    refine wr7 (.inl ⟨by decide,by decide⟩) ?_
    lk
    refine M8 (.inl (SqL.of h1)) ?_
    lk
    generalize hX:(L*L+48271*L+((E4 ms).length:Int)) % 2147483647=Y
    have y0:0<=Y:=by rw[<-hX];exact Int.emod_nonneg _ (by decide)
    have y1:Y<2147483647:=by rw[<-hX];exact Int.emod_lt_of_pos _ (by decide)
    refine wr7 (.inl ⟨by omega,by omega⟩) ?_
    lk
    refine wr7 (.inl ⟨by decide,by decide⟩) ?_
    lk
    generalize hX2:(Y*Y+69621*Y+7) % 2147483629=Z
    have z0:0<=Z:=by rw[<-hX2];exact Int.emod_nonneg _ (by decide)
    have z1:Z<2147483629:=by rw[<-hX2];exact Int.emod_lt_of_pos _ (by decide)
    refine⟨.inl ⟨rfl,_,SqL.of h1⟩,?_⟩
    lk
    refine X5 h1 (by rw[L8,sizeLine_eq];omega) ?_
    exact⟨Z,ms++[Z],rfl,A6.put s1 hd0 _,by rw[<-qu3];exact A7,by simp,z0,by omega⟩
  ·rw[decide_eq_false hlt]
   k_go
   lk
   refine⟨D8 (by z_go),fun x hx=>?_⟩
   lk
   have hd3:(upd H' x (.lst [.int kind])) d=some (.lst (E4 ms)):=by rw[C1 (M9 h1 hx)];exact h1
   refine⟨d,_,rfl,SqL.of hd3,fun y hy=>?_⟩
   have hx4:(upd (upd H' x (.lst [.int kind])) y (.lst (E4 ms).reverse)) x=some (.lst [.int kind]):=by rw[C1 (M9 A7 hy)];exact A7
   refine yw6 hx4 A7 (by rw[List.length_reverse,L8];exact D8 (by simp;omega)) fun r hr=>?_
   have sx:A6 H (upd (upd (upd H' x (.lst [.int kind])) y (.lst (E4 ms).reverse)) r (.lst ([.int kind]++(E4 ms).reverse))):=A6.tr s1 (A6.tr (A6.new hx _) (A6.tr (A6.new hy _) (A6.new hr _)))
   have hr0:H r=none:=by
    cases e:H r with
    | none=>rfl
    | some o=>have:=A6.tr s1 (A6.tr (A6.new hx (.lst [.int kind])) (A6.new hy (.lst (E4 ms).reverse))) _ _ e;rw[hr] at this;cases this
   refine q r _ sx hr0 ⟨kind::ms.reverse,?_,by simp,by simp;omega⟩
   rw[A7]
   simp[E4]
 cases ms with
 | nil =>
   k_go
   lk
   exact fin [] 0 H2 s2 hd2 (by simp)
 | cons y ys =>
   x_go
   lk
   refine R6 (SqL.of hd2) (v:=.int y) (E8 (j:=0) rfl) ?_
   lk
   refine R6 (SqL.of hd2) (v:=.int y) (E8 (j:=0) rfl) ?_
   lk
   refine .inl (yw9 hd2 (j:=0) (Ac3 (by simp[E4])) ?_)
   lk
   exact fin ((y / 2)::ys) _ _ (A6.put s2 hd0 _) (by rw[A7];simp[E4]) (by simpa using hms)
abbrev xc1(K:Fg):TS :=
 (qh3 (tBM K "list" X8 (A4 0) (A2 (tOp (rI xu5 fun i j=>.int (i / j)) (A4 2) (A4 1)) B1)))
abbrev xc2(K:Fg):TS :=
 (C0 (M0 (qz3 (D7 (tOp (S4 K) (tOp (J0 K) (A4 0) (tC (.int 0))) (tC (.int 1)))) (D7 (tOp (Z2 K) (tOp (rI xu5 fun i j=>.int (i / j)) (A4 2) (A4 1)) (tC (.int 0)))))
 (xc1 K) E9)
 (I0 (tOp (rI (fun _ j=>0<j) fun i j=>.int (i % j)) (A4 2) (A4 1))))
def E5(K:Fg):Sp:=fun vs H Q _=>∃ (d:Addr) (m:Int),vs=[.ref d,.int m]/\0<m/\m<2 ^ 200/\Dk H d/\∀ (n:Int) (H':Hp),0<=n->n<m->Mv d H H'->Q (.int n) H'
def qj5(K:Fg):TS :=
 (C0 (M0 (D7 (tOp (S4 K) (tCB (P6 K) (A2 (A4 0) B1)) (tC (.int 1))))
 (I0 (tC (.int 0))) E9)
 (C0 (D9 (yu4 K "list" yu5 (A4 0)) (B3 2))
 (xc2 K)))
theorem xo8(h:E5 K vs H Q E):qj5 K {nx:=fun _ H'=>Q .non H',rt:=Q} (G9 ["_law_deck","_law_most","_law_number"] vs) H:=by
 obtain⟨d,m,rfl,h0,h1,⟨ns,hd,hl,hz⟩,q⟩:=h
 show qj5 K _ [some (.ref d),some (.int m),none] H
 unfold qj5
 lk
 refine M8 (.inl (SqL.of hd)) ?_
 rw[L8]
 lk
 by_cases e1:((ns.length:Nat):Int)=1
 ·rw[decide_eq_true e1];refine W9 ?_
  lk
  exact q 0 H (by decide) h0 (Mv.refl ⟨ns,hd,hl,hz⟩)
 ·rw [decide_eq_false e1];refine V4 ?_
  obtain⟨x,xs,y,rfl⟩:∃ x xs y,ns=x::(xs++[y]):=by
   cases ns with
   | nil=>simp at hl
   | cons x r =>
     have hr:r≠[]:=fun z=>by rw[z] at e1;exact e1 rfl
     exact⟨x,r.dropLast,r.getLast hr,by rw[List.dropLast_concat_getLast hr]⟩
  lk
  refine⟨.inl ⟨rfl,_,SqL.of hd⟩,?_⟩
  have hd':H d=some (.lst (E4 (x::xs)++[.int y])):=by rw[hd];simp[E4]
  refine yx8 hd' ?_
  lk
  have b1:But [d] H (upd H d (.lst (E4 (x::xs)))):=But.upd (by simp) _
  have hd2:(upd H d (.lst (E4 (x::xs)))) d=some (.lst (E4 (x::xs))):=A7
  have n0:=Int.emod_nonneg y (show m≠0 by omega)
  have n1:=Int.emod_lt_of_pos y h0
  have dk1:Dk (upd H d (.lst (E4 (x::xs)))) d:=⟨x::xs,hd2,by simp,by simp at hz ⊢;omega⟩
  refine R6 (SqL.of hd2) (v:=.int x) (E8 (j:=0) rfl) ?_
  lk
  by_cases ex:x=1
  ·rw[decide_eq_true ex];refine W9 ?_
   lk
   refine yj8 ⟨h0,h1⟩ ?_
   lk
   by_cases ez:y / m=0
   ·rw[decide_eq_true ez];refine V4 ?_
    lk
    exact q _ _ n0 n1 ⟨b1,dk1⟩
   ·rw[decide_eq_false ez];refine W9 ?_
    lk
    refine⟨.inl ⟨rfl,_,SqL.of hd2⟩,?_⟩
    lk
    refine yj8 ⟨h0,h1⟩ ?_
    lk
    refine X5 hd2 (by rw[L8,sizeLine_eq];simp at hz ⊢;omega) ?_
    lk
    refine q _ _ n0 n1 ⟨But.tr b1 (But.upd (by simp) _),(x::xs)++[y / m],?_,by simp,by simp at hz ⊢;omega⟩
    rw[A7,qu3]
  ·rw[decide_eq_false ex];refine V4 ?_
   k_go
   lk
   exact q _ _ n0 n1 ⟨b1,dk1⟩
def nmG(c k:Int)(j:Nat):Nat:=97+((c / 64 % 26+(if(j:Int)=c / 8 % (1+c % 8) then c / 1664 % 3*j+k else c / 1664 % 3*j)) % 26).toNat
def qx9(c k:Int):List Nat :=
 if c / 1664 % 3=2 then List.replicate (1+k % 8).toNat (97+((c / 64 % 26+k / 8) % 26).toNat)
 else(List.range (1+c % 8).toNat).map (nmG c k)
def W7(c k:Int):Str:=⟨(qx9 c k).toArray⟩
theorem wh9(c k:Int):(qx9 c k).length=if c / 1664 % 3=2 then(1+k % 8).toNat else(1+c % 8).toNat:=by
 unfold qx9
 split <;> simp
theorem ys1(c k:Int):1<=(W7 c k).length/\(W7 c k).length<=8:=by
 have e:(W7 c k).length=(qx9 c k).length:=by show(qx9 c k).toArray.size=_;simp
 rw[e,wh9]
 split <;> omega
theorem za6(c k:Int):W7 c k≠("":Str):=fun e=>by
 have:=(ys1 c k).1
 rw[e] at this
 exact absurd this (by decide)
variable{c j:Int}
theorem ys2{i:Int}(h0:0<=i)(h1:i<8)(h2:0<=j)(h3:j<8)(e:W7 c i=W7 c j):i=j:=by
 have e:qx9 c i=qx9 c j:=by
  have:=congrArg (fun s:Str=>s.cps.toList) e
  simpa [W7] using this
 by_cases h:c / 1664 % 3=2
 ·have:=congrArg List.length e
  rw[wh9,wh9,if_pos h,if_pos h] at this
  omega
 ·unfold qx9 at e
  rw[if_neg h,if_neg h] at e
  unfold nmG at e
  have g0:=Int.emod_nonneg c (show(8:Int)≠0 by decide)
  have t0:=Int.emod_nonneg (c / 8) (show(1+c % 8:Int)≠0 by omega)
  have t1:=Int.emod_lt_of_pos (c / 8) (show(0:Int)<1+c % 8 by omega)
  generalize c / 8 % (1+c % 8)=t at *
  have:=congrArg (fun l:List Nat=>l[t.toNat]?) e
  simp only[List.getElem?_map,List.getElem?_range (show t.toNat<(1+c % 8).toNat by omega),Option.map_some,Option.some.injEq] at this
  have et:((t.toNat:Nat):Int)=t:=by omega
  rw[if_pos et,if_pos et] at this
  generalize c / 1664 % 3*(t.toNat:Int)=z at *
  omega
def nmP(c k:Int)(i:Nat):Str:=⟨((List.range i).map (nmG c k)).toArray⟩
theorem za7(c k:Int)(i:Nat):nmP c k i++(⟨#[nmG c k i]⟩:Str)=nmP c k (i+1):=by
 refine yk8 ?_
 show((nmP c k i).cps++#[nmG c k i]).toList=((List.range (i+1)).map (nmG c k)).toArray.toList
 rw[Array.toList_append,List.range_succ,List.map_append]
 rfl
theorem zj1(c k:Int)(i:Nat):(nmP c k i).length=i:=by show((List.range i).map (nmG c k)).toArray.size=i;simp
abbrev xc4(K:Fg):TS :=
 (I0 (tOp qt3 (tOp (J0 K) (A4 2) (tOp (rI (fun _ j=>0<j) fun i j=>.int (i % j)) (tOp (W5 K) (A4 3) (tOp (rI xm0 fun i j=>.int (i / j)) (A4 1) (tC (.int 8)))) (tC (.int 26)))) (tOp (W5 K) (tC (.int 1)) (tOp (rI (fun _ j=>0<j) fun i j=>.int (i % j)) (A4 1) (tC (.int 8))))))
abbrev xc5(K:Fg):TS :=
 (C0 (M0 (D7 (tOp (S4 K) (A4 7) (A4 5)))
 (D9 (tOp (W5 K) (A4 8) (A4 1)) (B3 8)) E9)
 (za5 K))
abbrev xc6(K:Fg):TS :=
 (C0 (D9 (tOp qt3 (tOp (rI (fun _ j=>0<j) fun i j=>.int (i % j)) (tOp (rI xm0 fun i j=>.int (i / j)) (A4 0) (tC (.int 1664))) (tC (.int 3))) (A4 7)) (B3 8))
 (xc5 K))
abbrev xc7(K:Fg):TS :=
 (C0 (D9 (tC (.str ("":Str))) (B3 6))
 (C0 (qm3 (qm2 (A2 (A4 4) B1)) (B3 7)
 (xc6 K))
 (I0 (A4 6))))
abbrev xc8(K:Fg):TS :=
 (C0 (D9 (tOp (rI (fun _ j=>0<j) fun i j=>.int (i % j)) (tOp (rI xm0 fun i j=>.int (i / j)) (A4 0) (tC (.int 8))) (A4 4)) (B3 5))
 (xc7 K))
abbrev xc9(K:Fg):TS :=
 (C0 (D9 (tOp (W5 K) (tC (.int 1)) (tOp (rI (fun _ j=>0<j) fun i j=>.int (i % j)) (A4 0) (tC (.int 8)))) (B3 4))
 (xc8 K))
abbrev xd0(K:Fg):TS :=
 (C0 (M0 (D7 (tOp (S4 K) (tOp (rI (fun _ j=>0<j) fun i j=>.int (i % j)) (tOp (rI xm0 fun i j=>.int (i / j)) (A4 0) (tC (.int 1664))) (tC (.int 3))) (tC (.int 2))))
 (xc4 K) E9)
 (xc9 K))
abbrev xd1(K:Fg):TS :=
 (C0 (D9 (tOp (rI (fun _ j=>0<j) fun i j=>.int (i % j)) (tOp (rI xm0 fun i j=>.int (i / j)) (A4 0) (tC (.int 64))) (tC (.int 26))) (B3 3))
 (xd0 K))
def qf1(K:Fg):Sp:=fun vs H Q _=>∃ c k:Int,vs=[.int c,.int k]/\Q (.str (W7 c k)) H
def qj6(K:Fg):TS :=
 (C0 (D9 (tC (.str ("abcdefghijklmnopqrstuvwxyz":Str))) (B3 2))
 (xd1 K))
theorem xo9(h:qf1 K vs H Q E):qj6 K {nx:=fun _ H'=>Q .non H',rt:=Q} (G9 ["_law_code","_law_k","_law_letters","_law_first_here","_law_long","_law_told_here","_law_name_here","_law_j","_law_step"] vs) H:=by
 obtain⟨c,k,rfl,q⟩:=h
 show qj6 K _ [some (.int c),some (.int k),none,none,none,none,none,none,none] H
 unfold qj6
 lk
 have e0:W7 c k=⟨(qx9 c k).toArray⟩:=rfl
 unfold qx9 at e0
 by_cases h2:c / 1664 % 3=2
 ·rw[decide_eq_true h2];refine W9 ?_
  rw[if_pos h2] at e0
  lk
  refine yw8 (D8 (by rw[show("abcdefghijklmnopqrstuvwxyz":Str)=Lt from rfl,yz7];decide)) (zn1 (Int.emod_nonneg _ (by decide)) (Int.emod_lt_of_pos _ (by decide))) ?_
  lk
  have k0:=Int.emod_nonneg k (show(8:Int)≠0 by decide)
  have k1:=Int.emod_lt_of_pos k (show(0:Int)<8 by decide)
  refine zs7 (by omega) (by omega) (show(1:Nat)<=1000 by decide) ?_
  have e1:PySem.Txt.mul (ch (97+((c / 64 % 26+k / 8) % 26).toNat)) (1+k % 8)=W7 c k:=by
   rw[e0]
   exact yk8 (zv3 (by omega))
  rw[<-e1] at q
  exact q
 ·rw[decide_eq_false h2];refine V4 ?_
  rw[if_neg h2] at e0
  have e0:W7 c k=nmP c k (1+c % 8).toNat:=e0
  rw[e0] at q
  have hG:∀ j,nmG c k j=97+((c / 64 % 26+(if(j:Int)=c / 8 % (1+c % 8) then c / 1664 % 3*j+k else c / 1664 % 3*j)) % 26).toNat:=fun _=>rfl
  generalize hf:c / 64 % 26=f at *
  lk
  have g0:=Int.emod_nonneg c (show(8:Int)≠0 by decide)
  have g1:=Int.emod_lt_of_pos c (show(0:Int)<8 by decide)
  generalize hg:(1:Int)+c % 8=g at *
  lk
  generalize htl:c / 8 % g=tl at *
  refine qm5 (by omega) (by omega) (fun i σ H'=>H'=H/\∃ (a1 a2:Option V),σ=[some (.int c),some (.int k),some (.str Lt),some (.int f),some (.int g),some (.int tl),some (.str (nmP c k i)),a1,a2]) ⟨rfl,_,_,rfl⟩ ?_ ?_
  ·rintro i σ H' hi ⟨rfl,a1,a2,rfl⟩
   have m0:=Int.emod_nonneg (c / 1664) (show(3:Int)≠0 by decide)
   have m1:=Int.emod_lt_of_pos (c / 1664) (show(0:Int)<3 by decide)
   lk
   refine wr7 (.inl ⟨by omega,by omega⟩) ?_
   have fin:∀ (D:U8) (sv:Int),97+((f+sv) % 26).toNat=nmG c k i->(∀ (a1 a2:Option V),D.nx [some (.int c),some (.int k),some (.str Lt),some (.int f),some (.int g),some (.int tl),some (.str (nmP c k (i+1))),a1,a2] H')->(za5 K) D [some (.int c),some (.int k),some (.str Lt),some (.int f),some (.int g),some (.int tl),some (.str (nmP c k i)),some (.int i),some (.int sv)] H':=by
    intro D sv hsv qq
    unfold za5
    lk
    refine yw8 (D8 (by rw[yz7];decide)) (zn1 (Int.emod_nonneg _ (by decide)) (Int.emod_lt_of_pos _ (by decide))) ?_
    rw[hsv]
    refine yc8 (by rw[zj1];show _+1<=_;rw[sizeLine_eq];omega) ?_
    rw[za7]
    lk
    exact qq _ _
   lk
   by_cases et:(i:Int)=tl
   ·rw[decide_eq_true et];refine W9 ?_
    lk
    exact fin _ _ (by rw[hG,if_pos et]) fun a1 a2=>⟨rfl,a1,a2,rfl⟩
   ·rw[decide_eq_false et];refine V4 ?_
    lk
    exact fin _ _ (by rw[hG,if_neg et]) fun a1 a2=>⟨rfl,a1,a2,rfl⟩
  ·rintro σ H' ⟨rfl,a1,a2,rfl⟩
   lk
   exact q
def gd(l:List Str)(i:Nat):Str:=l.getD i ("":Str)
theorem za8{l:List Str}(h:i<l.length):l[i]?=some (gd l i):=by
 unfold gd;rw[List.getD_eq_getElem?_getD];simp[h]
theorem zv5{xs:List Str}:gd (xs++[y]) xs.length=y:=by
 have h1:=za8 (l:=xs++[y]) (i:=xs.length) (by simp)
 rw[List.getElem?_append_right (Nat.le_refl _),Nat.sub_self] at h1
 exact(Option.some.inj h1).symm
variable{rs:List Row}
theorem Rws.same(h:Rws K H v rs)(s:A6 H H'):Rws K H' v rs:=by
 obtain⟨a,vs,rfl,hq,hd⟩:=h
 exact⟨a,vs,rfl,hq.imp s.sqL s.sqT,Dvs.same s _ _ hd⟩
theorem xw3{n:Str}{r:Row}(h:X6 rs (some n)=some r):r∈rs/\r.name=n:=by
 refine⟨List.mem_of_find?_eq_some h,?_⟩
 have:=List.find?_some h
 simpa using this
def xp0(rs:List Row)(n:Str):Bool:=match X6 rs (some n) with|none=>false|some r=>decide (r.sort∈[("room":Str),("frame":Str)])
def qe5(rs:List Row)(ns:List Str):List Str:=ns.foldl (fun acc n=>if xp0 rs n then[] else acc++[n]) []
theorem qn2(rs:List Row)(ns:List Str)(n:Str):qe5 rs (ns++[n])=if xp0 rs n then[] else qe5 rs ns++[n]:=by
 unfold qe5;rw[List.foldl_append];rfl
theorem wt7(rs:List Row):∀ (k:Nat) (ns:List Str),ns.length=k->(qe5 rs ns).length<=k
 | 0,ns,h=>by rw[List.length_eq_zero_iff.mp h];exact Nat.le_refl _
 | k+1,ns,h=>by
   have hp:ns≠[]:=fun e=>by rw[e] at h;cases h
   rw[<-List.dropLast_concat_getLast hp,qn2]
   have:=wt7 rs k ns.dropLast (by rw[List.length_dropLast];omega)
   split
   ·exact Nat.zero_le _
   ·rw[List.length_append,List.length_singleton];omega
def G7(ys:List Str):Str:=gd ys (ys.length-1)
theorem xw4(xs:List Str)(y:Str):G7 (xs++[y])=y:=by
 unfold G7
 rw[List.length_append,List.length_singleton,Nat.add_sub_cancel];exact zv5
theorem zj2(xs:List Str):inV .non (D4 xs)=false:=by
 induction xs with
 | nil=>rfl
 | cons x l ih =>
   unfold inV at ih ⊢
   show(eqV (.str x) .non || (D4 l).any fun z=>eqV z .non)=false
   rw[ih];rfl
def qp4(K:Fg):Sp:=fun vs H Q _=>∃ v n rs,vs=[v,.str n]/\Rws K H v rs/\Q (.bl (xp0 rs n)) H
def qw6(K:Fg)(c_WALL_SORTS:Addr):TS :=
 (I0 (tOp (wr8 K false) (B9 (qh6 K) [] E0 (A2 (A4 0) (A2 (A4 1) B1))) (tC (.ref c_WALL_SORTS))))
theorem yf2{c_WALL_SORTS:Addr}(q_WALL_SORTS:∀ H:Hp,SqT K H c_WALL_SORTS [.str ("room":Str),.str ("frame":Str)])(h:qp4 K vs H Q E):qw6 K c_WALL_SORTS {nx:=fun _ H'=>Q .non H',rt:=Q} (G9 ["book","name"] vs) H:=by
 obtain⟨v,n,rs,rfl,hR,q⟩:=h
 show qw6 K c_WALL_SORTS _ [some v,some (.str n)] H
 unfold qw6
 lk
 refine⟨v,some n,rs,rfl,hR,?_⟩
 lk
 have hw:xp0 rs n=inV (oV (Y7 rs (some n))) (D4 [("room":Str),("frame":Str)]):=by
  unfold xp0 Y7
  cases X6 rs (some n) with
  | none=>exact(zj2 _).symm
  | some r=>exact(qh8 _ _).symm
 refine .inl (yp9 (xs:=D4 [("room":Str),("frame":Str)]) (.inr (q_WALL_SORTS H)) ?_ (qg8 _) ?_)
 ·cases Y7 rs (some n) <;> rfl
 ·rw[<-hw];exact q
abbrev xw6(K:Fg):TS :=
 (M0 (tB (B9 (qp4 K) [] E0 (A2 (A4 0) (A2 (A4 4) B1))))
 (D9 (tOp (O7 K) (A4 3) (tC (.int 1))) (B3 2)) E9)
abbrev xw7(K:Fg):TS :=
 (C0 (qm3 (yd3 K (A2 (A4 1) B1)) (wq4 K 2 (S5 (B3 3) (S5 (B3 4) wq3)))
 (xw6 K))
 (I0 (tCB (qo8 K) (A2 (tSl (qh5 K) (A4 1) (S6 (A4 2)) N9) B1))))
def qp5(K:Fg):Sp:=fun vs H Q _=>∃ v a ys rs,vs=[v,.ref a]/\Rws K H v rs/\SqT K H a (D4 ys)/\ys.length<=1000/\∀ p H',A6 H H'->SqT K H' p (D4 (qe5 rs ys))->Q (.ref p) H'
def qw7(K:Fg):TS :=
 (C0 (D9 (tC (.int 0)) (B3 2))
 (xw7 K))
theorem yf3(h:qp5 K vs H Q E):qw7 K {nx:=fun _ H'=>Q .non H',rt:=Q} (G9 ["book","names","start","number","name"] vs) H:=by
 obtain⟨v,a,ys,rs,rfl,hR,hq,hl,q⟩:=h
 show qw7 K _ [some v,some (.ref a),none,none,none] H
 unfold qw7
 lk
 refine yq5 hq (fun i σ H'=>A6 H H'/\∃ (st:Nat) (a3 a4:Option V),σ=[some v,some (.ref a),some (.int st),a3,a4]/\st<=i/\qe5 rs (ys.take i)=(ys.take i).drop st) ⟨A6.refl _,0,none,none,rfl,Nat.le_refl _,rfl⟩ (fun i σ H' p=>p.1.sqT hq) ?_ ?_
 ·rintro i x σ H' p hx ⟨s1,st,a3,a4,rfl,hst,hnr⟩ hp
  obtain⟨y,hy,rfl⟩:=wc7 hx
  have il:=(List.getElem?_eq_some_iff.mp hy).1
  have etk:ys.take (i+1)=ys.take i++[y]:=by rw[List.take_add_one,hy];rfl
  have s2:A6 H (upd H' p (.tup [.int (i:Int),.str y])):=A6.tr s1 (A6.new hp _)
  refine⟨p,_,rfl,SqT.of A7,rfl,_,_,rfl,N7 ⟨_,_,rfl,N7 ⟨rfl,?_⟩⟩⟩
  lk
  refine⟨v,y,rs,rfl,hR.same s2,?_⟩
  lk
  cases hw:xp0 rs y with
  | true =>
    x_go
    lk
    refine .inl (qe6 ?_)
    lk
    refine⟨s2,i+1,_,_,rfl,Nat.le_refl _,?_⟩
    rw[etk,qn2,if_pos hw,List.drop_eq_nil_of_le (by rw[List.length_append,List.length_take,List.length_singleton];omega)]
  | false =>
    k_go
    lk
    refine⟨s2,st,_,_,rfl,by omega,?_⟩
    rw[etk,qn2,if_neg (by rw[hw];exact Bool.false_ne_true),hnr,List.drop_append_of_le_length (by rw[List.length_take];omega)]
 ·rintro σ H' ⟨s1,st,a3,a4,rfl,hst,hnr⟩
  rw[L5,List.take_length] at hnr
  lk
  refine Z6 (s1.sqT hq) fun p H2 s2 hp=>?_
  have e:qb8 (D4 ys) (some (st:Int)) none=D4 (qe5 rs ys):=by
   unfold qb8
   rw[HT.xm2]
   show((D4 ys).drop (min st (D4 ys).length)).take ((D4 ys).length-min st (D4 ys).length)=_
   rw[L5] at hst ⊢
   rw[Nat.min_eq_left hst,List.take_of_length_le (by rw[List.length_drop,L5];exact Nat.le_refl _),hnr]
   unfold D4
   rw[List.map_drop]
  rw[e] at hp
  lk
  refine⟨p,_,rfl,.inr ⟨hp,?_⟩⟩
  exact q p H2 (A6.tr s1 s2) hp
def U0(K:Fg):Sp:=fun vs H Q _=>∃ (a b:Addr) (ys zs:List Str),vs=[.ref a,.ref b]/\SqT K H a (D4 ys)/\SqT K H b (D4 zs)/\ys.length<=1000/\∀ H',A6 H H'->Q (.bl (ys.any fun y=>decide (y∈zs))) H'
def qa4(K:Fg):TS :=
 (I0 (tCB (yx6 K) (A2 (Z4 [some 1,none] (ql5 K (A4 0)) (B3 1) tTT (tOp (wr8 K false) (A4 1) (A4 0))) B1)))
theorem wl8(h:U0 K vs H Q E):qa4 K {nx:=fun _ H'=>Q .non H',rt:=Q} (G9 ["names","others"] vs) H:=by
 obtain⟨a,b,ys,zs,rfl,ha,hb,hl,q⟩:=h
 show qa4 K _ [some (.ref a),some (.ref b)] H
 unfold qa4
 lk
 refine xk3 (H0:=H) (.inr ha) (A6.refl _) (fun i us H'=>H'=H/\us=((ys.take i).map fun y=>decide (y∈zs)).map V.bl) ⟨rfl,rfl⟩ ?_ (fun i us H' p=>p.1▸A6.refl _) ?_ ?_
 ·rintro i us H' hi ⟨_,rfl⟩
  rw[List.length_map,List.length_map,List.length_take];exact D8 (by omega)
 ·rintro i x us H' hx ⟨rfl,rfl⟩
  obtain⟨y,hy,rfl⟩:=wc7 hx
  lk
  refine .inl (yp9 (.inr hb) rfl (qg8 _) ?_)
  rw[qh8]
  refine⟨rfl,?_⟩
  rw[List.take_add_one,hy]
  simp
 ·rintro us H' ⟨rfl,rfl⟩ p hp
  rw[L5,List.take_length]
  lk
  refine Ab1 (SqL.of A7) ?_
  rw[List.any_map]
  exact q _ (A6.new hp _)
def R8(K:Fg):Sp:=fun vs H Q _=>∃ (a:Addr) (ys:List Str),vs=[.ref a]/\(SqL K H a (D4 ys)\/SqT K H a (D4 ys))/\Q (.str (G7 ys)) H
def V7(K:Fg):TS :=
 (I0 (tIf (D7 (tOp xb8 (tCB (P6 K) (A2 (A4 0) B1)) (tC (.int 0)))) (tOp (J0 K) (A4 0) (tUn (rU fun i=>.int (-i)) (tC (.int 1)))) (tC (.str ("":Str)))))
theorem wc9(h:R8 K vs H Q E):V7 K {nx:=fun _ H'=>Q .non H',rt:=Q} (G9 ["names"] vs) H:=by
 obtain⟨a,ys,rfl,hq,q⟩:=h
 show V7 K _ [some (.ref a)] H
 unfold V7
 lk
 refine M8 hq ?_
 rw[L5]
 lk
 by_cases h0:(0:Int)<(ys.length:Int)
 ·rw[decide_eq_true h0]
  x_go
  lk
  refine⟨1,rfl,?_⟩
  have e1:(D4 ys)[(D4 ys).length-1]?=some (.str (G7 ys)):=by
   rw[L5];unfold D4 G7;rw[List.getElem?_map,za8 (by omega)];rfl
  have e2:=zi9 (by rw[L5];omega) e1
  rcases hq with hq|hq
  ·exact R6 hq e2 q
  ·exact J9 hq e2 q
 ·rw[decide_eq_false h0]
  k_go
  lk
  have:ys=[]:=List.length_eq_zero_iff.mp (by omega)
  subst this
  exact q
def way:Tr->List Int->Option (List Tr)
 | t,[]=>some [t]
 | t,k::pl=>if 0<=k then(match t.kids[k.toNat]? with|some u=>(way u pl).map (t::·)|none=>none) else none
variable{pl:List Int}{ws:List Tr}
theorem R9{t:Tr}{k:Int}(h:way t (k::pl)=some ws):0<=k/\∃ u ws',t.kids[k.toNat]?=some u/\way u pl=some ws'/\ws=t::ws':=by
 rw[way] at h
 by_cases h0:0<=k
 ·rw[if_pos h0] at h
  cases e:t.kids[k.toNat]? with
  | none=>rw[e] at h;cases h
  | some u =>
    rw[e] at h
    obtain⟨ws',h1,h2⟩:=Option.map_eq_some_iff.mp h
    exact⟨h0,u,ws',rfl,h1,h2.symm⟩
 ·rw[if_neg h0] at h;cases h
variable{u:Tr}
theorem yf4{t:Tr}{k:Nat}(e:t.kids[k]?=some u)(h:way u pl=some ws):way t ((k:Int)::pl)=some (t::ws):=by
 rw[way,if_pos (by omega)]
 rw[show((k:Int)).toNat=k by omega,e]
 show(way u pl).map (t::·)=_
 rw[h];rfl
theorem V8:∀ {pl:List Int} {t:Tr} {ws:List Tr},way t pl=some ws->ws.length=pl.length+1
 | [],t,ws,h=>by rw[way] at h;cases h;rfl
 | k::pl,t,ws,h=>by
   obtain⟨_,u,ws',_,h2,rfl⟩:=R9 h
   rw[List.length_cons,List.length_cons,V8 h2]
theorem wd0:∀ {pl:List Int} {t:Tr} {ws:List Tr} {i:Nat} {k:Int},way t pl=some ws->pl[i]?=some k->∃ u w,ws[i]?=some u/\0<=k/\u.kids[k.toNat]?=some w/\ws[i+1]?=some w
 | [],t,ws,i,k,_,e=>by simp at e
 | j::pl,t,ws,0,k,h,e=>by
   obtain⟨h0,u,ws',h1,h2,rfl⟩:=R9 h
   cases e
   refine⟨t,u,rfl,h0,h1,?_⟩
   cases pl with
   | nil=>rw[way] at h2;cases h2;rfl
   | cons k' pl'=>obtain⟨_,_,_,_,_,rfl⟩:=R9 h2;rfl
 | j::pl,t,ws,i+1,k,h,e=>by
   obtain⟨h0,u,ws',h1,h2,rfl⟩:=R9 h
   obtain⟨u',w,a1,a2,a3,a4⟩:=wd0 (i:=i) h2 (by simpa using e)
   exact⟨u',w,by simpa using a1,a2,a3,by simpa using a4⟩
theorem wd1{t:Tr}(h:way t pl=some ws):ws[0]?=some t:=by
 cases pl with
 | nil=>rw[way] at h;cases h;rfl
 | cons k pl=>obtain⟨_,_,_,_,_,rfl⟩:=R9 h;rfl
theorem Q0{xs:List α}{v:α}(hn:xs.length=n+1)(e:xs[n]?=some v):atI xs (-1)=some v:=by
 unfold atI ixN
 rw[if_neg (by decide),if_pos (by omega)]
 show xs[((xs.length:Int) + -1).toNat]?=some v
 rw[show((xs.length:Int) + -1).toNat=n by omega];exact e
def T8(K:Fg):Sp:=fun vs H Q _=>∃ (n:Str) (ps:List Tr) (v:V),vs=[v]/\Dv K H (Tr.nd n ps).da v/\Q (.str n) H
def qw8(K:Fg):TS :=
 (I0 (tOp (J0 K) (A4 0) (tC (.int 0))))
theorem yf5(h:T8 K vs H Q E):qw8 K {nx:=fun _ H'=>Q .non H',rt:=Q} (G9 ["tree"] vs) H:=by
 obtain⟨n,ps,v,rfl,hd,q⟩:=h
 show qw8 K _ [some v] H
 unfold qw8
 obtain⟨a,bq,us,rfl,ha,_⟩:=qh9 hd
 lk
 exact J9 ha (v:=.str n) rfl q
abbrev yf6(K:Fg):TS :=
 (C0 (M0 (wq1 (D7 (wf7 yc7 yp5 (tC (.int 0)) (A4 3) (tCB (P6 K) (A2 (A4 4) B1)))))
 yt4 E9)
 (qh3 (tBM K "list" X8 (A4 2) (A2 (tOp (J0 K) (A4 4) (A4 3)) B1))))
abbrev yf7(K:Fg):TS :=
 (C0 (D9 (B9 (O9 K) [] E0 (A2 (tOp (J0 K) (A4 2) (tUn (rU fun i=>.int (-i)) (tC (.int 1)))) B1)) (B3 4))
 (yf6 K))
def qh0(K:Fg):Sp:=fun vs H Q _=>∃ (t:Tr) (v:V) (a:Addr) (pl:List Int) (ws:List Tr),vs=[v,.ref a]/\Dv K H t.da v/\SqT K H a (E4 pl)/\way t pl=some ws/\pl.length<=50000/\∀ (p:Addr) (us:List V) (H':Hp),A6 H H'->H' p=some (.lst us)->Dvs K H' (Tr.das ws) us->Q (.ref p) H'
def wd2(K:Fg):TS :=
 (C0 (D9 (X4 (A2 (A4 0) B1)) (B3 2))
 (C0 (qm3 (ql5 K (A4 1)) (B3 3)
 (yf7 K))
 (I0 (A4 2))))
theorem ys3(h:qh0 K vs H Q E):wd2 K {nx:=fun _ H'=>Q .non H',rt:=Q} (G9 ["tree","place","way","number","parts"] vs) H:=by
 obtain⟨t,v,a,pl,ws,rfl,hd,ha,hw,hl,q⟩:=h
 show wd2 K _ [some v,some (.ref a),none,none,none] H
 unfold wd2
 have hwl:=V8 hw
 lk
 refine⟨D8 (by z_go),fun p hp=>?_⟩
 lk
 refine qn0 (H0:=H) (xs:=E4 pl) (.inr ha) (A6.new hp _) (fun i σ H'=>∃ (us:List V) (a3 a4:Option V),σ=[some v,some (.ref a),some (.ref p),a3,a4]/\A6 H H'/\H' p=some (.lst us)/\Dvs K H' (Tr.das (ws.take (i+1))) us) ⟨[v],_,_,rfl,A6.new hp _,A7,?_⟩ (fun i σ H' ⟨_,_,_,_,s,_⟩=>s) ?_ ?_
 ·rw[List.take_add_one,List.take_zero,wd1 hw]
  show Dvs K _ (Tr.das [t]) [v]
  rw[Tr.das,Tr.das]
  exact Dvs.one (Dv.same (A6.new hp _) _ _ hd)
 ·rintro i x σ H' hx ⟨us,a3,a4,rfl,s1,hp',dv⟩
  unfold E4 at hx
  rw[List.getElem?_map] at hx
  obtain⟨k,hk,rfl⟩:=Option.map_eq_some_iff.mp hx
  obtain⟨u,w,h1,h2,h3,h4⟩:=wd0 hw hk
  have il:=(List.getElem?_eq_some_iff.mp hk).1
  have hul:us.length=i+1:=by rw[O0 dv,List.length_take];omega
  obtain⟨y,hy,dy⟩:=qa0 dv (i:=i) (t:=u) (by rw[List.getElem?_take_of_lt (by omega)];exact h1)
  lk
  refine⟨1,rfl,?_⟩
  refine R6 (SqL.of hp') (Q0 hul hy) ?_
  lk
  refine⟨u,y,rfl,dy,fun c ys H2 s2 hc dc=>?_⟩
  lk
  rw[decide_eq_true h2]
  x_go
  lk
  refine M8 (.inr hc) ?_
  have hkl:=(List.getElem?_eq_some_iff.mp h3).1
  have hyl:=O0 dc
  lk
  rw[decide_eq_true (by omega)]
  k_go
  lk
  have hp2:=s2 _ _ hp'
  refine⟨.inl ⟨rfl,_,SqL.of hp2⟩,?_⟩
  lk
  obtain⟨z,hz,dz⟩:=qa0 dc h3
  refine J9 hc (ixI h2 hz) ?_
  lk
  refine X5 hp2 (by rw[sizeLine_eq];omega) ?_
  have tk:qe3 H2 (upd H2 p (.lst (us++[z]))):=T9 hp2
  refine⟨us++[z],_,_,rfl,A6.put (A6.tr s1 s2) hp _,A7,?_⟩
  rw[List.take_add_one,h4,O6,List.map_append,<-O6]
  exact Dvs.append (Dvs.tupK tk _ _ (Y0 _) (Dvs.same s2 _ _ dv)) (Dvs.one (Dv.tupK tk _ _ (Z9 w) dz))
 ·rintro σ H' ⟨us,a3,a4,rfl,s1,hp',dv⟩
  lk
  rw[List.take_of_length_le (by rw[L8];omega)] at dv
  exact q p us H' s1 hp' dv
def qi0(K:Fg):Sp:=fun vs H Q _=>∃ (t u:Tr) (v:V) (a:Addr) (pl:List Int) (ws:List Tr),vs=[v,.ref a]/\Dv K H t.da v/\SqT K H a (E4 pl)/\way t pl=some (ws++[u])/\pl.length<=50000/\∀ (x:V) (H':Hp),A6 H H'->Dv K H' u.da x->Q x H'
def qw9(K:Fg):TS :=
 (I0 (tOp (J0 K) (B9 (qh0 K) [] E0 (A2 (A4 0) (A2 (A4 1) B1))) (tUn (rU fun i=>.int (-i)) (tC (.int 1)))))
theorem yf9(h:qi0 K vs H Q E):qw9 K {nx:=fun _ H'=>Q .non H',rt:=Q} (G9 ["tree","place"] vs) H:=by
 obtain⟨t,u,v,a,pl,ws,rfl,hd,ha,hw,hl,q⟩:=h
 show qw9 K _ [some v,some (.ref a)] H
 unfold qw9
 lk
 refine⟨t,v,a,pl,ws++[u],rfl,hd,ha,hw,hl,fun p us H' s1 hp dv=>?_⟩
 lk
 refine⟨1,rfl,?_⟩
 rw[O6,List.map_append] at dv
 obtain⟨us',x,rfl,_,dx⟩:=Dvs.snoc dv
 refine R6 (SqL.of hp) (v:=x) (Q0 (n:=us'.length) (by simp) (by simp)) ?_
 exact q x H' s1 dx
def qe7:Tr->Str
 | .nd n _=>n
 | .tx _ => ""
theorem zj3(xs:List V)(x z:V):qb8 (x::(xs++[z])) (some 1) (some (-1))=xs:=by
 unfold qb8
 have e1:HT.sIx (x::(xs++[z])).length 0 (some 1)=1:=by
  have:=HT.xm2 (x::(xs++[z])).length 0 1
  rw[show((1:Nat):Int)=1 from rfl] at this
  rw[this];simp
 have e2:HT.sIx (x::(xs++[z])).length (x::(xs++[z])).length (some (-1))=xs.length+1:=by
  unfold HT.sIx;simp;omega
 rw[e1,e2];simp
def qa5(K:Fg):Sp:=fun vs H Q _=>∃ (t u:Tr) (v:V) (a:Addr) (pl:List Int) (ws:List Tr),vs=[v,.ref a]/\Dv K H t.da v/\SqT K H a (E4 pl)/\way t pl=some (t::(ws++[u]))/\(∀ w∈ws,w.isTx=false)/\pl.length<=50000/\∀ (p:Addr) (H':Hp),A6 H H'->H' p=some (.tup (D4 (ws.map qe7)))->Q (.ref p) H'
def qc7(K:Fg):TS :=
 (I0 (tCB (qo8 K) (A2 (Z4 [none] (ql5 K (tSl (yx4 K) (B9 (qh0 K) [] E0 (A2 (A4 0) (A2 (A4 1) B1))) (S6 (tC (.int 1))) (S6 (tUn (rU fun i=>.int (-i)) (tC (.int 1)))))) (B3 0) tTT (B9 (T8 K) [] E0 (A2 (A4 0) B1))) B1)))
theorem wt8(h:qa5 K vs H Q E):qc7 K {nx:=fun _ H'=>Q .non H',rt:=Q} (G9 ["tree","place"] vs) H:=by
 obtain⟨t,u,v,a,pl,ws,rfl,hd,ha,hw,hn,hl,q⟩:=h
 show qc7 K _ [some v,some (.ref a)] H
 unfold qc7
 have hwl:=V8 hw
 rw[List.length_cons,List.length_append] at hwl
 lk
 refine⟨t,v,a,pl,_,rfl,hd,ha,hw,hl,fun p us H' s1 hp dv=>?_⟩
 lk
 rw[O6,List.map_cons,List.map_append,Dvs] at dv
 obtain⟨v0,r,rfl,_,dv⟩:=dv
 obtain⟨us,x,rfl,dus,dx⟩:=Dvs.snoc dv
 refine⟨1,rfl,?_⟩
 lk
 refine zm7 (SqL.of hp) fun p2 hp2=>?_
 rw[zj3]
 have s2:=A6.tr s1 (A6.new hp2 (.lst us))
 have dus2:Dvs K (upd H' p2 (.lst us)) (Tr.das ws) us:=by rw[O6];exact Dvs.same (A6.new hp2 _) _ _ dus
 have hp3:(upd H' p2 (.lst us)) p2=some (.lst us):=A7
 have hul:=O0 dus2
 generalize upd H' p2 (.lst us)=H2 at *
 refine qc1 (xs:=us) (SqL.of hp3) (fun i ys H'=>H'=H2/\ys=D4 ((ws.take i).map qe7)) ⟨rfl,rfl⟩ ?_ ?_ ?_ ?_
 ·rintro i ys H' hi ⟨rfl,rfl⟩
  rw[L5,List.length_map,List.length_take]
  exact D8 (by omega)
 ·rintro i ys H' hi ⟨rfl,rfl⟩
  exact SqL.of hp3
 ·rintro i y ys H' hy ⟨rfl,rfl⟩
  obtain⟨d,h1,h2⟩:=dus2.get' hy
  rw[O6,List.getElem?_map] at h1
  obtain⟨w,hw1,rfl⟩:=Option.map_eq_some_iff.mp h1
  have hwn:=hn w (List.mem_of_getElem? hw1)
  cases w with
  | tx s=>cases hwn
  | nd n ps =>
    lk
    refine⟨n,ps,y,rfl,h2,?_⟩
    refine⟨rfl,?_⟩
    rw[List.take_add_one,hw1]
    simp[D4,qe7]
 ·rintro ys H' ⟨rfl,rfl⟩ p4 hp4
  rw[hul,List.take_length]
  lk
  refine⟨p4,_,rfl,.inl ⟨SqL.of A7,fun t4 ht4=>?_⟩⟩
  exact q t4 _ (A6.tr s2 (A6.tr (A6.new hp4 _) (A6.new ht4 _))) A7
def qf2(K:Fg):Sp:=fun vs H Q _=>∃ (t:Tr) (v:V),vs=[v]/\Dv K H t.da v/\wt t<=40000/\∀ (p:Addr) (us:List V) (H':Hp),A6 H H'->H' p=some (.lst us)->Dvs K H' ((pre [] t).map fun p=>.tuple (qp2 p.1)) us->Q (.ref p) H'
def qj7(K:Fg):TS :=
 (I0 (Z4 [none,none] (ql5 K (B9 (Y1 K) [] E0 (A2 (A4 0) B1))) (wq4 K 2 (S5 (B3 0) (S5 (B3 1) wq3))) tTT (A4 0)))
theorem xp1(h:qf2 K vs H Q E):qj7 K {nx:=fun _ H'=>Q .non H',rt:=Q} (G9 ["tree"] vs) H:=by
 obtain⟨t,v,rfl,hd,hz,q⟩:=h
 show qj7 K _ [some v] H
 unfold qj7
 lk
 refine⟨t,v,rfl,hd,hz,fun p us H1 s1 _ hp dvs=>?_⟩
 have hlen:us.length=(pre [] t).length:=by have:=dvs.length;rw[List.length_map] at this;exact this
 have hpw:=yf0 [] t
 refine qc1 (xs:=us) (SqL.of hp) (fun i ys H'=>H'=H1/\ys.length=i/\Dvs K H1 (((pre [] t).take i).map fun p=>.tuple (qp2 p.1)) ys) ⟨rfl,rfl,G8⟩ ?_ ?_ ?_ ?_
 ·rintro i ys H' hi ⟨rfl,hl,_⟩
  exact D8 (by omega)
 ·rintro i ys H' hi ⟨rfl,_⟩
  exact SqL.of hp
 ·rintro i x ys H' hx ⟨rfl,hl,dy⟩
  obtain⟨e,he,hdx⟩:=dvs.get' hx
  rw[List.getElem?_map] at he
  obtain⟨pt,hpt,rfl⟩:=Option.map_eq_some_iff.mp he
  obtain⟨a,bq,u,rfl,ha,hb,hu⟩:=xv9 hdx
  refine⟨a,_,rfl,ha,rfl,_,_,rfl,?_⟩
  lk
  refine⟨_,_,rfl,?_⟩
  lk
  refine⟨rfl,?_⟩
  lk
  refine⟨rfl,by simp[hl],?_⟩
  rw[List.take_add_one,hpt,List.map_append]
  exact Dvs.append dy (Dvs.one (C6.mpr ⟨bq,_,rfl,hb,O8.mpr rfl⟩))
 ·rintro ys H' ⟨rfl,hl,dy⟩ r hr
  rw[hlen,List.take_length] at dy
  exact q r ys _ (A6.tr s1 (A6.new hr _)) A7 (Dvs.same (A6.new hr _) _ _ dy)
def qp6(rs:List Row)(ns:List Str)(n:Str):Option Str :=
 if(T7 rs (some (G7 ns))).isSome && decide (T7 rs (some (G7 ns))≠some n) then some "guest"
 else if(frameOf rs (some n)).isSome && decide (frameOf rs (some n)≠some (G7 ns)) then some "lost" else none
def wk3(rs:List Row)(ns:List Str)(n:Str):Option Str :=
 match X6 rs (some n) with
 | none=>none
 | some r=>if((qe5 rs ns).any fun y=>decide (y∈r.shuts)) then some "shut" else if((qe5 rs ns).any fun y=>decide (y∈r.bars)) then some "barred" else none
def wd3(rs:List Row)(ns:List Str)(n:Str)(m:Nat):Option Str :=
 match Y7 rs (some n) with
 | none=>some "strange"
 | some s=>if s=("bare":Str)/\0<m then some "full" else if 19<ns.length then some "deep" else match qp6 rs ns n with|some f=>some f|none=>wk3 rs ns n
def wd4(rs:List Row)(ns:List Str)(s:Str)(bs:Bool):Option Str :=
 if(T7 rs (some (G7 ns))).isSome then some "guest" else if s=("":Str) then some "empty" else if bs then some "beside" else none
def X3(rs:List Row)(ns:List Str)(t:Tr)(bs:Bool):Option Str :=
 match t with
 | .tx s=>wd4 rs ns s bs
 | .nd n ps=>wd3 rs ns n ps.length
theorem wa3(x:Option Str):decide (oV x=.non)=x.isNone:=by cases x <;> rfl
theorem wp3{xs:List Str}(h:Dv K H (.tuple (sDa xs)) v):∃ b,v=.ref b/\SqT K H b (D4 xs):=by
 obtain⟨b,ys,rfl,hb,h⟩:=C6.mp h
 rw[V5] at h;subst h
 exact⟨b,rfl,hb⟩
abbrev wt9(K:Fg):TS :=
 (C0 (M0 (D7 (tOp (S4 K) (A4 2) (tC (.str ("":Str)))))
 (I0 (tC (.str ("empty":Str)))) E9)
 (I0 (tIf (tB (A4 3)) (tC (.str ("beside":Str))) (tC .non))))
def qc8(K:Fg):Sp:=fun vs H Q _=>∃ (v:V) (rs:List Row) (a:Addr) (ns:List Str) (s:Str) (c:Bool),vs=[v,.ref a,.str s,.bl c]/\Rws K H v rs/\SqT K H a (D4 ns)/\Q (oV (wd4 rs ns s c)) H
def qf3(K:Fg):TS :=
 (C0 (M0 (D7 (tOp qj3 (B9 (qh7 K) [] E0 (A2 (A4 0) (A2 (B9 (R8 K) [] E0 (A2 (A4 1) B1)) B1))) (tC .non)))
 (I0 (tC (.str ("guest":Str)))) E9)
 (wt9 K))
theorem xd4(h:qc8 K vs H Q E):qf3 K {nx:=fun _ H'=>Q .non H',rt:=Q} (G9 ["book","names","text","beside"] vs) H:=by
 obtain⟨v,rs,a,ns,s,c,rfl,hR,ha,q⟩:=h
 show qf3 K _ [some v,some (.ref a),some (.str s),some (.bl c)] H
 unfold qf3
 unfold wd4 at q
 lk
 refine⟨a,ns,rfl,.inr ha,?_⟩
 lk
 refine⟨v,some (G7 ns),rs,rfl,hR,?_⟩
 lk
 rw[wa3]
 cases e:T7 rs (some (G7 ns)) with
 | some hh =>
   rw[e] at q
   x_go
   lk
   exact q
 | none =>
   rw[e] at q
   k_go
   lk
   by_cases h0:s=("":Str)
   ·rw[decide_eq_true h0];refine W9 ?_
    lk
    rw[if_neg (by decide),if_pos h0] at q
    exact q
   ·rw[decide_eq_false h0];refine V4 ?_
    rw[if_neg (by decide),if_neg h0] at q
    lk
    cases c with
    | true=>exact q
    | false=>exact q
abbrev wm0(K:Fg):TS :=
 (C0 (M0 (qz3 (D7 (tOp qj3 (A4 5) (tC .non))) (D7 (tOp (Z2 K) (A4 5) (A4 3))))
 (I0 (tC (.str ("lost":Str)))) E9)
 (I0 (tC .non)))
def yg0(K:Fg):TS :=
 (C0 (D9 (B9 (qj4 K) [] E0 (A2 (A4 0) (A2 (A4 2) B1))) (B3 5))
 (wm0 K))
abbrev wm1(K:Fg):TS :=
 (C0 (M0 (qz3 (D7 (tOp qj3 (A4 4) (tC .non))) (D7 (tOp (Z2 K) (A4 4) (A4 2))))
 (I0 (tC (.str ("guest":Str)))) E9)
 (yg0 K))
abbrev wm2(K:Fg):TS :=
 (C0 (D9 (B9 (qh7 K) [] E0 (A2 (A4 0) (A2 (A4 3) B1))) (B3 4))
 (wm1 K))
def qa6(K:Fg):Sp:=fun vs H Q _=>∃ (v:V) (rs:List Row) (a:Addr) (ns:List Str) (n:Str),vs=[v,.ref a,.str n]/\Rws K H v rs/\SqT K H a (D4 ns)/\Q (oV (qp6 rs ns n)) H
def qc9(K:Fg):TS :=
 (C0 (D9 (B9 (R8 K) [] E0 (A2 (A4 1) B1)) (B3 3))
 (wm2 K))
theorem wu1(h:qa6 K vs H Q E):qc9 K {nx:=fun _ H'=>Q .non H',rt:=Q} (G9 ["book","names","name","above","host","frame"] vs) H:=by
 obtain⟨v,rs,a,ns,n,rfl,hR,ha,q⟩:=h
 show qc9 K _ [some v,some (.ref a),some (.str n),none,none,none] H
 unfold qc9
 unfold qp6 at q
 lk
 refine⟨a,ns,rfl,.inr ha,?_⟩
 lk
 refine⟨v,some (G7 ns),rs,rfl,hR,?_⟩
 lk
 rw[wa3]
 have fin:((T7 rs (some (G7 ns))).isSome && decide (T7 rs (some (G7 ns))≠some n))=false->yg0 K {nx:=fun _ H'=>Q .non H',rt:=Q} [some v,some (.ref a),some (.str n),some (.str (G7 ns)),some (oV (T7 rs (some (G7 ns)))),none] H:=by
  intro hc
  rw[hc,if_neg Bool.false_ne_true] at q
  unfold yg0
  lk
  refine⟨v,some n,rs,rfl,hR,?_⟩
  lk
  rw[wa3]
  cases e:frameOf rs (some n) with
  | none =>
    rw[e] at q
    k_go
    k_go
    lk
    exact q
  | some f =>
    rw[e] at q
    x_go
    lk
    refine xu2 ?_
    lk
    by_cases ef:f=G7 ns
    ·rw[decide_eq_true ef]
     k_go
     lk
     have:((some f).isSome && decide (some f≠some (G7 ns)))=false:=by simp[ef]
     rw[this,if_neg Bool.false_ne_true] at q
     exact q
    ·rw[decide_eq_false ef]
     x_go
     lk
     have:((some f).isSome && decide (some f≠some (G7 ns)))=true:=by simp[ef]
     rw[this,if_pos rfl] at q
     exact q
 cases e:T7 rs (some (G7 ns)) with
 | none =>
   k_go
   k_go
   have:=fin (by rw[e];rfl)
   rw[e] at this
   exact this
 | some hh =>
   x_go
   lk
   refine xu2 ?_
   lk
   by_cases eh:hh=n
   ·rw[decide_eq_true eh]
    k_go
    have:=fin (by rw[e];simp[eh])
    rw[e] at this
    exact this
   ·rw[decide_eq_false eh]
    x_go
    lk
    have:((T7 rs (some (G7 ns))).isSome && decide (T7 rs (some (G7 ns))≠some n))=true:=by rw[e];simp[eh]
    rw[this,if_pos rfl] at q
    exact q
abbrev wu2(K:Fg):TS :=
 (I0 (tIf (tB (B9 (U0 K) [] E0 (A2 (A4 4) (A2 (tOp (J0 K) (A4 3) (tC (.int 4))) B1)))) (tC (.str ("barred":Str))) (tC .non)))
abbrev wu3(K:Fg):TS :=
 (C0 (M0 (tB (B9 (U0 K) [] E0 (A2 (A4 4) (A2 (tOp (J0 K) (A4 3) (tC (.int 3))) B1))))
 (I0 (tC (.str ("shut":Str)))) E9)
 (wu2 K))
abbrev wu4(K:Fg):TS :=
 (C0 (D9 (B9 (qp5 K) [] E0 (A2 (A4 0) (A2 (A4 1) B1))) (B3 4))
 (wu3 K))
def qd0(K:Fg):Sp:=fun vs H Q _=>∃ (v:V) (rs:List Row) (a:Addr) (ns:List Str) (n:Str) (r:Row),vs=[v,.ref a,.str n]/\Rws K H v rs/\SqT K H a (D4 ns)/\ns.length<=1000/\X6 rs (some n)=some r/\∀ H',A6 H H'->Q (oV (wk3 rs ns n)) H'
def qf4(K:Fg):TS :=
 (C0 (D9 (B9 (qg7 K) [] E0 (A2 (A4 0) (A2 (A4 2) B1))) (B3 3))
 (wu4 K))
theorem xd5(h:qd0 K vs H Q E):qf4 K {nx:=fun _ H'=>Q .non H',rt:=Q} (G9 ["book","names","name","row","near"] vs) H:=by
 obtain⟨v,rs,a,ns,n,r,rfl,hR,ha,hl,er,q⟩:=h
 show qf4 K _ [some v,some (.ref a),some (.str n),none,none] H
 unfold qf4
 unfold wk3 at q
 rw[er] at q
 dsimp only at q
 lk
 refine⟨v,some n,rs,rfl,hR,(fun e=>by rw[er] at e;cases e),fun r' u er' du=>?_⟩
 rw[er] at er'
 injection er' with er'
 subst er'
 lk
 refine⟨v,a,ns,rs,rfl,hR,ha,hl,fun p H1 s1 hp=>?_⟩
 lk
 obtain⟨b,sv,bv,rfl,hb,hs,hbv⟩:=N0 du
 obtain⟨sb,rfl,hsb⟩:=wp3 hs
 obtain⟨bb,rfl,hbb⟩:=wp3 hbv
 have hnl:=wt7 rs ns.length ns rfl
 refine J9 (s1.sqT hb) (v:=.ref sb) rfl ?_
 lk
 refine⟨p,sb,qe5 rs ns,r.shuts,rfl,hp,s1.sqT hsb,by omega,fun H2 s2=>?_⟩
 lk
 have s12:=A6.tr s1 s2
 cases e1:(qe5 rs ns).any fun y=>decide (y∈r.shuts) with
 | true =>
   x_go
   lk
   have:=q H2 s12
   rw[e1,if_pos rfl] at this
   exact this
 | false =>
   k_go
   lk
   refine J9 (s12.sqT hb) (v:=.ref bb) rfl ?_
   lk
   refine⟨p,bb,qe5 rs ns,r.bars,rfl,s2.sqT hp,s12.sqT hbb,by omega,fun H3 s3=>?_⟩
   lk
   have:=q H3 (A6.tr s12 s3)
   rw[e1,if_neg Bool.false_ne_true] at this
   cases e2:(qe5 rs ns).any fun y=>decide (y∈r.bars) with
   | true=>rw[e2,if_pos rfl] at this;exact this
   | false=>rw[e2,if_neg Bool.false_ne_true] at this;exact this
theorem xk6(rs:List Row)(ns:List Str)(n:Str):qp6 rs ns n=none\/qp6 rs ns n=some "guest"\/qp6 rs ns n=some "lost":=by
 unfold qp6
 split
 ·exact .inr (.inl rfl)
 ·split
  ·exact .inr (.inr rfl)
  ·exact .inl rfl
abbrev wu6(K:Fg):TS :=
 (I0 (zt7 K (B9 (qa6 K) [] E0 (A2 (A4 0) (A2 (A4 1) (A2 (B9 (T8 K) [] E0 (A2 (A4 2) B1)) B1)))) (B9 (qd0 K) [] E0 (A2 (A4 0) (A2 (A4 1) (A2 (B9 (T8 K) [] E0 (A2 (A4 2) B1)) B1))))))
def za9(K:Fg):TS :=
 (C0 (M0 (D7 (tOp xb8 (tCB (P6 K) (A2 (A4 1) B1)) (tC (.int 19))))
 (I0 (tC (.str ("deep":Str)))) E9)
 (wu6 K))
abbrev wu7(K:Fg):TS :=
 (C0 (M0 (qz3 (D7 (tOp (S4 K) (A4 3) (tC (.str ("bare":Str))))) (D7 (tOp xb8 (tCB (P6 K) (A2 (B9 (O9 K) [] E0 (A2 (A4 2) B1)) B1)) (tC (.int 0)))))
 (I0 (tC (.str ("full":Str)))) E9)
 (za9 K))
abbrev wu8(K:Fg):TS :=
 (C0 (M0 (D7 (tOp xu0 (A4 3) (tC .non)))
 (I0 (tC (.str ("strange":Str)))) E9)
 (wu7 K))
def qd1(K:Fg):Sp:=fun vs H Q _=>∃ (v:V) (rs:List Row) (a:Addr) (ns:List Str) (n:Str) (ps:List Tr) (x:V),vs=[v,.ref a,x]/\Rws K H v rs/\SqT K H a (D4 ns)/\ns.length<=1000/\Dv K H (Tr.nd n ps).da x/\∀ H',A6 H H'->Q (oV (wd3 rs ns n ps.length)) H'
def qf5(K:Fg):TS :=
 (C0 (D9 (B9 (qh6 K) [] E0 (A2 (A4 0) (A2 (B9 (T8 K) [] E0 (A2 (A4 2) B1)) B1))) (B3 3))
 (wu8 K))
theorem xd6(h:qd1 K vs H Q E):qf5 K {nx:=fun _ H'=>Q .non H',rt:=Q} (G9 ["book","names","tree","sort"] vs) H:=by
 obtain⟨v,rs,a,ns,n,ps,x,rfl,hR,ha,hl,dx,q⟩:=h
 show qf5 K _ [some v,some (.ref a),some x,none] H
 unfold qf5
 unfold wd3 at q
 lk
 refine⟨n,ps,x,rfl,dx,?_⟩
 lk
 refine⟨v,some n,rs,rfl,hR,?_⟩
 lk
 rw[wa3]
 cases e:Y7 rs (some n) with
 | none =>
   rw[e] at q
   x_go
   lk
   exact q H (fun _ _ e=>e)
 | some s =>
   rw[e] at q
   dsimp only at q
   k_go
   lk
   obtain⟨r,er⟩:∃ r,X6 rs (some n)=some r:=by
    unfold Y7 at e
    obtain⟨r,er,_⟩:=Option.map_eq_some_iff.mp e
    exact⟨r,er⟩
   have fin:∀ H1,A6 H H1->¬(s=("bare":Str)/\0<ps.length)->za9 K {nx:=fun _ H'=>Q .non H',rt:=Q} [some v,some (.ref a),some x,some (.str s)] H1:=by
    intro H1 s1 hb
    rw[if_neg hb] at q
    unfold za9
    lk
    refine M8 (.inr (s1.sqT ha)) ?_
    rw[L5]
    lk
    by_cases hd:19<ns.length
    ·rw[decide_eq_true (by omega)]
     x_go
     lk
     rw[if_pos hd] at q
     exact q H1 s1
    ·rw[decide_eq_false (by omega)]
     k_go
     rw[if_neg hd] at q
     lk
     refine⟨n,ps,x,rfl,Dv.same s1 _ _ dx,?_⟩
     lk
     refine⟨v,rs,a,ns,n,rfl,hR.same s1,s1.sqT ha,?_⟩
     rcases xk6 rs ns n with ef|ef|ef
     ·rw[ef] at q ⊢
      refine⟨false,rfl,?_⟩
      k_go
      lk
      refine⟨n,ps,x,rfl,Dv.same s1 _ _ dx,?_⟩
      lk
      exact⟨v,rs,a,ns,n,r,rfl,hR.same s1,s1.sqT ha,hl,er,fun H2 s2=>q H2 (A6.tr s1 s2)⟩
     ·rw[ef] at q ⊢
      refine⟨true,⟨D8 (by decide),by decide⟩,?_⟩
      x_go
      exact q H1 s1
     ·rw[ef] at q ⊢
      refine⟨true,⟨D8 (by decide),by decide⟩,?_⟩
      x_go
      exact q H1 s1
   refine yj5 ?_
   lk
   by_cases hb:s=("bare":Str)
   ·rw[decide_eq_true hb]
    x_go
    lk
    refine⟨.nd n ps,x,rfl,dx,fun c us H1 s1 hc dc=>?_⟩
    lk
    refine M8 (.inr hc) ?_
    have hul:us.length=ps.length:=O0 dc
    rw[hul]
    lk
    by_cases hz:0<ps.length
    ·rw[decide_eq_true (by omega)]
     x_go
     lk
     rw[if_pos ⟨hb,hz⟩] at q
     exact q H1 s1
    ·rw[decide_eq_false (by omega)]
     k_go
     exact fin H1 s1 fun h=>hz h.2
   ·rw[decide_eq_false hb]
    k_go
    k_go
    exact fin H (fun _ _ e=>e) fun h=>hb h.1
theorem qn3:∀ {q:List Int} {t:Tr} {ws:List Tr} {p u:Tr} {k:Nat},way t q=some (ws++[p])->p.kids[k]?=some u->way t (q++[(k:Int)])=some (ws++[p]++[u])
 | [],t,ws,p,u,k,h,e=>by
   rw[way] at h
   injection h with h
   have hw:ws=[]:=by
    cases ws with
    | nil=>rfl
    | cons a l=>have:=congrArg List.length h;simp at this
   subst hw
   injection h with h _
   subst h
   exact yf4 e (by rw[way];rfl)
 | j :: q,t,ws,p,u,k,h,e=>by
   obtain⟨h0,v,ws',h1,h2,h3⟩:=R9 h
   cases ws with
   | nil =>
     injection h3 with _ h3
     subst h3
     have:=V8 h2
     cases this
   | cons a l =>
     injection h3 with ha h3
     subst h3
     have:=qn3 h2 e
     rw[List.cons_append,way,if_pos h0,h1]
     show(way v (q++[(k:Int)])).map (t::·)=_
     rw[this,ha];rfl
theorem zb0{p:Tr}{k:Nat}(e:p.kids[k]?=some u):p.isTx=false:=by
 cases p with
 | tx s=>cases e
 | nd n ps=>rfl
theorem zb1:∀ {q:List Int} {t:Tr} {ws:List Tr} {p:Tr},way t q=some (ws++[p])->p.isTx=false->∀ w∈ws++[p],w.isTx=false
 | [],t,ws,p,h,hp=>by
   rw[way] at h
   injection h with h
   rw[<-h]
   have hl:=congrArg List.length h
   have hw:ws=[]:=by
    cases ws with
    | nil=>rfl
    | cons a l=>simp at hl
   subst hw
   injection h with h _
   intro w hw
   rw[List.mem_singleton.mp hw,h];exact hp
 | j :: q,t,ws,p,h,hp=>by
   obtain⟨h0,v,ws',h1,h2,h3⟩:=R9 h
   cases ws with
   | nil =>
     injection h3 with _ h3
     subst h3
     have:=V8 h2
     cases this
   | cons a l =>
     injection h3 with ha h3
     subst h3
     intro w hw
     rcases List.mem_cons.mp hw with rfl|hw
     ·rw[ha];exact zb0 h1
     ·exact zb1 h2 hp w hw
variable{q:List Int}
theorem zb2{t:Tr}(h:way t q=some ws):ws=t::ws.drop 1:=by
 have:=wd1 h
 cases ws with
 | nil=>simp at this
 | cons a l=>cases this;rfl
def bsd(p:Tr)(k:Nat):Bool:=decide (0<k) && ((p.kids[k-1]?).map Tr.isTx).getD false
theorem qi1(xs:List V)(z:V):qb8 (xs++[z]) none (some (-1))=xs:=by
 unfold qb8
 have e2:HT.sIx (xs++[z]).length (xs++[z]).length (some (-1))=xs.length:=by
  unfold HT.sIx;simp;omega
 show((xs++[z]).drop 0).take (HT.sIx (xs++[z]).length (xs++[z]).length (some (-1))-0)=xs
 rw[e2];simp
theorem N1(q:List Int)(k:Int):E4 (q++[k])=E4 q++[.int k]:=by simp[E4]
abbrev wi1(K:Fg):TS :=
 (I0 (yt2 (tOp xb8 (A4 2) (tC (.int 0))) (B9 (S1 K) [] E0 (A2 (B9 (qi0 K) [] E0 (A2 (A4 0) (A2 (tOp (O7 K) (tSl (qh5 K) (A4 1) N9 (S6 (tUn (rU fun i=>.int (-i)) (tC (.int 1))))) (O1 (A2 (tOp (rI0 fun i j=>.int (i-j)) (A4 2) (tC (.int 1))) B1))) B1))) B1))))
def Y3(K:Fg):Sp:=fun vs H Q _=>∃ (t p u:Tr) (v:V) (a:Addr) (q:List Int) (k:Nat) (ws:List Tr),vs=[v,.ref a]/\Dv K H t.da v/\SqT K H a (E4 (q++[(k:Int)]))/\way t q=some (ws++[p])/\p.kids[k]?=some u/\q.length<=40000/\∀ H',A6 H H'->Q (.bl (bsd p k)) H'
def qa7(K:Fg):TS :=
 (C0 (D9 (tOp (J0 K) (A4 1) (tUn (rU fun i=>.int (-i)) (tC (.int 1)))) (B3 2))
 (wi1 K))
theorem wm4(h:Y3 K vs H Q E):qa7 K {nx:=fun _ H'=>Q .non H',rt:=Q} (G9 ["tree","place","number"] vs) H:=by
 obtain⟨t,p,u,v,a,q,k,ws,rfl,hd,ha,hw,hk,hl,qq⟩:=h
 show qa7 K _ [some v,some (.ref a),none] H
 unfold qa7
 rw[N1] at ha
 lk
 refine⟨1,rfl,?_⟩
 refine J9 ha (v:=.int k) (Q0 (n:=(E4 q).length) (by simp) (by simp)) ?_
 lk
 by_cases h0:0<k
 ·rw[decide_eq_true (by omega)]
  x_go
  lk
  refine⟨1,rfl,?_⟩
  lk
  refine Z6 ha fun p1 H1 s1 hp1=>?_
  rw[qi1] at hp1
  lk
  refine⟨D8 (by z_go),fun c hc=>?_⟩
  refine qc2 ((A6.new hc _:A6 H1 _).sqT hp1) (SqT.of A7) (by rw[L8];exact D8 (by simp;omega)) fun p2 H2 s2 hp2=>?_
  lk
  have s3:A6 H H2:=A6.tr s1 (A6.tr (A6.new hc _) s2)
  obtain⟨j,rfl⟩:∃ j,k=j+1:=⟨k-1,by omega⟩
  have hj:j<p.kids.length:=by have:=(List.getElem?_eq_some_iff.mp hk).1;omega
  have hkj:=List.getElem?_eq_getElem hj
  refine⟨t,p.kids[j],v,p2,q++[(j:Int)],ws++[p],rfl,Dv.same s3 _ _ hd,?_,qn3 hw hkj,by simp;omega,fun x H3 s4 dx=>?_⟩
  ·rw[N1]
   have e:((j+1:Nat):Int)-1=(j:Int):=by omega
   rw[e] at hp2
   exact hp2
  lk
  refine⟨_,x,rfl,dx,?_⟩
  have:=qq H3 (A6.tr s3 s4)
  unfold bsd at this
  rw[decide_eq_true h0,Nat.add_sub_cancel,hkj] at this
  exact this
 ·rw[decide_eq_false (by omega)]
  k_go
  have:=qq H (fun _ _ e=>e)
  unfold bsd at this
  rw[decide_eq_false h0] at this
  exact this
abbrev xp2(K:Fg):TS :=
 (I0 (B9 (qc8 K) [] E0 (A2 (A4 0) (A2 (A4 4) (A2 (A4 3) (A2 (B9 (Y3 K) [] E0 (A2 (A4 1) (A2 (A4 2) B1))) B1))))))
abbrev xp3(K:Fg):TS :=
 (C0 (M0 (tB (B9 (S1 K) [] E0 (A2 (A4 3) B1)))
 (xp2 K) E9)
 (I0 (B9 (qd1 K) [] E0 (A2 (A4 0) (A2 (A4 4) (A2 (A4 3) B1))))))
abbrev xp4(K:Fg):TS :=
 (C0 (D9 (B9 (qa5 K) [] E0 (A2 (A4 1) (A2 (A4 2) B1))) (B3 4))
 (xp3 K))
def qj8(K:Fg):Sp:=fun vs H Q _=>∃ (t p u:Tr) (bv v:V) (rs:List Row) (a:Addr) (q:List Int) (k:Nat) (ws:List Tr),vs=[bv,v,.ref a]/\Rws K H bv rs/\Dv K H t.da v/\SqT K H a (E4 (q++[(k:Int)]))/\way t q=some (ws++[p])/\p.kids[k]?=some u/\q.length<=900/\∀ H',A6 H H'->Q (oV (X3 rs (((ws++[p]).drop 1).map qe7) u (bsd p k))) H'
def qp7(K:Fg):TS :=
 (C0 (D9 (B9 (qi0 K) [] E0 (A2 (A4 1) (A2 (A4 2) B1))) (B3 3))
 (xp4 K))
theorem xx1(h:qj8 K vs H Q E):qp7 K {nx:=fun _ H'=>Q .non H',rt:=Q} (G9 ["book","tree","place","part","names"] vs) H:=by
 obtain⟨t,p,u,bv,v,rs,a,q,k,ws,rfl,hR,hd,ha,hw,hk,hl,qq⟩:=h
 show qp7 K _ [some bv,some v,some (.ref a),none,none] H
 unfold qp7
 have hw2:=qn3 hw hk
 have hwl:=V8 hw
 lk
 refine⟨t,u,v,a,_,ws++[p],rfl,hd,ha,hw2,by simp;omega,fun x H1 s1 dx=>?_⟩
 lk
 have hh:=zb2 hw
 have hnd:=zb1 hw (zb0 hk)
 refine⟨t,u,v,a,q++[(k:Int)],(ws++[p]).drop 1,rfl,Dv.same s1 _ _ hd,s1.sqT ha,?_,fun w hw'=>hnd w (List.mem_of_mem_drop hw'),by simp;omega,fun c H2 s2 hc=>?_⟩
 ·rw[hw2]
  conv=>lhs;rw[hh]
  rfl
 lk
 have s12:=A6.tr s1 s2
 have hnl:(((ws++[p]).drop 1).map qe7).length<=1000:=by rw[List.length_map,List.length_drop];omega
 refine⟨u,x,rfl,Dv.same s2 _ _ dx,?_⟩
 lk
 cases u with
 | tx s =>
   x_go
   lk
   rw[xw0 dx]
   refine⟨t,p,.tx s,v,a,q,k,ws,rfl,Dv.same s12 _ _ hd,s12.sqT ha,hw,hk,by omega,fun H3 s3=>?_⟩
   lk
   exact⟨bv,rs,c,_,s,_,rfl,hR.same (A6.tr s12 s3),SqT.of (s3 _ _ hc),qq H3 (A6.tr s12 s3)⟩
 | nd n ps =>
   k_go
   lk
   exact⟨bv,rs,c,_,n,ps,x,rfl,hR.same s12,SqT.of hc,hnl,Dv.same s2 _ _ dx,fun H3 s3=>qq H3 (A6.tr s12 s3)⟩
mutual
def ffk(rs:List Row)(pl:List Int)(ns:List Str):Tr->List (List Int×Option Str)
 | .tx _=>[]
 | .nd _ ps=>ffs rs pl ns 0 false ps
def ffs(rs:List Row)(pl:List Int)(ns:List Str)(k:Nat)(bs:Bool):List Tr->List (List Int×Option Str)
 | []=>[]
 | u::us=>(pl++[(k:Int)],X3 rs ns u bs)::(ffk rs (pl++[(k:Int)]) (ns++[qe7 u]) u++ffs rs pl ns (k+1) u.isTx us)
end
mutual
theorem xp6(rs:List Row)(pl:List Int)(ns:List Str):∀ t:Tr,(pre pl t).map (·.1)=pl::(ffk rs pl ns t).map (·.1)
 | .tx s=>by rw[pre,ffk];rfl
 | .nd n ps=>by rw[pre,ffk,List.map_cons,yl2 rs pl ns 0 false ps]
theorem yl2(rs:List Row)(pl:List Int)(ns:List Str)(k:Nat)(bs:Bool):∀ ts:List Tr,(qn1 pl k ts).map (·.1)=(ffs rs pl ns k bs ts).map (·.1)
 | []=>by rw[qn1,ffs];rfl
 | u::us=>by
   rw[qn1,ffs,List.map_append,xp6 rs _ (ns++[qe7 u]) u,yl2 rs pl ns (k+1) u.isTx us,List.map_cons,List.map_append];rfl
end
def zv6(rs:List Row)(t:Tr)(x:List Int×Option Str):Prop:=∃ (q:List Int) (k:Nat) (ws:List Tr) (p u:Tr),x.1=q++[(k:Int)]/\way t q=some (ws++[p])/\p.kids[k]?=some u/\x.2=X3 rs (((ws++[p]).drop 1).map qe7) u (bsd p k)
mutual
theorem xx2(rs:List Row)(t:Tr)(q:List Int)(ns:List Str)(ws:List Tr):∀ p:Tr,way t q=some (ws++[p])->ns=((ws++[p]).drop 1).map qe7->∀ x∈ffk rs q ns p,zv6 rs t x
 | .tx s,_,_,x,hx=>by rw[ffk] at hx;cases hx
 | .nd n ps,hw,hn,x,hx=>by
   rw[ffk] at hx
   exact xx3 rs t q ns ws (.nd n ps) hw hn [] ps rfl rfl 0 false rfl rfl x hx
theorem xx3(rs:List Row)(t:Tr)(q:List Int)(ns:List Str)(ws:List Tr)(p:Tr)(hw:way t q=some (ws++[p]))(hn:ns=((ws++[p]).drop 1).map qe7) :
 ∀ (done ts:List Tr),p.kids=done++ts->True=True->∀ (k:Nat) (bs:Bool),k=done.length->bs=(match done.getLast? with|some w=>w.isTx|none=>false)->∀ x∈ffs rs q ns k bs ts,zv6 rs t x
 | done,[],_,_,k,bs,_,_,x,hx=>by rw[ffs] at hx;cases hx
 | done,u::us,hk,_,k,bs,hl,hb,x,hx=>by
   have ek:p.kids[k]?=some u:=by rw[hk,hl];simp
   rw[ffs,List.mem_cons,List.mem_append] at hx
   rcases hx with rfl|hx|hx
   ·refine⟨q,k,ws,p,u,rfl,hw,ek,?_⟩
    show X3 rs ns u bs=_
    rw[hn]
    congr 1
    unfold bsd
    rw[hb]
    cases k with
    | zero =>
      have:done=[]:=List.length_eq_zero_iff.mp hl.symm
      subst this;rfl
    | succ j =>
      have hj:j<done.length:=by omega
      rw[decide_eq_true (by omega),Nat.add_sub_cancel,hk,List.getElem?_append_left hj,List.getLast?_eq_getElem?,<-hl,Nat.add_sub_cancel,List.getElem?_eq_getElem hj]
      rfl
   ·have hw2:=qn3 hw ek
    refine xx2 rs t _ _ (ws++[p]) u hw2 ?_ x hx
    rw[hn,show((ws++[p])++[u]).drop 1=(ws++[p]).drop 1++[u] from List.drop_append_of_le_length (by simp),List.map_append];rfl
   ·exact xx3 rs t q ns ws p hw hn (done++[u]) us (by rw[hk];simp) rfl (k+1) u.isTx (by simp[hl]) (by simp) x hx
end
theorem xx4(rs:List Row)(t:Tr):∀ x∈ffk rs [] [] t,zv6 rs t x:=xx2 rs t [] [] [] t (by rw[way];rfl) rfl
def Q4(l:List (List Int×Option Str)):Option (Str×List Int):=l.findSome? fun x=>x.2.map fun r=>(r,x.1)
def Ac5(K:Fg)(H:Hp)(o:Option (Str×List Int))(v:V):Prop:=match o with
 | none=>v=.non
 | some (r,pl)=>Dv K H (.tuple [.str r,.tuple (qp2 pl)]) v
variable{l:List (List Int×Option Str)}{r:Str}{x:List Int×Option Str}
theorem wk4(h:∀ y∈l.take i,y.2=none)(e:l[i]?=some x)(ex:x.2=some r):Q4 l=some (r,x.1):=by
 induction l generalizing i with
 | nil=>simp at e
 | cons a l ih =>
   unfold Q4
   rw[List.findSome?_cons]
   cases i with
   | zero =>
     have e:a=x:=by simpa using e
     subst e
     rw[ex];rfl
   | succ i =>
     rw[h a (by simp)]
     exact ih (i:=i) (fun y hy=>h y (by simp[hy])) (by simpa using e)
theorem wa4(h:∀ y∈l,y.2=none):Q4 l=none:=by
 unfold Q4
 rw[List.findSome?_eq_none_iff]
 intro x hx
 rw[h x hx];rfl
theorem wv0(ns:List Int):PyData.eqv (.tuple (qp2 ns)) (.tuple [])=ns.isEmpty:=by cases ns <;> rfl
abbrev xp7(K:Fg):TS :=
 (M0 (D7 (tOp qj3 (A4 3) (tC .non)))
 (I0 (O1 (A2 (A4 3) (A2 (A4 2) B1)))) E9)
abbrev xp8(K:Fg):TS :=
 (C0 (D9 (tIf (D7 (tOp (S4 K) (A4 2) (O1 B1))) (tC .non) (B9 (qj8 K) [] E0 (A2 (A4 0) (A2 (A4 1) (A2 (A4 2) B1))))) (B3 3))
 (xp7 K))
def qj9(K:Fg):Sp:=fun vs H Q _=>∃ (t:Tr) (bv v:V) (rs:List Row),vs=[bv,v]/\Rws K H bv rs/\Dv K H t.da v/\wt t<=40000/\(∀ p∈pre [] t,p.1.length<=800)/\∀ (x:V) (H':Hp),A6 H H'->Ac5 K H' (Q4 (ffk rs [] [] t)) x->Q x H'
def qp8(K:Fg):TS :=
 (C0 (qm3 (ql5 K (B9 (qf2 K) [] E0 (A2 (A4 1) B1))) (B3 2)
 (xp8 K))
 (I0 (tC .non)))
theorem xx5(h:qj9 K vs H Q E):qp8 K {nx:=fun _ H'=>Q .non H',rt:=Q} (G9 ["book","tree","place","rule"] vs) H:=by
 obtain⟨t,bv,v,rs,rfl,hR,hd,hz,hpl,q⟩:=h
 show qp8 K _ [some bv,some v,none,none] H
 unfold qp8
 lk
 refine⟨t,v,rfl,hd,hz,fun p us H1 s1 hp dv=>?_⟩
 have dv:Dvs K H1 (((pre [] t).map (·.1)).map fun pl=>.tuple (qp2 pl)) us:=by rw[List.map_map];exact dv
 have hpl:∀ pl∈(pre [] t).map (·.1),pl.length<=800:=fun pl h=>by obtain⟨x,hx,rfl⟩:=List.mem_map.mp h;exact hpl x hx
 rw[xp6 rs [] []] at dv hpl
 have hul:us.length=(ffk rs [] [] t).length+1:=by have:=dv.length;simpa using this
 refine qn0 (H0:=H1) (xs:=us) (.inl (SqL.of hp)) (fun _ _ e=>e) (fun i σ H'=>∃ (a2 a3:Option V),σ=[some bv,some v,a2,a3]/\A6 H1 H'/\∀ y∈(ffk rs [] [] t).take (i-1),y.2=none) ⟨_,_,rfl,fun _ _ e=>e,by simp⟩ (fun i σ H' ⟨_,_,_,s,_⟩=>s) ?_ ?_
 ·rintro i x σ H' hx ⟨a2,a3,rfl,s2,hnone⟩
  obtain⟨d,h1,h2⟩:=dv.get' hx
  rw[List.getElem?_map] at h1
  obtain⟨pl,hpl1,rfl⟩:=Option.map_eq_some_iff.mp h1
  obtain⟨a,ks,rfl,ha,hks⟩:=C6.mp (Dv.same s2 _ _ h2)
  rw[O8] at hks
  subst hks
  lk
  refine⟨D8 (by z_go),fun e he=>?_⟩
  have s3:A6 H1 (upd H' e (.tup [])):=A6.tr s2 (A6.new he _)
  have ha3:SqT K (upd H' e (.tup [])) a (E4 pl):=(A6.new he _:A6 H' _).sqT ha
  refine yw7 (d:=.tuple (qp2 pl)) (e:=.tuple []) (C6.mpr ⟨a,_,rfl,ha3,O8.mpr rfl⟩) (C6.mpr ⟨e,[],rfl,SqT.of A7,G8⟩) ?_ ?_
  ·exact Nat.le_trans (Nat.min_le_right _ _) (by decide)
  rw[wv0]
  lk
  cases i with
  | zero =>
    have:pl=[]:=by simpa using hpl1.symm
    subst this
    x_go
    lk
    rw[decide_eq_true rfl]
    k_go
    exact⟨_,_,rfl,s3,hnone⟩
  | succ i =>
    rw[List.getElem?_cons_succ,List.getElem?_map] at hpl1
    obtain⟨y,hy,rfl⟩:=Option.map_eq_some_iff.mp hpl1
    obtain⟨qq,k,ws,pp,u,e1,e2,e3,e4⟩:=xx4 rs t y (List.mem_of_getElem? hy)
    have hle:=hpl y.1 (by simp;exact .inr ⟨_,List.mem_of_getElem? hy⟩)
    rw[e1] at ha3 hle ⊢
    rw[List.length_append] at hle
    have hemp:(qq++[(k:Int)]).isEmpty=false:=by cases qq <;> rfl
    rw[hemp]
    k_go
    lk
    have s13:=A6.tr s1 s3
    refine⟨t,pp,u,bv,v,rs,a,qq,k,ws,rfl,hR.same s13,Dv.same s13 _ _ hd,ha3,e2,e3,by omega,fun H4 s4=>?_⟩
    lk
    rw[<-e4,wa3]
    cases ef:y.2 with
    | none =>
      k_go
      refine⟨_,_,rfl,A6.tr s3 s4,?_⟩
      intro z hz
      rw[Nat.add_sub_cancel,List.take_add_one,hy] at hz
      rcases List.mem_append.mp hz with h|h
      ·exact hnone z (by rw[Nat.add_sub_cancel];exact h)
      ·have:z=y:=by simpa using h
       rw[this];exact ef
    | some r =>
      x_go
      lk
      refine⟨D8 (by z_go),fun c hc=>?_⟩
      rw[Nat.add_sub_cancel] at hnone
      refine q _ _ (A6.tr (A6.tr s13 s4) (A6.new hc _)) ?_
      rw[wk4 hnone hy ef]
      show Dv K _ (.tuple [.str r,.tuple (qp2 y.1)]) (.ref c)
      refine C6.mpr ⟨c,_,rfl,SqT.of A7,I9 (P9.mpr rfl) (I9 (C6.mpr ⟨a,_,rfl,(A6.tr s4 (A6.new hc _)).sqT ha3,?_⟩) G8)⟩
      rw[e1];exact O8.mpr rfl
 ·rintro σ H' ⟨a2,a3,rfl,s2,hnone⟩
  lk
  rw[hul,Nat.add_sub_cancel,List.take_length] at hnone
  refine q _ _ (A6.tr s1 s2) ?_
  rw[wa4 hnone]
  rfl
def zj4:Row:=⟨"","","",[],[]⟩
def U5(rs:List Row)(n:Str):Row:=(X6 rs (some n)).getD zj4
structure BkS(rs:List Row):Prop where
 ne:∀ r∈rs,r.name≠("":Str)
 so:∀ r∈rs,r.sort≠("":Str)
 nf:∀ r∈rs,r.sort≠("frame":Str)->r.host=("":Str)
 un:∀ n:Str,n≠("":Str)->(rs.filter fun r=>decide (r.host=n)).length<=1
theorem zv7(rs:List Row)(n:Str):xp0 rs n=decide ((U5 rs n).sort∈[("room":Str),("frame":Str)]):=by
 unfold xp0 U5
 cases X6 rs (some n) with
 | none=>rfl
 | some r=>rfl
theorem zb3(rs:List Row)(n:Str):T7 rs (some n)=if(U5 rs n).sort=("frame":Str) then some (U5 rs n).host else none:=by
 unfold T7 U5
 cases X6 rs (some n) with
 | none=>rfl
 | some r=>rfl
theorem zv8(B:BkS rs)(n:Str):Y7 rs (some n)=if(U5 rs n).sort=("":Str) then none else some (U5 rs n).sort:=by
 unfold Y7 U5
 cases e:X6 rs (some n) with
 | none=>rfl
 | some r =>
   have:=B.so r (xw3 e).1
   show some r.sort=if r.sort=("":Str) then none else some r.sort
   rw[if_neg this]
theorem xk7{p:Row->Bool}:∀ l:List Row,l.find? p=(l.filter p).head?
 | []=>rfl
 | r::l=>by
   rw[List.find?_cons,List.filter_cons]
   cases e:p r with
   | true=>rfl
   | false=>exact xk7 l
theorem zj5(B:BkS rs){n:Str}(hn:n≠("":Str)):frameOf rs (some n)=((rs.filter fun r=>decide (r.host=n)).map (·.name)).head?:=by
 unfold frameOf
 have e:(rs.filter fun r=>decide (r.sort=("frame":Str)) && decide (some r.host=some n))=rs.filter fun r=>decide (r.host=n):=by
  apply List.filter_congr
  intro r hr
  by_cases h:r.host=n
  ·have hs:r.sort=("frame":Str):=by
    by_cases hs:r.sort=("frame":Str)
    ·exact hs
    ·exact absurd (h.symm.trans (B.nf r hr hs)) hn
   simp[h,hs]
  ·simp[h]
 rw[xk7,e,List.head?_map]
theorem wv1(h:SqT K H p [.str ("":Str),.str ("":Str),.str ("":Str),.ref a,.ref b])(ha:SqT K H a [])(hb:SqT K H b []):Dv K H zj4.da (.ref p):=by
 unfold Row.da zj4
 exact C6.mpr ⟨p,_,rfl,h,I9 (P9.mpr rfl) (I9 (P9.mpr rfl) (I9 (P9.mpr rfl) (I9 (C6.mpr ⟨a,[],rfl,ha,G8⟩) (I9 (C6.mpr ⟨b,[],rfl,hb,G8⟩) G8))))⟩
abbrev xq0(K:Fg):TS :=
 (I0 (O1 (A2 (tC (.str ("":Str))) (A2 (tC (.str ("":Str))) (A2 (tC (.str ("":Str))) (A2 (O1 B1) (A2 (O1 B1) B1)))))))
def S0(K:Fg):Sp:=fun vs H Q _=>∃ v n rs,vs=[v,.str n]/\Rws K H v rs/\∀ u H',A6 H H'->Dv K H' (U5 rs n).da u->Q u H'
def qp9(K:Fg):TS :=
 (C0 (qm3 (ql5 K (A4 0)) (B3 2)
 (M0 (D7 (tOp (S4 K) (tOp (J0 K) (A4 2) (tC (.int 0))) (A4 1)))
 (I0 (A4 2)) E9))
 (xq0 K))
theorem xx6(h:S0 K vs H Q E):qp9 K {nx:=fun _ H'=>Q .non H',rt:=Q} (G9 ["_law_book_here","_law_name_here","_law_row_here"] vs) H:=by
 obtain⟨v,n,rs,rfl,⟨a,xs,rfl,hq,hd⟩,q⟩:=h
 show qp9 K _ [some (.ref a),some (.str n),none] H
 have hlen:xs.length=rs.length:=by have:=hd.length;simpa using this
 unfold qp9
 lk
 refine qn0 (H0:=H) hq (fun _ _ e=>e) (fun i σ H'=>H'=H/\(∃ w,σ=[some (.ref a),some (.str n),w])/\∀ r∈rs.take i,decide (some r.name=some n)=false) ⟨rfl,⟨_,rfl⟩,by simp⟩ (fun i σ H' p=>p.1▸fun _ _ e=>e) ?_ ?_
 ·rintro i x σ H' hx ⟨rfl,⟨w,rfl⟩,hn⟩
  obtain⟨d,hd1,hd2⟩:=hd.get' hx
  rw[List.getElem?_map] at hd1
  obtain⟨r,hr,rfl⟩:=Option.map_eq_some_iff.mp hd1
  obtain⟨b,sv,bv,rfl,hb,hsv,hbv⟩:=N0 hd2
  lk
  refine J9 hb (v:=.str r.name) (E8 (j:=0) rfl) ?_
  lk
  by_cases e:r.name=n
  ·rw[decide_eq_true e];refine W9 ?_
   lk
   have hf:X6 rs (some n)=some r:=Z7 hr hn (by simp[e])
   refine q _ _ (fun _ _ e=>e) ?_
   unfold U5
   rw[hf];exact hd2
  ·rw[decide_eq_false e];refine V4 ?_
   lk
   exact⟨rfl,⟨_,rfl⟩,qu2 hr hn (by simp[e])⟩
 ·rintro σ H' ⟨rfl,⟨w,rfl⟩,hn⟩
  lk
  refine⟨D8 (by z_go),fun p1 hp1=>?_⟩
  lk
  refine⟨D8 (by z_go),fun p2 hp2=>?_⟩
  lk
  refine⟨D8 (by z_go),fun p3 hp3=>?_⟩
  have s1:=A6.new hp1 (.tup [])
  have s2:=A6.new hp2 (.tup [])
  have s3:=A6.new hp3 (.tup [.str ("":Str),.str ("":Str),.str ("":Str),.ref p1,.ref p2])
  refine q _ _ (A6.tr s1 (A6.tr s2 s3)) ?_
  have hf:X6 rs (some n)=none:=by
   unfold X6
   rw[List.find?_eq_none]
   intro r hr
   rw[hlen,List.take_length] at hn
   simpa using hn r hr
  unfold U5
  rw[hf]
  exact wv1 (SqT.of A7) (SqT.of (s3 _ _ (s2 _ _ A7))) (SqT.of (s3 _ _ A7))
abbrev xd7(K:Fg):TS :=
 (D9 (tCB (xn1 K) (A2 (tSl (qh5 K) (A4 1) (S6 (tOp (O7 K) (A4 3) (tC (.int 1)))) N9) B1)) (B3 2))
abbrev xd8(K:Fg):TS :=
 (M0 (D7 (tOp (wr8 K false) (tOp (J0 K) (B9 (S0 K) [] E0 (A2 (A4 0) (A2 (tOp (J0 K) (A4 1) (A4 3)) B1))) (tC (.int 1))) (O1 (A2 (tC (.str ("room":Str))) (A2 (tC (.str ("frame":Str))) B1)))))
 (xd7 K) E9)
abbrev xd9(K:Fg):TS :=
 (C0 (qm3 (qm2 (A2 (tCB (P6 K) (A2 (A4 1) B1)) B1)) (B3 3)
 (xd8 K))
 (I0 (A4 2)))
def qf6(K:Fg):Sp:=fun vs H Q _=>∃ v a ys rs,vs=[v,.ref a]/\Rws K H v rs/\SqT K H a (D4 ys)/\ys.length<=1000/\∀ p H',A6 H H'->H' p=some (.lst (D4 (qe5 rs ys)))->Q (.ref p) H'
def qk0(K:Fg):TS :=
 (C0 (D9 (tCB (xn1 K) (A2 (A4 1) B1)) (B3 2))
 (xd9 K))
theorem xq2(h:qf6 K vs H Q E):qk0 K {nx:=fun _ H'=>Q .non H',rt:=Q} (G9 ["_law_book_here","_law_names","_law_near_here","_law_k"] vs) H:=by
 obtain⟨v,a,ys,rs,rfl,hR,hq,hl,q⟩:=h
 show qk0 K _ [some v,some (.ref a),none,none] H
 unfold qk0
 lk
 refine⟨a,_,rfl,.inr hq,fun nr hnr=>?_⟩
 have s0:A6 H (upd H nr (.lst (D4 ys))):=A6.new hnr _
 have n0:(upd H nr (.lst (D4 ys))) nr=some (.lst (D4 ys)):=A7
 generalize upd H nr (.lst (D4 ys))=H1 at *
 lk
 refine M8 (.inr (s0.sqT hq)) ?_
 rw[L5]
 lk
 refine qm5 (by omega) (by omega) (fun i σ H'=>A6 H H'/\∃ (st:Nat) (nr:Addr) (a3:Option V),σ=[some v,some (.ref a),some (.ref nr),a3]/\st<=i/\H' nr=some (.lst (D4 (ys.drop st)))/\qe5 rs (ys.take i)=(ys.take i).drop st) ⟨s0,0,nr,none,rfl,Nat.le_refl _,n0,rfl⟩ ?_ ?_
 ·rintro i σ H' hi ⟨s1,st,nr,a3,rfl,hst,hnr,hne⟩
  have hi:i<ys.length:=by omega
  have hy:ys[i]?=some ys[i]:=List.getElem?_eq_getElem hi
  have etk:ys.take (i+1)=ys.take i++[ys[i]]:=by rw[List.take_add_one,hy];rfl
  lk
  refine J9 (s1.sqT hq) (E8 (X9 hi)) ?_
  lk
  refine⟨v,ys[i],rs,rfl,hR.same s1,fun u H2 s2 du=>?_⟩
  lk
  obtain⟨b,sv,bv,rfl,hb,_,_⟩:=N0 du
  refine J9 hb (v:=.str (U5 rs ys[i]).sort) (E8 (j:=1) rfl) ?_
  lk
  refine⟨D8 (by z_go),fun t ht=>?_⟩
  have s3:A6 H (upd H2 t (.tup [.str ("room":Str),.str ("frame":Str)])):=A6.tr s1 (A6.tr s2 (A6.new ht _))
  have hnr3:=A6.new ht (.tup [.str ("room":Str),.str ("frame":Str)]) _ _ (s2 _ _ hnr)
  refine .inl (yp9 (xs:=D4 [("room":Str),("frame":Str)]) (.inr (SqT.of A7)) rfl (qg8 _) ?_)
  rw[qh8,<-zv7]
  generalize upd H2 t (.tup [.str ("room":Str),.str ("frame":Str)])=H3 at *
  lk
  cases hw:xp0 rs ys[i] with
  | true =>
    x_go
    lk
    refine .inl (qe6 ?_)
    lk
    refine Z6 (s3.sqT hq) fun p H4 s4 hp=>?_
    have e:qb8 (D4 ys) (some ((i:Int)+1)) none=D4 (ys.drop (i+1)):=by
     unfold qb8
     rw[show((i:Int)+1)=((i+1:Nat):Int) by omega,HT.xm2]
     show((D4 ys).drop (min (i+1) (D4 ys).length)).take ((D4 ys).length-min (i+1) (D4 ys).length)=_
     rw[L5,Nat.min_eq_left (by omega),List.take_of_length_le (by rw[List.length_drop,L5];exact Nat.le_refl _)]
     unfold D4
     rw[List.map_drop]
    rw[e] at hp
    lk
    refine⟨p,_,rfl,.inr hp,fun r hr=>?_⟩
    lk
    refine⟨A6.tr s3 (A6.tr s4 (A6.new hr _)),i+1,r,_,rfl,Nat.le_refl _,A7,?_⟩
    rw[etk,qn2,if_pos hw,List.drop_eq_nil_of_le (by rw[List.length_append,List.length_take,List.length_singleton];omega)]
  | false =>
    k_go
    lk
    refine⟨s3,st,nr,_,rfl,by omega,hnr3,?_⟩
    rw[etk,qn2,if_neg (by rw[hw];exact Bool.false_ne_true),hne,List.drop_append_of_le_length (by rw[List.length_take];omega)]
 ·rintro σ H' ⟨s1,st,nr,a3,rfl,hst,hnr,hne⟩
  lk
  refine q nr H' s1 ?_
  rw[show((ys.length:Int)).toNat=ys.length by omega,List.take_length] at hne
  rw[hne];exact hnr
abbrev wv2(K:Fg):TS :=
 (C0 (M0 (D7 (tOp (Z2 K) (Z4 [some 10,none] (ql5 K (A4 12)) (B3 1) (D7 (tOp (wr8 K false) (A4 1) (A4 0))) (A4 1)) (X4 B1)))
 (I0 (tC (.str ("barred":Str)))) E9)
 (I0 (tC .non)))
abbrev wv3(K:Fg):TS :=
 (C0 (M0 (D7 (tOp (Z2 K) (Z4 [some 9,none] (ql5 K (A4 12)) (B3 1) (D7 (tOp (wr8 K false) (A4 1) (A4 0))) (A4 1)) (X4 B1)))
 (I0 (tC (.str ("shut":Str)))) E9)
 (wv2 K))
def zv9(K:Fg):TS :=
 (C0 (D9 (B9 (qf6 K) [] E0 (A2 (A4 0) (A2 (A4 1) B1))) (B3 12))
 (wv3 K))
abbrev wv4(K:Fg):TS :=
 (C0 (M0 (qz3 (D7 (tOp (Z2 K) (A4 11) (X4 B1))) (D7 (tOp (Z2 K) (A4 11) (X4 (A2 (A4 4) B1)))))
 (I0 (tC (.str ("lost":Str)))) E9)
 (zv9 K))
def zj6(K:Fg):TS :=
 (C0 (D9 (Z4 [some 6,none] (ql5 K (A4 0)) (B3 1) (D7 (tOp (S4 K) (tOp (J0 K) (A4 1) (tC (.int 2))) (A4 0))) (tOp (J0 K) (A4 1) (tC (.int 0)))) (B3 11))
 (wv4 K))
abbrev wv5(K:Fg):TS :=
 (C0 (M0 (qz3 (D7 (tOp (S4 K) (tOp (J0 K) (A4 5) (tC (.int 1))) (tC (.str ("frame":Str))))) (D7 (tOp (Z2 K) (tOp (J0 K) (A4 5) (tC (.int 2))) (A4 6))))
 (I0 (tC (.str ("guest":Str)))) E9)
 (zj6 K))
def zw0(K:Fg):TS :=
 (C0 (M0 (D7 (tOp zr3 (tCB (P6 K) (A2 (A4 1) B1)) (tC (.int 20))))
 (I0 (tC (.str ("deep":Str)))) E9)
 (wv5 K))
abbrev wm5(K:Fg):TS :=
 (C0 (M0 (qz3 (D7 (tOp (S4 K) (A4 7) (tC (.str ("bare":Str))))) (D7 (tOp xb8 (tCB (P6 K) (A2 (tOp (J0 K) (A4 2) (tC (.int 1))) B1)) (tC (.int 0)))))
 (I0 (tC (.str ("full":Str)))) E9)
 (zw0 K))
abbrev wm6(K:Fg):TS :=
 (C0 (M0 (D7 (tOp (S4 K) (A4 7) (tC (.str ("":Str)))))
 (I0 (tC (.str ("strange":Str)))) E9)
 (wm5 K))
def zw1(K:Fg):TS :=
 (C0 (D9 (B9 (S0 K) [] E0 (A2 (A4 0) (A2 (tOp (J0 K) (A4 2) (tC (.int 0))) B1))) (wq4 K 5 (S5 (B3 6) (S5 (B3 7) (S5 (B3 8) (S5 (B3 9) (S5 (B3 10) wq3)))))))
 (wm6 K))
abbrev wv6(K:Fg):TS :=
 (C0 (M0 (tB (tCB (wl2 K) (A2 (A4 3) (A2 (tC (.ty "str")) B1))))
 (I0 (tC (.str ("beside":Str)))) E9)
 (I0 (tC .non)))
abbrev wv7(K:Fg):TS :=
 (C0 (M0 (D7 (tOp (S4 K) (A4 2) (tC (.str ("":Str)))))
 (I0 (tC (.str ("empty":Str)))) E9)
 (wv6 K))
abbrev wv8(K:Fg):TS :=
 (C0 (M0 (D7 (tOp (S4 K) (tOp (J0 K) (A4 5) (tC (.int 1))) (tC (.str ("frame":Str)))))
 (I0 (tC (.str ("guest":Str)))) E9)
 (wv7 K))
abbrev wm7(K:Fg):TS :=
 (C0 (M0 (tB (tCB (wl2 K) (A2 (A4 2) (A2 (tC (.ty "str")) B1))))
 (wv8 K) E9)
 (zw1 K))
def zw2(K:Fg):TS :=
 (C0 (D9 (B9 (S0 K) [] E0 (A2 (A4 0) (A2 (A4 4) B1))) (B3 5))
 (wm7 K))
theorem yl3(xs:List Str):(sDa xs).isEmpty=xs.isEmpty:=by cases xs <;> rfl
theorem xx7(p:Str->Bool):∀ xs:List Str,(!(xs.filter p).isEmpty)=xs.any p
 | []=>rfl
 | x::xs=>by
   rw[List.filter_cons,List.any_cons]
   cases p x with
   | true=>rfl
   | false=>rw[if_neg Bool.false_ne_true,xx7 p xs];rfl
theorem wi3(xs:List Str):PyData.eqv (.tuple (sDa xs)) (.tuple [])=xs.isEmpty:=by cases xs <;> rfl
variable{sa:Addr}
theorem yl4{nr shuts:List Str}(hs:SqT K H sa (D4 shuts))(hp:H p=some (.lst (D4 nr)))(hl:nr.length<=1000)(q:∀ H',A6 H H'->Q (.bl (nr.any fun y=>decide (y∈shuts))) H') :
 ∃ b,V.ref p=.ref b/\(((∃ xs,SqL K H b xs)/\qt4 (B3 1) (D7 (tOp (wr8 K false) (A4 1) (A4 0))) (A4 1) [some (.ref sa),none] (fun x H1=>X4 B1 [] H1 fun y H2=>Z2 K x y H2 Q) (Itl K b) H)\/((∃ xs,SqT K H b xs)/\qt4 (B3 1) (D7 (tOp (wr8 K false) (A4 1) (A4 0))) (A4 1) [some (.ref sa),none] (fun x H1=>X4 B1 [] H1 fun y H2=>Z2 K x y H2 Q) (Itt K b) H)):=by
 refine qc1 (xs:=D4 nr) (SqL.of hp) (fun i ys H'=>H'=H/\ys=D4 ((nr.take i).filter fun y=>decide (y∈shuts))) ⟨rfl,rfl⟩ ?_ ?_ ?_ ?_
 ·rintro i ys H' hi ⟨rfl,rfl⟩
  rw[L5]
  exact D8 (Nat.le_trans (List.length_filter_le _ _) (by rw[List.length_take];omega))
 ·rintro i ys H' hi ⟨rfl,_⟩
  exact SqL.of hp
 ·rintro i x ys H' hx ⟨rfl,rfl⟩
  obtain⟨y,hy,rfl⟩:=wc7 hx
  lk
  refine .inl (yp9 (xs:=D4 shuts) (.inr hs) rfl (qg8 _) ?_)
  rw[qh8]
  have etk:nr.take (i+1)=nr.take i++[y]:=by rw[List.take_add_one,hy];rfl
  refine⟨_,rfl,?_⟩
  by_cases h:y∈shuts
  ·rw[decide_eq_true h];refine W9 ?_
   lk
   refine⟨rfl,?_⟩
   rw[etk,List.filter_append,Z8]
   simp[h]
  ·rw[decide_eq_false h];refine V4 ?_
   refine⟨rfl,?_⟩
   rw[etk,List.filter_append]
   simp[h]
 ·rintro ys H' ⟨rfl,rfl⟩ r hr
  have e:nr.take (D4 nr).length=nr:=by rw[L5,List.take_length]
  rw[e]
  have s1:=A6.new hr (.lst (D4 (nr.filter fun y=>decide (y∈shuts))))
  lk
  refine⟨D8 (by z_go),fun e he=>?_⟩
  have s2:=A6.new he (.lst [])
  refine yk9 (ds:=sDa (nr.filter fun y=>decide (y∈shuts))) (T5.mpr ⟨r,_,rfl,SqL.of (s2 _ _ A7),V5.mpr rfl⟩) A7 ?_
  rw[yl3,xx7]
  exact q _ (A6.tr s1 s2)
section
variable{D:U8}{v pv av:V}{na sa ba:Addr}{rs:List Row}{ns:List Str}{a2 a3 a4 a5 a6 a7 a8 a11 a12:Option V}{shuts bars:List Str}
theorem zn2(hR:Rws K H v rs)(hna:SqT K H na (D4 ns))(hl:ns.length<=1000)(hs:SqT K H sa (D4 shuts))(hb:SqT K H ba (D4 bars))(q:∀ H',A6 H H'->D.rt (oV (if((qe5 rs ns).any fun y=>decide (y∈shuts)) then some ("shut":Str) else if((qe5 rs ns).any fun y=>decide (y∈bars)) then some ("barred":Str) else none)) H') :
 zv9 K D [some v,some (.ref na),a2,a3,a4,a5,a6,a7,a8,some (.ref sa),some (.ref ba),a11,a12] H:=by
 unfold zv9
 lk
 refine⟨v,na,ns,rs,rfl,hR,hna,hl,fun p H1 s1 hp=>?_⟩
 have hnl:(qe5 rs ns).length<=1000:=Nat.le_trans (wt7 rs ns.length ns rfl) hl
 lk
 refine yl4 (s1.sqT hs) hp hnl fun H2 s2=>?_
 lk
 cases e:(qe5 rs ns).any fun y=>decide (y∈shuts) with
 | true =>
   x_go
   lk
   rw[e] at q
   exact q H2 (A6.tr s1 s2)
 | false =>
   k_go
   rw[e] at q
   lk
   refine yl4 (s2.sqT (s1.sqT hb)) (s2 _ _ hp) hnl fun H3 s3=>?_
   lk
   have s13:=A6.tr s1 (A6.tr s2 s3)
   cases e2:(qe5 rs ns).any fun y=>decide (y∈bars) with
   | true =>
     x_go
     lk
     rw[e2] at q
     exact q H3 s13
   | false =>
     k_go
     rw[e2] at q
     lk
     exact q H3 s13
theorem Ac6{n above:Str}(B:BkS rs)(hn:n≠("":Str))(hR:Rws K H v rs)(hrl:rs.length<=1000)(hna:SqT K H na (D4 ns))(hl:ns.length<=1000)(hs:SqT K H sa (D4 shuts))(hb:SqT K H ba (D4 bars))(q:∀ H',A6 H H'->D.rt (oV (if(frameOf rs (some n)).isSome && decide (frameOf rs (some n)≠some above) then some ("lost":Str) else if((qe5 rs ns).any fun y=>decide (y∈shuts)) then some ("shut":Str) else if((qe5 rs ns).any fun y=>decide (y∈bars)) then some ("barred":Str) else none)) H') :
 zj6 K D [some v,some (.ref na),a2,a3,some (.str above),a5,some (.str n),a7,a8,some (.ref sa),some (.ref ba),a11,a12] H:=by
 unfold zj6
 lk
 obtain⟨ba',xs,rfl,hq,hd⟩:=id hR
 have hxl:xs.length=rs.length:=by have:=hd.length;simpa using this
 refine xk3 (H0:=H) hq (fun _ _ e=>e) (fun i ys H'=>H'=H/\ys=D4 (((rs.take i).filter fun r=>decide (r.host=n)).map (·.name))) ⟨rfl,rfl⟩ ?_ (fun i ys H' p=>p.1▸fun _ _ e=>e) ?_ ?_
 ·rintro i ys H' hi ⟨rfl,rfl⟩
  rw[L5,List.length_map]
  exact D8 (Nat.le_trans (List.length_filter_le _ _) (by rw[List.length_take];omega))
 ·rintro i x ys H' hx ⟨rfl,rfl⟩
  obtain⟨d,hd1,hd2⟩:=hd.get' hx
  rw[List.getElem?_map] at hd1
  obtain⟨r,hr,rfl⟩:=Option.map_eq_some_iff.mp hd1
  obtain⟨b,sv,bv,rfl,hb',hsv,hbv⟩:=N0 hd2
  have etk:rs.take (i+1)=rs.take i++[r]:=by rw[List.take_add_one,hr];rfl
  lk
  refine J9 hb' (v:=.str r.host) (E8 (j:=2) rfl) ?_
  lk
  by_cases h:r.host=n
  ·rw[decide_eq_true h];refine W9 ?_
   lk
   refine J9 hb' (v:=.str r.name) (E8 (j:=0) rfl) ?_
   refine⟨rfl,?_⟩
   rw[etk,List.filter_append,List.map_append,Z8]
   simp[h]
  ·rw[decide_eq_false h];refine V4 ?_
   refine⟨rfl,?_⟩
   rw[etk,List.filter_append]
   simp[h]
 ·rintro ys H' ⟨rfl,rfl⟩ r hr
  rw[hxl,List.take_length]
  have hf:=zj5 B hn
  have hu:=B.un n hn
  generalize hL:(rs.filter fun r=>decide (r.host=n)).map (·.name)=L at *
  have hLl:L.length<=1:=by rw[<-hL,List.length_map];exact hu
  have s1:=A6.new hr (.lst (D4 L))
  lk
  refine⟨D8 (by z_go),fun e he=>?_⟩
  have s2:=A6.new he (.lst [])
  have hrL:=s2 _ _ (A7 (H:=H') (a:=r) (o:=.lst (D4 L)))
  have he2:(upd (upd H' r (.lst (D4 L))) e (.lst [])) e=some (.lst []):=A7
  generalize upd (upd H' r (.lst (D4 L))) e (.lst [])=H2 at *
  have s12:=A6.tr s1 s2
  refine yk9 (ds:=sDa L) (T5.mpr ⟨r,_,rfl,SqL.of hrL,V5.mpr rfl⟩) he2 ?_
  rw[yl3]
  lk
  match L,hLl,hf,hrL with
  | [],_,hf,hrL =>
    k_go
    k_go
    lk
    refine zn2 (hR.same s12) (s12.sqT hna) hl (s12.sqT hs) (s12.sqT hb) fun H3 s3=>?_
    have:=q H3 (A6.tr s12 s3)
    rw[hf] at this
    exact this
  | [x],_,hf,hrL =>
    x_go
    lk
    refine⟨D8 (by z_go),fun e2 he2=>?_⟩
    have s3:=A6.new he2 (.lst [.str above])
    refine Aa6 (d:=.list (sDa [x])) (e:=.list (sDa [above])) (T5.mpr ⟨r,_,rfl,SqL.of (s3 _ _ hrL),V5.mpr rfl⟩) (T5.mpr ⟨e2,_,rfl,SqL.of A7,V5.mpr rfl⟩) (by simp[sDa,PyData.depth,PyData.depthAll]) ?_
    have ee:PyData.eqv (.list (sDa [x])) (.list (sDa [above]))=decide (x=above):=by
     by_cases hx:x=above
     ·subst hx;simp[sDa,PyData.eqv,PyData.eqvAll]
     ·simp[sDa,PyData.eqv,PyData.eqvAll,hx]
    rw[ee]
    have s13:=A6.tr s12 s3
    generalize upd H2 e2 (.lst [.str above])=H3 at *
    lk
    by_cases hx:x=above
    ·rw[decide_eq_true hx];refine V4 ?_
     lk
     refine zn2 (hR.same s13) (s13.sqT hna) hl (s13.sqT hs) (s13.sqT hb) fun H4 s4=>?_
     have:=q H4 (A6.tr s13 s4)
     rw[hf,if_neg (by simp[hx])] at this
     exact this
    ·rw[decide_eq_false hx];refine W9 ?_
     lk
     have:=q H3 s13
     rw[hf,if_pos (by simp[hx])] at this
     exact this
  | _::_::_,h,_,_=>simp at h
end
variable{m:Nat}{ns:List Str}
theorem zw3{n:Str}{r:Row}(hr:X6 rs (some n)=some r):wd3 rs ns n m=if r.sort=("bare":Str)/\0<m then some ("full":Str) else if 19<ns.length then some ("deep":Str) else if(U5 rs (G7 ns)).sort=("frame":Str)/\(U5 rs (G7 ns)).host≠n then some ("guest":Str)
 else if(frameOf rs (some n)).isSome && decide (frameOf rs (some n)≠some (G7 ns)) then some ("lost":Str) else if((qe5 rs ns).any fun y=>decide (y∈r.shuts)) then some ("shut":Str) else if((qe5 rs ns).any fun y=>decide (y∈r.bars)) then some ("barred":Str) else none:=by
 unfold wd3
 rw[show Y7 rs (some n)=some r.sort by unfold Y7;rw[hr];rfl]
 show(if r.sort=("bare":Str)/\0<m then some ("full":Str) else if 19<ns.length then some ("deep":Str) else match qp6 rs ns n with|some f=>some f|none=>wk3 rs ns n)=_
 have en:wk3 rs ns n=if((qe5 rs ns).any fun y=>decide (y∈r.shuts)) then some ("shut":Str) else if((qe5 rs ns).any fun y=>decide (y∈r.bars)) then some ("barred":Str) else none:=by
  unfold wk3;rw[hr]
 by_cases h1:r.sort=("bare":Str)/\0<m
 ·rw[if_pos h1,if_pos h1]
 ·rw [if_neg h1,if_neg h1]
  by_cases h2:19<ns.length
  ·rw[if_pos h2,if_pos h2]
  ·rw [if_neg h2,if_neg h2,en]
   unfold qp6
   rw[zb3]
   by_cases h3:(U5 rs (G7 ns)).sort=("frame":Str)/\(U5 rs (G7 ns)).host≠n
   ·rw[if_pos h3,if_pos (by rw[if_pos h3.1];simp[h3.2])]
   ·rw[if_neg h3]
    have h4:¬((if(U5 rs (G7 ns)).sort=("frame":Str) then some (U5 rs (G7 ns)).host else none).isSome && decide ((if(U5 rs (G7 ns)).sort=("frame":Str) then some (U5 rs (G7 ns)).host else none)≠some n))=true:=by
     by_cases h5:(U5 rs (G7 ns)).sort=("frame":Str)
     ·rw[if_pos h5]
      have:(U5 rs (G7 ns)).host=n:=Classical.byContradiction fun z=>h3 ⟨h5,z⟩
      simp[this]
     ·rw[if_neg h5];simp
    rw[if_neg h4]
    by_cases h6:((frameOf rs (some n)).isSome && decide (frameOf rs (some n)≠some (G7 ns)))=true
    ·rw[if_pos h6,if_pos h6]
    ·rw[if_neg h6,if_neg h6]
variable{a5:Option V}
section
variable{D:U8}{v pv av fv:V}{na:Addr}{rs:List Row}{ns:List Str}{a3 a6 a7 a8 a9 a10 a11 a12:Option V}
theorem Ac7{n:Str}(B:BkS rs)(hR:Rws K H v rs)(hrl:rs.length<=1000)(hna:SqT K H na (D4 ns))(hl:ns.length<=1000)(hpv:Dv K H (Tr.nd n ps).da pv)(hfv:Dv K H (U5 rs (G7 ns)).da fv)(q:∀ H',A6 H H'->D.rt (oV (wd3 rs ns n ps.length)) H'):zw1 K D [some v,some (.ref na),some pv,a3,some (.str (G7 ns)),some fv,a6,a7,a8,a9,a10,a11,a12] H:=by
 unfold zw1
 obtain⟨pa,pb,us,rfl,hpa,hpb,dvs⟩:=qh9 hpv
 have hul:=O0 dvs
 lk
 refine J9 hpa (v:=.str n) (E8 (j:=0) rfl) ?_
 lk
 refine⟨v,n,rs,rfl,hR,fun u H1 s1 du=>?_⟩
 obtain⟨rb,sv,bv,rfl,hrb,hsv,hbv⟩:=N0 du
 obtain⟨sa,rfl,hsa⟩:=wp3 hsv
 obtain⟨ba,rfl,hba⟩:=wp3 hbv
 refine⟨rb,_,rfl,hrb,rfl,_,_,rfl,N7 ⟨_,_,rfl,N7 ⟨_,_,rfl,N7 ⟨_,_,rfl,N7 ⟨_,_,rfl,N7 ⟨rfl,?_⟩⟩⟩⟩⟩⟩
 lk
 by_cases h0:(U5 rs n).sort=("":Str)
 ·rw[decide_eq_true h0];refine W9 ?_
  lk
  have:=q H1 s1
  unfold wd3 at this
  rw[zv8 B,if_pos h0] at this
  exact this
 ·rw [decide_eq_false h0];refine V4 ?_
  obtain⟨r,hr⟩:∃ r,X6 rs (some n)=some r:=by
   cases e:X6 rs (some n) with
   | some r=>exact⟨r,rfl⟩
   | none=>exact absurd (by unfold U5;rw[e];rfl) h0
  have eR:U5 rs n=r:=by unfold U5;rw[hr];rfl
  rw[eR] at hsa hba ⊢
  obtain⟨hm,hrn⟩:=xw3 hr
  have hn0:n≠("":Str):=hrn▸B.ne r hm
  rw[hrn]
  rw[zw3 hr] at q
  have last:∀ {a11 a12:Option V} {a7 a8:Option V},¬(r.sort=("bare":Str)/\0<ps.length)->¬(19<ns.length)->¬((U5 rs (G7 ns)).sort=("frame":Str)/\(U5 rs (G7 ns)).host≠n)->zj6 K D [some v,some (.ref na),some (.ref pa),a3,some (.str (G7 ns)),some fv,some (.str n),a7,a8,some (.ref sa),some (.ref ba),a11,a12] H1:=by
   intro _ _ _ _ h1 h2 h3
   rw[if_neg h1,if_neg h2,if_neg h3] at q
   exact Ac6 B hn0 (hR.same s1) hrl (s1.sqT hna) hl hsa hba fun H2 s2=>q H2 (A6.tr s1 s2)
  obtain⟨fb,fsv,fbv,rfl,hfb,_,_⟩:=N0 hfv
  have hfb:=s1.sqT hfb
  have tail:¬(r.sort=("bare":Str)/\0<ps.length)->zw0 K D [some v,some (.ref na),some (.ref pa),a3,some (.str (G7 ns)),some (.ref fb),some (.str n),some (.str r.sort),some (.str r.host),some (.ref sa),some (.ref ba),a11,a12] H1:=by
   intro h1
   unfold zw0
   lk
   refine M8 (.inr (s1.sqT hna)) ?_
   rw[L5]
   lk
   by_cases h2:19<ns.length
   ·rw[decide_eq_true (by omega)];refine W9 ?_
    lk
    have:=q H1 s1
    rw[if_neg h1,if_pos h2] at this
    exact this
   ·rw[decide_eq_false (by omega)];refine V4 ?_
    lk
    refine J9 hfb (v:=.str (U5 rs (G7 ns)).sort) (E8 (j:=1) rfl) ?_
    lk
    by_cases h3:(U5 rs (G7 ns)).sort=("frame":Str)
    ·rw[decide_eq_true h3];refine W9 ?_
     lk
     refine J9 hfb (v:=.str (U5 rs (G7 ns)).host) (E8 (j:=2) rfl) ?_
     lk
     by_cases h4:(U5 rs (G7 ns)).host=n
     ·rw[decide_eq_true h4];refine V4 ?_
      lk
      exact last h1 h2 (fun z=>z.2 h4)
     ·rw[decide_eq_false h4];refine W9 ?_
      lk
      have:=q H1 s1
      rw[if_neg h1,if_neg h2,if_pos ⟨h3,h4⟩] at this
      exact this
    ·rw[decide_eq_false h3];refine V4 ?_
     k_go
     lk
     exact last h1 h2 (fun z=>h3 z.1)
  lk
  by_cases hb0:r.sort=("bare":Str)
  ·rw[decide_eq_true hb0];refine W9 ?_
   lk
   refine J9 (s1.sqT hpa) (v:=.ref pb) (E8 (j:=1) rfl) ?_
   lk
   refine M8 (.inr (s1.sqT hpb)) ?_
   rw[hul]
   lk
   by_cases hp0:0<ps.length
   ·rw[decide_eq_true (by omega)];refine W9 ?_
    lk
    have:=q H1 s1
    rw[if_pos ⟨hb0,hp0⟩] at this
    exact this
   ·rw[decide_eq_false (by omega)];refine V4 ?_
    lk
    exact tail (fun z=>hp0 z.2)
  ·rw[decide_eq_false hb0];refine V4 ?_
   k_go
   lk
   exact tail (fun z=>hb0 z.1)
def Ahd(K:Fg)(H:Hp)(av:V)(bs:Bool):Prop:=(av=.non/\bs=false)\/∃ w:Tr,Dv K H w.da av/\w.isTx=bs
theorem zj7{bs:Bool}(h:Ahd K H av bs)(q:Q (.bl bs) H):wl2 K [av,.ty "str"] H Q:=by
 rcases h with⟨rfl,rfl⟩|⟨w,hw,rfl⟩
 ·exact yx2 .non (b:=false) rfl q
 ·exact wt4 hw q
theorem Ahd.same{bs:Bool}(h:Ahd K H av bs)(s:A6 H H'):Ahd K H' av bs:=h.imp (fun h=>h) fun⟨w,h1,h2⟩=>⟨w,Dv.same s _ _ h1,h2⟩
theorem zn3{bs:Bool}(B:BkS rs)(hR:Rws K H v rs)(hrl:rs.length<=1000)(hna:SqT K H na (D4 ns))(hl:ns.length<=1000)(hpv:Dv K H u.da pv)(hav:Ahd K H av bs)(q:∀ H',A6 H H'->D.rt (oV (X3 rs ns u bs)) H'):zw2 K D [some v,some (.ref na),some pv,some av,some (.str (G7 ns)),a5,a6,a7,a8,a9,a10,a11,a12] H:=by
 unfold zw2
 lk
 refine⟨v,G7 ns,rs,rfl,hR,fun fv H1 s1 hfv=>?_⟩
 lk
 refine wt4 (Dv.same s1 _ _ hpv) ?_
 lk
 cases u with
 | nd n ps =>
   k_go
   lk
   exact Ac7 B (hR.same s1) hrl (s1.sqT hna) hl (Dv.same s1 _ _ hpv) hfv fun H2 s2=>q H2 (A6.tr s1 s2)
 | tx z =>
   x_go
   obtain⟨fb,fsv,fbv,rfl,hfb,_,_⟩:=N0 hfv
   have hz:=xw0 hpv
   subst hz
   have q1:D.rt (oV (wd4 rs ns z bs)) H1:=q H1 s1
   unfold wd4 at q1
   rw[zb3] at q1
   lk
   refine J9 hfb (v:=.str (U5 rs (G7 ns)).sort) (E8 (j:=1) rfl) ?_
   lk
   by_cases h3:(U5 rs (G7 ns)).sort=("frame":Str)
   ·rw[decide_eq_true h3];refine W9 ?_
    lk
    rw[if_pos h3,if_pos (by rfl)] at q1
    exact q1
   ·rw [decide_eq_false h3];refine V4 ?_
    rw[if_neg h3,if_neg (by decide)] at q1
    lk
    by_cases hz:z=("":Str)
    ·rw[decide_eq_true hz];refine W9 ?_
     lk
     rw[if_pos hz] at q1
     exact q1
    ·rw[decide_eq_false hz];refine V4 ?_
     rw[if_neg hz] at q1
     lk
     refine zj7 (hav.same s1) ?_
     lk
     cases bs with
     | true =>
       x_go
       lk
       exact q1
     | false =>
       k_go
       lk
       exact q1
end
abbrev wm8(K:Fg):TS :=
 (C0 (M0 (D7 (tOp (Z2 K) (A4 1) (O1 B1)))
 (D9 (tOp (J0 K) (A4 1) (tUn (rU fun i=>.int (-i)) (tC (.int 1)))) (B3 4)) E9)
 (zw2 K))
def X7(K:Fg):Sp:=fun vs H Q _=>∃ (v:V) (na:Addr) (pv av:V) (rs:List Row) (ns:List Str) (u:Tr) (bs:Bool),vs=[v,.ref na,pv,av]/\BkS rs/\Rws K H v rs/\rs.length<=1000/\SqT K H na (D4 ns)/\ns.length<=1000/\Dv K H u.da pv/\Ahd K H av bs/\∀ H',A6 H H'->Q (oV (X3 rs ns u bs)) H'
def qf7(K:Fg):TS :=
 (C0 (D9 (tC (.str ("":Str))) (B3 4))
 (wm8 K))
theorem xe1(h:X7 K vs H Q E):qf7 K {nx:=fun _ H'=>Q .non H',rt:=Q} (G9 ["_law_book_here","_law_names","_law_part","_law_ahead","_law_above","_law_frame","_law_name_here","_law_sort","_law_host","_law_shuts","_law_bars","_law_frames","_law_near_here"] vs) H:=by
 obtain⟨v,na,pv,av,rs,ns,u,bs,rfl,B,hR,hrl,hna,hl,hpv,hav,q⟩:=h
 show qf7 K _ [some v,some (.ref na),some pv,some av,none,none,none,none,none,none,none,none,none] H
 unfold qf7
 lk
 refine⟨D8 (by z_go),fun e he=>?_⟩
 have s1:A6 H (upd H e (.tup [])):=A6.new he _
 refine xj7 (d:=.tuple (sDa ns)) (e:=.tuple []) (C6.mpr ⟨na,_,rfl,s1.sqT hna,V5.mpr rfl⟩) (C6.mpr ⟨e,[],rfl,SqT.of A7,G8⟩) (Nat.le_trans (Nat.min_le_right _ _) (by decide)) ?_
 rw[wi3]
 generalize upd H e (.tup [])=H1 at *
 lk
 by_cases hn:ns=[]
 ·subst hn
  k_go
  lk
  exact zn3 (ns:=[]) B (hR.same s1) hrl (s1.sqT hna) hl (Dv.same s1 _ _ hpv) (hav.same s1) fun H2 s2=>q H2 (A6.tr s1 s2)
 ·have e0:(!ns.isEmpty)=true:=by cases ns with|nil=>exact absurd rfl hn|cons _ _=>rfl
  rw[e0]
  x_go
  lk
  refine⟨1,rfl,?_⟩
  obtain⟨xs,x,rfl⟩:∃ xs x,ns=xs++[x]:=⟨ns.dropLast,ns.getLast hn,(List.dropLast_concat_getLast hn).symm⟩
  refine J9 (s1.sqT hna) (v:=.str x) (Q0 (n:=xs.length) (by rw[L5];simp) (by rw[X9 (by simp)];simp)) ?_
  lk
  have:=xw4 xs x
  rw[<-this]
  exact zn3 B (hR.same s1) hrl (s1.sqT hna) hl (Dv.same s1 _ _ hpv) (hav.same s1) fun H2 s2=>q H2 (A6.tr s1 s2)
abbrev T3:=List Int×List Str×Tr
def abv(x:T3):List Str:=if x.1=[] then x.2.1 else x.2.1++[qe7 x.2.2]
def qj0(pl:List Int)(ab:List Str):Nat->List Tr->List T3
 | _,[]=>[]
 | k,t::ts=>(pl++[(k:Int)],ab,t)::qj0 pl ab (k+1) ts
mutual
def wkT(pl:List Int)(ns ab:List Str):Tr->List T3
 | .tx s=>[(pl,ns,.tx s)]
 | .nd n ps=>(pl,ns,.nd n ps)::wkS pl ab 0 ps
def wkS(pl:List Int)(ab:List Str)(k:Nat):List Tr->List T3
 | []=>[]
 | t::ts=>wkT (pl++[(k:Int)]) ab (ab++[qe7 t]) t++wkS pl ab (k+1) ts
end
def wk(x:T3):List T3:=wkT x.1 x.2.1 (abv x) x.2.2
def Z0(l:List T3):List T3:=l.flatMap wk
theorem wi4(a b:List T3):Z0 (a++b)=Z0 a++Z0 b:=by unfold Z0;rw[List.flatMap_append]
theorem yl5(l:List α)(x:α):l++[x]≠[]:=by simp
theorem xx8(pl:List Int)(ab:List Str):∀ (k:Nat) (ts:List Tr),wkS pl ab k ts=Z0 (qj0 pl ab k ts)
 | k,[]=>by rw[wkS];rfl
 | k,t::ts=>by
   rw[wkS,xx8 pl ab (k+1) ts,qj0]
   show _=wk (pl++[(k:Int)],ab,t)++Z0 (qj0 pl ab (k+1) ts)
   unfold wk abv
   rw[if_neg (yl5 _ _)]
theorem xq3(x:T3):wk x=x::Z0 (qj0 x.1 (abv x) 0 x.2.2.kids):=by
 obtain⟨pl,ns,t⟩:=x
 cases t with
 | tx s=>unfold wk;rw[wkT];rfl
 | nd n ps=>unfold wk;rw[wkT,xx8];rfl
theorem ww0(x:T3)(r:List T3):Z0 (x::r)=x::Z0 (qj0 x.1 (abv x) 0 x.2.2.kids++r):=by
 rw[wi4]
 show wk x++Z0 r=_
 rw[xq3];rfl
theorem wd5(pl:List Int)(ab:List Str):∀ (k:Nat) (ts:List Tr),(qj0 pl ab k ts).length=ts.length
 | _,[]=>rfl
 | k,t::ts=>by rw[qj0,List.length_cons,List.length_cons,wd5 pl ab (k+1) ts]
mutual
theorem xq4(pl:List Int)(ns ab:List Str):∀ t:Tr,(wkT pl ns ab t).length<=wt t
 | .tx s=>by rw[wkT,wt,List.length_singleton];omega
 | .nd n ps=>by rw[wkT,wt,List.length_cons];have:=zb4 pl ab 0 ps;omega
theorem zb4(pl:List Int)(ab:List Str)(k:Nat):∀ ts:List Tr,(wkS pl ab k ts).length<=wts ts
 | []=>by rw[wkS,wts];exact Nat.le_refl _
 | t::ts=>by rw[wkS,wts,List.length_append];have:=xq4 (pl++[(k:Int)]) ab (ab++[qe7 t]) t;have:=zb4 pl ab (k+1) ts;omega
end
mutual
theorem yl6(pl:List Int)(ns ab:List Str)(h:ns.length<=ab.length):∀ (t:Tr) (x:T3),x∈wkT pl ns ab t->x.1.length+1<=pl.length+wt t/\x.2.1.length+1<=ab.length+wt t
 | .tx s,x,hx=>by rw[wkT,List.mem_singleton] at hx;subst hx;rw[wt];show pl.length+1<=_/\ns.length+1<=_;omega
 | .nd n ps,x,hx=>by
   rw[wkT,List.mem_cons] at hx
   rw[wt]
   rcases hx with rfl|hx
   ·show pl.length+1<=_/\ns.length+1<=_;omega
   ·have:=yl7 pl ab 0 ps x hx;omega
theorem yl7(pl:List Int)(ab:List Str)(k:Nat):∀ (ts:List Tr) (x:T3),x∈wkS pl ab k ts->x.1.length<=pl.length+wts ts/\x.2.1.length<=ab.length+wts ts
 | [],x,hx=>by rw[wkS] at hx;cases hx
 | t::ts,x,hx=>by
   rw[wkS,List.mem_append] at hx
   rw[wts]
   rcases hx with hx|hx
   ·have:=yl6 _ _ _ (by simp) t x hx;simp at this;omega
   ·have:=yl7 pl ab (k+1) ts x hx;omega
end
mutual
theorem zn4(pl:List Int)(ns ab:List Str)(h:ns.length<=ab.length):∀ (t:Tr) (x:T3),x∈wkT pl ns ab t->x.1.length<=pl.length+hgt t/\x.2.1.length<=ab.length+hgt t
 | .tx s,x,hx=>by rw[wkT,List.mem_singleton] at hx;subst hx;show pl.length<=_/\ns.length<=_;omega
 | .nd n ps,x,hx=>by
   rw[wkT,List.mem_cons] at hx
   rw[hgt]
   rcases hx with rfl|hx
   ·show pl.length<=_/\ns.length<=_;omega
   ·have:=zn5 pl ab 0 ps x hx;omega
theorem zn5(pl:List Int)(ab:List Str)(k:Nat):∀ (ts:List Tr) (x:T3),x∈wkS pl ab k ts->x.1.length<=pl.length+1+L9 ts/\x.2.1.length<=ab.length+1+L9 ts
 | [],x,hx=>by rw[wkS] at hx;cases hx
 | t::ts,x,hx=>by
   rw[wkS,List.mem_append] at hx
   rw[L9]
   rcases hx with hx|hx
   ·have:=zn4 _ _ _ (by simp) t x hx;simp at this;omega
   ·have:=zn5 pl ab (k+1) ts x hx;omega
end
def W3(K:Fg)(H:Hp)(x:T3)(v:V):Prop:=∃ (a pa na:Addr) (pv:V),v=.ref a/\H a=some (.tup [.ref pa,.ref na,pv])/\H pa=some (.tup (E4 x.1))/\H na=some (.tup (D4 x.2.1))/\Dv K H x.2.2.da pv
def W3s(K:Fg)(H:Hp):List T3->List V->Prop
 | [],vs=>vs=[]
 | x::xs,vs=>∃ v r,vs=v::r/\W3 K H x v/\W3s K H xs r
theorem W3.tupK{x:T3}(k:qe3 H H')(h:W3 K H x v):W3 K H' x v:=by
 obtain⟨a,pa,na,pv,rfl,h1,h2,h3,h4⟩:=h
 exact⟨a,pa,na,pv,rfl,k.1 _ _ h1,k.1 _ _ h2,k.1 _ _ h3,Dv.tupK k _ _ (Z9 _) h4⟩
theorem W3s.tupK{H':Hp}(k:qe3 H H'):∀ {xs:List T3} {vs:List V},W3s K H xs vs->W3s K H' xs vs
 | [],_,h=>h
 | x::xs,_,⟨v,r,e,h1,h2⟩=>⟨v,r,e,h1.tupK k,W3s.tupK k h2⟩
theorem W3s.app:∀ {xs ys:List T3} {vs ws:List V},W3s K H xs vs->W3s K H ys ws->W3s K H (xs++ys) (vs++ws)
 | [],_,_,_,h,g=>by rw[show _=[] from h];exact g
 | x::xs,_,_,_,⟨v,r,e,h1,h2⟩,g=>by subst e;exact⟨v,_,rfl,h1,W3s.app h2 g⟩
theorem W3s.length:∀ {xs:List T3} {vs:List V},W3s K H xs vs->vs.length=xs.length
 | [],_,h=>by rw[show _=[] from h];rfl
 | x::xs,_,⟨v,r,e,h1,h2⟩=>by subst e;rw[List.length_cons,List.length_cons,W3s.length h2]
theorem W3s.get:∀ {xs:List T3} {vs:List V} {i:Nat} {v:V},W3s K H xs vs->vs[i]?=some v->∃ x,xs[i]?=some x/\W3 K H x v
 | [],_,i,v,h,e=>by rw[show _=[] from h] at e;simp at e
 | x::xs,_,0,v,⟨w,r,e,h1,h2⟩,e2=>by subst e;cases e2;exact⟨x,rfl,h1⟩
 | x::xs,_,i+1,v,⟨w,r,e,h1,h2⟩,e2=>by
   subst e
   obtain⟨y,hy,w3⟩:=W3s.get (i:=i) h2 (by simpa using e2)
   exact⟨y,by simpa using hy,w3⟩
theorem W3s.one{x:T3}(h:W3 K H x v):W3s K H [x] [v]:=⟨v,[],rfl,h,rfl⟩
def d3(x:T3):PyData:=.tuple [.tuple (qp2 x.1),.tuple (sDa x.2.1),x.2.2.da]
theorem W3.dv{x:T3}(h:W3 K H x v):Dv K H (d3 x) v:=by
 obtain⟨a,pa,na,pv,rfl,h1,h2,h3,h4⟩:=h
 unfold d3
 exact C6.mpr ⟨a,_,rfl,SqT.of h1,I9 (C6.mpr ⟨pa,_,rfl,SqT.of h2,O8.mpr rfl⟩) (I9 (C6.mpr ⟨na,_,rfl,SqT.of h3,V5.mpr rfl⟩) (I9 h4 G8))⟩
theorem W3s.dvs:∀ {xs:List T3} {vs:List V},W3s K H xs vs->Dvs K H (xs.map d3) vs
 | [],_,h=>by rw[show _=[] from h];exact G8
 | x::xs,_,⟨v,r,e,h1,h2⟩=>by subst e;exact I9 h1.dv h2.dvs
def yl8(K:Fg):TS :=
 (D9 (tOp (O7 K) (Z4 [some 6,some 3,some 5,none] (qm2 (A2 (tCB (P6 K) (A2 (tOp (J0 K) (A4 5) (tC (.int 1))) B1)) B1)) (B3 3) tTT (O1 (A2 (tOp (O7 K) (A4 1) (O1 (A2 (A4 3) B1))) (A2 (A4 0) (A2 (tOp (J0 K) (tOp (J0 K) (A4 2) (tC (.int 1))) (A4 3)) B1))))) (A4 2)) (B3 2))
section
variable{D:U8}{v pv:V}{p1 p2 pa na ab:Addr}
theorem zw4{x:T3}{n:Str}{ws:List V}{stk:List T3}(hx:x.2.2=.nd n ps)(hp2:H p2=some (.lst ws))(hpa:H pa=some (.tup (E4 x.1)))(hab:H ab=some (.tup (D4 (abv x))))(hpv:Dv K H x.2.2.da pv)(hstk:W3s K H stk ws)(hz:x.1.length+ps.length+ws.length<=90000)(q:∀ (r:Addr) (us:List V) (H':Hp),A6 H H'->H r=none->H' r=some (.lst us)->W3s K H' (qj0 x.1 (abv x) 0 ps++stk) us->D.nx [some v,some (.ref p1),some (.ref r),some (.ref pa),some (.ref na),some pv,some (.ref ab)] H') :
 yl8 K D [some v,some (.ref p1),some (.ref p2),some (.ref pa),some (.ref na),some pv,some (.ref ab)] H:=by
 rw[hx] at hpv
 obtain⟨ta,tb,us,rfl,hta,htb,hd⟩:=qh9 hpv
 have hul:=O0 hd
 unfold yl8
 lk
 refine J9 hta (v:=.ref tb) (E8 (j:=1) rfl) ?_
 lk
 refine M8 (.inr htb) ?_
 rw[hul]
 refine qm6 (n:=(ps.length:Int)) (by omega) (by omega) (fun i ys H'=>A6 H H'/\W3s K H' (qj0 x.1 (abv x) 0 (ps.take i)) ys) ⟨fun _ _ e=>e,rfl⟩ ?_ ?_ ?_
 ·rintro i ys H' hi ⟨s1,h⟩
  rw[h.length,wd5,List.length_take];exact D8 (by omega)
 ·rintro i ys H' hi ⟨s1,h⟩
  have hi:i<ps.length:=by omega
  obtain⟨u,hu,du⟩:=qa0 hd (List.getElem?_eq_getElem hi)
  lk
  refine⟨D8 (by z_go),fun c hc=>?_⟩
  have sc:=A6.new hc (.tup [.int (i:Int)])
  refine yd6 (sc _ _ (s1 _ _ hpa)) A7 (by rw[L8];exact D8 (by simp;omega)) fun pp H2 s2 hpp=>?_
  have s12:A6 H' H2:=A6.tr sc s2
  have s02:=A6.tr s1 s12
  lk
  refine J9 (s02.sqT hta) (v:=.ref tb) (E8 (j:=1) rfl) ?_
  lk
  refine J9 (s02.sqT htb) (v:=u) (E8 hu) ?_
  lk
  refine⟨D8 (by z_go),fun t ht=>?_⟩
  have s3:=A6.new ht (.tup [.ref pp,.ref ab,u])
  refine⟨A6.tr s02 s3,?_⟩
  have e:qj0 x.1 (abv x) 0 (ps.take (i+1))=qj0 x.1 (abv x) 0 (ps.take i)++[(x.1++[((i:Nat):Int)],abv x,ps[i])]:=by
   rw[List.take_add_one,List.getElem?_eq_getElem hi]
   have:∀ (k:Nat) (l:List Tr) (y:Tr),qj0 x.1 (abv x) k (l++[y])=qj0 x.1 (abv x) k l++[(x.1++[((k+l.length:Nat):Int)],abv x,y)]:=by
    intro k l y
    induction l generalizing k with
    | nil=>simp[qj0]
    | cons z l ih=>rw[List.cons_append,qj0,ih,qj0,List.cons_append,List.length_cons,show k+1+l.length=k+(l.length+1) by omega]
   show qj0 _ _ _ (ps.take i++[ps[i]])=_
   rw[this,List.length_take,show 0+min i ps.length=i by omega]
  rw[e]
  refine W3s.app (h.tupK (A6.tr s12 s3).tupK) (W3s.one ⟨t,pp,ab,u,rfl,A7,?_,s3 _ _ (s02 _ _ hab),Dv.same (A6.tr s02 s3) _ _ du⟩)
  have:=s3 _ _ hpp
  rw[this]
  show some (HO.tup (E4 x.1++[V.int (i:Int)]))=_
  rw[qu3]
 ·rintro ys H' ⟨s1,h⟩ r hr
  rw[show((ps.length:Int)).toNat=ps.length by omega,List.take_length] at h
  have sr:=A6.new hr (.lst ys)
  lk
  have h1:=h.length
  rw[wd5] at h1
  refine .inl (yw6 A7 (A6.tr s1 sr _ _ hp2) (by rw[h1];exact D8 (by omega)) fun r2 hr2=>?_)
  have sr2:=A6.new hr2 (.lst (ys++ws))
  have st:=A6.tr s1 (A6.tr sr sr2)
  lk
  exact q r2 _ _ st (qw4 (A6.tr s1 sr) hr2) A7 (W3s.app (h.tupK (A6.tr sr sr2).tupK) (hstk.tupK st.tupK))
end
abbrev xe2(K:Fg):TS :=
 (C0 (M0 (D7 (tOp (Z2 K) (A4 3) (O1 B1)))
 (D9 (tOp (O7 K) (A4 4) (O1 (A2 (tOp (J0 K) (A4 5) (tC (.int 0))) B1))) (B3 6)) E9)
 (yl8 K))
abbrev xe3(K:Fg):TS :=
 (M0 (wq1 (tB (tCB (wl2 K) (A2 (A4 5) (A2 (tC (.ty "str")) B1)))))
 (C0 (D9 (A4 4) (B3 6))
 (xe2 K)) E9)
abbrev xe4(K:Fg):TS :=
 (C0 (qh3 (tBM K "list" X8 (A4 1) (A2 (O1 (A2 (A4 3) (A2 (A4 4) (A2 (A4 5) B1)))) B1)))
 (xe3 K))
abbrev xe5(K:Fg):TS :=
 (C0 (D9 (tBM K "list" yc4 (A4 2) (A2 (tC (.int 0)) B1)) (wq4 K 3 (S5 (B3 3) (S5 (B3 4) (S5 (B3 5) wq3)))))
 (xe4 K))
abbrev xe6(K:Fg):TS :=
 (C0 (D9 (X4 (A2 (O1 (A2 (O1 B1) (A2 (O1 B1) (A2 (A4 0) B1)))) B1)) (B3 2))
 (C0 (wq5 (D7 (tOp (Z2 K) (A4 2) (X4 B1)))
 (xe5 K))
 (I0 (A4 1))))
def qa8(K:Fg):Sp:=fun vs H Q _=>∃ (t:Tr) (v:V),vs=[v]/\Dv K H t.da v/\wt t<=40000/\∀ (p:Addr) (us:List V) (H':Hp),A6 H H'->H p=none->H' p=some (.lst us)->W3s K H' (wk ([],[],t)) us->Q (.ref p) H'
def qk1(K:Fg):TS :=
 (C0 (D9 (X4 B1) (B3 1))
 (xe6 K))
theorem xq5(h:qa8 K vs H Q E):qk1 K {nx:=fun _ H'=>Q .non H',rt:=Q} (G9 ["_law_tree","_law_found","_law_todo","_law_place","_law_names","_law_part","_law_above"] vs) H:=by
 obtain⟨t,v,rfl,hd,hz,q⟩:=h
 show qk1 K _ [some v,none,none,none,none,none,none] H
 unfold qk1
 have hpl:(wk ([],[],t)).length<=wt t:=xq4 _ _ _ t
 lk
 refine⟨D8 (by z_go),fun p1 hp1=>?_⟩
 have s1:=A6.new hp1 (.lst [])
 have e1:(upd H p1 (.lst [])) p1=some (.lst []):=A7
 generalize upd H p1 (.lst [])=H1 at *
 lk
 refine⟨D8 (by z_go),fun c0 hc0=>?_⟩
 have s2:=A6.new hc0 (.tup [])
 have e2:(upd H1 c0 (.tup [])) c0=some (.tup []):=A7
 generalize upd H1 c0 (.tup [])=H2 at *
 lk
 refine⟨D8 (by z_go),fun c1 hc1=>?_⟩
 have s3:=A6.new hc1 (.tup [])
 have e3:(upd H2 c1 (.tup [])) c1=some (.tup []):=A7
 generalize upd H2 c1 (.tup [])=H3 at *
 lk
 refine⟨D8 (by z_go),fun c2 hc2=>?_⟩
 have s4:=A6.new hc2 (.tup [.ref c0,.ref c1,v])
 have e4:(upd H3 c2 (.tup [.ref c0,.ref c1,v])) c2=some (.tup [.ref c0,.ref c1,v]):=A7
 generalize upd H3 c2 (.tup [.ref c0,.ref c1,v])=H4 at *
 lk
 refine⟨D8 (by z_go),fun p2 hp2=>?_⟩
 have s5:=A6.new hp2 (.lst [.ref c2])
 have e5:(upd H4 p2 (.lst [.ref c2])) p2=some (.lst [.ref c2]):=A7
 have s14:A6 H1 H4:=A6.tr s2 (A6.tr s3 s4)
 have n12:p1≠p2:=M9 (s14 _ _ e1) hp2
 have n2:H p2=none:=qw4 (A6.tr s1 s14) hp2
 generalize upd H4 p2 (.lst [.ref c2])=H5 at *
 have s15:=A6.tr s14 s5
 have sA:=A6.tr s1 s15
 lk
 refine wg5 (fun σ H'=>∃ (p2:Addr) (a3 a4 a5 a6:Option V) (us ws:List V) (done stk:List T3),σ=[some v,some (.ref p1),some (.ref p2),a3,a4,a5,a6]/\A6 H H'/\H p2=none/\p1≠p2/\H' p1=some (.lst us)/\H' p2=some (.lst ws)/\W3s K H' done us/\W3s K H' stk ws/\done++Z0 stk=wk ([],[],t))
  (fun σ H'=>match H' p1 with|some (.lst us)=>(wk ([],[],t)).length-us.length|_=>0) ⟨p2,_,_,_,_,[],[.ref c2],[],[([],[],t)],rfl,sA,n2,n12,s15 _ _ e1,e5,rfl,W3s.one ⟨c2,c0,c1,v,rfl,s5 _ _ e4,s5 _ _ (s4 _ _ (s3 _ _ e2)),s5 _ _ (s4 _ _ e3),Dv.same sA _ _ hd⟩,by simp[Z0]⟩ ?_
 clear e1 e2 e3 e4 e5 s1 s2 s3 s4 s5 s14 s15 sA n12 n2 hc0 hc1 hc2 hp2
 rintro σ H' ⟨p2,a3,a4,a5,a6,us,ws,done,stk,rfl,s1,n2,n12,h1,h2,d1,d2,e⟩
 have hel:done.length+(Z0 stk).length=(wk ([],[],t)).length:=by rw[<-e,List.length_append]
 have hdl:=d1.length
 have hwl:=d2.length
 lk
 refine⟨D8 (by z_go),fun e0 he0=>?_⟩
 have s2:=A6.new he0 (.lst [])
 have h10:=h1
 have h1:=s2 _ _ h1
 have h2:=s2 _ _ h2
 have d1:=d1.tupK s2.tupK
 have d2:=d2.tupK s2.tupK
 have s1:=A6.tr s1 s2
 have he:(upd H' e0 (.lst [])) e0=some (.lst []):=A7
 have hm0:(match H' p1 with|some (.lst us)=>(wk ([],[],t)).length-us.length|_=>0)=(wk ([],[],t)).length-us.length:=by rw[h10]
 generalize upd H' e0 (.lst [])=H6 at *
 refine yk9 (ds:=stk.map d3) (T5.mpr ⟨p2,_,rfl,SqL.of h2,d2.dvs⟩) he ?_
 lk
 cases stk with
 | nil =>
   k_go
   lk
   have:done=wk ([],[],t):=by simpa [Z0] using e
   rw[this] at d1
   exact q p1 us H6 s1 hp1 h1 d1
 | cons x rest =>
   x_go
   obtain⟨y,ws',rfl,d3',d4⟩:=d2
   rw[ww0] at e hel
   rw[List.length_cons,wi4,List.length_append] at hel
   have hm:x∈wk ([],[],t):=by rw[<-e];simp
   have hxl:=yl6 [] [] (abv ([],[],t)) (by simp) t x hm
   have hab0:(abv ([],[],t)).length=0:=rfl
   have hfl:∀ l:List T3,l.length<=(Z0 l).length:=fun l=>by
    induction l with
    | nil=>exact Nat.zero_le _
    | cons p r ih=>rw[ww0,wi4,List.length_cons,List.length_cons,List.length_append];omega
   have hkw:=hfl (qj0 x.1 (abv x) 0 x.2.2.kids)
   rw[wd5] at hkw
   have hrw:=hfl rest
   have hwl':=d4.length
   refine⟨fun σ' H''=>∃ (p2:Addr) (a3 a4 a5 a6:Option V) (us' ws:List V) (done stk:List T3),σ'=[some v,some (.ref p1),some (.ref p2),a3,a4,a5,a6]/\A6 H H''/\H p2=none/\p1≠p2/\H'' p1=some (.lst us')/\H'' p2=some (.lst ws)/\W3s K H'' done us'/\W3s K H'' stk ws/\done++Z0 stk=wk ([],[],t)/\us'.length=us.length+1,?_,?_⟩
   ·rintro σ' H'' ⟨p2,a3,a4,a5,a6,us',ws,done,stk,rfl,z1,z2,z3,z4,z5,z6,z7,z8,z9⟩
    refine⟨_,?_,rfl,p2,a3,a4,a5,a6,us',ws,done,stk,rfl,z1,z2,z3,z4,z5,z6,z7,z8⟩
    dsimp only
    rw[hm0,z4]
    dsimp only
    omega
   ·obtain⟨xa,pa,na,pv,rfl,k1,k2,k3,k4⟩:=d3'
    lk
    refine⟨.inl ⟨rfl,_,SqL.of h2⟩,?_⟩
    lk
    refine zt4 h2 ?_
    have tk:=T9 (ys:=ws') h2
    have s7:A6 H (upd H6 p2 (.lst ws')):=A6.put s1 n2 _
    have g1:(upd H6 p2 (.lst ws')) p1=some (.lst us):=by rw[C1 n12];exact h1
    have g2:(upd H6 p2 (.lst ws')) p2=some (.lst ws'):=A7
    have d1:=d1.tupK tk
    have d4:=d4.tupK tk
    have k1:=tk.1 _ _ k1
    have k2:=tk.1 _ _ k2
    have k3:=tk.1 _ _ k3
    have k4:=Dv.tupK tk _ _ (Z9 _) k4
    generalize upd H6 p2 (.lst ws')=H7 at *
    refine⟨xa,_,rfl,SqT.of k1,rfl,_,_,rfl,N7 ⟨_,_,rfl,N7 ⟨_,_,rfl,N7 ⟨rfl,?_⟩⟩⟩⟩
    lk
    refine⟨.inl ⟨rfl,_,SqL.of g1⟩,?_⟩
    lk
    refine⟨D8 (by z_go),fun f0 hf0=>?_⟩
    have s8:=A6.new hf0 (.tup [.ref pa,.ref na,pv])
    have g1:=s8 _ _ g1
    have g2:=s8 _ _ g2
    have d1:=d1.tupK s8.tupK
    have d4:=d4.tupK s8.tupK
    have k2:=s8 _ _ k2
    have k3:=s8 _ _ k3
    have k4:=Dv.same s8 _ _ k4
    have kf:(upd H7 f0 (.tup [.ref pa,.ref na,pv])) f0=some (.tup [.ref pa,.ref na,pv]):=A7
    have s7:=A6.tr s7 s8
    generalize upd H7 f0 (.tup [.ref pa,.ref na,pv])=H8 at *
    lk
    refine X5 g1 (by rw[hdl,sizeLine_eq];omega) ?_
    have tk:=T9 (ys:=us++[.ref f0]) g1
    have s9:A6 H (upd H8 p1 (.lst (us++[.ref f0]))):=A6.put s7 hp1 _
    have g3:(upd H8 p1 (.lst (us++[.ref f0]))) p1=some (.lst (us++[.ref f0])):=A7
    have g2:(upd H8 p1 (.lst (us++[.ref f0]))) p2=some (.lst ws'):=by rw[C1 (Ne.symm n12)];exact g2
    have d1:=d1.tupK tk
    have d4:=d4.tupK tk
    have k2:=tk.1 _ _ k2
    have k3:=tk.1 _ _ k3
    have k4:=Dv.tupK tk _ _ (Z9 _) k4
    have kf:=tk.1 _ _ kf
    generalize upd H8 p1 (.lst (us++[.ref f0]))=H9 at *
    have d1:W3s K H9 (done++[x]) (us++[.ref f0]):=W3s.app d1 (W3s.one ⟨f0,pa,na,pv,rfl,kf,k2,k3,k4⟩)
    lk
    refine wt4 k4 ?_
    lk
    obtain⟨pl,ns,u⟩:=x
    cases u with
    | tx z =>
      k_go
      lk
      exact⟨p2,_,_,_,_,_,ws',done++[(pl,ns,.tx z)],rest,rfl,s9,n2,n12,g3,g2,d1,d4,by rw[<-e];simp[Tr.kids,qj0],by simp⟩
    | nd n ps =>
      x_go
      lk
      have hkw:ps.length<=(Z0 (qj0 pl (abv (pl,ns,.nd n ps)) 0 ps)).length:=hkw
      have hel:done.length+((Z0 (qj0 pl (abv (pl,ns,.nd n ps)) 0 ps)).length+(Z0 rest).length+1)=(wk ([],[],t)).length:=hel
      have hpl1:pl.length+1<=wt t:=by have:=hxl.1;simpa using this
      have hns1:ns.length+1<=wt t:=by have:=hxl.2;rw[hab0] at this;simpa using this
      have fin:∀ (D:U8) (ab:Addr) (H10:Hp),A6 H9 H10->H10 ab=some (.tup (D4 (abv (pl,ns,.nd n ps))))->(∀ (p2:Addr) (us' ws:List V) (done stk:List T3) (H'':Hp),A6 H H''->H p2=none->p1≠p2->H'' p1=some (.lst us')->H'' p2=some (.lst ws)->W3s K H'' done us'->W3s K H'' stk ws->done++Z0 stk=wk ([],[],t)->us'.length=us.length+1->D.nx [some v,some (.ref p1),some (.ref p2),some (.ref pa),some (.ref na),some pv,some (.ref ab)] H'')->yl8 K D [some v,some (.ref p1),some (.ref p2),some (.ref pa),some (.ref na),some pv,some (.ref ab)] H10:=by
       intro D ab H10 s10 hab qq
       refine zw4 (x:=(pl,ns,.nd n ps)) rfl (s10 _ _ g2) (s10 _ _ k2) hab (Dv.same s10 _ _ k4) (d4.tupK s10.tupK) (by show pl.length+ps.length+ws'.length<=90000;omega) fun r us2 H11 s11 hr hus w3=>?_
       have s911:=A6.tr s10 s11
       exact qq r _ us2 (done++[(pl,ns,.nd n ps)]) _ H11 (A6.tr s9 s911) (qw4 (A6.tr s9 s10) hr) (M9 (s10 _ _ g3) hr) (s911 _ _ g3) hus (d1.tupK s911.tupK) w3 (by rw[<-e];simp[Tr.kids]) (by simp)
      refine⟨D8 (by z_go),fun e9 he9=>?_⟩
      have s10:=A6.new he9 (.tup [])
      refine xj7 (d:=.tuple (qp2 pl)) (e:=.tuple []) (C6.mpr ⟨pa,_,rfl,SqT.of (s10 _ _ k2),O8.mpr rfl⟩) (C6.mpr ⟨e9,[],rfl,SqT.of A7,G8⟩) (Nat.le_trans (Nat.min_le_right _ _) (by decide)) ?_
      rw[wv0]
      generalize upd H9 e9 (.tup [])=H10 at *
      lk
      by_cases hpl0:pl=[]
      ·have e0:(!pl.isEmpty)=false:=by rw[hpl0];rfl
       rw[e0]
       k_go
       lk
       exact fin _ na H10 s10 (by rw[s10 _ _ k3];unfold abv;rw[if_pos hpl0]) fun p2 us' ws done stk H'' h1 h2 h3 h4 h5 h6 h7 h8 h9=>⟨p2,_,_,_,_,us',ws,done,stk,rfl,h1,h2,h3,h4,h5,h6,h7,h8,h9⟩
      ·have e0:(!pl.isEmpty)=true:=by cases pl with|nil=>exact absurd rfl hpl0|cons _ _=>rfl
       rw[e0]
       x_go
       obtain⟨ta,tb,us3,rfl,hta,htb,hd3⟩:=qh9 k4
       lk
       refine J9 (s10.sqT hta) (v:=.str n) (E8 (j:=0) rfl) ?_
       lk
       refine⟨D8 (by z_go),fun c9 hc9=>?_⟩
       have s11:=A6.new hc9 (.tup [.str n])
       refine yd6 (s11 _ _ (s10 _ _ k3)) A7 (by rw[L5];exact D8 (by show ns.length+1<=_;omega)) fun ab H12 s12 hab=>?_
       lk
       refine fin _ ab H12 (A6.tr s10 (A6.tr s11 s12)) (by rw[hab];unfold abv;rw[if_neg hpl0,<-Z8];rfl) fun p2 us' ws done stk H'' h1 h2 h3 h4 h5 h6 h7 h8 h9=>⟨p2,_,_,_,_,us',ws,done,stk,rfl,h1,h2,h3,h4,h5,h6,h7,h8,h9⟩
def Hst(n:Nat)(kvs:List (Key×V)):Prop:=∀ kv∈kvs,∃ j:Int,kv.2=.int j/\0<=j/\j<n
theorem qu4{n:Nat}:∀ {kvs:List (Key×V)},Hst n kvs->∃ js:List Int,kvs.map (·.2)=js.map V.int
 | [],_=>⟨[],rfl⟩
 | kv::kvs,h=>by
   obtain⟨j,e,_⟩:=h kv (by simp)
   obtain⟨js,e2⟩:=qu4 (kvs:=kvs) fun x hx=>h x (by simp[hx])
   exact⟨j::js,by rw[List.map_cons,List.map_cons,e,e2]⟩
def HS(n:Nat)(ss:List Str)(i:Nat)(kvs:List (Key×V)):Prop:=(∀ kv∈kvs,∃ (k:Nat) (j:Int),kv=(.inl (k:Int),.int j)/\0<=j/\j<n/\k<i/\ss[k]?=some ("frame":Str))/\(kvs.map (·.2)).Nodup
variable{kvs:List (Key×V)}{ss:List Str}
theorem HS.hst(h:HS n ss i kvs):Hst n kvs:=fun kv hm=>by obtain⟨k,j,rfl,h0,h1,_⟩:=h.1 kv hm;exact⟨j,rfl,h0,h1⟩
theorem HS.mono(h:HS n ss i kvs):HS n ss (i+1) kvs:=⟨fun kv hm=>by obtain⟨k,j,e,h0,h1,h2,h3⟩:=h.1 kv hm;exact⟨k,j,e,h0,h1,by omega,h3⟩,h.2⟩
theorem HS.set{n i:Nat}{ss:List Str}{kvs:List (Key×V)}(h:HS n ss i kvs)(x:Str):HS n (ss.set i x) (i+1) kvs:=⟨fun kv hm=>by obtain⟨k,j,e,h0,h1,h2,h3⟩:=h.1 kv hm;exact⟨k,j,e,h0,h1,by omega,by rw[List.getElem?_set_ne (by omega)];exact h3⟩,h.2⟩
theorem HS.put(h:HS n ss i kvs)(h0:0<=j)(h1:j<n)(hs:ss[i]?=some ("frame":Str))(hn:V.int j∉kvs.map (·.2)):HS n ss (i+1) (Z3 kvs (.inl (i:Int)) (.int j)):=by
 have hv:S2 kvs (.inl (i:Int))=none:=by
  unfold S2
  rw[Option.map_eq_none_iff,List.find?_eq_none]
  intro kv hm
  obtain⟨k,j',rfl,_,_,h2,_⟩:=h.1 kv hm
  simp
  omega
 rw[yu8 _ hv]
 refine⟨fun kv hm=>?_,?_⟩
 ·rcases List.mem_append.mp hm with hm|hm
  ·exact h.mono.1 kv hm
  ·rw[List.mem_singleton.mp hm];exact⟨i,j,rfl,h0,h1,by omega,hs⟩
 ·rw[List.map_append,List.nodup_append]
  refine⟨h.2,by simp,?_⟩
  intro a ha b hb
  rw[List.mem_singleton.mp hb]
  rintro rfl
  exact hn ha
theorem zj8{k:Key}(h:Hst n kvs)(e:S2 kvs k=some v):∃ j:Int,v=.int j/\0<=j/\j<n:=by
 unfold S2 at e
 obtain⟨kv,hf,rfl⟩:=Option.map_eq_some_iff.mp e
 exact h kv (List.mem_of_find?_eq_some hf)
abbrev ww1(K:Fg):TS :=
 (D9 (tOp (J0 K) (X4 (A2 (tC (.str ("room":Str))) (A2 (tC (.str ("plain":Str))) B1))) (tCB yj1 (A2 (yd5 false (A4 5) (A4 4)) B1))) (yn5 (A4 3) (A4 5) xj8))
abbrev ww2(K:Fg):TS :=
 (D9 (tOp (J0 K) (A4 6) (B9 (E5 K) [] E0 (A2 (A4 0) (A2 (tCB (P6 K) (A2 (A4 6) B1)) B1)))) (yn5 (A4 4) (A4 5) xj8))
abbrev ww3(K:Fg):TS :=
 (C0 (D9 (Z4 [some 3,some 4,none] (yt7 (A2 (tOp (W5 K) (A4 5) (tC (.int 1))) (A2 (A4 1) B1))) (B3 2) (qz3 (D7 (tOp (wr8 K false) (tOp (J0 K) (A4 0) (A4 2)) (O1 (A2 (tC (.str ("plain":Str))) (A2 (tC (.str ("frame":Str))) B1))))) (D7 (yd5 true (A4 2) (A4 1)))) (A4 2)) (B3 6))
 (M0 (D7 (tOp (S4 K) (A4 6) (X4 B1)))
 (ww1 K) (ww2 K)))
def zb5(K:Fg):TS :=
 (M0 (D7 (tOp (S4 K) (tOp (J0 K) (A4 3) (A4 5)) (tC (.str ("frame":Str)))))
 (ww3 K) E9)
variable{a6:Option V}
theorem ys4{hb kd:Addr}{k:Nat}(hk:k<n)(hn:n<=16)(dk:Dk H d)(hsa:H sa=some (.lst (D4 ss)))(hl:ss.length=n)(hss:∀ s∈ss,s.length<=8/\s≠("":Str))(nsa:sa≠d)(hhb:H hb=some (.dK kvs))(hh:HS n ss k kvs)(hkl:kvs.length<=k)(q:∀ (H':Hp) (ss:List Str) (kvs:List (Key×V)) (a6:Option V),But [d,sa,hb] H H'->Dk H' d->H' sa=some (.lst (D4 ss))->ss.length=n->(∀ s∈ss,s.length<=8/\s≠("":Str))->H' hb=some (.dK kvs)->HS n ss (k+1) kvs->kvs.length<=k+1->D.nx [some (.ref d),some (.int n),some (.ref kd),some (.ref sa),some (.ref hb),some (.int k),a6] H') :
 zb5 K D [some (.ref d),some (.int n),some (.ref kd),some (.ref sa),some (.ref hb),some (.int k),a6] H:=by
 have nhb:hb≠d:=fun e=>by obtain⟨ns,h,_⟩:=dk;rw[<-e,hhb] at h;cases h
 have nsh:sa≠hb:=fun e=>by rw[e,hhb] at hsa;cases hsa
 unfold zb5
 lk
 refine R6 (SqL.of hsa) (E8 (X9 (by omega))) ?_
 lk
 by_cases ef:ss[k]=("frame":Str)
 ·rw [decide_eq_true ef];refine W9 ?_
  lk
  refine yp7 (lo:=(k:Int)+1) (hi:=n) (by omega) (by omega) (by omega) (fun i ys H'=>A6 H H'/\∃ fs:List Int,ys=E4 fs/\fs.length<=i/\∀ x∈fs,0<=x/\x<n/\V.int x∉kvs.map (·.2)) ⟨fun _ _ e=>e,[],rfl,by simp,by simp⟩ ?_ ?_ ?_
  ·rintro i ys H' hi ⟨_,fs,rfl,hf,_⟩
   rw[L8];exact D8 (by omega)
  ·rintro i ys H' hi ⟨s1,fs,rfl,hf,hr⟩
   have e1:(k:Int)+1+i=((k+1+i:Nat):Int):=by omega
   rw[e1]
   have hsa':=s1 _ _ hsa
   have hhb':=s1 _ _ hhb
   lk
   refine R6 (SqL.of hsa') (E8 (X9 (by omega))) ?_
   lk
   refine⟨D8 (by z_go),fun t ht=>?_⟩
   refine .inl (yp9 (xs:=D4 [("plain":Str),("frame":Str)]) (.inr (SqT.of A7)) rfl (qg8 _) ?_)
   rw[qh8]
   lk
   have s2:=A6.tr s1 (A6.new ht (.tup (D4 [("plain":Str),("frame":Str)])))
   have no:∃ fs':List Int,E4 fs=E4 fs'/\fs'.length<=i+1/\∀ x∈fs',0<=x/\x<n/\V.int x∉kvs.map (·.2):=⟨fs,rfl,by omega,hr⟩
   by_cases hin:ss[k+1+i]∈[("plain":Str),("frame":Str)]
   ·rw [decide_eq_true hin];refine W9 ?_
    lk
    obtain⟨js,ej⟩:=qu4 hh.hst
    refine⟨_,hb,kvs,js,rfl,rfl,by rw[C1 (M9 hhb' ht)];exact hhb',ej,?_⟩
    generalize hcc:(if true=true then !decide (((k+1+i:Nat):Int)∈js) else decide (((k+1+i:Nat):Int)∈js))=c
    lk
    cases c with
    | true =>
      x_go
      lk
      refine⟨s2,fs++[((k+1+i:Nat):Int)],qu3 _ _,by simp;omega,fun x hx=>?_⟩
      rcases List.mem_append.mp hx with h|h
      ·exact hr x h
      ·rw[List.mem_singleton.mp h]
       refine⟨by omega,by omega,?_⟩
       rw[ej]
       intro hm
       obtain⟨y,hy,e⟩:=List.mem_map.mp hm
       injection e with e
       rw[if_pos rfl] at hcc
       rw[<-e,decide_eq_true hy] at hcc
       cases hcc
    | false =>
      k_go
      exact⟨s2,no⟩
   ·rw[decide_eq_false hin];refine V4 ?_
    k_go
    exact⟨s2,no⟩
  ·rintro ys H' ⟨s1,fs,rfl,hf,hr⟩ p hp
   lk
   have s2:A6 H (upd H' p (.lst (E4 fs))):=A6.tr s1 (A6.new hp _)
   refine⟨D8 (by z_go),fun e he=>?_⟩
   have hp2:(upd (upd H' p (.lst (E4 fs))) e (.lst [])) p=some (.lst (E4 fs)):=by rw[C1 (M9 A7 he)];exact A7
   refine Ac4 (ds:=qp2 fs) (T5.mpr ⟨p,_,rfl,SqL.of hp2,O8.mpr rfl⟩) A7 ?_
   have s3:A6 H (upd (upd H' p (.lst (E4 fs))) e (.lst [])):=A6.tr s2 (A6.new he _)
   generalize (upd (upd H' p (.lst (E4 fs))) e (.lst []))=H3 at *
   have hsa3:=s3 _ _ hsa
   have hhb3:=s3 _ _ hhb
   have dk3:=dk.same s3
   lk
   cases fs with
   | nil =>
     x_go
     lk
     refine⟨D8 (by z_go),fun t ht=>?_⟩
     lk
     have hhb4:(upd H3 t (.lst [.str ("room":Str),.str ("plain":Str)])) hb=some (.dK kvs):=by rw[C1 (M9 hhb3 ht)];exact hhb3
     obtain⟨js,ej⟩:=qu4 hh.hst
     refine⟨_,hb,kvs,js,rfl,rfl,hhb4,ej,?_⟩
     generalize (if false=true then !decide ((k:Int)∈js) else decide ((k:Int)∈js))=c
     lk
     have s4:=A6.tr s3 (A6.new ht (.lst [.str ("room":Str),.str ("plain":Str)]))
     have ht4:(upd H3 t (.lst [.str ("room":Str),.str ("plain":Str)])) t=some (.lst [.str ("room":Str),.str ("plain":Str)]):=A7
     generalize (upd H3 t (.lst [.str ("room":Str),.str ("plain":Str)]))=H4 at *
     refine .inr ⟨c,rfl,?_⟩
     have fin:∀ x:Str,x.length<=8/\x≠("":Str)->xj8 (.ref sa) (.int k) (.str x) H4 (fun H1=>D.nx [some (.ref d),some (.int n),some (.ref kd),some (.ref sa),some (.ref hb),some (.int k),some (.ref p)] H1):=fun x hx=>by
      refine .inl (yw9 (s4 _ _ hsa) (j:=k) (by unfold ixN;rw[if_pos (by omega),if_pos (by rw[L5];omega)];simp) ?_)
      have es:(D4 ss).set k (.str x)=D4 (ss.set k x):=by unfold D4;rw[List.map_set]
      rw[es]
      refine q _ (ss.set k x) kvs _ (fun b o e n=>?_) ((dk.same s4).put nsa _) A7 (by rw[List.length_set];exact hl) (fun s hs=>?_) (by rw[C1 (Ne.symm nsh)];exact s4 _ _ hhb) (hh.set x) (by omega)
      ·rw[C1 (fun z=>n (by simp[z]))];exact s4 _ _ e
      ·rcases List.mem_or_eq_of_mem_set hs with h|h
       ·exact hss s h
       ·rw[h];exact hx
     cases c with
     | true =>
       refine R6 (SqL.of ht4) (v:=.str ("plain":Str)) (E8 (j:=1) rfl) ?_
       lk
       exact fin _ (by decide)
     | false =>
       refine R6 (SqL.of ht4) (v:=.str ("room":Str)) (E8 (j:=0) rfl) ?_
       lk
       exact fin _ (by decide)
   | cons f0 fr =>
     k_go
     lk
     refine M8 (.inl (SqL.of hp2)) ?_
     rw[L8]
     lk
     refine⟨d,((f0::fr).length:Int),rfl,by rw[List.length_cons];omega,by omega,dk3,fun m H5 m0 m1 mv=>?_⟩
     lk
     have np:p≠d:=dk.ne (qw4 s1 hp)
     have hm:m.toNat<(f0::fr).length:=by omega
     refine R6 (SqL.of (mv.at hp2 np)) (v:=.int (f0::fr)[m.toNat]) (ixI m0 (zi8 hm)) ?_
     lk
     have hr':=hr _ (List.getElem_mem hm)
     refine .inr ⟨hb,_,rfl,xt7.k (k:=.inl (k:Int)) (mv.at hhb3 nhb) (by rw[sizeLine_eq];omega),?_⟩
     refine q _ ss _ _ (fun b o e n=>?_) (mv.dk.put nhb _) (by rw[C1 nsh];exact mv.at hsa3 nsa) hl hss A7 (hh.put hr'.1 hr'.2.1 (by rw[List.getElem?_eq_getElem (by omega),ef]) hr'.2.2) ?_
     ·rw[C1 (fun z=>n (by simp[z]))];exact mv.at (s3 _ _ e) (fun z=>n (by simp[z]))
     ·have:=qt0 kvs (.inl (k:Int)) (V.int (f0::fr)[m.toNat]);omega
 ·rw[decide_eq_false ef];refine V4 ?_
  exact q H ss kvs _ (fun _ _ e _=>e) dk hsa hl hss hhb hh.mono (by omega)
abbrev ww4(K:Fg):TS :=
 (C0 (qm3 (qm2 (A2 (A4 1) B1)) (B3 5)
 (zb5 K))
 (I0 (O1 (A2 (A4 3) (A2 (A4 4) B1)))))
abbrev ww5(K:Fg):TS :=
 (C0 (D9 (Z4 [some 2,some 0,none] (qm2 (A2 (A4 1) B1)) (B3 2) tTT (tOp (J0 K) (A4 0) (B9 (E5 K) [] E0 (A2 (A4 1) (A2 (tC (.int 8)) B1))))) (B3 3))
 (C0 (D9 yv2 (B3 4))
 (ww4 K)))
def qd2(K:Fg):Sp:=fun vs H Q _=>∃ (d:Addr) (n:Nat),vs=[.ref d,.int n]/\1<=n/\n<=16/\Dk H d/\∀ (r sa hb:Addr) (ss:List Str) (kvs:List (Key×V)) (H':Hp),Mv d H H'->H' r=some (.tup [.ref sa,.ref hb])->H' sa=some (.lst (D4 ss))->sa≠d->ss.length=n->(∀ s∈ss,s.length<=8/\s≠("":Str))->H' hb=some (.dK kvs)->HS n ss n kvs->Q (.ref r) H'
def qf8(K:Fg):TS :=
 (C0 (D9 (X4 (xu3 [("plain":Str),("anew":Str),("plain":Str),("frame":Str),("room":Str),("bare":Str),("plain":Str),("anew":Str)])) (B3 2))
 (ww5 K))
theorem xe8(h:qd2 K vs H Q E):qf8 K {nx:=fun _ H'=>Q .non H',rt:=Q} (G9 ["_law_deck","_law_count","_law_kinds","_law_sorts_here","_law_hosts","_law_k","_law_free"] vs) H:=by
 obtain⟨d,n,rfl,h1,h2,dk,q⟩:=h
 show qf8 K _ [some (.ref d),some (.int n),none,none,none,none,none] H
 unfold qf8
 lk
 refine⟨D8 (by simp[D4]),fun kd hkd=>?_⟩
 lk
 generalize hks:[("plain":Str),("anew":Str),("plain":Str),("frame":Str),("room":Str),("bare":Str),("plain":Str),("anew":Str)]=ks
 have hkl:ks.length=8:=by rw[<-hks];rfl
 have hk8:∀ s∈ks,s.length<=8/\s≠("":Str):=by rw[<-hks];decide
 have nkd:=dk.ne hkd
 have m0:Mv d H (upd H kd (.lst (D4 ks))):=Mv.new (Mv.refl dk) hkd _
 have hk0:(upd H kd (.lst (D4 ks))) kd=some (.lst (D4 ks)):=A7
 generalize upd H kd (.lst (D4 ks))=H1 at *
 refine qm6 (by omega) (by omega) (fun i ys H'=>Mv d H1 H'/\∃ ss:List Str,ys=D4 ss/\ss.length=i/\∀ s∈ss,s.length<=8/\s≠("":Str)) ⟨Mv.refl m0.dk,[],rfl,rfl,by simp⟩ ?_ ?_ ?_
 ·rintro i ys H' hi ⟨_,ss,rfl,hl,_⟩
  rw[L5];exact D8 (by omega)
 ·rintro i ys H' hi ⟨mv,ss,rfl,hl,hs⟩
  lk
  refine⟨d,8,rfl,by decide,by decide,mv.dk,fun m H2 a0 a1 mv2=>?_⟩
  have hm:m.toNat<ks.length:=by omega
  refine R6 (SqL.of (mv2.at (mv.at hk0 nkd) nkd)) (ixI a0 (X9 hm)) ?_
  refine⟨mv.tr mv2,ss++[ks[m.toNat]],Z8 _ _,by simp[hl],fun s hs'=>?_⟩
  rcases List.mem_append.mp hs' with h|h
  ·exact hs s h
  ·rw[List.mem_singleton.mp h];exact hk8 _ (List.getElem_mem hm)
 ·rintro ys H' ⟨mv,ss,rfl,hl,hs⟩ sa hsa
  lk
  intro hb hhb
  lk
  have mvA:Mv d H (upd (upd H' sa (.lst (D4 ss))) hb (.dK [])):=((m0.tr mv).new hsa _).new hhb _
  have nsa:sa≠d:=(m0.tr mv).dk.ne hsa
  have nsa0:H sa=none:=xo6 (m0.tr mv) dk hsa
  have nhb0:H hb=none:=xo6 ((m0.tr mv).new hsa _) dk hhb
  have hA1:(upd (upd H' sa (.lst (D4 ss))) hb (.dK [])) sa=some (.lst (D4 ss)):=by rw[C1 (M9 A7 hhb)];exact A7
  have hA2:(upd (upd H' sa (.lst (D4 ss))) hb (.dK [])) hb=some (.dK []):=A7
  generalize (upd (upd H' sa (.lst (D4 ss))) hb (.dK []))=HA at *
  refine qm5 (by omega) (by omega) (fun i σ H'=>∃ (ss:List Str) (kvs:List (Key×V)) (a5 a6:Option V),σ=[some (.ref d),some (.int n),some (.ref kd),some (.ref sa),some (.ref hb),a5,a6]/\Mv d H H'/\H' sa=some (.lst (D4 ss))/\ss.length=n/\(∀ s∈ss,s.length<=8/\s≠("":Str))/\H' hb=some (.dK kvs)/\HS n ss i kvs/\kvs.length<=i) ⟨ss,[],_,_,rfl,mvA,hA1,by omega,hs,hA2,⟨(fun _ h=>by cases h),List.nodup_nil⟩,by simp⟩ ?_ ?_
  ·rintro i σ H' hi ⟨ss,kvs,a5,a6,rfl,mv,b1,b2,b3,b4,b5,b6⟩
   lk
   refine ys4 (by omega) h2 mv.dk b1 b2 b3 nsa b4 b5 b6 fun H2 ss kvs a6 bt dk2 c1 c2 c3 c4 c5 c6=>?_
   refine⟨ss,kvs,_,_,rfl,⟨fun c o e nc=>?_,dk2⟩,c1,c2,c3,c4,c5,c6⟩
   refine bt c o (mv.but c o e nc) ?_
   simp at nc ⊢
   exact⟨nc,M9 e nsa0,M9 e nhb0⟩
  ·rintro σ H' ⟨ss,kvs,a5,a6,rfl,mv,b1,b2,b3,b4,b5,b6⟩
   lk
   refine⟨D8 (by z_go),fun r hr=>?_⟩
   exact q r sa hb ss kvs _ (mv.new hr _) A7 (by rw[C1 (M9 b1 hr)];exact b1) nsa b2 b3 (by rw[C1 (M9 b4 hr)];exact b4) (by rw[show((n:Int)).toNat=n by omega] at b5;exact b5)
abbrev xe9(K:Fg):TS :=
 (M0 (D7 (tOp (S4 K) (B9 (E5 K) [] E0 (A2 (A4 0) (A2 (tC (.int 4)) B1))) (tC (.int 1))))
 (qh3 (tBM K "list" X8 (A4 2) (A2 (A4 3) B1))) E9)
abbrev xf0(K:Fg):TS :=
 (C0 (qm3 (ql5 K (A4 1)) (B3 3)
 (xe9 K))
 (I0 (tCB (qo8 K) (A2 (tCB (xu1 K) (A2 (A4 2) B1)) B1))))
def qa9(K:Fg):Sp:=fun vs H Q _=>∃ (d a:Addr) (xs:List Str),vs=[.ref d,.ref a]/\Dk H d/\H a=some (.lst (D4 xs))/\a≠d/\xs.length<=40/\∀ (t:Addr) (ys:List Str) (H':Hp),Mv d H H'->H' t=some (.tup (D4 ys))->(∀ y∈ys,y∈xs)->ys.length<=xs.length->Q (.ref t) H'
def qk2(K:Fg):TS :=
 (C0 (D9 (X4 B1) (B3 2))
 (xf0 K))
theorem xq6(h:qa9 K vs H Q E):qk2 K {nx:=fun _ H'=>Q .non H',rt:=Q} (G9 ["_law_deck","_law_names","_law_some_here","_law_name_here"] vs) H:=by
 obtain⟨d,a,xs,rfl,dk,ha,na,hx,q⟩:=h
 show qk2 K _ [some (.ref d),some (.ref a),none,none] H
 unfold qk2
 lk
 refine⟨D8 (by z_go),fun p hp=>?_⟩
 lk
 have np:p≠d:=dk.ne hp
 have npa:a≠p:=M9 ha hp
 refine yw2 (xs:=D4 xs) (SqL.of (by rw[C1 npa];exact ha)) (fun i σ H'=>∃ (w:Option V) (ys:List Str),σ=[some (.ref d),some (.ref a),some (.ref p),w]/\Mv d H H'/\H' p=some (.lst (D4 ys))/\(∀ y∈ys,y∈xs)/\ys.length<=i) ⟨_,[],rfl,Mv.new (Mv.refl dk) hp _,A7,by simp,by simp⟩ ?_ ?_ ?_
 ·rintro i σ H' hi ⟨w,ys,rfl,mv,_⟩
  exact SqL.of (mv.at ha na)
 ·rintro i x σ H' hx' ⟨w,ys,rfl,mv,h1,h2,h3⟩
  obtain⟨y,hy,rfl⟩:=wc7 hx'
  have hi:i<xs.length:=(List.getElem?_eq_some_iff.mp hy).1
  lk
  refine⟨d,4,rfl,by decide,by decide,mv.dk,fun m H2 a0 a1 mv2=>?_⟩
  lk
  have mv3:=mv.tr mv2
  have h4:=mv2.at h1 np
  by_cases e:m=1
  ·rw[decide_eq_true e];refine W9 ?_
   lk
   refine⟨.inl ⟨rfl,_,SqL.of h4⟩,?_⟩
   lk
   refine X5 h4 (by rw[L5,sizeLine_eq];omega) ?_
   refine⟨_,ys++[y],rfl,mv3.put dk hp _,by rw[A7,Z8],fun z hz=>?_,by simp;omega⟩
   rcases List.mem_append.mp hz with h|h
   ·exact h2 z h
   ·rw[List.mem_singleton.mp h];exact List.mem_of_getElem? hy
  ·rw[decide_eq_false e];refine V4 ?_
   exact⟨_,ys,rfl,mv3,h4,h2,by omega⟩
 ·rintro σ H' ⟨w,ys,rfl,mv,h1,h2,h3⟩
  rw[L5] at h3
  lk
  refine⟨p,ys,rfl,SqL.of h1,by omega,fun l ys' hperm _ hl=>?_⟩
  lk
  refine⟨l,_,rfl,.inl ⟨SqL.of A7,fun t ht=>?_⟩⟩
  exact q t ys' _ ((mv.new hl _).new ht _) A7 (fun y hy=>h2 y (hperm.mem_iff.mp hy)) (by rw[hperm.length_eq];exact h3)
abbrev xf2(K:Fg):TS :=
 (qh3 (tBM K "list" xn3 (A4 9) (A2 (B9 (E5 K) [] E0 (A2 (A4 0) (A2 (tOp (W5 K) (tCB (P6 K) (A2 (A4 9) B1)) (tC (.int 1))) B1))) (A2 (A4 13) B1))))
def zb6(K:Fg):TS :=
 (C0 (D9 (O1 (A2 (tOp (J0 K) (A4 6) (A4 10)) (A2 (tOp (J0 K) (A4 4) (A4 10)) (A2 (A4 12) (A2 (A4 11) (A2 (B9 (qa9 K) [] E0 (A2 (A4 0) (A2 (Z4 [some 6,none] (ql5 K (A4 7)) (B3 1) tTT (tOp (J0 K) (A4 0) (A4 1))) B1))) B1)))))) (B3 13))
 (xf2 K))
abbrev xf3(K:Fg):TS :=
 (C0 (M0 (D7 (tOp (wr8 K false) (A4 10) (A4 5)))
 (D9 (tOp (J0 K) (A4 6) (yu9 (A4 5) (A4 10))) (B3 12)) E9)
 (zb6 K))
def zb7(K:Fg):TS :=
 (C0 (D9 (tC (.str ("":Str))) (B3 12))
 (xf3 K))
def hF(c:Int)(kvs:List (Key×V))(k:Nat):Str:=match S2 kvs (.inl (k:Int)) with|some (.int j)=>W7 c j|_=>("":Str)
def Rwk(c:Int)(ss:List Str)(kvs:List (Key×V))(i:Nat)(rs:List Row):Prop:=∃ ks:List Nat,ks.Nodup/\(∀ k∈ks,k<i)/\rs.map (·.name)=ks.map (fun k:Nat=>W7 c (k:Int))/\rs.map (·.sort)=ks.map (fun k=>ss.getD k ("":Str))/\rs.map (·.host)=ks.map (hF c kvs)
theorem Rwk.ins{c:Int}{ss:List Str}{kvs:List (Key×V)}{k:Nat}{rs:List Row}(h:Rwk c ss kvs k rs){r:Row}(x:Nat)(hn:r.name=W7 c (k:Int))(hs:r.sort=ss.getD k ("":Str))(hh:r.host=hF c kvs k):Rwk c ss kvs (k+1) (W6 rs x r):=by
 obtain⟨ks,h1,h2,h3,h4,h5⟩:=h
 have hp:(W6 ks x k).Perm (k::ks):=by
  unfold W6
  have:=(List.perm_middle (a:=k) (l₁:=ks.take x) (l₂:=ks.drop x))
  rwa [List.take_append_drop] at this
 refine⟨W6 ks x k,?_,fun y hy=>?_,?_,?_,?_⟩
 ·rw[hp.nodup_iff,List.nodup_cons]
  exact⟨fun z=>by have:=h2 k z;omega,h1⟩
 ·rcases ys0 hy with rfl|h
  ·omega
  ·have:=h2 y h;omega
 ·rw[qc3,qc3,h3,hn]
 ·rw[qc3,qc3,h4,hs]
 ·rw[qc3,qc3,h5,hh]
theorem HS.val(h:HS n ss i kvs){k:Nat}(e:S2 kvs (.inl (k:Int))=some v):∃ j:Int,v=.int j/\0<=j/\j<n/\ss[k]?=some ("frame":Str)/\((.inl (k:Int),.int j):Key×V)∈kvs:=by
 unfold S2 at e
 obtain⟨kv,hf,rfl⟩:=Option.map_eq_some_iff.mp e
 have hm:=List.mem_of_find?_eq_some hf
 obtain⟨k',j,rfl,h0,h1,h2,h3⟩:=h.1 kv hm
 have:=List.find?_some hf
 have:k'=k:=by simp at this;omega
 subst this
 exact⟨j,rfl,h0,h1,h3,hm⟩
theorem ys5(h:(kvs.map (·.2)).Nodup){a b:Key×V}(ha:a∈kvs)(hb:b∈kvs)(e:a.2=b.2):a=b:=by
 induction kvs with
 | nil=>cases ha
 | cons x l ih =>
   rw[List.map_cons,List.nodup_cons] at h
   rcases List.mem_cons.mp ha with rfl|ha' <;> rcases List.mem_cons.mp hb with rfl|hb'
   ·rfl
   ·exact absurd (e▸List.mem_map_of_mem hb') h.1
   ·exact absurd (e▸List.mem_map_of_mem ha') h.1
   ·exact ih h.2 ha' hb'
theorem zw5(h:HS n ss i kvs)(n8:n<=8){a b:Nat}(e:hF c kvs a=hF c kvs b)(hne:hF c kvs a≠("":Str)):a=b:=by
 have key:∀ k,hF c kvs k≠("":Str)->∃ j:Int,hF c kvs k=W7 c j/\0<=j/\j<n/\((.inl (k:Int),.int j):Key×V)∈kvs:=by
  intro k hk
  unfold hF at hk ⊢
  cases ev:S2 kvs (.inl (k:Int)) with
  | none=>rw[ev] at hk;exact absurd rfl hk
  | some v =>
    obtain⟨j,rfl,h0,h1,_,hm⟩:=h.val ev
    exact⟨j,rfl,h0,h1,hm⟩
 obtain⟨j1,e1,a0,a1,m1⟩:=key a hne
 obtain⟨j2,e2,b0,b1,m2⟩:=key b (e▸hne)
 have:j1=j2:=ys2 a0 (by omega) b0 (by omega) (by rw[<-e1,<-e2];exact e)
 subst this
 have:=ys5 h.2 m1 m2 rfl
 injection this with h1 _
 have:=Sum.inl.inj h1
 omega
theorem xx9{α:Type}[DecidableEq α](f:Nat->α)(x:α):∀ ks:List Nat,ks.Nodup->(∀ a∈ks,∀ b∈ks,f a=x->f b=x->a=b)->((ks.map f).filter fun y=>decide (y=x)).length<=1
 | [],_,_=>by simp
 | k :: ks,h,hi=>by
   rw[List.nodup_cons] at h
   rw[List.map_cons,List.filter_cons]
   by_cases e:f k=x
   ·rw[if_pos (decide_eq_true e),List.length_cons]
    have:((ks.map f).filter fun y=>decide (y=x))=[]:=by
     rw[List.filter_eq_nil_iff]
     intro y hy
     obtain⟨k',hk',rfl⟩:=List.mem_map.mp hy
     intro z
     have z:=of_decide_eq_true z
     exact h.1 (hi k (by simp) k' (by simp[hk']) e z▸hk')
    rw[this];simp
   ·rw[if_neg (by simpa using e)]
    exact xx9 f x ks h.2 fun a ha b hb=>hi a (by simp[ha]) b (by simp[hb])
theorem Rwk.bks(h:Rwk c ss kvs n rs)(hs:HS n ss n kvs)(hss:∀ s∈ss,s.length<=8/\s≠("":Str))(hl:ss.length=n)(n8:n<=8):BkS rs:=by
 obtain⟨ks,h1,h2,h3,h4,h5⟩:=h
 have at':∀ r∈rs,∃ k,k<n/\r.name=W7 c (k:Int)/\r.sort=ss.getD k ("":Str)/\r.host=hF c kvs k:=by
  intro r hr
  obtain⟨i,hi⟩:=List.mem_iff_getElem?.mp hr
  have a1:=congrArg (fun l=>l[i]?) h3
  have a2:=congrArg (fun l=>l[i]?) h4
  have a3:=congrArg (fun l=>l[i]?) h5
  simp only[List.getElem?_map,hi,Option.map_some] at a1 a2 a3
  cases ek:ks[i]? with
  | none=>rw[ek] at a1;cases a1
  | some k =>
    rw[ek] at a1 a2 a3
    exact⟨k,h2 k (List.mem_of_getElem? ek),Option.some.inj a1,Option.some.inj a2,Option.some.inj a3⟩
 refine⟨fun r hr=>?_,fun r hr=>?_,fun r hr hf=>?_,fun x hx=>?_⟩
 ·obtain⟨k,_,e,_⟩:=at' r hr
  rw[e];exact za6 c _
 ·obtain⟨k,hk,_,e,_⟩:=at' r hr
  rw[e]
  have:ss.getD k ("":Str)=ss[k]:=by rw[List.getD_eq_getElem?_getD,List.getElem?_eq_getElem (by omega)];rfl
  rw[this];exact(hss _ (List.getElem_mem _)).2
 ·obtain⟨k,hk,_,e,e2⟩:=at' r hr
  rw[e2]
  unfold hF
  cases ev:S2 kvs (.inl (k:Int)) with
  | none=>rfl
  | some v =>
    obtain⟨j,rfl,_,_,h7,_⟩:=hs.val ev
    exfalso
    apply hf
    rw[e,List.getD_eq_getElem?_getD,h7];rfl
 ·have e:(rs.filter fun r=>decide (r.host=x)).length=((rs.map (·.host)).filter fun y=>decide (y=x)).length:=by
   rw[List.filter_map,List.length_map];rfl
  rw[e,h5]
  exact xx9 (hF c kvs) x ks h1 fun a _ b _ ea eb=>zw5 hs n8 (ea.trans eb.symm) (by rw[ea];exact hx)
variable{sh:List Str}{sv:V}
section
variable{D:U8}{d sa hb nm sf my bk:Addr}{c m:Int}{n k:Nat}{ss names may:List Str}{soft:List Int}{kvs:List (Key×V)}{us:List V}{rs:List Row}{a11 a12 a13:Option V}
structure BkA(c:Int)(H:Hp)(d sa hb nm sf my bk:Addr)(n:Nat)(ss names may:List Str)(soft:List Int)(kvs:List (Key×V)):Prop where
 n16:n<=16
 hsa:H sa=some (.lst (D4 ss))
 lsa:ss.length=n
 hhb:H hb=some (.dK kvs)
 hst:HS n ss n kvs
 hnm:H nm=some (.lst (D4 names))
 lnm:names.length=n
 nle:names=(List.range n).map (fun k:Nat=>W7 c (k:Int))
 hsf:H sf=some (.lst (E4 soft))
 sfl:soft.length<=n
 sfr:∀ x∈soft,0<=x/\x<n
 hmy:H my=some (.lst (D4 may))
 mle:may.length<=n
 n1:sa∉[d,bk]
 n2:hb∉[d,bk]
 n3:nm∉[d,bk]
 n4:sf∉[d,bk]
 n5:my∉[d,bk]
theorem BkA.but(B:BkA c H d sa hb nm sf my bk n ss names may soft kvs)(t:But [d,bk] H H'):BkA c H' d sa hb nm sf my bk n ss names may soft kvs :=
 {B with hsa:=t _ _ B.hsa B.n1,hhb:=t _ _ B.hhb B.n2,hnm:=t _ _ B.hnm B.n3,hsf:=t _ _ B.hsf B.n4,hmy:=t _ _ B.hmy B.n5}
theorem zn6(B:BkA c H d sa hb nm sf my bk n ss names may soft kvs)(hk:k<n){h:k<names.length}:names[k]=W7 c (k:Int):=by
 have:=B.nle
 subst this
 simp
theorem Ac8(B:BkA c H d sa hb nm sf my bk n ss names may soft kvs)(hk:k<n){h:k<ss.length}:ss[k]=ss.getD k ("":Str):=by
 rw[List.getD_eq_getElem?_getD,List.getElem?_eq_getElem h];rfl
theorem zb8{host:Str}(B:BkA c H d sa hb nm sf my bk n ss names may soft kvs)(hk:k<n)(dk:Dk H d)(nbk:bk≠d)(hbk:H bk=some (.lst us))(dvs:Dvs K H (rs.map Row.da) us)(hrl:rs.length=k)(hro:Rwk c ss kvs k rs)(hho:host=hF c kvs k)(hsv:Dv K H (.tuple (sDa sh)) sv)(q:∀ (H':Hp) (us:List V) (rs:List Row) (a13:Option V),But [d,bk] H H'->Dk H' d->H' bk=some (.lst us)->Dvs K H' (rs.map Row.da) us->rs.length=k+1->Rwk c ss kvs (k+1) rs->D.nx [some (.ref d),some (.int c),some (.int m),some (.int n),some (.ref sa),some (.ref hb),some (.ref nm),some (.ref sf),some (.ref my),some (.ref bk),some (.int k),some sv,some (.str host),a13] H') :
 zb6 K D [some (.ref d),some (.int c),some (.int m),some (.int n),some (.ref sa),some (.ref hb),some (.ref nm),some (.ref sf),some (.ref my),some (.ref bk),some (.int k),some sv,some (.str host),a13] H:=by
 have n16:=B.n16
 have lnm:=B.lnm
 have lsa:=B.lsa
 have hul:us.length=k:=by have:=dvs.length;rw[List.length_map] at this;omega
 unfold zb6
 lk
 refine R6 (SqL.of B.hnm) (E8 (X9 (by omega))) ?_
 lk
 refine R6 (SqL.of B.hsa) (E8 (X9 (by omega))) ?_
 lk
 refine qc1 (xs:=E4 soft) (SqL.of B.hsf) (fun i ys H'=>H'=H/\∃ zs:List Str,ys=D4 zs/\zs.length=i) ⟨rfl,[],rfl,rfl⟩ ?_ ?_ ?_ ?_
 ·rintro i ys H' hi ⟨rfl,zs,rfl,hz⟩
  rw[L8] at hi
  have:=B.sfl
  rw[L5];exact D8 (by omega)
 ·rintro i ys H' hi ⟨rfl,_⟩
  exact SqL.of B.hsf
 ·rintro i x ys H' hx ⟨rfl,zs,rfl,hz⟩
  unfold E4 at hx
  rw[List.getElem?_map] at hx
  obtain⟨j,hj,rfl⟩:=Option.map_eq_some_iff.mp hx
  obtain⟨j0,j1⟩:=B.sfr j (List.mem_of_getElem? hj)
  lk
  refine R6 (SqL.of B.hnm) (ixI j0 (X9 (by omega))) ?_
  exact⟨rfl,zs++[_],Z8 _ _,by simp[hz]⟩
 ·rintro ys H' ⟨rfl,zs,rfl,hz⟩ p hp
  rw[L8] at hz
  lk
  have s1:A6 H' (upd H' p (.lst (D4 zs))):=A6.new hp _
  have hsfl:=B.sfl
  refine⟨d,p,zs,rfl,dk.same s1,A7,dk.ne hp,by omega,fun t ys H2 mv ht hmem hle=>?_⟩
  lk
  have bt2:But [d,bk] H' H2:=But.tr (A6.two d bk s1) (Mv.two bk mv)
  have hbk2:H2 bk=some (.lst us):=mv.at (s1 _ _ hbk) nbk
  obtain⟨dl,hdl⟩:=dk.lst
  have tk2:qe3 H' H2:=But.two bt2 hdl hbk
  have hsv2:=Dv.tupK tk2 _ _ (by rw[L2.fix];exact R7 (f:=PyData.str) (fun x=>by rw[L2.fix]) sh) hsv
  have dvs2:=Dvs.tupK tk2 _ _ (R7 Row.fix rs) dvs
  refine⟨D8 (by z_go),fun r hr=>?_⟩
  lk
  have s3:A6 H2 (upd H2 r (.tup [.str names[k],.str ss[k],.str host,sv,.ref t])):=A6.new hr _
  have hbk3:=s3 _ _ hbk2
  have dk3:=mv.dk.same s3
  have bt3:But [d,bk] H' (upd H2 r (.tup [.str names[k],.str ss[k],.str host,sv,.ref t])):=But.tr bt2 (A6.two d bk s3)
  have drow:Dv K (upd H2 r (.tup [.str names[k],.str ss[k],.str host,sv,.ref t])) (Row.da ⟨names[k],ss[k],host,sh,ys⟩) (.ref r):=by
   unfold Row.da
   refine C6.mpr ⟨r,_,rfl,SqT.of A7,I9 (P9.mpr rfl) (I9 (P9.mpr rfl) (I9 (P9.mpr rfl) (I9 (Dv.same s3 _ _ hsv2) (I9 ?_ G8))))⟩
   exact C6.mpr ⟨t,_,rfl,SqT.of (s3 _ _ ht),V5.mpr rfl⟩
  have dvs3:=Dvs.same s3 _ _ dvs2
  generalize (upd H2 r (.tup [.str names[k],.str ss[k],.str host,sv,.ref t]))=H3 at *
  refine⟨.inl ⟨rfl,_,SqL.of hbk3⟩,?_⟩
  lk
  refine M8 (.inl (SqL.of hbk3)) ?_
  lk
  refine⟨d,(us.length:Int)+1,rfl,by omega,by omega,dk3,fun x H4 x0 x1 mv4=>?_⟩
  lk
  have hbk4:=mv4.at hbk3 nbk
  obtain⟨dl3,hdl3⟩:=dk3.lst
  have tk4:qe3 H3 H4:=mv4.tupK dk3
  refine yx0 hbk4 x0 (by omega) (by rw[sizeLine_eq];omega) ?_
  have hx:x.toNat<=us.length:=by omega
  refine q _ _ (W6 rs x.toNat ⟨names[k],ss[k],host,sh,ys⟩) _ (But.tr (But.tr bt3 (Mv.two bk mv4)) (But.upd (by simp) _)) (mv4.dk.put nbk _) A7 ?_ (by rw[yr9 _ _ _ (by omega)];omega) (hro.ins _ (zn6 B hk) (Ac8 B hk) hho)
  ·rw[qc3]
   have tk5:qe3 H4 (upd H4 bk (.lst (W6 us x.toNat (.ref r)))):=T9 hbk4
   refine zj0 (Dvs.tupK (tk4.trans tk5) _ _ (R7 Row.fix rs) dvs3) (Dv.tupK (tk4.trans tk5) _ _ (Row.fix _) drow) hx
theorem zb9(B:BkA c H d sa hb nm sf my bk n ss names may soft kvs)(hk:k<n)(dk:Dk H d)(nbk:bk≠d)(hbk:H bk=some (.lst us))(dvs:Dvs K H (rs.map Row.da) us)(hrl:rs.length=k)(hro:Rwk c ss kvs k rs)(hsv:Dv K H (.tuple (sDa sh)) sv)(q:∀ (H':Hp) (us:List V) (rs:List Row) (a12 a13:Option V),But [d,bk] H H'->Dk H' d->H' bk=some (.lst us)->Dvs K H' (rs.map Row.da) us->rs.length=k+1->Rwk c ss kvs (k+1) rs->D.nx [some (.ref d),some (.int c),some (.int m),some (.int n),some (.ref sa),some (.ref hb),some (.ref nm),some (.ref sf),some (.ref my),some (.ref bk),some (.int k),some sv,a12,a13] H') :
 zb7 K D [some (.ref d),some (.int c),some (.int m),some (.int n),some (.ref sa),some (.ref hb),some (.ref nm),some (.ref sf),some (.ref my),some (.ref bk),some (.int k),some sv,a12,a13] H:=by
 have lnm:=B.lnm
 unfold zb7
 lk
 refine .inr ⟨hb,_,rfl,qz5.k (k:=.inl (k:Int)) B.hhb,?_⟩
 lk
 cases e:S2 kvs (.inl (k:Int)) with
 | none =>
   k_go
   lk
   exact zb8 B hk dk nbk hbk dvs hrl hro (by unfold hF;rw[e]) hsv fun H' us rs a13 h1 h2 h3 h4 h5 h6=>q H' us rs _ a13 h1 h2 h3 h4 h5 h6
 | some v =>
   obtain⟨j,rfl,j0,j1⟩:=zj8 B.hst.hst e
   x_go
   lk
   refine⟨hb,_,rfl,by have:=qz5.k (k:=.inl (k:Int)) B.hhb;rw[e] at this;exact this,?_⟩
   refine R6 (SqL.of B.hnm) (ixI j0 (X9 (by omega))) ?_
   lk
   exact zb8 B hk dk nbk hbk dvs hrl hro (by unfold hF;rw[e,zn6 B (k:=j.toNat) (by omega)];show W7 c _=W7 c j;rw[show((j.toNat:Nat):Int)=j by omega]) hsv fun H' us rs a13 h1 h2 h3 h4 h5 h6=>q H' us rs _ a13 h1 h2 h3 h4 h5 h6
end
abbrev xf4(K:Fg):TS :=
 (C0 (M0 (D7 (yd5 true (A4 10) (A4 5)))
 (D9 (B9 (qa9 K) [] E0 (A2 (A4 0) (A2 (A4 8) B1))) (B3 11)) E9)
 (zb7 K))
abbrev xf5(K:Fg):TS :=
 (C0 (qm3 (qm2 (A2 (A4 3) B1)) (B3 10)
 (C0 (D9 (O1 B1) (B3 11))
 (xf4 K)))
 (I0 (tCB (qo8 K) (A2 (A4 9) B1))))
abbrev xf6(K:Fg):TS :=
 (C0 (D9 (Z4 [some 6,some 5,none] (ql5 K (A4 7)) (B3 2) (D7 (yd5 true (A4 2) (A4 1))) (tOp (J0 K) (A4 0) (A4 2))) (B3 8))
 (C0 (D9 (X4 B1) (B3 9))
 (xf5 K)))
abbrev xf7(K:Fg):TS :=
 (C0 (D9 (Z4 [some 4,none] (qm2 (A2 (A4 3) B1)) (B3 1) (D7 (tOp (wr8 K false) (tOp (J0 K) (A4 0) (A4 1)) (O1 (A2 (tC (.str ("plain":Str))) (A2 (tC (.str ("anew":Str))) B1))))) (A4 1)) (B3 7))
 (xf6 K))
abbrev xf8(K:Fg):TS :=
 (C0 (D9 (Z4 [some 1,none] (qm2 (A2 (A4 3) B1)) (B3 1) tTT (B9 (qf1 K) [] E0 (A2 (A4 0) (A2 (A4 1) B1)))) (B3 6))
 (xf7 K))
abbrev xf9(K:Fg):TS :=
 (C0 (D9 (B9 (qd2 K) [] E0 (A2 (A4 0) (A2 (A4 3) B1))) (wq4 K 2 (S5 (B3 4) (S5 (B3 5) wq3))))
 (xf8 K))
def qf9(K:Fg):Sp:=fun vs H Q _=>∃ (d:Addr) (c m:Int),vs=[.ref d,.int c,.int m]/\0<m/\m<=8/\Dk H d/\∀ (t:Addr) (us:List V) (rs:List Row) (H':Hp),Mv d H H'->H' t=some (.tup us)->Dvs K H' (rs.map Row.da) us->1<=rs.length->rs.length<=8->BkS rs->Q (.ref t) H'
def qk3(K:Fg):TS :=
 (C0 (D9 (tOp (W5 K) (tC (.int 1)) (B9 (E5 K) [] E0 (A2 (A4 0) (A2 (A4 2) B1)))) (B3 3))
 (xf9 K))
theorem xq7(h:qf9 K vs H Q E):qk3 K {nx:=fun _ H'=>Q .non H',rt:=Q} (G9 ["_law_deck","_law_code","_law_most","_law_count","_law_sorts_here","_law_hosts","_law_names","_law_soft","_law_may_shut","_law_book_here","_law_k","_law_shuts","_law_host","_law_row_here"] vs) H:=by
 obtain⟨d,c,m,rfl,h0,h1,dk,q⟩:=h
 show qk3 K _ [some (.ref d),some (.int c),some (.int m),none,none,none,none,none,none,none,none,none,none,none] H
 unfold qk3
 lk
 refine⟨d,m,rfl,h0,by omega,dk,fun x H1 x0 x1 mv1=>?_⟩
 lk
 obtain⟨n,hn,n1,n12⟩:∃ n:Nat,(1:Int)+x=n/\1<=n/\n<=8:=⟨(1+x).toNat,by omega,by omega,by omega⟩
 rw[hn]
 refine⟨d,n,rfl,n1,by omega,mv1.dk,fun r sa hb ss kvs H2 mv2 hr hsa nsa lsa hss hhb hst=>?_⟩
 refine⟨r,_,rfl,SqT.of hr,rfl,?_⟩
 refine⟨_,_,rfl,?_⟩
 lk
 refine⟨_,_,rfl,?_⟩
 lk
 refine⟨rfl,?_⟩
 have mvA:=mv1.tr mv2
 have nhb:hb≠d:=fun e=>by obtain⟨ns,h,_⟩:=mv2.dk;rw[<-e,hhb] at h;cases h
 lk
 refine qm6 (by omega) (by omega) (fun i ys H'=>H'=H2/\∃ zs:List Str,ys=D4 zs/\zs.length=i/\zs=(List.range i).map (fun k:Nat=>W7 c (k:Int))) ⟨rfl,[],rfl,rfl,rfl⟩ ?_ ?_ ?_
 ·rintro i ys H' hi ⟨rfl,zs,rfl,hz,_⟩
  rw[L5];exact D8 (by omega)
 ·rintro i ys H' hi ⟨rfl,zs,rfl,hz,h8⟩
  lk
  refine⟨c,i,rfl,?_⟩
  exact⟨rfl,zs++[W7 c (i:Int)],Z8 _ _,by simp[hz],by rw[h8,List.range_succ,List.map_append];rfl⟩
 rintro ys H' ⟨rfl,names,rfl,lnm,nle⟩ nm hnm
 lk
 have s3:A6 H' (upd H' nm (.lst (D4 names))):=A6.new hnm _
 have hnm3:(upd H' nm (.lst (D4 names))) nm=some (.lst (D4 names)):=A7
 have nnm:nm≠d:=mv2.dk.ne hnm
 have hsa3:=s3 _ _ hsa
 have hhb3:=s3 _ _ hhb
 have mv3:=mvA.new hnm (.lst (D4 names))
 generalize (upd H' nm (.lst (D4 names)))=H3 at *
 refine qm6 (by omega) (by omega) (fun i ys H'=>A6 H3 H'/\∃ zs:List Int,ys=E4 zs/\zs.length<=i/\∀ z∈zs,0<=z/\z<n) ⟨fun _ _ e=>e,[],rfl,by simp,by simp⟩ ?_ ?_ ?_
 ·rintro i ys H' hi ⟨_,zs,rfl,hz,_⟩
  rw[L8];exact D8 (by omega)
 ·rintro i ys H' hi ⟨s4,zs,rfl,hz,hr⟩
  lk
  refine R6 (SqL.of (s4 _ _ hsa3)) (E8 (X9 (by omega))) ?_
  lk
  refine⟨D8 (by z_go),fun t ht=>?_⟩
  refine .inl (yp9 (xs:=D4 [("plain":Str),("anew":Str)]) (.inr (SqT.of A7)) rfl (qg8 _) ?_)
  rw[qh8]
  lk
  have s5:=A6.tr s4 (A6.new ht (.tup (D4 [("plain":Str),("anew":Str)])))
  by_cases hin:ss[i]∈[("plain":Str),("anew":Str)]
  ·rw[decide_eq_true hin];refine W9 ?_
   lk
   refine⟨s5,zs++[(i:Int)],qu3 _ _,by simp;omega,fun z hz'=>?_⟩
   rcases List.mem_append.mp hz' with h|h
   ·exact hr z h
   ·rw[List.mem_singleton.mp h];omega
  ·rw[decide_eq_false hin];refine V4 ?_
   exact⟨s5,zs,rfl,by omega,hr⟩
 rintro ys H' ⟨s4,soft,rfl,sfl,sfr⟩ sf hsf
 lk
 have sfl:soft.length<=n:=by omega
 have nsf:sf≠d:=(mv3.dk.same s4).ne hsf
 have s5:A6 H3 (upd H' sf (.lst (E4 soft))):=A6.tr s4 (A6.new hsf _)
 have hsf5:(upd H' sf (.lst (E4 soft))) sf=some (.lst (E4 soft)):=A7
 generalize (upd H' sf (.lst (E4 soft)))=H5 at *
 refine qc1 (xs:=E4 soft) (SqL.of hsf5) (fun i ys H'=>A6 H5 H'/\∃ zs:List Str,ys=D4 zs/\zs.length<=i) ⟨fun _ _ e=>e,[],rfl,by simp⟩ ?_ ?_ ?_ ?_
 ·rintro i ys H' hi ⟨_,zs,rfl,hz⟩
  rw[L8] at hi
  rw[L5];exact D8 (by omega)
 ·rintro i ys H' hi ⟨s6,_⟩
  exact SqL.of (s6 _ _ hsf5)
 ·rintro i x ys H' hx ⟨s6,zs,rfl,hz⟩
  unfold E4 at hx
  rw[List.getElem?_map] at hx
  obtain⟨j,hj,rfl⟩:=Option.map_eq_some_iff.mp hx
  obtain⟨j0,j1⟩:=sfr j (List.mem_of_getElem? hj)
  lk
  obtain⟨js,ej⟩:=qu4 hst.hst
  refine⟨_,hb,kvs,js,rfl,rfl,s6 _ _ (s5 _ _ hhb3),ej,?_⟩
  generalize (if true=true then !decide (j∈js) else decide (j∈js))=cc
  lk
  cases cc with
  | true =>
    x_go
    lk
    refine R6 (SqL.of (s6 _ _ (s5 _ _ hnm3))) (ixI j0 (X9 (by omega))) ?_
    exact⟨s6,zs++[_],Z8 _ _,by simp;omega⟩
  | false =>
    k_go
    exact⟨s6,zs,rfl,by omega⟩
 rintro ys H' ⟨s6,may,rfl,mle⟩ my hmy
 rw[L8] at mle
 lk
 have dk6:Dk H' d:=(mv3.dk.same s5).same s6
 have nmy:my≠d:=dk6.ne hmy
 have s7:A6 H5 (upd H' my (.lst (D4 may))):=A6.tr s6 (A6.new hmy _)
 have hmy7:(upd H' my (.lst (D4 may))) my=some (.lst (D4 may)):=A7
 have dk7:Dk (upd H' my (.lst (D4 may))) d:=dk6.same (A6.new hmy _)
 generalize (upd H' my (.lst (D4 may)))=H7 at *
 refine⟨D8 (by z_go),fun bk hbk=>?_⟩
 lk
 have s8:A6 H5 (upd H7 bk (.lst [])):=A6.tr s7 (A6.new hbk _)
 have s38:=A6.tr s5 s8
 have nbk:bk≠d:=dk7.ne hbk
 have hmy8:(upd H7 bk (.lst [])) my=some (.lst (D4 may)):=A6.new hbk _ _ _ hmy7
 have B:BkA c (upd H7 bk (.lst [])) d sa hb nm sf my bk n ss names may soft kvs :=
  { n16:=by omega,hsa:=s38 _ _ hsa3,lsa:=lsa,hhb:=s38 _ _ hhb3,hst:=hst,hnm:=s38 _ _ hnm3,lnm:=by omega,nle:=(by rw[show((n:Int)).toNat=n by omega] at nle;exact nle),hsf:=s8 _ _ hsf5,sfl:=sfl,sfr:=sfr,hmy:=hmy8,mle:=by omega,
    n1:=by simp;exact⟨nsa,M9 (s7 _ _ (s5 _ _ hsa3)) hbk⟩,n2:=by simp;exact⟨nhb,M9 (s7 _ _ (s5 _ _ hhb3)) hbk⟩,n3:=by simp;exact⟨nnm,M9 (s7 _ _ (s5 _ _ hnm3)) hbk⟩,n4:=by simp;exact⟨nsf,M9 (s7 _ _ hsf5) hbk⟩,n5:=by simp;exact⟨nmy,M9 hmy7 hbk⟩}
 have hbk8:(upd H7 bk (.lst [])) bk=some (.lst []):=A7
 have mv8:Mv d H (upd H7 bk (.lst [])):=(mv3.same s5).same s8
 have bk0:H bk=none:=xo6 ((mv3.same s5).same s7) dk hbk
 have dk8:=mv8.dk
 generalize (upd H7 bk (.lst []))=H8 at *
 refine qm5 (by omega) (by omega) (fun i σ H'=>∃ (us:List V) (rs:List Row) (a10 a11 a12 a13:Option V),σ=[some (.ref d),some (.int c),some (.int m),some (.int n),some (.ref sa),some (.ref hb),some (.ref nm),some (.ref sf),some (.ref my),some (.ref bk),a10,a11,a12,a13]/\But [d,bk] H8 H'/\Dk H' d/\H' bk=some (.lst us)/\Dvs K H' (rs.map Row.da) us/\rs.length=i/\Rwk c ss kvs i rs) ⟨[],[],_,_,_,_,rfl,But.refl _ _,dk8,hbk8,G8,rfl,[],List.nodup_nil,by simp,rfl,rfl,rfl⟩ ?_ ?_
 ·rintro i σ H' hi ⟨us,rs,a10,a11,a12,a13,rfl,bt,dk',hbk',dv',hl,ho⟩
  have B':=B.but bt
  lk
  refine⟨D8 (by z_go),fun e he=>?_⟩
  lk
  have se:A6 H' (upd H' e (.tup [])):=A6.new he _
  have B2:=B'.but (A6.two d bk se)
  have hbk2:=se _ _ hbk'
  have dv2:=Dvs.same se _ _ dv'
  have dk2:=dk'.same se
  have bt2:=But.tr bt (A6.two d bk se)
  have hem:Dv K (upd H' e (.tup [])) (.tuple (sDa [])) (.ref e):=C6.mpr ⟨e,[],rfl,SqT.of A7,G8⟩
  generalize (upd H' e (.tup []))=H2' at *
  obtain⟨js,ej⟩:=qu4 hst.hst
  refine⟨_,hb,kvs,js,rfl,rfl,B2.hhb,ej,?_⟩
  generalize (if true=true then !decide ((i:Int)∈js) else decide ((i:Int)∈js))=cc
  lk
  cases cc with
  | false =>
    k_go
    refine zb9 B2 (by omega) dk2 nbk hbk2 dv2 hl ho hem fun H'' us rs a12 a13 e1 e2 e3 e4 e5 e6=>?_
    exact⟨us,rs,_,_,_,_,rfl,But.tr bt2 e1,e2,e3,e4,e5,e6⟩
  | true =>
    x_go
    lk
    have:=B2.mle
    have nmy':my≠d:=nmy
    refine⟨d,my,may,rfl,dk2,B2.hmy,nmy,by omega,fun t ys H4 mv4 ht _ _=>?_⟩
    lk
    have b4:But [d,bk] H2' H4:=mv4.two bk
    refine zb9 (B2.but b4) (by omega) mv4.dk nbk (mv4.at hbk2 nbk) (Dvs.tupK (mv4.tupK dk2) _ _ (R7 Row.fix rs) dv2) hl ho (C6.mpr ⟨t,_,rfl,SqT.of ht,V5.mpr rfl⟩) fun H'' us rs a12 a13 e1 e2 e3 e4 e5 e6=>?_
    exact⟨us,rs,_,_,_,_,rfl,But.tr (But.tr bt2 b4) e1,e2,e3,e4,e5,e6⟩
 ·rintro σ H' ⟨us,rs,a10,a11,a12,a13,rfl,bt,dk',hbk',dv',hl,ho⟩
  lk
  refine⟨bk,us,rfl,.inl ⟨SqL.of hbk',fun t ht=>?_⟩⟩
  have st:A6 H' (upd H' t (.tup us)):=A6.new ht _
  refine q t us rs _ ⟨fun b o e nb=>?_,dk'.same st⟩ A7 (Dvs.same st _ _ dv') (by omega) (by omega) ((by rw[show((n:Int)).toNat=n by omega] at ho;exact ho:Rwk c ss kvs n rs).bks hst hss lsa n12)
  refine st _ _ (bt b o (mv8.but b o e nb) ?_)
  simp at nb ⊢
  exact⟨nb,M9 e bk0⟩
def zc0(K:Fg):TS :=
 (I0 (tBM K "str" (zm5 K) (tC (.str ("":Str))) (A2 (Z4 [some 1,some 0,none] (qm2 (A2 (tOp (W5 K) (tC (.int 1)) (B9 (E5 K) [] E0 (A2 (A4 0) (A2 (tC (.int 9)) B1)))) B1)) (B3 2) tTT (tOp (J0 K) (A4 0) (B9 (E5 K) [] E0 (A2 (A4 1) (A2 (tCB (P6 K) (A2 (A4 0) B1)) B1))))) B1)))
theorem xy0(cs:List Nat):(PySem.Txt.join ("":Str) (cs.map ch)).length=cs.length:=by
 show(PySem.Txt.join ("":Str) (cs.map ch)).cps.size=_
 rw[<-Array.length_toList,zi7]
theorem zw6(cs:List Nat):((cs.map ch).map (·.length)).sum=cs.length:=by
 induction cs with
 | nil=>rfl
 | cons c r ih=>rw[List.map_cons,List.map_cons,List.sum_cons,ih,List.length_cons];show 1+_=_;omega
variable{S:Str}
theorem xk8(dk:Dk H d)(h1:1<=S.length)(h2:S.length<=1000)(q:∀ (x:Str) (H':Hp),Mv d H H'->1<=x.length->x.length<=9->D.rt (.str x) H'):zc0 K D [some (.ref d),some (.str S)] H:=by
 unfold zc0
 lk
 refine⟨rfl,?_⟩
 lk
 refine⟨d,9,rfl,by decide,by decide,dk,fun m H1 m0 m1 mv1=>?_⟩
 lk
 refine qm6 (by omega) (by omega) (fun i ys H'=>Mv d H1 H'/\∃ cs:List Nat,ys=D4 (cs.map ch)/\cs.length=i) ⟨Mv.refl mv1.dk,[],rfl,rfl⟩ ?_ ?_ ?_
 ·rintro i ys H' hi ⟨_,cs,rfl,hl⟩
  rw[L5,List.length_map];exact D8 (by omega)
 ·rintro i ys H' hi ⟨mv,cs,rfl,hl⟩
  lk
  refine zt0 (D8 (by omega)) ?_
  lk
  refine⟨d,(S.length:Int),rfl,by omega,by omega,mv.dk,fun x H2 x0 x1 mv2=>?_⟩
  have hx:x.toNat<S.cps.toList.length:=by rw[Array.length_toList];show x.toNat<S.length;omega
  refine yw8 (D8 (by omega)) (ixI x0 (List.getElem?_eq_getElem hx)) ?_
  exact⟨mv.tr mv2,cs++[S.cps.toList[x.toNat]],by simp[D4,ch],by simp[hl]⟩
 ·rintro ys H' ⟨mv,cs,rfl,hl⟩ p hp
  lk
  refine⟨"",p,cs.map ch,rfl,rfl,.inl (SqL.of A7),?_,?_⟩
  ·rw[zw6,show("":Str).length=0 from rfl];omega
  ·exact q _ _ ((mv1.tr mv).new hp _) (by rw[xy0];omega) (by rw[xy0];omega)
abbrev xg1(K:Fg):TS :=
 (C0 (D9 (tC (.str (" !\"#$&'()*+,-./0123456789:;<=>?@ABCDEFGHIJKLMNOPQRSTUVWXYZ[\\]^_`":Str))) (B3 1))
 (D9 (tOp (W5 K) (A4 1) (tC (.str ("abcdefghijklmnopqrstuvwxyz{|}~\n":Str)))) (B3 1)))
abbrev xg2(K:Fg):TS :=
 (C0 (M0 (D7 (tOp (S4 K) (B9 (E5 K) [] E0 (A2 (A4 0) (A2 (tC (.int 2)) B1))) (tC (.int 1))))
 (xg1 K) E9)
 (zc0 K))
def qb0(K:Fg):Sp:=fun vs H Q _=>∃ (d:Addr),vs=[.ref d]/\Dk H d/\∀ (x:Str) (H':Hp),Mv d H H'->1<=x.length->x.length<=9->Q (.str x) H'
def qk4(K:Fg):TS :=
 (C0 (D9 (tC (.str ("ab <&>;l/\nZ~ 7":Str))) (B3 1))
 (xg2 K))
theorem xq8(h:qb0 K vs H Q E):qk4 K {nx:=fun _ H'=>Q .non H',rt:=Q} (G9 ["_law_deck","_law_signs"] vs) H:=by
 obtain⟨d,rfl,dk,q⟩:=h
 show qk4 K _ [some (.ref d),none] H
 unfold qk4
 lk
 refine⟨d,2,rfl,by decide,by decide,dk,fun m H1 m0 m1 mv1=>?_⟩
 lk
 have qq:∀ (x:Str) (H':Hp),Mv d H1 H'->1<=x.length->x.length<=9->Q (.str x) H':=fun x H' mv a b=>q x H' (mv1.tr mv) a b
 by_cases e:m=1
 ·rw[decide_eq_true e];refine W9 ?_
  lk
  refine yc8 (D8 (by decide +kernel)) ?_
  lk
  exact xk8 mv1.dk (by rw[xo5];decide +kernel) (by rw[xo5];decide +kernel) qq
 ·rw[decide_eq_false e];refine V4 ?_
  exact xk8 mv1.dk (by decide +kernel) (by decide +kernel) qq
theorem U4(a b:List Tr):Tr.das (a++b)=Tr.das a++Tr.das b:=by rw[O6,O6,O6,List.map_append]
def gr3(K:Fg):TS :=
 (M0 (D7 (tOp xu0 (B9 (X7 K) [] E0 (A2 (A4 1) (A2 (A4 2) (A2 (A4 8) (A2 (tOp (J0 K) (tOp (O7 K) (A4 4) (X4 (A2 (tC .non) B1))) (tOp (rI0 fun i j=>.int (i-j)) (tCB (P6 K) (A2 (A4 4) B1)) (tC (.int 1)))) B1))))) (tC .non)))
 (qh3 (tBM K "list" X8 (A4 4) (A2 (A4 8) B1))) E9)
theorem xy1(rs:List Row)(pl:List Int)(ns:List Str)(u:Tr):∀ (ts:List Tr) (k:Nat) (bs:Bool),ffs rs pl ns k bs (ts++[u])=ffs rs pl ns k bs ts++((pl++[((k+ts.length:Nat):Int)],X3 rs ns u (match ts.getLast? with|some w=>w.isTx|none=>bs))::ffk rs (pl++[((k+ts.length:Nat):Int)]) (ns++[qe7 u]) u)
 | [],k,bs=>by rw[List.nil_append,ffs,ffs,ffs,List.append_nil];rfl
 | t::ts,k,bs=>by
   rw[List.cons_append,ffs,xy1 rs pl ns u ts (k+1) t.isTx,ffs,List.cons_append,List.append_assoc,List.length_cons,show k+1+ts.length=k+(ts.length+1) by omega]
   cases ts with
   | nil=>rfl
   | cons w l=>rw[List.getLast?_cons_cons];cases h:(w::l).getLast? with|none=>simp at h|some z=>rfl
def BB:Nat->Nat
 | 0=>10
 | n+1=>1+3*BB n
theorem zc1:∀ n,10<=BB n
 | 0=>Nat.le_refl _
 | n+1=>by have:=zc1 n;rw[BB];omega
section
variable{spr:Sp}{D:U8}{d bk na p4:Addr}{m:Nat}{us vs:List V}{rs:List Row}{ns:List Str}{fv:V}{k:Int}{ts:List Tr}{u:Tr}{pv:V}{a7 a8 a9:Option V}
structure Grw(K:Fg)(H:Hp)(d bk na:Addr)(m:Nat)(us:List V)(rs:List Row)(ns:List Str):Prop where
 dk:Dk H d
 hbk:SqT K H bk us
 dvs:Dvs K H (rs.map Row.da) us
 r1:1<=rs.length
 r8:rs.length<=8
 B:BkS rs
 hna:SqT K H na (D4 ns)
 nl:ns.length+m<=50
theorem Grw.mv(G:Grw K H d bk na m us rs ns)(mv:Mv d H H'):Grw K H' d bk na m us rs ns :=
 have tk:=mv.tupK G.dk
 {G with dk:=mv.dk,hbk:=tk.sqT G.hbk,dvs:=Dvs.tupK tk _ _ (R7 Row.fix rs) G.dvs,hna:=tk.sqT G.hna}
theorem Grw.same(G:Grw K H d bk na m us rs ns)(s:A6 H H'):Grw K H' d bk na m us rs ns:=G.mv (Mv.same (Mv.refl G.dk) s)
theorem Grw.rws(G:Grw K H d bk na m us rs ns):Rws K H (.ref bk) rs:=⟨bk,us,rfl,.inr G.hbk,G.dvs⟩
structure Prt(K:Fg)(H:Hp)(p4:Addr)(m:Nat)(rs:List Row)(ns:List Str)(vs:List V)(ts:List Tr):Prop where
 h4:H p4=some (.lst vs)
 dt:Dvs K H (Tr.das ts) vs
 wt:wts ts<=ts.length*BB m
 hg:L9 ts<=m+1
 ff:∀ pl,∀ y∈ffs rs pl ns 0 false ts,y.2=none
theorem Prt.same(P:Prt K H p4 m rs ns vs ts)(s:A6 H H'):Prt K H' p4 m rs ns vs ts:={P with h4:=s _ _ P.h4,dt:=Dvs.same s _ _ P.dt}
theorem Prt.mv(P:Prt K H p4 m rs ns vs ts)(dk:Dk H d)(n:p4≠d)(s:Mv d H H'):Prt K H' p4 m rs ns vs ts:={P with h4:=s.at P.h4 n,dt:=Dvs.tupK (s.tupK dk) _ _ (Y0 ts) P.dt}
theorem Ac9(G:Grw K H d bk na m us rs ns)(P:Prt K H p4 m rs ns vs ts)(n4:p4≠d)(hl:ts.length<=10)(hpv:Dv K H u.da pv)(hw:My.wt u<=BB m)(hh:hgt u<=m+1)(hf:∀ pl,∀ y∈ffk rs pl (ns++[qe7 u]) u,y.2=none)(q:∀ (H':Hp) (vs:List V) (ts':List Tr),Grw K H' d bk na m us rs ns->Prt K H' p4 m rs ns vs ts'->ts'.length<=ts.length+1->But [d,p4] H H'->D.nx [some (.ref d),some (.ref bk),some (.ref na),some (.int ((m:Int)+1)),some (.ref p4),some fv,some (.int k),a7,some pv,a9] H') :
 gr3 K D [some (.ref d),some (.ref bk),some (.ref na),some (.int ((m:Int)+1)),some (.ref p4),some fv,some (.int k),a7,some pv,a9] H:=by
 have hvl:=O0 P.dt
 unfold gr3
 lk
 refine⟨D8 (by z_go),fun e he=>?_⟩
 have s1:=A6.new he (.lst [.non])
 have P1:=P.same s1
 refine .inl (yw6 P1.h4 A7 (by rw[hvl];exact D8 (by show _+1<=_;omega)) fun l hl2=>?_)
 have s2:=A6.new hl2 (.lst (vs++[.non]))
 have hl3:(upd (upd H e (.lst [.non])) l (.lst (vs++[.non]))) l=some (.lst (vs++[.non])):=A7
 have s12:=A6.tr s1 s2
 generalize (upd (upd H e (.lst [.non])) l (.lst (vs++[.non])))=H2 at *
 have G2:=G.same s12
 have P2:=P.same s12
 lk
 refine M8 (.inl (SqL.of P2.h4)) ?_
 lk
 have hah:∃ av,atI (vs++[V.non]) ((vs.length:Int)-1)=some av/\Ahd K H2 av (match ts.getLast? with|some w=>w.isTx|none=>false):=by
  cases ts with
  | nil =>
    have:vs=[]:=List.length_eq_zero_iff.mp hvl
    subst this
    exact⟨.non,rfl,.inl ⟨rfl,rfl⟩⟩
  | cons t0 tr =>
    have hne:(t0::tr)≠[]:=by simp
    have hlt:(t0::tr).length-1<(t0::tr).length:=by simp
    obtain⟨w,hw1,hw2⟩:=qa0 P2.dt (List.getElem?_eq_getElem hlt)
    refine⟨w,?_,.inr ⟨_,hw2,?_⟩⟩
    ·have e:((vs.length:Int)-1)=(((t0::tr).length-1:Nat):Int):=by rw[hvl,List.length_cons];omega
     rw[e]
     refine E8 ?_
     rw[List.getElem?_append_left (by rw[hvl];exact hlt)]
     exact hw1
    ·rw[List.getLast?_eq_getElem?,List.getElem?_eq_getElem hlt]
 obtain⟨av,hav1,hav2⟩:=hah
 refine R6 (SqL.of hl3) hav1 ?_
 lk
 have h50:=G.nl
 have hr8:=G.r8
 refine⟨.ref bk,na,pv,av,rs,ns,u,_,rfl,G.B,G2.rws,by omega,G2.hna,by omega,Dv.same s12 _ _ hpv,hav2,fun H3 s3=>?_⟩
 have s13:=A6.tr s12 s3
 have G3:=G.same s13
 have P3:=P.same s13
 lk
 rw[wa3]
 cases ef:X3 rs ns u (match ts.getLast? with|some w=>w.isTx|none=>false) with
 | none =>
   x_go
   lk
   refine⟨.inl ⟨rfl,_,SqL.of P3.h4⟩,?_⟩
   lk
   refine X5 P3.h4 (by rw[hvl,sizeLine_eq];omega) ?_
   have tk:=T9 (ys:=vs++[pv]) P3.h4
   refine q _ _ (ts++[u]) ⟨G3.dk.put n4 _,tk.sqT G3.hbk,Dvs.tupK tk _ _ (R7 Row.fix rs) G3.dvs,G.r1,G.r8,G.B,tk.sqT G3.hna,G.nl⟩ ⟨A7,?_,?_,?_,?_⟩ (by simp) (But.tr (A6.two d p4 s13) (But.upd (by simp) _))
   ·rw[U4]
    refine Dvs.append (Dvs.tupK tk _ _ (Y0 ts) P3.dt) ?_
    rw[Tr.das,Tr.das]
    exact Dvs.one (Dv.tupK tk _ _ (Z9 u) (Dv.same s13 _ _ hpv))
   ·have:=P.wt
    rw[Q8,wts,wts,List.length_append,List.length_singleton,Nat.add_mul];omega
   ·have:=P.hg
    rw[O2,L9,L9];omega
   ·intro pl y hy
    rw[xy1] at hy
    rcases List.mem_append.mp hy with hy|hy
    ·exact P.ff pl y hy
    ·rcases List.mem_cons.mp hy with rfl|hy
     ·exact ef
     ·exact hf _ y hy
 | some r =>
   k_go
   lk
   exact q _ _ ts G3 P3 (by omega) (A6.two d p4 s13)
end
def grP(K:Fg):TS :=
 (D9 (O1 (A2 (tOp (J0 K) (A4 7) (tC (.int 0))) (A2 (A4 9) B1))) (B3 8))
abbrev ww7(K:Fg)(spr:Sp):TS :=
 (D9 (B9 spr [] E0 (A2 (A4 0) (A2 (A4 1) (A2 (tOp (O7 K) (A4 2) (O1 (A2 (tOp (J0 K) (A4 7) (tC (.int 0))) B1))) (A2 (tOp (rI0 fun i j=>.int (i-j)) (A4 3) (tC (.int 1))) B1))))) (B3 9))
abbrev ww8(K:Fg)(spr:Sp):TS :=
 (C0 (M0 (qz3 (D7 (tOp (Z2 K) (tOp (J0 K) (A4 7) (tC (.int 1))) (tC (.str ("bare":Str))))) (D7 (tOp xb8 (A4 3) (tC (.int 1)))))
 (ww7 K spr) E9)
 (grP K))
def grE(K:Fg)(spr:Sp):TS :=
 (C0 (D9 (O1 B1) (B3 9))
 (ww8 K spr))
def gr2(K:Fg)(spr:Sp):TS :=
 (C0 (M0 (qz3 (D7 (tOp (Z2 K) (tOp (J0 K) (A4 5) (tC (.int 1))) (tC (.str ("frame":Str))))) (D7 (tOp (S4 K) (B9 (E5 K) [] E0 (A2 (A4 0) (A2 (tC (.int 3)) B1))) (tC (.int 0)))))
 (D9 (B9 (qb0 K) [] E0 (A2 (A4 0) B1)) (B3 8)) (grE K spr))
 (gr3 K))
abbrev ww9(K:Fg):TS :=
 (D9 (B9 (S0 K) [] E0 (A2 (A4 1) (A2 (tOp (J0 K) (A4 5) (tC (.int 2))) B1))) (B3 7))
abbrev wx0(K:Fg)(spr:Sp):TS :=
 (C0 (M0 (D7 (tOp (S4 K) (tOp (J0 K) (A4 5) (tC (.int 1))) (tC (.str ("frame":Str)))))
 (ww9 K) E9)
 (gr2 K spr))
abbrev wx1(K:Fg)(spr:Sp):TS :=
 (C0 (D9 (tOp (J0 K) (A4 1) (B9 (E5 K) [] E0 (A2 (A4 0) (A2 (tCB (P6 K) (A2 (A4 1) B1)) B1)))) (B3 7))
 (wx0 K spr))
def zc2(K:Fg)(spr:Sp):TS :=
 (C0 (qm3 (qm2 (A2 (tOp (O7 K) (B9 (E5 K) [] E0 (A2 (A4 0) (A2 (tC (.int 4)) B1))) (tCB yj1 (A2 (tOp (S4 K) (A4 2) (O1 B1)) B1))) B1)) (B3 6)
 (wx1 K spr))
 (I0 (tCB (qo8 K) (A2 (A4 4) B1))))
section
variable{spr:Sp}{D:U8}{d bk na p4:Addr}{m:Nat}{us vs:List V}{rs:List Row}{ns:List Str}{fv rv:V}{k:Int}{ts:List Tr}{fr r:Row}{a8 a9:Option V}
def zj9(K:Fg)(spr:Sp)(d bk:Addr)(m:Nat)(us:List V)(rs:List Row)(ns:List Str):Prop:=∀ (H1:Hp) (na2:Addr) (m':Nat) (x:Str) (Q:VK),m=m'+1->Grw K H1 d bk na2 m' us rs (ns++[x])->(∀ (t:Addr) (vs:List V) (ps:List Tr) (H':Hp),Mv d H1 H'->H' t=some (.tup vs)->Dvs K H' (Tr.das ps) vs->(∀ pl,∀ y∈ffs rs pl (ns++[x]) 0 false ps,y.2=none)->wts ps<=3*BB m'->L9 ps<=m'+1->Q (.ref t) H')->spr [.ref d,.ref bk,.ref na2,.int ((m':Int)+1)] H1 Q E0
theorem Ae5(G:Grw K H d bk na m us rs ns)(hrv:Dv K H r.da rv)(hs:zj9 K spr d bk m us rs ns)(q:∀ (H':Hp) (pv:V) (u:Tr) (a9:Option V),Mv d H H'->Dv K H' u.da pv->My.wt u<=BB m->hgt u<=m+1->(∀ pl,∀ y∈ffk rs pl (ns++[qe7 u]) u,y.2=none)->D.nx [some (.ref d),some (.ref bk),some (.ref na),some (.int ((m:Int)+1)),some (.ref p4),some fv,some (.int k),some rv,some pv,a9] H') :
 grE K spr D [some (.ref d),some (.ref bk),some (.ref na),some (.int ((m:Int)+1)),some (.ref p4),some fv,some (.int k),some rv,a8,a9] H:=by
 obtain⟨rb,sv,bv,rfl,hrb,_,_⟩:=N0 hrv
 have hB:=zc1 m
 unfold grE
 lk
 refine⟨D8 (by z_go),fun e he=>?_⟩
 have s1:=A6.new he (.tup [])
 have e1:(upd H e (.tup [])) e=some (.tup []):=A7
 generalize upd H e (.tup [])=H1 at *
 have G1:=G.same s1
 have hrb1:=s1.sqT hrb
 have fin:∀ (D:U8) (H2:Hp) (ia:Addr) (is:List V) (ps:List Tr),Mv d H H2->SqT K H2 rb [.str r.name,.str r.sort,.str r.host,sv,bv]->SqT K H2 ia is->Dvs K H2 (Tr.das ps) is->(∀ pl,∀ y∈ffs rs pl (ns++[r.name]) 0 false ps,y.2=none)->1+wts ps<=BB m->L9 ps<=m->(∀ (H':Hp) (pv:V) (u:Tr) (a9:Option V),Mv d H H'->Dv K H' u.da pv->My.wt u<=BB m->hgt u<=m+1->(∀ pl,∀ y∈ffk rs pl (ns++[qe7 u]) u,y.2=none)->D.nx [some (.ref d),some (.ref bk),some (.ref na),some (.int ((m:Int)+1)),some (.ref p4),some fv,some (.int k),some (.ref rb),some pv,a9] H')->grP K D [some (.ref d),some (.ref bk),some (.ref na),some (.int ((m:Int)+1)),some (.ref p4),some fv,some (.int k),some (.ref rb),a8,some (.ref ia)] H2:=by
  intro D H2 ia is ps mv2 hr2 hi2 di hff hw hh qq
  unfold grP
  lk
  refine J9 hr2 (v:=.str r.name) (E8 (j:=0) rfl) ?_
  lk
  refine⟨D8 (by z_go),fun p hp=>?_⟩
  have s3:=A6.new hp (.tup [.str r.name,.ref ia])
  lk
  refine qq _ _ (.nd r.name ps) _ (mv2.same s3) (wt6 (SqT.of A7) (s3.sqT hi2) (Dvs.same s3 _ _ di)) (by rw[My.wt];exact hw) (by rw[hgt];omega) fun pl y hy=>?_
  rw[ffk] at hy
  exact hff pl y hy
 have nil:grP K D [some (.ref d),some (.ref bk),some (.ref na),some (.int ((m:Int)+1)),some (.ref p4),some fv,some (.int k),some (.ref rb),a8,some (.ref e)] H1:=fin D H1 e [] [] (Mv.same (Mv.refl G.dk) s1) hrb1 (SqT.of e1) (by rw[Tr.das];exact G8) (fun pl y hy=>by rw[ffs] at hy;cases hy) (by rw[wts];omega) (by rw[L9];omega) q
 lk
 refine J9 hrb1 (v:=.str r.sort) (E8 (j:=1) rfl) ?_
 lk
 by_cases hb:r.sort=("bare":Str)
 ·rw[decide_eq_true hb];refine V4 ?_
  k_go
  lk
  exact nil
 ·rw[decide_eq_false hb];refine W9 ?_
  lk
  cases m with
  | zero =>
    k_go
    lk
    exact nil
  | succ m' =>
    rw[decide_eq_true (by omega)];refine W9 ?_
    lk
    refine J9 hrb1 (v:=.str r.name) (E8 (j:=0) rfl) ?_
    lk
    refine⟨D8 (by z_go),fun c hc=>?_⟩
    have s2:=A6.new hc (.tup [.str r.name])
    have h50:=G.nl
    refine qc2 (s2.sqT G1.hna) (SqT.of A7) (by rw[L5];exact D8 (by show _+1<=_;omega)) fun na2 H3 s3 hna2=>?_
    have s23:=A6.tr s2 s3
    lk
    rw[show((m'+1:Nat):Int)+1-1=(m':Int)+1 by omega]
    have G3:=G1.same s23
    refine hs H3 na2 m' r.name _ rfl ⟨G3.dk,G3.hbk,G3.dvs,G.r1,G.r8,G.B,(by rw[<-Z8];exact hna2),by rw[List.length_append,List.length_singleton];omega⟩ fun t vs ps H4 mv4 ht dv hff hw hh=>?_
    have s13:=A6.tr s1 s23
    lk
    exact fin D H4 t vs ps (Mv.tr (Mv.same (Mv.refl G.dk) s13) mv4) ((mv4.tupK G3.dk).sqT (s23.sqT hrb1)) (SqT.of ht) dv hff (by rw[BB];omega) (by omega) q
theorem Ad0(G:Grw K H d bk na m us rs ns)(P:Prt K H p4 m rs ns vs ts)(n4:p4≠d)(hl:ts.length<=10)(hfv:Dv K H fr.da fv)(hrv:Dv K H r.da rv)(hs:zj9 K spr d bk m us rs ns)(q:∀ (H':Hp) (vs:List V) (ts':List Tr) (a8 a9:Option V),Grw K H' d bk na m us rs ns->Prt K H' p4 m rs ns vs ts'->ts'.length<=ts.length+1->But [d,p4] H H'->D.nx [some (.ref d),some (.ref bk),some (.ref na),some (.int ((m:Int)+1)),some (.ref p4),some fv,some (.int k),some rv,a8,a9] H') :
 gr2 K spr D [some (.ref d),some (.ref bk),some (.ref na),some (.int ((m:Int)+1)),some (.ref p4),some fv,some (.int k),some rv,a8,a9] H:=by
 obtain⟨fb,fsv,fbv,rfl,hfb,_,_⟩:=N0 hfv
 have hB:=zc1 m
 have els:∀ H1,Mv d H H1->grE K spr {D with nx:=gr3 K D} [some (.ref d),some (.ref bk),some (.ref na),some (.int ((m:Int)+1)),some (.ref p4),some (.ref fb),some (.int k),some rv,a8,a9] H1:=by
  intro H1 mv1
  refine Ae5 (G.mv mv1) (Dv.tupK (mv1.tupK G.dk) _ _ (Row.fix r) hrv) hs fun H2 pv u a9 mv2 hpv hw hh hf=>?_
  have mv12:=Mv.tr mv1 mv2
  exact Ac9 (G.mv mv12) (P.mv G.dk n4 mv12) n4 hl hpv hw hh hf fun H' vs ts' g p l bt=>q H' vs ts' _ _ g p l (But.tr (mv12.two p4) bt)
 unfold gr2
 lk
 refine J9 hfb (v:=.str fr.sort) (E8 (j:=1) rfl) ?_
 lk
 by_cases hf:fr.sort=("frame":Str)
 ·rw[decide_eq_true hf];refine V4 ?_
  k_go
  exact els H (Mv.refl G.dk)
 ·rw[decide_eq_false hf];refine W9 ?_
  lk
  refine⟨d,3,rfl,by decide,by decide,G.dk,fun x H1 x0 x1 mv1=>?_⟩
  lk
  by_cases hx:x=0
  ·rw[decide_eq_true hx];refine W9 ?_
   lk
   refine⟨d,rfl,mv1.dk,fun z H2 mv2 z1 z9=>?_⟩
   lk
   have mv12:=Mv.tr mv1 mv2
   exact Ac9 (u:=.tx z) (G.mv mv12) (P.mv G.dk n4 mv12) n4 hl (za2 _) (by rw[My.wt];omega) (by rw[hgt];omega) (fun pl y hy=>by rw[ffk] at hy;cases hy) fun H' vs ts' g p l bt=>q H' vs ts' _ _ g p l (But.tr (mv12.two p4) bt)
  ·rw[decide_eq_false hx];refine V4 ?_
   exact els H1 mv1
theorem zc3{a7:Option V}(G:Grw K H d bk na m us rs ns)(h4:H p4=some (.lst []))(n4:p4≠d)(hfv:Dv K H fr.da fv)(hs:zj9 K spr d bk m us rs ns)(q:∀ (t:Addr) (vs:List V) (ps:List Tr) (H':Hp),But [d,p4] H H'->Dk H' d->H' t=some (.tup vs)->Dvs K H' (Tr.das ps) vs->(∀ pl,∀ y∈ffs rs pl ns 0 false ps,y.2=none)->wts ps<=ps.length*BB m->ps.length<=3+(if ns=[] then 1 else 0)->L9 ps<=m+1->D.rt (.ref t) H') :
 zc2 K spr D [some (.ref d),some (.ref bk),some (.ref na),some (.int ((m:Int)+1)),some (.ref p4),some fv,a6,a7,a8,a9] H:=by
 have hd4:∃ xs,H d=some (.lst xs):=G.dk.lst
 unfold zc2
 lk
 refine⟨d,4,rfl,by decide,by decide,G.dk,fun x H1 x0 x1 mv1=>?_⟩
 lk
 refine⟨D8 (by z_go),fun e he=>?_⟩
 have G1:=G.mv mv1
 have s2:=A6.new he (.tup [])
 refine yw7 (d:=.tuple (sDa ns)) (e:=.tuple []) (C6.mpr ⟨na,_,rfl,s2.sqT G1.hna,V5.mpr rfl⟩) (C6.mpr ⟨e,[],rfl,SqT.of A7,G8⟩) (Nat.le_trans (Nat.min_le_right _ _) (by decide)) ?_
 rw[wi3]
 have mv2:Mv d H (upd H1 e (.tup [])):=mv1.same s2
 generalize upd H1 e (.tup [])=H2 at *
 have G2:=G1.same s2
 lk
 refine .inr ⟨ns.isEmpty,rfl,?_⟩
 refine .inl (qe6 ?_)
 lk
 obtain⟨z,ez,hz⟩:∃ z:Nat,x+(if ns.isEmpty=true then 1 else 0)=(z:Int)/\z<=3+(if ns=[] then 1 else 0):=by
  cases ns with
  | nil=>exact⟨(x+1).toNat,by simp;omega,by simp;omega⟩
  | cons _ _=>exact⟨x.toNat,by simp;omega,by simp;omega⟩
 have hz4:z<=4:=by split at hz <;> omega
 rw[ez]
 refine qm5 (by omega) (by omega) (fun i σ H'=>∃ (vs:List V) (ts:List Tr) (a6 a7 a8 a9:Option V),σ=[some (.ref d),some (.ref bk),some (.ref na),some (.int ((m:Int)+1)),some (.ref p4),some fv,a6,a7,a8,a9]/\Grw K H' d bk na m us rs ns/\Prt K H' p4 m rs ns vs ts/\ts.length<=i/\But [d,p4] H H') ⟨[],[],_,_,_,_,rfl,G2,⟨mv2.at h4 n4,by rw[Tr.das];exact G8,by rw[wts];omega,by rw[L9];omega,fun pl y hy=>by rw[ffs] at hy;cases hy⟩,by simp,mv2.two p4⟩ ?_ ?_
 ·rintro i σ H' hi ⟨vs,ts,a6,a7,a8,a9,rfl,G',P',hl',bt⟩
  have hr1:=G.r1
  have hr8:=G.r8
  have hul:us.length=rs.length:=by have:=G'.dvs.length;rw[List.length_map] at this;exact this
  obtain⟨xs,hd4⟩:=hd4
  have fv':=Dv.tupK (But.two bt hd4 h4) _ _ (Row.fix fr) hfv
  lk
  refine M8 (.inr G'.hbk) ?_
  lk
  refine⟨d,(us.length:Int),rfl,by omega,by omega,G'.dk,fun y H3 y0 y1 mv3=>?_⟩
  have G3:=G'.mv mv3
  have P3:=P'.mv G'.dk n4 mv3
  have fv3:=Dv.tupK (mv3.tupK G'.dk) _ _ (Row.fix fr) fv'
  have hyl:y.toNat<us.length:=by omega
  refine J9 G3.hbk (ixI y0 (List.getElem?_eq_getElem hyl)) ?_
  obtain⟨dd,hd1,hd2⟩:=G3.dvs.get' (List.getElem?_eq_getElem hyl)
  rw[List.getElem?_map] at hd1
  obtain⟨r,hr,rfl⟩:=Option.map_eq_some_iff.mp hd1
  obtain⟨fb,fsv,fbv,efv,hfb,_,_⟩:=N0 fv3
  subst efv
  lk
  refine J9 hfb (v:=.str fr.sort) (E8 (j:=1) rfl) ?_
  lk
  by_cases hf:fr.sort=("frame":Str)
  ·rw[decide_eq_true hf];refine W9 ?_
   lk
   refine J9 hfb (v:=.str fr.host) (E8 (j:=2) rfl) ?_
   lk
   refine⟨.ref bk,fr.host,rs,rfl,G3.rws,fun rv H4 s4 drv=>?_⟩
   lk
   exact Ad0 (G3.same s4) (P3.same s4) n4 (by omega) (Dv.same s4 _ _ fv3) drv hs fun H5 vs ts' a8 a9 g p l bt2=>⟨vs,ts',_,_,_,_,rfl,g,p,by omega,But.tr bt (But.tr (mv3.two p4) (But.tr (A6.two d p4 s4) bt2))⟩
  ·rw[decide_eq_false hf];refine V4 ?_
   lk
   exact Ad0 G3 P3 n4 (by omega) fv3 hd2 hs fun H5 vs ts' a8 a9 g p l bt2=>⟨vs,ts',_,_,_,_,rfl,g,p,by omega,But.tr bt (But.tr (mv3.two p4) bt2)⟩
 ·rintro σ H' ⟨vs,ts,a6,a7,a8,a9,rfl,G',P',hl',bt⟩
  lk
  refine⟨p4,vs,rfl,.inl ⟨SqL.of P'.h4,fun t ht=>?_⟩⟩
  have st:=A6.new ht (.tup vs)
  exact q t vs ts _ (But.tr bt (A6.two d p4 st)) (G'.dk.same st) A7 (Dvs.same st _ _ P'.dt) P'.ff P'.wt (by omega) P'.hg
end
abbrev wx2(K:Fg):TS :=
 (D9 (B9 (S0 K) [] E0 (A2 (A4 1) (A2 (tOp (J0 K) (A4 2) (tUn (rU fun i=>.int (-i)) (tC (.int 1)))) B1))) (B3 5))
abbrev wx3(K:Fg)(spr:Sp):TS :=
 (C0 (M0 (D7 (tOp (Z2 K) (A4 2) (O1 B1)))
 (wx2 K) E9)
 (zc2 K spr))
abbrev wm9(K:Fg)(spr:Sp):TS :=
 (C0 (D9 (O1 (A2 (tC (.str ("":Str))) (A2 (tC (.str ("":Str))) (A2 (tC (.str ("":Str))) (A2 (O1 B1) (A2 (O1 B1) B1)))))) (B3 5))
 (wx3 K spr))
def V2(n:Nat)(K:Fg):Sp:=fun vs H Q _=>∃ (d bk na:Addr) (m:Nat) (us:List V) (rs:List Row) (ns:List Str),vs=[.ref d,.ref bk,.ref na,.int ((m:Int)+1)]/\Grw K H d bk na m us rs ns/\m<=n/\∀ (t:Addr) (vs:List V) (ps:List Tr) (H':Hp),Mv d H H'->H' t=some (.tup vs)->Dvs K H' (Tr.das ps) vs->(∀ pl,∀ y∈ffs rs pl ns 0 false ps,y.2=none)->wts ps<=ps.length*BB m->ps.length<=3+(if ns=[] then 1 else 0)->L9 ps<=m+1->Q (.ref t) H'
def ql7(K:Fg):Sp:=V2 6 K
def R4(K:Fg):Nat->Sp
 | 0=>fun _ _ _ _=>False
 | n+1=>V2 n K
def qb1(K:Fg)(spr:Sp):TS :=
 (C0 (D9 (X4 B1) (B3 4))
 (wm9 K spr))
theorem qy0(n:Nat)(h:V2 n K vs H Q E):qb1 K (R4 K n) {nx:=fun _ H'=>Q .non H',rt:=Q} (G9 ["_law_deck","_law_book_here","_law_names","_law_deep","_law_parts","_law_frame","_law_k","_law_row_here","_law_part","_law_inner"] vs) H:=by
 obtain⟨d,bk,na,m,us,rs,ns,rfl,G,hm,q⟩:=h
 show qb1 K _ _ [some (.ref d),some (.ref bk),some (.ref na),some (.int ((m:Int)+1)),none,none,none,none,none,none] H
 have hs:zj9 K (R4 K n) d bk m us rs ns:=by
  intro H1 na2 m' x Q' em G1 qq
  cases n with
  | zero=>omega
  | succ n =>
    refine⟨d,bk,na2,m',us,rs,ns++[x],rfl,G1,by omega,fun t vs ps H' h1 h2 h3 h4 h5 h6 h7=>qq t vs ps H' h1 h2 h3 h4 ?_ h7⟩
    rw[if_neg (yl5 _ _)] at h6
    exact Nat.le_trans h5 (Nat.mul_le_mul_right _ h6)
 unfold qb1
 lk
 refine⟨D8 (by z_go),fun p4 hp4=>?_⟩
 have s0:=A6.new hp4 (.lst [])
 have e0:(upd H p4 (.lst [])) p4=some (.lst []):=A7
 have n4:=G.dk.ne hp4
 generalize upd H p4 (.lst [])=H0 at *
 have fin:∀ (t:Addr) (vs:List V) (ps:List Tr) (H1 H':Hp),A6 H H1->But [d,p4] H1 H'->Dk H' d->H' t=some (.tup vs)->Dvs K H' (Tr.das ps) vs->(∀ pl,∀ y∈ffs rs pl ns 0 false ps,y.2=none)->wts ps<=ps.length*BB m->ps.length<=3+(if ns=[] then 1 else 0)->L9 ps<=m+1->Q (.ref t) H':=by
  intro t vs ps H1 H' s1 bt dk' h1 h2 h3 h4 h5 h6
  refine q t vs ps H' ⟨fun c o e nc=>?_,dk'⟩ h1 h2 h3 h4 h5 h6
  refine bt c o (s1 c o e) ?_
  simp at nc ⊢
  exact⟨nc,M9 e hp4⟩
 lk
 refine⟨D8 (by z_go),fun u1 hu1=>?_⟩
 have s1:=A6.new hu1 (.tup [])
 have e1:(upd H0 u1 (.tup [])) u1=some (.tup []):=A7
 generalize upd H0 u1 (.tup [])=H1 at *
 lk
 refine⟨D8 (by z_go),fun u2 hu2=>?_⟩
 have s2:=A6.new hu2 (.tup [])
 have e2:(upd H1 u2 (.tup [])) u2=some (.tup []):=A7
 generalize upd H1 u2 (.tup [])=H2 at *
 lk
 refine⟨D8 (by z_go),fun u3 hu3=>?_⟩
 have s3:=A6.new hu3 (.tup [.str ("":Str),.str ("":Str),.str ("":Str),.ref u1,.ref u2])
 have d3:Dv K (upd H2 u3 (.tup [.str ("":Str),.str ("":Str),.str ("":Str),.ref u1,.ref u2])) zj4.da (.ref u3):=wv1 (SqT.of A7) (SqT.of (s3 _ _ (s2 _ _ e1))) (SqT.of (s3 _ _ e2))
 generalize (upd H2 u3 (.tup [.str ("":Str),.str ("":Str),.str ("":Str),.ref u1,.ref u2]))=H3 at *
 lk
 refine⟨D8 (by z_go),fun e he=>?_⟩
 have s4:=A6.new he (.tup [])
 have s04:=A6.tr s1 (A6.tr s2 (A6.tr s3 s4))
 have sH4:=A6.tr s0 s04
 have G4:=G.same sH4
 refine xj7 (d:=.tuple (sDa ns)) (e:=.tuple []) (C6.mpr ⟨na,_,rfl,G4.hna,V5.mpr rfl⟩) (C6.mpr ⟨e,[],rfl,SqT.of A7,G8⟩) (Nat.le_trans (Nat.min_le_right _ _) (by decide)) ?_
 rw[wi3]
 have e4:=s04 _ _ e0
 have d4:=Dv.same s4 _ _ d3
 generalize upd H3 e (.tup [])=H4 at *
 lk
 by_cases hn:ns=[]
 ·have e0:(!ns.isEmpty)=false:=by rw[hn];rfl
  rw[e0]
  k_go
  lk
  exact zc3 G4 e4 n4 d4 hs fun t vs ps H'=>fin t vs ps H4 H' sH4
 ·have e0:(!ns.isEmpty)=true:=by cases ns with|nil=>exact absurd rfl hn|cons _ _=>rfl
  rw[e0]
  x_go
  lk
  refine⟨1,rfl,?_⟩
  obtain⟨xs,x,ex⟩:∃ xs x,ns=xs++[x]:=⟨ns.dropLast,ns.getLast hn,(List.dropLast_concat_getLast hn).symm⟩
  refine J9 G4.hna (v:=.str x) (Q0 (n:=xs.length) (by rw[L5,ex];simp) (by rw[ex,X9 (by simp)];simp)) ?_
  lk
  refine⟨.ref bk,x,rs,rfl,G4.rws,fun fv H5 s5 dfv=>?_⟩
  lk
  exact zc3 (G4.same s5) (s5 _ _ e4) n4 dfv hs fun t vs ps H'=>fin t vs ps H5 H' (A6.tr sH4 s5)
theorem xy2:∀ {q:List Int} {t:Tr},way t q=none->∃ (q1:List Int) (k:Int) (r:List Int) (ws:List Tr) (u:Tr),q=q1++k::r/\way t q1=some (ws++[u])/\(k<0\/u.kids.length<=k.toNat)
 | [],t,h=>by rw[way] at h;cases h
 | k::q,t,h=>by
   rw[way] at h
   by_cases h0:0<=k
   ·rw[if_pos h0] at h
    cases e:t.kids[k.toNat]? with
    | none=>exact⟨[],k,q,[],t,rfl,by rw[way];rfl,.inr (by rw[List.getElem?_eq_none_iff] at e;exact e)⟩
    | some u =>
      rw[e] at h
      have h:(way u q).map (t::·)=none:=h
      have h:way u q=none:=by cases hh:way u q with|none=>rfl|some z=>rw[hh] at h;cases h
      obtain⟨q1,k',r,ws,u',rfl,h1,h2⟩:=xy2 h
      have:=yf4 (t:=t) (k:=k.toNat) e h1
      rw[show((k.toNat:Nat):Int)=k by omega] at this
      exact⟨k::q1,k',r,t::ws,u',rfl,this,h2⟩
   ·exact⟨[],k,q,[],t,rfl,by rw[way];rfl,.inl (by omega)⟩
theorem yl9{t:Tr}(h:way t q=some ws):∃ l u,ws=l++[u]:=by
 have:=V8 h
 cases e:ws.reverse with
 | nil=>simp at e;subst e;simp at this
 | cons u l=>exact⟨l.reverse,u,by have:=congrArg List.reverse e;simpa using this⟩
mutual
theorem ym0(t:Tr)(q:List Int)(ns ab:List Str)(ws:List Tr):∀ p:Tr,way t q=some (ws++[p])->∀ y∈wkT q ns ab p,∃ ws',way t y.1=some (ws'++[y.2.2])
 | .tx s,hw,y,hy=>by rw[wkT,List.mem_singleton] at hy;subst hy;exact⟨ws,hw⟩
 | .nd n ps,hw,y,hy=>by
   rw[wkT,List.mem_cons] at hy
   rcases hy with rfl|hy
   ·exact⟨ws,hw⟩
   ·exact ym1 t q ab ws (.nd n ps) hw [] ps rfl 0 rfl y hy
theorem ym1(t:Tr)(q:List Int)(ab:List Str)(ws:List Tr)(p:Tr)(hw:way t q=some (ws++[p])):∀ (done ts:List Tr),p.kids=done++ts->∀ k:Nat,k=done.length->∀ y∈wkS q ab k ts,∃ ws',way t y.1=some (ws'++[y.2.2])
 | done,[],_,k,_,y,hy=>by rw[wkS] at hy;cases hy
 | done,u::us,hk,k,hl,y,hy=>by
   have ek:p.kids[k]?=some u:=by rw[hk,hl];simp
   rw[wkS,List.mem_append] at hy
   rcases hy with hy|hy
   ·exact ym0 t _ _ _ (ws++[p]) u (qn3 hw ek) y hy
   ·exact ym1 t q ab ws p hw (done++[u]) us (by rw[hk];simp) (k+1) (by simp[hl]) y hy
end
theorem zw7{t:Tr}{y:T3}(h:y∈wk ([],[],t)):∃ ws,way t y.1=some (ws++[y.2.2]):=ym0 t [] [] [] [] t (by rw[way];rfl) y h
theorem qu6{m:Int}(h:0<=m):qb8 xs none (some m)=xs.take m.toNat:=by
 unfold qb8
 show(xs.drop 0).take (HT.sIx xs.length xs.length (some m)-0)=_
 rw[List.drop_zero,Nat.sub_zero]
 have e:HT.sIx xs.length xs.length (some m)=min m.toNat xs.length:=by
  show(if m<0 then _ else min m.toNat xs.length)=_
  rw[if_neg (by omega)]
 rw[e]
 by_cases hl:m.toNat<=xs.length
 ·rw[Nat.min_eq_left hl]
 ·rw[Nat.min_eq_right (by omega),List.take_length,List.take_of_length_le (by omega)]
theorem qu7{m:Int}(h:0<=m):qb8 xs (some m) none=xs.drop m.toNat:=by
 unfold qb8
 have e:HT.sIx xs.length 0 (some m)=min m.toNat xs.length:=by
  show(if m<0 then _ else min m.toNat xs.length)=_
  rw[if_neg (by omega)]
 show(xs.drop (HT.sIx xs.length 0 (some m))).take (xs.length-HT.sIx xs.length 0 (some m))=_
 rw[e]
 by_cases hl:m.toNat<=xs.length
 ·rw[Nat.min_eq_left hl,List.take_of_length_le (by rw[List.length_drop];exact Nat.le_refl _)]
 ·rw[Nat.min_eq_right (by omega),List.drop_length,List.drop_eq_nil_of_le (by omega),List.take_nil]
theorem qi2:∀ {ds:List PyData} {us:List V} (k:Nat),Dvs K H ds us->Dvs K H (ds.take k) (us.take k)
 | _,_,0,_=>by rw[List.take_zero,List.take_zero];exact G8
 | [],us,k+1,h=>by rw[Dvs] at h;subst h;exact G8
 | d::ds,us,k+1,h=>by rw[Dvs] at h;obtain⟨v,r,rfl,h1,h2⟩:=h;exact I9 h1 (qi2 k h2)
theorem qi3:∀ {ds:List PyData} {us:List V} (k:Nat),Dvs K H ds us->Dvs K H (ds.drop k) (us.drop k)
 | _,_,0,h=>by rw[List.drop_zero,List.drop_zero];exact h
 | [],us,k+1,h=>by rw[Dvs] at h;subst h;exact G8
 | d::ds,us,k+1,h=>by rw[Dvs] at h;obtain⟨v,r,rfl,h1,h2⟩:=h;exact qi3 k h2
theorem qn4(ts:List Tr)(k:Nat):Tr.das (ts.take k)=(Tr.das ts).take k:=by rw[O6,O6,List.map_take]
theorem qn5(ts:List Tr)(k:Nat):Tr.das (ts.drop k)=(Tr.das ts).drop k:=by rw[O6,O6,List.map_drop]
def R1:Tr->List Int->List Tr->Tr
 | .tx s,_,_=>.tx s
 | .nd n _,[],ps=>.nd n ps
 | .nd n qs,k::pl,ps=>.nd n (qs.take k.toNat++[R1 ((qs[k.toNat]?).getD (.tx "")) pl ps]++qs.drop (k.toNat+1))
theorem xq9:∀ (pl:List Int) (t u:Tr) (ws ps:List Tr),way t pl=some (ws++[u])->u.isTx=false->wt (R1 t pl ps)+wts u.kids=wt t+wts ps
 | [],t,u,ws,ps,h,hu=>by
   rw[way] at h
   have:t=u:=by simpa using congrArg List.getLast? (Option.some.inj h)
   subst this
   cases t with
   | tx s=>cases hu
   | nd n qs=>rw[R1,wt,wt];show 1+wts ps+wts qs=1+wts qs+wts ps;omega
 | k :: pl,t,u,ws,ps,h,hu=>by
   obtain⟨h0,w,ws',h1,h2,h3⟩:=R9 h
   cases t with
   | tx s=>cases h1
   | nd n qs =>
     have h1:qs[k.toNat]?=some w:=h1
     obtain⟨hl,e⟩:=List.getElem?_eq_some_iff.mp h1
     obtain⟨l,hl2⟩:∃ l,ws'=l++[u]:=by
      cases ws with
      | nil=>injection h3 with _ h3;subst h3;have:=V8 h2;simp at this
      | cons a l=>injection h3 with _ h3;exact⟨l,h3.symm⟩
     rw[hl2] at h2
     have ih:=xq9 pl w u l ps h2 hu
     rw[R1,h1,wt,wt,Q8,Q8,wts,wts]
     have e2:qs=qs.take k.toNat++w::qs.drop (k.toNat+1):=by
      conv=>lhs;rw[<-List.take_append_drop k.toNat qs]
      rw[List.drop_eq_getElem_cons hl,e]
     have e3:wts qs=wts (qs.take k.toNat)+(wt w+wts (qs.drop (k.toNat+1))):=by
      conv=>lhs;rw[e2]
      rw[Q8,wts]
     show 1+(wts (qs.take k.toNat)+(wt (R1 w pl ps)+0)+wts (qs.drop (k.toNat+1)))+wts u.kids=1+wts qs+wts ps
     omega
theorem wp4:∀ {pl:List Int} {t u:Tr} {ws:List Tr},way t pl=some (ws++[u])->pl.length+hgt u<=hgt t
 | [],t,u,ws,h=>by
   rw[way] at h
   have:t=u:=by simpa using congrArg List.getLast? (Option.some.inj h)
   subst this;simp
 | k :: pl,t,u,ws,h=>by
   obtain⟨h0,w,ws',h1,h2,h3⟩:=R9 h
   obtain⟨l,hl2⟩:∃ l,ws'=l++[u]:=by
    cases ws with
    | nil=>injection h3 with _ h3;subst h3;have:=V8 h2;simp at this
    | cons a l=>injection h3 with _ h3;exact⟨l,h3.symm⟩
   rw[hl2] at h2
   have ih:=wp4 h2
   cases t with
   | tx s=>cases h1
   | nd n qs =>
     have h1:qs[k.toNat]?=some w:=h1
     have:∀ {l:List Tr} {i:Nat},l[i]?=some w->hgt w<=L9 l:=by
      intro l
      induction l with
      | nil=>intro i h;simp at h
      | cons a l ih =>
        intro i h
        rw[L9]
        cases i with
        | zero=>cases h;omega
        | succ i=>have:=ih (i:=i) (by simpa using h);omega
     have:=this h1
     rw[hgt,List.length_cons];omega
theorem qh1(k:Nat)(ts:List Tr):L9 (ts.take k)<=L9 ts:=by
 have:=O2 (ts.take k) (ts.drop k)
 rw[List.take_append_drop] at this;omega
theorem qh2(k:Nat)(ts:List Tr):L9 (ts.drop k)<=L9 ts:=by
 have:=O2 (ts.take k) (ts.drop k)
 rw[List.take_append_drop] at this;omega
theorem wp5(k:Nat)(ts:List Tr):wts (ts.take k)+wts (ts.drop k)=wts ts:=by
 have:=Q8 (ts.take k) (ts.drop k)
 rw[List.take_append_drop] at this;omega
theorem wx4:∀ (pl:List Int) (t u:Tr) (ws ps:List Tr),way t pl=some (ws++[u])->u.isTx=false->hgt (R1 t pl ps)<=max (hgt t) (pl.length+1+L9 ps)
 | [],t,u,ws,ps,h,hu=>by
   rw[way] at h
   have:t=u:=by simpa using congrArg List.getLast? (Option.some.inj h)
   subst this
   cases t with
   | tx s=>cases hu
   | nd n qs=>rw[R1,hgt,List.length_nil];omega
 | k :: pl,t,u,ws,ps,h,hu=>by
   obtain⟨h0,w,ws',h1,h2,h3⟩:=R9 h
   cases t with
   | tx s=>cases h1
   | nd n qs =>
     have h1:qs[k.toNat]?=some w:=h1
     obtain⟨l,hl2⟩:∃ l,ws'=l++[u]:=by
      cases ws with
      | nil=>injection h3 with _ h3;subst h3;have:=V8 h2;simp at this
      | cons a l=>injection h3 with _ h3;exact⟨l,h3.symm⟩
     rw[hl2] at h2
     have ih:=wx4 pl w u l ps h2 hu
     have hw:hgt w<=L9 qs:=by
      have e:=O2 (qs.take k.toNat) (qs.drop k.toNat)
      rw[List.take_append_drop] at e
      obtain⟨hl,e1⟩:=List.getElem?_eq_some_iff.mp h1
      rw[List.drop_eq_getElem_cons hl,L9,e1] at e
      omega
     have a1:=qh1 k.toNat qs
     have a2:=qh2 (k.toNat+1) qs
     rw[R1,h1,hgt,hgt,O2,O2,L9,L9,List.length_cons]
     show 1+max (max (L9 (qs.take k.toNat)) (max (hgt (R1 w pl ps)) 0)) (L9 (qs.drop (k.toNat+1)))<=_
     omega
theorem wp6{t:Tr}(h:way t pl=some (ws++[u]))(ht:t.isTx=false):(R1 t pl ps).isTx=false:=by
 cases t with
 | tx s=>cases ht
 | nd n qs=>cases pl with|nil=>rfl|cons k pl=>rfl
theorem qi4{a:Str}(h:some a=some r)(k:a.length<=100):r.length<=100:=by cases h;exact k
theorem yg1{t:Tr}{bs:Bool}(h:X3 rs ns t bs=some r):r.length<=100:=by
 cases t with
 | tx s =>
   have h:wd4 rs ns s bs=some r:=h
   unfold wd4 at h
   repeat' split at h
   all_goals first|exact qi4 h (by decide)|cases h
 | nd n ps =>
   have h:wd3 rs ns n ps.length=some r:=h
   unfold wd3 at h
   split at h
   ·exact qi4 h (by decide)
   ·split at h
    ·exact qi4 h (by decide)
    ·split at h
     ·exact qi4 h (by decide)
     ·rcases xk6 rs ns n with e|e|e
      ·rw[e] at h
       have h:wk3 rs ns n=some r:=h
       unfold wk3 at h
       repeat' split at h
       all_goals first|exact qi4 h (by decide)|cases h
      ·rw[e] at h;exact qi4 h (by decide)
      ·rw[e] at h;exact qi4 h (by decide)
mutual
theorem xy3(pl:List Int):∀ (t:Tr) (p:List Int×Tr),p∈pre pl t->∀ n∈p.1,n∈pl\/n.natAbs<=wt t
 | .tx s,p,hp,n,hn=>by rw[pre,List.mem_singleton] at hp;subst hp;exact .inl hn
 | .nd m ps,p,hp,n,hn=>by
   rw[pre,List.mem_cons] at hp
   rcases hp with rfl|hp
   ·exact .inl hn
   ·refine(xk9 pl 0 ps p hp n hn).imp_right fun h=>?_
    rw[wt];omega
theorem xk9(pl:List Int)(k:Nat):∀ (ts:List Tr) (p:List Int×Tr),p∈qn1 pl k ts->∀ n∈p.1,n∈pl\/n.natAbs<=k+wts ts
 | [],p,hp,n,hn=>by rw[qn1] at hp;cases hp
 | t :: ts,p,hp,n,hn=>by
   rw[qn1,List.mem_append] at hp
   rw[wts]
   have:=za0 t
   rcases hp with hp|hp
   ·rcases xy3 _ t p hp n hn with h|h
    ·rcases List.mem_append.mp h with h|h
     ·exact .inl h
     ·rw[List.mem_singleton.mp h];exact .inr (by omega)
    ·exact .inr (by omega)
   ·exact(xk9 pl (k+1) ts p hp n hn).imp_right fun h=>by omega
end
theorem yg2(h:Q4 l=some (r,pl)):(pl,some r)∈l:=by
 unfold Q4 at h
 obtain⟨x,hx,e⟩:=List.exists_of_findSome?_eq_some h
 obtain⟨p,o⟩:=x
 cases o with
 | none=>cases e
 | some r'=>cases e;exact hx
theorem ys6{t:Tr}(h:Q4 (ffk rs [] [] t)=some (r,pl)):r.length<=100/\pl.length<=hgt t/\∀ n∈pl,n.natAbs<=wt t:=by
 have hm:=yg2 h
 obtain⟨q,k,ws,p,u,_,_,_,e⟩:=xx4 rs t _ hm
 have hp:pl∈(pre [] t).map (·.1):=by rw[xp6 rs [] [] t];exact List.mem_cons_of_mem _ (List.mem_map.mpr ⟨_,hm,rfl⟩)
 obtain⟨x,hx,rfl⟩:=List.mem_map.mp hp
 refine⟨yg1 e.symm,by have:=za3 [] t x hx;simpa using this,fun n hn=>?_⟩
 rcases xy3 [] t x hx n hn with h|h
 ·cases h
 ·exact h
def qq0(K:Fg):Sp:=fun vs H Q _=>∃ (e C p:Addr) (r:Str) (ns:List Int),vs=[.ref e,.str r,.ref p]/\H e=some (ErX e C none)/\SeI K C "rule"/\SeI K C "place"/\r.length<=4096/\SqT K H p (E4 ns)/\ns.length<=1000/\(∀ n∈ns,n.natAbs<2 ^ 200)/\∀ dx H',H dx=none->dx≠e->(∀ b,b≠dx->b≠e->H' b=H b)->H' e=some (ErX e C (some dx))->H' dx=some (.xd [("place",.ref p),("rule",.str r)])->Q .non H'
def qx0(K:Fg):TS :=
 (C0 (qh3 (zu3 K (A2 (A4 0) (A2 (zu9 K ("the tree would have the fault ":Str) (" at ":Str) (A4 1) (A4 2)) B1))))
 (C0 (zi2 K (A4 0) (A4 1) "rule")
 (xv4 K (A4 0) (A4 2) "place")))
theorem yg3(h:qq0 K vs H Q E):qx0 K {nx:=fun _ H'=>Q .non H',rt:=Q} (G9 ["self","rule","place"] vs) H:=by
 obtain⟨e,C,p,r,ns,rfl,he,s1,s2,hr,hp,hl,hb,q⟩:=h
 show qx0 K _ [some (.ref e),some (.str r),some (.ref p)] H
 unfold qx0
 refine xn4 (yj3 (zu6 ?_))
 lk
 refine zv0 ?_
 lk
 refine⟨r,rfl,hr,?_⟩
 lk
 refine⟨p,ns,rfl,hp,hl,hb,fun z=>?_⟩
 lk
 refine⟨e,C,none,_,rfl,he,s1.qi,?_⟩
 show C0 (zi2 K (A4 0) (A4 1) "rule") (xv4 K (A4 0) (A4 2) "place") _ _ _
 refine xn4 (zu7 ?_)
 lk
 refine⟨e,C,rfl,he,s1,fun dx h1 h2=>?_⟩
 show xv4 K (A4 0) (A4 2) "place" _ _ _
 refine zi6 ?_
 lk
 refine⟨e,C,dx,_,rfl,by rw[C1 (Ne.symm h2),A7],A7,by simp,s2,?_⟩
 refine q dx _ h1 h2 (fun b b1 b2=>?_) ?_ A7
 ·rw[C1 b1,C1 b1,C1 b2]
 ·rw[C1 (Ne.symm h2),C1 (Ne.symm h2),A7]
abbrev xy5(K:Fg)(k_NoPlace:Addr)(E:XK):TS :=
 (C0 (M0 (wq1 (D7 (wf7 yc7 yp5 (tC (.int 0)) (A4 3) (tCB (P6 K) (A2 (A4 4) B1)))))
 (wg1 k_NoPlace E (A2 (tC (.str ("the place leads nowhere":Str))) B1)) E9)
 (qh3 (tBM K "list" X8 (A4 2) (A2 (tOp (J0 K) (A4 4) (A4 3)) B1))))
abbrev xy6(K:Fg)(k_NoPlace:Addr)(E:XK):TS :=
 (C0 (D9 (B9 (O9 K) [] E0 (A2 (tOp (J0 K) (A4 2) (tUn (rU fun i=>.int (-i)) (tC (.int 1)))) B1)) (B3 4))
 (xy5 K k_NoPlace E))
def qq1(K:Fg)(kX:Addr):Sp:=fun vs H Q E=>∃ (t:Tr) (v:V) (a:Addr) (pl:List Int),vs=[v,.ref a]/\Dv K H t.da v/\SqT K H a (E4 pl)/\pl.length<=50000/\(∀ (p:Addr) (us:List V) (ws:List Tr) H',way t pl=some ws->A6 H H'->H' p=some (.lst us)->Dvs K H' (Tr.das ws) us->Q (.ref p) H')/\(way t pl=none->∀ H',A6 H H'->E (.ref kX) none H')
def qx1(K:Fg)(k_NoPlace:Addr)(E:XK):TS :=
 (C0 (D9 (X4 (A2 (A4 0) B1)) (B3 2))
 (C0 (qm3 (ql5 K (A4 1)) (B3 3)
 (xy6 K k_NoPlace E))
 (I0 (A4 2))))
variable{kX:Addr}
theorem yg4(h:qq1 K kX vs H Q E):qx1 K kX E {nx:=fun _ H'=>Q .non H',rt:=Q} (G9 ["tree","place","way","number","parts"] vs) H:=by
 obtain⟨t,v,a,pl,rfl,hd,ha,hl,q0,qq⟩:=h
 show qx1 K kX E _ [some v,some (.ref a),none,none,none] H
 unfold qx1
 obtain⟨q,r,ws,u,rfl,hw,hr⟩:∃ (q r:List Int) (ws:List Tr) (u:Tr),pl=q++r/\way t q=some (ws++[u])/\(r=[]\/∃ k r',r=k::r'/\way t (q++r)=none/\(k<0\/u.kids.length<=k.toNat)):=by
  cases e:way t pl with
  | some ws=>obtain⟨l,u,rfl⟩:=yl9 e;exact⟨pl,[],l,u,by simp,e,.inl rfl⟩
  | none=>obtain⟨q,k,r,ws,u,rfl,h1,h2⟩:=xy2 e;exact⟨q,k::r,ws,u,rfl,h1,.inr ⟨k,r,rfl,e,h2⟩⟩
 have hwl:=V8 hw
 rw[List.length_append] at hl
 lk
 refine⟨D8 (by z_go),fun p hp=>?_⟩
 lk
 refine qn0 (H0:=H) (xs:=E4 (q++r)) (.inr ha) (A6.new hp _) (fun i σ H'=>i<=q.length/\∃ (us:List V) (a3 a4:Option V),σ=[some v,some (.ref a),some (.ref p),a3,a4]/\A6 H H'/\H' p=some (.lst us)/\Dvs K H' (Tr.das ((ws++[u]).take (i+1))) us) ⟨Nat.zero_le _,[v],_,_,rfl,A6.new hp _,A7,?_⟩ (fun i σ H' ⟨_,_,_,_,_,s,_⟩=>s) ?_ ?_
 ·rw[List.take_add_one,List.take_zero,wd1 hw]
  show Dvs K _ (Tr.das [t]) [v]
  rw[Tr.das,Tr.das]
  exact Dvs.one (Dv.same (A6.new hp _) _ _ hd)
 ·rintro i x σ H' hx ⟨hi,us,a3,a4,rfl,s1,hp',dv⟩
  unfold E4 at hx
  rw[List.getElem?_map] at hx
  obtain⟨k',hk',rfl⟩:=Option.map_eq_some_iff.mp hx
  have hul:us.length=i+1:=by rw[O0 dv,List.length_take];omega
  obtain⟨w,hwi,hgo⟩:∃ w,(ws++[u])[i]?=some w/\((0<=k'/\∃ z,w.kids[k'.toNat]?=some z/\(ws++[u])[i+1]?=some z/\i<q.length)\/((k'<0\/w.kids.length<=k'.toNat)/\way t (q++r)=none)):=by
   by_cases e:i<q.length
   ·have hq:q[i]?=some k':=by rw[<-hk',List.getElem?_append_left e]
    obtain⟨u',w,h1,h2,h3,h4⟩:=wd0 hw hq
    exact⟨u',h1,.inl ⟨h2,w,h3,h4,e⟩⟩
   ·obtain rfl:i=q.length:=by omega
    rw[List.getElem?_append_right (Nat.le_refl _),Nat.sub_self] at hk'
    rcases hr with rfl|⟨k,r',rfl,hn,hb⟩
    ·simp at hk'
    ·cases hk'
     have hws:ws.length=q.length:=by simpa using hwl
     exact⟨u,by rw[<-hws];simp,.inr ⟨hb,hn⟩⟩
  obtain⟨y,hy,dy⟩:=qa0 dv (i:=i) (t:=w) (by rw[List.getElem?_take_of_lt (by omega)];exact hwi)
  lk
  refine⟨1,rfl,?_⟩
  refine R6 (SqL.of hp') (Q0 hul hy) ?_
  lk
  refine⟨w,y,rfl,dy,fun c ys H2 s2 hc dc=>?_⟩
  have hyl:=O0 dc
  lk
  rcases hgo with⟨h0,z,h3,h4,e⟩|⟨hb,hn⟩
  ·rw[decide_eq_true h0]
   x_go
   lk
   refine M8 (.inr hc) ?_
   have hkl:=(List.getElem?_eq_some_iff.mp h3).1
   lk
   rw[decide_eq_true (by omega)]
   k_go
   lk
   have hp2:=s2 _ _ hp'
   refine⟨.inl ⟨rfl,_,SqL.of hp2⟩,?_⟩
   lk
   obtain⟨z',hz,dz⟩:=qa0 dc h3
   refine J9 hc (ixI h0 hz) ?_
   lk
   refine X5 hp2 (by rw[sizeLine_eq];omega) ?_
   have tk:qe3 H2 (upd H2 p (.lst (us++[z']))):=T9 hp2
   refine⟨e,us++[z'],_,_,rfl,A6.put (A6.tr s1 s2) hp _,A7,?_⟩
   rw[List.take_add_one,h4,O6,List.map_append,<-O6]
   exact Dvs.append (Dvs.tupK tk _ _ (Y0 _) (Dvs.same s2 _ _ dv)) (Dvs.one (Dv.tupK tk _ _ (Z9 z) dz))
  ·by_cases h0:0<=k'
   ·rw[decide_eq_true h0]
    x_go
    lk
    refine M8 (.inr hc) ?_
    lk
    rw[decide_eq_false (by omega)]
    x_go
    exact⟨D8 (by z_go),qq hn H2 (A6.tr s1 s2)⟩
   ·rw[decide_eq_false h0]
    k_go
    lk
    exact⟨D8 (by z_go),qq hn H2 (A6.tr s1 s2)⟩
 ·rintro σ H' ⟨hi,us,a3,a4,rfl,s1,hp',dv⟩
  rw[L8,List.length_append] at hi
  lk
  obtain rfl:r=[]:=List.eq_nil_of_length_eq_zero (by omega)
  rw[List.take_of_length_le (by rw[L8,List.append_nil];omega)] at dv
  exact q0 p us _ H' (by rw[List.append_nil];exact hw) s1 hp' dv
def qk5(K:Fg)(kX:Addr):Sp:=fun vs H Q E=>∃ (t:Tr) (v:V) (a:Addr) (pl:List Int),vs=[v,.ref a]/\Dv K H t.da v/\SqT K H a (E4 pl)/\pl.length<=50000/\(∀ (x:V) (ws:List Tr) (u:Tr) H',way t pl=some (ws++[u])->A6 H H'->Dv K H' u.da x->Q x H')/\(way t pl=none->∀ H',A6 H H'->E (.ref kX) none H')
def qq2(K:Fg)(k_NoPlace:Addr)(E:XK):TS :=
 (I0 (tOp (J0 K) (B9 (qq1 K k_NoPlace) [] E (A2 (A4 0) (A2 (A4 1) B1))) (tUn (rU fun i=>.int (-i)) (tC (.int 1)))))
theorem xy8(h:qk5 K kX vs H Q E):qq2 K kX E {nx:=fun _ H'=>Q .non H',rt:=Q} (G9 ["tree","place"] vs) H:=by
 obtain⟨t,v,a,pl,rfl,hd,ha,hl,q0,qq⟩:=h
 show qq2 K kX E _ [some v,some (.ref a)] H
 unfold qq2
 lk
 refine⟨t,v,a,pl,rfl,hd,ha,hl,fun p us ws H' hw s1 hp dv=>?_,qq⟩
 lk
 refine⟨1,rfl,?_⟩
 obtain⟨l,u,rfl⟩:=yl9 hw
 rw[O6,List.map_append] at dv
 obtain⟨us',x,rfl,_,dx⟩:=Dvs.snoc dv
 refine R6 (SqL.of hp) (v:=x) (Q0 (n:=us'.length) (by simp) (by simp)) ?_
 exact q0 x l u H' hw s1 dx
def wx5(t:Tr)(pl:List Int)(be:Nat):Prop:=∃ (q:List Int) (k:Nat) (ws:List Tr) (u:Tr),pl=q++[(k:Int)]/\way t q=some (ws++[u])/\u.isTx=false/\k<u.kids.length+be
theorem zk0(h:pl≠[]):∃ q k,pl=q++[k]:=⟨pl.dropLast,pl.getLast h,(List.dropLast_concat_getLast h).symm⟩
abbrev wd6(K:Fg)(k_NoPlace:Addr)(E:XK):TS :=
 (C0 (M0 (tOr (tB (B9 (S1 K) [] E0 (A2 (A4 3) B1))) (wq1 (D7 (wf7 yc7 yp5 (tC (.int 0)) (tOp (J0 K) (A4 1) (tUn (rU fun i=>.int (-i)) (tC (.int 1)))) (tOp (O7 K) (tCB (P6 K) (A2 (B9 (O9 K) [] E0 (A2 (A4 3) B1)) B1)) (A4 2))))))
 (wg1 k_NoPlace E (A2 (tC (.str ("the place leads nowhere":Str))) B1)) E9)
 (I0 (B9 (O9 K) [] E0 (A2 (A4 3) B1))))
abbrev wd7(K:Fg)(k_NoPlace:Addr)(E:XK):TS :=
 (C0 (D9 (B9 (qk5 K k_NoPlace) [] E (A2 (A4 0) (A2 (tSl (qh5 K) (A4 1) N9 (S6 (tUn (rU fun i=>.int (-i)) (tC (.int 1))))) B1))) (B3 3))
 (wd6 K k_NoPlace E))
def O4(K:Fg)(kX:Addr):Sp:=fun vs H Q E=>∃ (t:Tr) (v:V) (a:Addr) (pl:List Int) (be:Nat),vs=[v,.ref a,.int be]/\Dv K H t.da v/\SqT K H a (E4 pl)/\pl.length<=50000/\(∀ (q:List Int) (k:Nat) (ws:List Tr) (u:Tr) (p:Addr) (us:List V) H',pl=q++[(k:Int)]->way t q=some (ws++[u])->u.isTx=false->k<u.kids.length+be->A6 H H'->SqT K H' p us->Dvs K H' (Tr.das u.kids) us->Q (.ref p) H')/\(¬wx5 t pl be->∀ H',A6 H H'->E (.ref kX) none H')
def Y4(K:Fg)(k_NoPlace:Addr)(E:XK):TS :=
 (C0 (M0 (D7 (tOp (S4 K) (tCB (P6 K) (A2 (A4 1) B1)) (tC (.int 0))))
 (wg1 k_NoPlace E (A2 (tC (.str ("the root lies among no parts":Str))) B1)) E9)
 (wd7 K k_NoPlace E))
theorem wi5(h:O4 K kX vs H Q E):Y4 K kX E {nx:=fun _ H'=>Q .non H',rt:=Q} (G9 ["tree","place","beyond","above"] vs) H:=by
 obtain⟨t,v,a,pl,be,rfl,hd,ha,hl,q0,qq⟩:=h
 show Y4 K kX E _ [some v,some (.ref a),some (.int be),none] H
 unfold Y4
 lk
 refine M8 (.inr ha) ?_
 rw[L8]
 lk
 by_cases hn:pl=[]
 ·subst hn
  rw[decide_eq_true (by simp)]
  x_go
  refine⟨D8 (by z_go),qq ?_ H (fun _ _ e=>e)⟩
  rintro⟨q,k,_,_,e,_⟩
  exact absurd e.symm (by simp)
 obtain⟨q,k,rfl⟩:=zk0 hn
 rw[decide_eq_false (by rw[List.length_append];show ¬_;simp;omega)]
 k_go
 lk
 rw[List.length_append] at hl
 refine⟨1,rfl,?_⟩
 lk
 refine Z6 ha fun c H1 s1 hc=>?_
 rw[N1,qi1] at hc
 lk
 refine⟨t,v,c,q,rfl,Dv.same s1 _ _ hd,hc,by omega,fun x ws u H2 hw s2 dx=>?_,fun hn H2 s2=>qq ?_ H2 (A6.tr s1 s2)⟩
 ·have s12:=A6.tr s1 s2
  have ha:=s12.sqT ha
  lk
  refine⟨u,x,rfl,dx,?_⟩
  cases hu:u.isTx with
  | true =>
    lk
    refine⟨D8 (by z_go),qq ?_ H2 s12⟩
    rintro⟨q',k',ws',u',e,h1,h2,_⟩
    obtain⟨rfl,_⟩:=List.append_inj' e rfl
    rw[hw] at h1
    have:=congrArg List.getLast? (Option.some.inj h1)
    simp at this
    subst this
    rw[hu] at h2;cases h2
  | false =>
    lk
    refine⟨1,rfl,?_⟩
    refine J9 ha (v:=.int k) (by rw[N1];exact Q0 (n:=q.length) (by simp[E4]) (by simp[E4])) ?_
    lk
    by_cases h0:0<=k
    ·rw[decide_eq_true h0]
     x_go
     lk
     refine⟨u,x,rfl,dx,fun c2 ys H3 s3 hc2 dc=>?_⟩
     have hyl:=O0 dc
     lk
     refine M8 (.inr hc2) ?_
     lk
     refine .inl (qe6 ?_)
     lk
     by_cases h1:k<(ys.length:Int)+be
     ·rw[decide_eq_true h1]
      k_go
      lk
      refine⟨u,x,rfl,Dv.same s3 _ _ dx,fun c4 zs H4 s4 hc4 d4=>?_⟩
      exact q0 q k.toNat ws u c4 zs H4 (by rw[show((k.toNat:Nat):Int)=k by omega]) hw hu (by omega) (A6.tr s12 (A6.tr s3 s4)) hc4 d4
     ·rw[decide_eq_false h1]
      x_go
      refine⟨D8 (by z_go),qq ?_ H3 (A6.tr s12 s3)⟩
      rintro⟨q',k',ws',u',e,h2,h3,h4⟩
      obtain⟨rfl,e2⟩:=List.append_inj' e rfl
      cases e2
      rw[hw] at h2
      have:=congrArg List.getLast? (Option.some.inj h2)
      simp at this
      subst this
      omega
    ·rw[decide_eq_false h0]
     k_go
     lk
     refine⟨D8 (by z_go),qq ?_ H2 s12⟩
     rintro⟨q',k',ws',u',e,h2,h3,h4⟩
     obtain⟨rfl,e2⟩:=List.append_inj' e rfl
     cases e2
     omega
 ·rintro⟨q',k',ws',u',e,h2,h3,h4⟩
  obtain⟨rfl,e2⟩:=List.append_inj' e rfl
  rw[hn] at h2;cases h2
theorem yg5{w:Tr}:∀ {l:List Tr} {i:Nat},l[i]?=some w->wt w<=wts l
 | [],i,h=>by simp at h
 | a::l,0,h=>by cases h;rw[wts];omega
 | a::l,i+1,h=>by have:=yg5 (l:=l) (i:=i) (by simpa using h);rw[wts];omega
variable{w:Tr}
theorem zk1{t:Tr}(h:t.kids[i]?=some w):wt w<=wt t:=by
 cases t with
 | tx s=>cases h
 | nd n ps=>have:=yg5 (l:=ps) h;rw[wt];omega
theorem qu8:∀ {pl:List Int} {t w:Tr} {ws:List Tr} {i:Nat},way t pl=some ws->ws[i]?=some w->wt w<=wt t
 | [],t,w,ws,i,h,e=>by
   rw[way] at h;cases h
   cases i with
   | zero=>cases e;exact Nat.le_refl _
   | succ i=>simp at e
 | k::pl,t,w,ws,i,h,e=>by
   obtain⟨h0,u,ws',h1,h2,rfl⟩:=R9 h
   cases i with
   | zero=>cases e;exact Nat.le_refl _
   | succ i=>exact Nat.le_trans (qu8 h2 (by simpa using e)) (zk1 h1)
theorem qg0{t:Tr}(h:t.isTx=false):wt t=1+wts t.kids/\hgt t=1+L9 t.kids:=by
 cases t with
 | tx s=>cases h
 | nd n ps=>exact⟨by rw[wt];rfl,by rw[hgt];rfl⟩
theorem zc4{k:Nat}(h:k<=m)(h2:m<=xs.length):qb8 xs (some (k:Int)) (some (m:Int))=(xs.drop k).take (m-k):=by
 unfold qb8
 have e1:HT.sIx xs.length 0 (some (k:Int))=k:=by
  generalize hz:(k:Int)=z
  show(if z<0 then _ else min z.toNat xs.length)=_
  rw[if_neg (by omega)];omega
 have e2:HT.sIx xs.length xs.length (some (m:Int))=m:=by
  generalize hz:(m:Int)=z
  show(if z<0 then _ else min z.toNat xs.length)=_
  rw[if_neg (by omega)];omega
 rw[e1,e2]
theorem qi5{t u':Tr}{ws':List Tr}(h:way t q=some (ws++[u]))(h':way t q=some (ws'++[u'])):u=u':=by
 rw[h] at h'
 have:=congrArg List.getLast? (Option.some.inj h')
 simpa using this
abbrev wx6(K:Fg):TS :=
 (D9 (O1 (A2 (B9 (T8 K) [] E0 (A2 (tOp (J0 K) (A4 3) (A4 5)) B1)) (A2 (tOp (O7 K) (tOp (O7 K) (tSl (qh5 K) (A4 7) N9 (S6 (A4 6))) (O1 (A2 (A4 4) B1))) (tSl (qh5 K) (A4 7) (S6 (tOp (O7 K) (A4 6) (tC (.int 1)))) N9)) B1))) (B3 4))
abbrev wx7(K:Fg):TS :=
 (C0 (D9 (B9 (O9 K) [] E0 (A2 (tOp (J0 K) (A4 3) (A4 5)) B1)) (B3 7))
 (wx6 K))
abbrev wx8(K:Fg):TS :=
 (C0 (qm3 (yj6 (A2 (tOp (rI0 fun i j=>.int (i-j)) (tCB (P6 K) (A2 (A4 1) B1)) (tC (.int 1))) (A2 (tUn (rU fun i=>.int (-i)) (tC (.int 1))) (A2 (tUn (rU fun i=>.int (-i)) (tC (.int 1))) B1)))) (B3 5)
 (C0 (D9 (tOp (J0 K) (A4 1) (A4 5)) (B3 6))
 (wx7 K)))
 (I0 (A4 4)))
abbrev wx9(K:Fg):TS :=
 (C0 (D9 (O1 (A2 (B9 (T8 K) [] E0 (A2 (tOp (J0 K) (A4 3) (tUn (rU fun i=>.int (-i)) (tC (.int 1)))) B1)) (A2 (A4 2) B1))) (B3 4))
 (wx8 K))
def Q1(K:Fg):Sp:=fun vs H Q _=>∃ (t u:Tr) (v:V) (a b:Addr) (q:List Int) (ws ps:List Tr) (us:List V),vs=[v,.ref a,.ref b]/\Dv K H t.da v/\SqT K H a (E4 q)/\way t q=some (ws++[u])/\u.isTx=false/\SqT K H b us/\Dvs K H (Tr.das ps) us/\wt t<=30000/\q.length<=50000/\∀ (x:V) (H':Hp),A6 H H'->Dv K H' (R1 t q ps).da x->Q x H'
def qg1(K:Fg):TS :=
 (C0 (D9 (B9 (qh0 K) [] E0 (A2 (A4 0) (A2 (A4 1) B1))) (B3 3))
 (wx9 K))
theorem xg4(h:Q1 K vs H Q E):qg1 K {nx:=fun _ H'=>Q .non H',rt:=Q} (G9 ["tree","place","parts","way","part","level","number","beside"] vs) H:=by
 obtain⟨t,u,v,a,b,q,ws,ps,us,rfl,hd,ha,hw,hu,hb,dp,hz,hl,qq⟩:=h
 show qg1 K _ [some v,some (.ref a),some (.ref b),none,none,none,none,none] H
 unfold qg1
 have hwl:ws.length=q.length:=by simpa using V8 hw
 lk
 refine⟨t,v,a,q,ws++[u],rfl,hd,ha,hw,hl,fun p us' H1 s1 hp dv=>?_⟩
 have hul:=O0 dv
 rw[List.length_append] at hul
 lk
 refine⟨1,rfl,?_⟩
 obtain⟨y,hy,dy⟩:=qa0 dv (i:=q.length) (t:=u) (by rw[<-hwl];simp)
 refine R6 (SqL.of hp) (Q0 (n:=q.length) (by rw[hul,hwl];rfl) hy) ?_
 lk
 cases u with
 | tx s=>cases hu
 | nd n ks =>
   refine⟨n,ks,y,rfl,dy,?_⟩
   lk
   refine⟨D8 (by z_go),fun c hc=>?_⟩
   have s2:=A6.new hc (.tup [.str n,.ref b])
   have e2:(upd H1 c (.tup [.str n,.ref b])) c=some (.tup [.str n,.ref b]):=A7
   generalize upd H1 c (.tup [.str n,.ref b])=H2 at *
   have s12:=A6.tr s1 s2
   have dn:Dv K H2 (Tr.nd n ps).da (.ref c):=wt6 (SqT.of e2) (s12.sqT hb) (Dvs.same s12 _ _ dp)
   have dv:=Dvs.same s2 _ _ dv
   have hp:=s2 _ _ hp
   have ha:=s12.sqT ha
   lk
   refine M8 (.inr ha) ?_
   rw[L8]
   lk
   refine⟨1,rfl,?_⟩
   lk
   refine⟨1,rfl,?_⟩
   lk
   refine yy1 (n:=q.length) (by omega) (fun i σ H'=>∃ (x:V) (a5 a6 a7:Option V),σ=[some v,some (.ref a),some (.ref b),some (.ref p),some x,a5,a6,a7]/\A6 H2 H'/\∃ w,(ws++[Tr.nd n ks])[q.length-i]?=some w/\Dv K H' (R1 w (q.drop (q.length-i)) ps).da x) ⟨_,_,_,_,rfl,fun _ _ e=>e,.nd n ks,by rw[<-hwl];simp,by rw[Nat.sub_zero,List.drop_length,R1];exact dn⟩ ?_ ?_
   ·rintro i σ H' hi ⟨x,a5,a6,a7,rfl,s3,w,hwi,dx⟩
    obtain⟨j,hj⟩:∃ j,q.length=j+1+i:=⟨q.length-1-i,by omega⟩
    have hjl:j<q.length:=by omega
    rw[show q.length-i=j+1 by omega] at hwi dx
    have ej:((q.length:Int)-1-i)=(j:Int):=by omega
    obtain⟨k,hk⟩:∃ k,q[j]?=some k:=⟨_,List.getElem?_eq_getElem hjl⟩
    obtain⟨u',w',h1,h2,h3,h4⟩:=wd0 hw hk
    obtain rfl:w=w':=by rw[hwi] at h4;exact Option.some.inj h4
    have hwt:=qu8 hw h1
    obtain⟨y,hy,dy⟩:=qa0 (Dvs.same s3 _ _ dv) h1
    have hp:=s3 _ _ hp
    have ha:=s3.sqT ha
    rw[ej]
    lk
    refine J9 ha (v:=.int k) (ixI (by omega) (by rw[Int.toNat_natCast];unfold E4;rw[List.getElem?_map,hk];rfl)) ?_
    lk
    refine R6 (SqL.of hp) (ixI (by omega) (by rw[Int.toNat_natCast];exact hy)) ?_
    lk
    refine⟨u',y,rfl,dy,fun c1 zs H4 s4 hc1 d1=>?_⟩
    have hzl:=O0 d1
    lk
    refine R6 (SqL.of (s4 _ _ hp)) (ixI (by omega) (by rw[Int.toNat_natCast];exact hy)) ?_
    lk
    cases u' with
    | tx s=>cases h3
    | nd m ts =>
      have h3:ts[k.toNat]?=some w:=h3
      have htl:=V6 ts
      have hzl:zs.length=ts.length:=hzl
      rw[wt] at hwt
      refine⟨m,ts,y,rfl,Dv.same s4 _ _ dy,?_⟩
      lk
      refine Z6 hc1 fun c2 H5 s5 hc2=>?_
      rw[qu6 h2] at hc2
      lk
      refine⟨D8 (by z_go),fun c3 hc3=>?_⟩
      have s6:=A6.new hc3 (.tup [x])
      refine qc2 (s6.sqT hc2) (SqT.of A7) (D8 (by rw[List.length_take];show _+1<=_;omega)) fun c4 H7 s7 hc4=>?_
      lk
      refine .inl (qe6 ?_)
      lk
      have s57:=A6.tr s5 (A6.tr s6 s7)
      refine Z6 (s57.sqT hc1) fun c5 H8 s8 hc5=>?_
      rw[qu7 (by omega),show(k+1).toNat=k.toNat+1 by omega] at hc5
      refine qc2 (s8.sqT hc4) hc5 (D8 (by rw[List.length_append,List.length_take,List.length_drop];show _+1+_<=_;omega)) fun c6 H9 s9 hc6=>?_
      lk
      refine⟨D8 (by z_go),fun c7 hc7=>?_⟩
      have s10:=A6.new hc7 (.tup [.str m,.ref c6])
      have s510:=A6.tr s57 (A6.tr s8 (A6.tr s9 s10))
      lk
      refine⟨_,_,_,_,rfl,A6.tr s3 (A6.tr s4 s510),.nd m ts,by rw[show q.length-(i+1)=j by omega];exact h1,?_⟩
      rw[show q.length-(i+1)=j by omega,List.drop_eq_getElem_cons hjl,(List.getElem?_eq_some_iff.mp hk).2,R1,h3]
      refine wt6 (SqT.of A7) (s10.sqT hc6) ?_
      rw[U4,U4,qn4,qn5]
      have d1:=Dvs.same s510 _ _ d1
      refine Dvs.append (Dvs.append (qi2 _ d1) ?_) (qi3 _ d1)
      rw[Tr.das,Tr.das]
      exact Dvs.one (Dv.same (A6.tr s4 s510) _ _ dx)
   ·rintro σ H' ⟨x,a5,a6,a7,rfl,s3,w,hwi,dx⟩
    lk
    rw[Nat.sub_self,List.drop_zero] at dx
    rw[Nat.sub_self,wd1 hw] at hwi
    cases hwi
    exact qq x H' (A6.tr s12 s3) dx
def ys7(K:Fg)(H:Hp)(E:XK)(kX:Addr)(o:Option (Str×List Int)):Prop:=∀ r pl,o=some (r,pl)->∀ (dx p:Addr) (H':Hp),A6 H H'->H' dx=some (.xd [("place",.ref p),("rule",.str r)])->SqT K H' p (E4 pl)->E (.ref kX) (some dx) H'
variable{o:Option (Str×List Int)}
theorem ys7.same(h:ys7 K H E kX o)(s:A6 H H'):ys7 K H' E kX o:=fun r pl e dx p H2 s2=>h r pl e dx p H2 (A6.tr s s2)
abbrev xr1(K:Fg)(k_NoFit:Addr)(E:XK):TS :=
 (xo1 k_NoFit E (qq0 K) (A2 (tOp (J0 K) (A4 2) (tC (.int 0))) (A2 (tOp (J0 K) (A4 2) (tC (.int 1))) B1)))
abbrev xr2(K:Fg)(k_NoFit:Addr)(E:XK):TS :=
 (C0 (M0 (D7 (tOp qj3 (A4 2) (tC .non)))
 (xr1 K k_NoFit E) E9)
 (I0 (A4 1)))
def S7(K:Fg)(kX:Addr):Sp:=fun vs H Q E=>∃ (t:Tr) (bv v:V) (rs:List Row),vs=[bv,v]/\Rws K H bv rs/\Dv K H t.da v/\wt t<=40000/\hgt t<=700/\(Q4 (ffk rs [] [] t)=none->∀ H',A6 H H'->Q v H')/\ys7 K H E kX (Q4 (ffk rs [] [] t))
def qq3(K:Fg)(k_NoFit:Addr)(E:XK):TS :=
 (C0 (D9 (B9 (qj9 K) [] E0 (A2 (A4 0) (A2 (A4 1) B1))) (B3 2))
 (xr2 K k_NoFit E))
theorem xy9(se_rule:SeI K kX "rule")(se_place:SeI K kX "place")(h:S7 K kX vs H Q E):qq3 K kX E {nx:=fun _ H'=>Q .non H',rt:=Q} (G9 ["book","tree","fault"] vs) H:=by
 obtain⟨t,bv,v,rs,rfl,hR,hd,hw,hh,q0,q1⟩:=h
 show qq3 K kX E _ [some bv,some v,none] H
 unfold qq3
 lk
 refine⟨t,bv,v,rs,rfl,hR,hd,hw,fun p hp=>by have:=za3 [] _ p hp;simp at this;omega,fun x H1 s1 hx=>?_⟩
 lk
 cases hf:Q4 (ffk rs [] [] t) with
 | none =>
   rw[hf] at hx
   obtain rfl:x=.non:=hx
   rw[decide_eq_true rfl]
   k_go
   lk
   exact q0 hf H1 s1
 | some y =>
   obtain⟨r,pl⟩:=y
   obtain⟨f1,f2,f3⟩:=ys6 hf
   rw[hf] at hx
   obtain⟨c,us,rfl,hc,du⟩:=C6.mp (show Dv K H1 (.tuple [.str r,.tuple (qp2 pl)]) x from hx)
   rw[Dvs] at du
   obtain⟨y1,us,rfl,d1,du⟩:=du
   rw[Dvs] at du
   obtain⟨y2,us,rfl,d2,du⟩:=du
   rw[Dvs] at du
   subst du
   obtain rfl:=P9.mp d1
   obtain⟨p,ps,rfl,hp,dp⟩:=C6.mp d2
   obtain rfl:=O8.mp dp
   rw[decide_eq_false (by simp)]
   x_go
   refine yr6 ?_
   lk
   refine J9 hc (v:=.str r) (E8 (j:=0) rfl) ?_
   lk
   refine J9 hc (v:=.ref p) (E8 (j:=1) rfl) ?_
   lk
   refine⟨D8 (by z_go),fun e he=>?_⟩
   have s2:=A6.new he (ErX e kX none)
   refine⟨e,kX,p,r,pl,rfl,A7,se_rule,se_place,by omega,s2.sqT hp,by omega,fun n hn=>Nat.lt_of_le_of_lt (Nat.le_trans (f3 n hn) hw) (by decide),fun dx H2 n1 n2 hb he2 hd2=>⟨rfl,some dx,he2,?_⟩⟩
   have s3:A6 H1 (rmv H2 e):=fun b o eb=>by
    have b1:b≠e:=fun z=>by rw[z,he] at eb;cases eb
    have b2:b≠dx:=fun z=>by rw[z] at eb;have:=s2 _ _ eb;rw[n1] at this;cases this
    rw[qp1 b1,hb b b2 b1,C1 b1];exact eb
   exact q1 r pl hf dx p _ (A6.tr s1 s3) (by rw[qp1 n2];exact hd2) (s3.sqT hp)
def Z1(ts:List Tr)(k m:Nat)(n:Str):List Tr:=ts.take k++[Tr.nd n ((ts.drop k).take (m-k))]++ts.drop m
theorem xz0(ts:List Tr){k:Nat}(n:Str)(h:k<=m):wts (Z1 ts k m n)=wts ts+1/\L9 (Z1 ts k m n)<=L9 ts+1:=by
 have a1:=wp5 k ts
 have a2:=wp5 (m-k) (ts.drop k)
 rw[List.drop_drop,show k+(m-k)=m by omega] at a2
 have b1:=qh1 k ts
 have b2:=qh2 k ts
 have b3:=qh1 (m-k) (ts.drop k)
 have b4:=qh2 m ts
 unfold Z1
 rw[Q8,Q8,wts,wts,wt,O2,O2,L9,L9,hgt]
 omega
def ym2(t:Tr)(pl:List Int)(stop:Int):Prop:=∃ (q:List Int) (k:Nat) (ws:List Tr) (u:Tr),pl=q++[(k:Int)]/\way t q=some (ws++[u])/\u.isTx=false/\(k:Int)<=stop/\stop<=u.kids.length
abbrev wn0(K:Fg)(k_NoFit:Addr)(E:XK):TS :=
 (I0 (B9 (S7 K k_NoFit) [] E (A2 (A4 0) (A2 (B9 (Q1 K) [] E0 (A2 (A4 1) (A2 (tSl (qh5 K) (A4 2) N9 (S6 (tUn (rU fun i=>.int (-i)) (tC (.int 1))))) (A2 (tOp (O7 K) (tOp (O7 K) (tSl (qh5 K) (A4 5) N9 (S6 (A4 6))) (O1 (A2 (A4 7) B1))) (tSl (qh5 K) (A4 5) (S6 (A4 3)) N9)) B1)))) B1))))
abbrev wn1(K:Fg)(k_NoFit:Addr)(E:XK):TS :=
 (C0 (D9 (O1 (A2 (A4 4) (A2 (tSl (qh5 K) (A4 5) (S6 (A4 6)) (S6 (A4 3))) B1))) (B3 7))
 (wn0 K k_NoFit E))
abbrev wn2(K:Fg)(k_NoPlace:Addr)(k_NoFit:Addr)(E:XK):TS :=
 (C0 (M0 (wq1 (D7 (wf7 yc7 yc7 (A4 6) (A4 3) (tCB (P6 K) (A2 (A4 5) B1)))))
 (wg1 k_NoPlace E (A2 (tC (.str ("no parts lie from the place up to the stop":Str))) B1)) E9)
 (wn1 K k_NoFit E))
abbrev wn3(K:Fg)(k_NoPlace:Addr)(k_NoFit:Addr)(E:XK):TS :=
 (C0 (D9 (tOp (J0 K) (A4 2) (tUn (rU fun i=>.int (-i)) (tC (.int 1)))) (B3 6))
 (wn2 K k_NoPlace k_NoFit E))
def qb2(K:Fg)(kX:Addr)(kY:Addr):Sp:=fun vs H Q E=>∃ (t:Tr) (bv v:V) (rs:List Row) (a:Addr) (pl:List Int) (stop:Int) (name:Str),vs=[bv,v,.ref a,.int stop,.str name]/\Rws K H bv rs/\Dv K H t.da v/\SqT K H a (E4 pl)/\wt t<=20000/\hgt t<=600/\pl.length<=50000/\(¬ym2 t pl stop->∀ H',A6 H H'->E (.ref kX) none H')/\∀ (q:List Int) (k m:Nat) (ws:List Tr) (u:Tr),pl=q++[(k:Int)]->way t q=some (ws++[u])->u.isTx=false->k<=m->m<=u.kids.length->stop=m->(Q4 (ffk rs [] [] (R1 t q (Z1 u.kids k m name)))=none->∀ x H',A6 H H'->Dv K H' (R1 t q (Z1 u.kids k m name)).da x->Q x H')/\ys7 K H E kY (Q4 (ffk rs [] [] (R1 t q (Z1 u.kids k m name))))
def qd3(K:Fg)(k_NoPlace:Addr)(k_NoFit:Addr)(E:XK):TS :=
 (C0 (D9 (B9 (O4 K k_NoPlace) [] E (A2 (A4 1) (A2 (A4 2) (A2 (tC (.int 1)) B1)))) (B3 5))
 (wn3 K k_NoPlace k_NoFit E))
variable{kY:Addr}
theorem wy2(sf_rule:SeI K kY "rule")(sf_place:SeI K kY "place")(h:qb2 K kX kY vs H Q E):qd3 K kX kY E {nx:=fun _ H'=>Q .non H',rt:=Q} (G9 ["book","tree","place","stop","name","parts","number","around"] vs) H:=by
 obtain⟨t,bv,v,rs,a,pl,stop,name,rfl,hR,hd,ha,hz,hh,hl,qb,qg⟩:=h
 show qd3 K kX kY E _ [some bv,some v,some (.ref a),some (.int stop),some (.str name),none,none,none] H
 unfold qd3
 lk
 refine⟨t,v,a,pl,1,rfl,hd,ha,hl,fun q k ws u p us H1 e1 hw hu hk s1 hp du=>?_,fun hn H1 s1=>qb (fun⟨q,k,ws,u,e,h1,h2,h3,h4⟩=>hn ⟨q,k,ws,u,e,h1,h2,by omega⟩) H1 s1⟩
 have hul:=O0 du
 have ha:=s1.sqT ha
 have hd:=Dv.same s1 _ _ hd
 have hR:=Rws.same hR s1
 have hv:=qu8 hw (i:=ws.length) (w:=u) (by simp)
 obtain⟨wu,hgu⟩:=qg0 hu
 have hkl:=V6 u.kids
 subst e1
 rw[List.length_append] at hl
 lk
 refine⟨1,rfl,?_⟩
 refine J9 ha (v:=.int k) (by rw[N1];exact Q0 (n:=q.length) (by simp[E4]) (by simp[E4])) ?_
 have bad:¬((k:Int)<=stop/\stop<=u.kids.length)->¬ym2 t (q++[(k:Int)]) stop:=by
  rintro hn ⟨q',k',ws',u',e,h1,h2,h3,h4⟩
  obtain⟨rfl,e2⟩:=List.append_inj' e rfl
  injection e2 with e2 _
  obtain rfl:=qi5 hw h1
  omega
 lk
 by_cases h1:(k:Int)<=stop
 ·rw[decide_eq_true h1]
  x_go
  lk
  refine M8 (.inr hp) ?_
  lk
  by_cases h2:stop<=(us.length:Int)
  ·rw[decide_eq_true h2]
   k_go
   obtain⟨m,rfl⟩:∃ m:Nat,stop=m:=⟨stop.toNat,by omega⟩
   obtain⟨q0,q1⟩:=qg q k m ws u rfl hw hu (by omega) (by omega) rfl
   obtain⟨w1,w2⟩:=xz0 u.kids name (k:=k) (m:=m) (by omega)
   have p1:=xq9 q t u ws (Z1 u.kids k m name) hw hu
   have p2:=wx4 q t u ws (Z1 u.kids k m name) hw hu
   have p3:=wp4 hw
   lk
   refine Z6 hp fun c1 H2 s2 hc1=>?_
   rw[zc4 (by omega) (by omega)] at hc1
   lk
   refine⟨D8 (by z_go),fun c2 hc2=>?_⟩
   have s3:=A6.new hc2 (.tup [.str name,.ref c1])
   have e3:(upd H2 c2 (.tup [.str name,.ref c1])) c2=some (.tup [.str name,.ref c1]):=A7
   generalize upd H2 c2 (.tup [.str name,.ref c1])=H3 at *
   have s23:=A6.tr s2 s3
   have dm:Dv K H3 (Tr.nd name ((u.kids.drop k).take (m-k))).da (.ref c2):=wt6 (SqT.of e3) (s3.sqT hc1) (by rw[qn4,qn5];exact qi2 _ (qi3 _ (Dvs.same s23 _ _ du)))
   lk
   refine⟨1,rfl,?_⟩
   lk
   refine Z6 (s23.sqT ha) fun c3 H4 s4 hc3=>?_
   rw[N1,qi1] at hc3
   lk
   have s24:=A6.tr s23 s4
   refine Z6 (s24.sqT hp) fun c4 H5 s5 hc4=>?_
   rw[qu6 (by omega),Int.toNat_natCast] at hc4
   lk
   refine⟨D8 (by z_go),fun c5 hc5=>?_⟩
   have s6:=A6.new hc5 (.tup [.ref c2])
   refine qc2 (s6.sqT hc4) (SqT.of A7) (D8 (by rw[List.length_take];show _+1<=_;omega)) fun c6 H7 s7 hc6=>?_
   lk
   have s57:=A6.tr s5 (A6.tr s6 s7)
   have s27:=A6.tr s24 s57
   refine Z6 (s27.sqT hp) fun c7 H8 s8 hc7=>?_
   rw[qu7 (by omega),Int.toNat_natCast] at hc7
   refine qc2 (s8.sqT hc6) hc7 (D8 (by rw[List.length_append,List.length_take,List.length_drop];show _+1+_<=_;omega)) fun c8 H9 s9 hc8=>?_
   have s59:=A6.tr s57 (A6.tr s8 s9)
   have s29:=A6.tr s24 s59
   lk
   have du:=Dvs.same s29 _ _ du
   refine⟨t,u,v,c3,c8,q,ws,Z1 u.kids k m name,_,rfl,Dv.same s29 _ _ hd,s59.sqT hc3,hw,hu,hc8,?_,by omega,by omega,fun x H10 s10 dx=>?_⟩
   ·unfold Z1
    rw[U4,U4,qn4,qn5]
    refine Dvs.append (Dvs.append (qi2 _ du) ?_) (qi3 _ du)
    rw[Tr.das,Tr.das]
    exact Dvs.one (Dv.same (A6.tr s4 s59) _ _ dm)
   ·have sf:=A6.tr s1 (A6.tr s29 s10)
    lk
    exact⟨_,bv,x,rs,rfl,Rws.same hR (A6.tr s29 s10),dx,by omega,by omega,fun hn H' s'=>q0 hn x H' (A6.tr sf s') (Dv.same s' _ _ dx),q1.same sf⟩
  ·rw[decide_eq_false h2]
   x_go
   exact⟨D8 (by z_go),qb (bad (by omega)) H1 s1⟩
 ·rw[decide_eq_false h1]
  k_go
  lk
  exact⟨D8 (by z_go),qb (bad (by omega)) H1 s1⟩
def jn(acc:List Tr)(p:Tr):List Tr:=match p,acc.getLast? with
 | .tx s,some (.tx z)=>acc.dropLast++[.tx (z++s)]
 | p,_=>acc++[p]
def W8(ps:List Tr):List Tr:=ps.foldl jn []
variable{acc:List Tr}
theorem zc5{p:Tr}(h:p.isTx=false):jn acc p=acc++[p]:=by
 cases p with
 | tx s=>cases h
 | nd n ps=>rfl
theorem yg6{p:Tr}:jn [] p=[p]:=by cases p <;> rfl
variable{z:Str}
theorem zn7:jn (acc++[.tx z]) (.tx s)=acc++[.tx (z++s)]:=by
 unfold jn
 rw[List.getLast?_concat]
 show(acc++[Tr.tx z]).dropLast++_=_
 rw[List.dropLast_concat]
theorem zc6(h:w.isTx=false):jn (acc++[w]) (.tx s)=acc++[w]++[.tx s]:=by
 unfold jn
 rw[List.getLast?_concat]
 cases w with
 | tx z=>cases h
 | nd n ps=>rfl
theorem Ad1 (acc:List Tr) (p:Tr):wts (jn acc p)<=wts acc+wt p/\L9 (jn acc p)<=max (L9 acc) (hgt p):=by
 cases hp:p.isTx with
 | false=>rw[zc5 hp,Q8,wts,wts,O2,L9,L9];omega
 | true =>
   cases p with
   | nd n ps=>cases hp
   | tx s =>
     rcases List.eq_nil_or_concat acc with rfl|⟨l,w,rfl⟩
     ·rw[yg6];simp only[wts,L9,hgt];omega
     ·rw[List.concat_eq_append]
      cases hw:w.isTx with
      | false=>rw[zc6 hw];simp only[Q8,wts,O2,L9];omega
      | true =>
        cases w with
        | nd n ps=>cases hw
        | tx z=>rw[zn7];simp only[Q8,wts,O2,L9,wt,hgt,xo5];omega
theorem qq4{p:Tr}(h:ps[i]?=some p):W8 (ps.take (i+1))=jn (W8 (ps.take i)) p:=by
 unfold W8
 rw[List.take_add_one,h,List.foldl_append];rfl
theorem xz1:∀ (ps acc:List Tr),wts (ps.foldl jn acc)<=wts acc+wts ps/\L9 (ps.foldl jn acc)<=max (L9 acc) (L9 ps)
 | [],acc=>by simp only[List.foldl_nil,wts,L9];omega
 | p::ps,acc=>by
   have h1:=Ad1 acc p
   have h2:=xz1 ps (jn acc p)
   rw[List.foldl_cons,wts,L9];omega
theorem qn6(ps:List Tr):wts (W8 ps)<=wts ps/\L9 (W8 ps)<=L9 ps:=by
 have:=xz1 ps []
 rw[wts,L9] at this
 unfold W8;omega
theorem zc7(k:Nat)(ps:List Tr):wts (ps.take k)<=wts ps:=by have:=wp5 k ps;omega
def jnT(K:Fg):TS :=
 (qh3 (tBM K "list" X8 (A4 1) (A2 (A4 2) B1)))
theorem zk2{x2:V}{ws:List V}(hp2:H p=some (.lst ws))(hl:ws.length<=50000)(q:D.nx [some (.ref a),some (.ref p),some x2] (upd H p (.lst (ws++[x2])))):jnT K D [some (.ref a),some (.ref p),some x2] H:=by
 unfold jnT
 lk
 refine⟨.inl ⟨rfl,_,SqL.of hp2⟩,?_⟩
 lk
 exact X5 hp2 (by rw[sizeLine_eq];omega) q
abbrev yg7(K:Fg):TS :=
 (C0 (M0 (qz3 (tB (B9 (S1 K) [] E0 (A2 (A4 2) B1))) (qz3 (D7 (tOp xb8 (tCB (P6 K) (A2 (A4 1) B1)) (tC (.int 0)))) (tB (B9 (S1 K) [] E0 (A2 (tOp (J0 K) (A4 1) (tUn (rU fun i=>.int (-i)) (tC (.int 1)))) B1)))))
 (D9 (tOp (O7 K) (yu4 K "list" yu5 (A4 1)) (A4 2)) (B3 2)) E9)
 (jnT K))
abbrev yg8(K:Fg):TS :=
 (C0 (qm3 (ql5 K (A4 0)) (B3 2)
 (yg7 K))
 (I0 (tCB (qo8 K) (A2 (A4 1) B1))))
def qn7(K:Fg):Sp:=fun vs H Q _=>∃ (a:Addr) (us:List V) (ps:List Tr),vs=[.ref a]/\SqT K H a us/\Dvs K H (Tr.das ps) us/\wts ps<=50000/\∀ (p:Addr) (zs:List V) H',A6 H H'->H' p=some (.tup zs)->Dvs K H' (Tr.das (W8 ps)) zs->Q (.ref p) H'
def wd9(K:Fg):TS :=
 (C0 (D9 (X4 B1) (B3 1))
 (yg8 K))
theorem ys8(h:qn7 K vs H Q E):wd9 K {nx:=fun _ H'=>Q .non H',rt:=Q} (G9 ["parts","told","part"] vs) H:=by
 obtain⟨a,us,ps,rfl,ha,du,hz,q⟩:=h
 show wd9 K _ [some (.ref a),none,none] H
 unfold wd9
 have hul:=O0 du
 have hpl:=V6 ps
 lk
 refine⟨D8 (by z_go),fun p hp=>?_⟩
 lk
 refine qn0 (H0:=H) (.inr ha) (A6.new hp _) (fun i σ H'=>∃ (zs:List V) (a2:Option V),σ=[some (.ref a),some (.ref p),a2]/\A6 H H'/\H' p=some (.lst zs)/\Dvs K H' (Tr.das (W8 (ps.take i))) zs) ⟨[],_,rfl,A6.new hp _,A7,by rw[List.take_zero];exact G8⟩ (fun i σ H' ⟨_,_,_,s,_⟩=>s) ?_ ?_
 ·rintro i x σ H' hx ⟨zs,a2,rfl,s1,hp1,dz⟩
  have hil:=(List.getElem?_eq_some_iff.mp hx).1
  obtain⟨w,hw⟩:∃ w,ps[i]?=some w:=⟨_,List.getElem?_eq_getElem (by omega)⟩
  obtain⟨y,hy,dy⟩:=qa0 du hw
  rw[hx] at hy
  cases hy
  have dy:=Dv.same s1 _ _ dy
  have hjw:=qn6 (ps.take i)
  have hjt:=zc7 i ps
  have hjl:=V6 (W8 (ps.take i))
  have hzl:=O0 dz
  have hww:=yg5 hw
  have fin:∀ {H2:Hp} {ws:List V} {x2:V} {w2:Tr} {acc:List Tr},But [p] H' H2->H2 p=some (.lst ws)->Dvs K H2 (Tr.das acc) ws->Dv K H2 w2.da x2->W8 (ps.take (i+1))=acc++[w2] ->
   ∃ (zs:List V) (a2:Option V),[some (.ref a),some (.ref p),some x2]=[some (.ref a),some (.ref p),a2]/\A6 H (upd H2 p (.lst (ws++[x2])))/\(upd H2 p (.lst (ws++[x2]))) p=some (.lst zs)/\Dvs K (upd H2 p (.lst (ws++[x2]))) (Tr.das (W8 (ps.take (i+1)))) zs:=by
   intro H2 ws x2 w2 acc bt hp2 dw dx he
   have tk:qe3 H2 (upd H2 p (.lst (ws++[x2]))):=T9 hp2
   refine⟨_,_,rfl,fun c o e=>?_,A7,?_⟩
   ·have nc:c≠p:=fun z=>by rw[z,hp] at e;cases e
    rw[C1 nc]
    exact bt c o (s1 c o e) (by simpa using nc)
   ·rw[he,U4,Tr.das,Tr.das]
    exact Dvs.append (Dvs.tupK tk _ _ (Y0 _) dw) (Dvs.one (Dv.tupK tk _ _ (Z9 w2) dx))
  lk
  refine⟨w,x,rfl,dy,?_⟩
  cases hwx:w.isTx with
  | false =>
    lk
    exact zk2 hp1 (by omega) (fin (fun _ _ e _=>e) hp1 dz dy (by rw[qq4 hw,zc5 hwx]))
  | true =>
    cases w with
    | nd n ks=>cases hwx
    | tx z =>
      obtain rfl:=xw0 dy
      lk
      refine M8 (.inl (SqL.of hp1)) ?_
      lk
      generalize hacc:W8 (ps.take i)=acc at *
      rcases List.eq_nil_or_concat acc with rfl|⟨l,v,rfl⟩
      ·obtain rfl:zs=[]:=List.eq_nil_of_length_eq_zero (by rw[hzl];rfl)
       rw[decide_eq_false (by simp)]
       k_go
       lk
       exact zk2 hp1 (by simp) (fin (fun _ _ e _=>e) hp1 dz dy (by rw[qq4 hw,hacc,yg6];rfl))
      ·rw [List.concat_eq_append] at *
       rw[O6,List.map_append] at dz
       obtain⟨zs',y,rfl,dz1,dy1⟩:=Dvs.snoc dz
       rw[<-O6] at dz1
       rw[decide_eq_true (by rw[List.length_append];show(0:Int)<((_+1:Nat):Int);omega)]
       x_go
       lk
       refine⟨1,rfl,?_⟩
       refine R6 (SqL.of hp1) (v:=y) (Q0 (n:=zs'.length) (by simp) (by simp)) ?_
       lk
       refine⟨v,y,rfl,dy1,?_⟩
       cases hvx:v.isTx with
       | false =>
         lk
         refine zk2 hp1 (by omega) (fin (fun _ _ e _=>e) hp1 (acc:=l++[v]) ?_ dy (by rw[qq4 hw,hacc,zc6 hvx]))
         rw[U4,Tr.das,Tr.das]
         exact Dvs.append dz1 (Dvs.one dy1)
       | true =>
         cases v with
         | nd n ks=>cases hvx
         | tx u =>
           obtain rfl:=xw0 dy1
           lk
           refine⟨.inl ⟨rfl,_,SqL.of hp1⟩,?_⟩
           refine yx8 hp1 ?_
           have tk:qe3 H' (upd H' p (.lst zs')):=T9 hp1
           have hwl:wts (l++[Tr.tx u])=wts l+(1+u.length):=by rw[Q8,wts,wts,wt,Nat.add_zero]
           rw[wt] at hww
           lk
           refine .inl (yc8 (D8 (by omega)) ?_)
           lk
           exact zk2 A7 (by have:=V6 l;simp at hzl;omega) (fin (fun c o e n=>by rw[C1 (by simpa using n)];exact e) A7 (Dvs.tupK tk _ _ (Y0 _) dz1) (za2 _) (by rw[qq4 hw,hacc,zn7]))
 ·rintro σ H' ⟨zs,a2,rfl,s1,hp1,dz⟩
  lk
  rw[List.take_of_length_le (by omega)] at dz
  have hjl:=V6 (W8 ps)
  have hjw:=qn6 ps
  refine⟨p,zs,rfl,.inl ⟨SqL.of hp1,fun t ht=>?_⟩⟩
  have s2:=A6.new ht (.tup zs)
  exact q t zs _ (A6.tr s1 s2) A7 (Dvs.same s2 _ _ dz)
variable{B C:Nat}
theorem Y8{t:Tr}(hw:way t q=some (ws++[u]))(hu:u.isTx=false)(h1:wts ps<=wts u.kids+B)(h2:L9 ps<=L9 u.kids+C):wt (R1 t q ps)<=wt t+B/\hgt (R1 t q ps)<=hgt t+C:=by
 have p1:=xq9 q t u ws ps hw hu
 have p2:=wx4 q t u ws ps hw hu
 have p3:=wp4 hw
 have:=(qg0 hu).2
 omega
def we0(ts:List Tr)(k:Nat)(w:Tr):List Tr:=ts.take k++[w]++ts.drop k
def wi6(ts:List Tr)(k:Nat):List Tr:=ts.take k++ts.drop (k+1)
def we1(ts:List Tr)(k:Nat)(w:Tr):List Tr:=ts.take k++w.kids++ts.drop (k+1)
theorem wi7{k:Nat}(h:ts[k]?=some w):wts ts=wts (ts.take k)+wt w+wts (ts.drop (k+1))/\hgt w<=L9 ts:=by
 obtain⟨hl,e⟩:=List.getElem?_eq_some_iff.mp h
 have e2:ts=ts.take k++w::ts.drop (k+1):=by
  conv=>lhs;rw[<-List.take_append_drop k ts]
  rw[List.drop_eq_getElem_cons hl,e]
 have a1:wts ts=wts (ts.take k++w::ts.drop (k+1)):=congrArg wts e2
 have a2:L9 ts=L9 (ts.take k++w::ts.drop (k+1)):=congrArg L9 e2
 rw[Q8,wts] at a1
 rw[O2,L9] at a2
 omega
theorem wp7(ts:List Tr)(k:Nat)(w:Tr):wts (we0 ts k w)<=wts ts+wt w/\L9 (we0 ts k w)<=L9 ts+hgt w:=by
 have a1:=wp5 k ts
 have b1:=qh1 k ts
 have b2:=qh2 k ts
 unfold we0
 rw[Q8,Q8,wts,wts,O2,O2,L9,L9]
 omega
theorem ym3{k:Nat}(h:ts[k]?=some w):wts (wi6 ts k)<=wts ts/\L9 (wi6 ts k)<=L9 ts:=by
 have a1:=wi7 h
 have b1:=qh1 k ts
 have b2:=qh2 (k+1) ts
 unfold wi6
 rw[Q8,O2]
 omega
theorem ym4{k:Nat}(h:ts[k]?=some w)(hw:w.isTx=false):wts (we1 ts k w)<=wts ts/\L9 (we1 ts k w)<=L9 ts:=by
 have a1:=wi7 h
 have a2:=qg0 hw
 have b1:=qh1 k ts
 have b2:=qh2 (k+1) ts
 unfold we1
 rw[Q8,Q8,O2,O2]
 omega
structure xz2(K:Fg)(H:Hp)(Q:VK)(E:XK)(kY:Addr)(rs:List Row)(t:Tr):Prop where
 q0:Q4 (ffk rs [] [] t)=none->∀ x H',A6 H H'->Dv K H' t.da x->Q x H'
 q1:ys7 K H E kY (Q4 (ffk rs [] [] t))
theorem xz2.same{t:Tr}(h:xz2 K H Q E kY rs t)(s:A6 H H'):xz2 K H' Q E kY rs t:=⟨fun e x H2 s2=>h.q0 e x H2 (A6.tr s s2),h.q1.same s⟩
variable{bv:V}
theorem xr4{t:Tr}{us:List V}{c3 c8:Addr}(hR:Rws K H bv rs)(hd:Dv K H t.da v)(h3:SqT K H c3 (E4 q))(hw:way t q=some (ws++[u]))(hu:u.isTx=false)(h8:SqT K H c8 us)(dp:Dvs K H (Tr.das ps) us)(hz:wt t<=20000)(hl:q.length<=50000)(b1:wt (R1 t q ps)<=40000)(b2:hgt (R1 t q ps)<=700)(M:xz2 K H Q E kY rs (R1 t q ps)):Q1 K [v,.ref c3,.ref c8] H (fun x H1=>S7 K kY [bv,x] H1 Q E) E0 :=
 ⟨t,u,v,c3,c8,q,ws,ps,us,rfl,hd,h3,hw,hu,h8,dp,by omega,hl,fun x H1 s1 dx=>⟨_,bv,x,rs,rfl,Rws.same hR s1,dx,b1,b2,fun hn H' s'=>M.q0 hn x H' (A6.tr s1 s') (Dv.same s' _ _ dx),M.q1.same s1⟩⟩
structure Ask(K:Fg)(H:Hp)(t:Tr)(bv v:V)(rs:List Row)(a:Addr)(pl:List Int):Prop where
 R:Rws K H bv rs
 d:Dv K H t.da v
 a:SqT K H a (E4 pl)
 w:wt t<=10000
 h:hgt t<=300
 l:pl.length<=50000
theorem Ask.same{t:Tr}(A:Ask K H t bv v rs a pl)(s:A6 H H'):Ask K H' t bv v rs a pl:={A with R:=Rws.same A.R s,d:=Dv.same s _ _ A.d,a:=s.sqT A.a}
abbrev xz3(K:Fg)(k_NoFit:Addr)(E:XK):TS :=
 (I0 (B9 (S7 K k_NoFit) [] E (A2 (A4 0) (A2 (B9 (Q1 K) [] E0 (A2 (A4 1) (A2 (tSl (qh5 K) (A4 2) N9 (S6 (tUn (rU fun i=>.int (-i)) (tC (.int 1))))) (A2 (tOp (O7 K) (tOp (O7 K) (tSl (qh5 K) (A4 4) N9 (S6 (A4 5))) (O1 (A2 (A4 3) B1))) (tSl (qh5 K) (A4 4) (S6 (A4 5)) N9)) B1)))) B1))))
abbrev xz4(K:Fg)(k_NoFit:Addr)(E:XK):TS :=
 (C0 (D9 (tOp (J0 K) (A4 2) (tUn (rU fun i=>.int (-i)) (tC (.int 1)))) (B3 5))
 (xz3 K k_NoFit E))
def qq5(K:Fg)(kX:Addr)(kY:Addr):Sp:=fun vs H Q E=>∃ (t:Tr) (bv v bt:V) (rs:List Row) (a:Addr) (pl:List Int) (bit:Tr),vs=[bv,v,.ref a,bt]/\Ask K H t bv v rs a pl/\Dv K H bit.da bt/\wt bit<=10000/\hgt bit<=300/\(¬wx5 t pl 1->∀ H',A6 H H'->E (.ref kX) none H')/\∀ (q:List Int) (k:Nat) (ws:List Tr) (u:Tr),pl=q++[(k:Int)]->way t q=some (ws++[u])->u.isTx=false->k<=u.kids.length->xz2 K H Q E kY rs (R1 t q (we0 u.kids k bit))
def qx2(K:Fg)(k_NoPlace:Addr)(k_NoFit:Addr)(E:XK):TS :=
 (C0 (D9 (B9 (O4 K k_NoPlace) [] E (A2 (A4 1) (A2 (A4 2) (A2 (tC (.int 1)) B1)))) (B3 4))
 (xz4 K k_NoFit E))
theorem yh0(sf_rule:SeI K kY "rule")(sf_place:SeI K kY "place")(h:qq5 K kX kY vs H Q E):qx2 K kX kY E {nx:=fun _ H'=>Q .non H',rt:=Q} (G9 ["book","tree","place","bit","parts","number"] vs) H:=by
 obtain⟨t,bv,v,bt,rs,a,pl,bit,rfl,A,db,wb,hb,qb,qg⟩:=h
 show qx2 K kX kY E _ [some bv,some v,some (.ref a),some bt,none,none] H
 unfold qx2
 lk
 refine⟨t,v,a,pl,1,rfl,A.d,A.a,A.l,fun q k ws u p us H1 e1 hw hu hk s1 hp du=>?_,fun hn H1 s1=>qb hn H1 s1⟩
 have hul:=O0 du
 have A1:=A.same s1
 have hv:=qu8 hw (i:=ws.length) (w:=u) (by simp)
 obtain⟨wu,hgu⟩:=qg0 hu
 have hkl:=V6 u.kids
 have aw:=A.w
 have al:=A.l
 have ah:=A.h
 subst e1
 rw[List.length_append] at al
 lk
 refine⟨1,rfl,?_⟩
 refine J9 A1.a (v:=.int k) (by rw[N1];exact Q0 (n:=q.length) (by simp[E4]) (by simp[E4])) ?_
 lk
 refine⟨1,rfl,?_⟩
 lk
 refine Z6 A1.a fun c3 H2 s2 hc3=>?_
 rw[N1,qi1] at hc3
 lk
 refine Z6 (s2.sqT hp) fun c4 H3 s3 hc4=>?_
 rw[qu6 (by omega),Int.toNat_natCast] at hc4
 lk
 refine⟨D8 (by z_go),fun c5 hc5=>?_⟩
 have s4:=A6.new hc5 (.tup [bt])
 refine qc2 (s4.sqT hc4) (SqT.of A7) (D8 (by rw[List.length_take];show _+1<=_;omega)) fun c6 H5 s5 hc6=>?_
 lk
 have s35:=A6.tr s3 (A6.tr s4 s5)
 refine Z6 ((A6.tr s2 s35).sqT hp) fun c7 H6 s6 hc7=>?_
 rw[qu7 (by omega),Int.toNat_natCast] at hc7
 refine qc2 (s6.sqT hc6) hc7 (D8 (by rw[List.length_append,List.length_take,List.length_drop];show _+1+_<=_;omega)) fun c8 H7 s7 hc8=>?_
 have s37:=A6.tr s35 (A6.tr s6 s7)
 have s27:=A6.tr s2 s37
 have sf:=A6.tr s1 s27
 have du:=Dvs.same s27 _ _ du
 obtain⟨b1,b2⟩:=Y8 hw hu (wp7 u.kids k bit).1 (wp7 u.kids k bit).2
 lk
 refine xr4 (A1.same s27).R (A1.same s27).d (s37.sqT hc3) hw hu hc8 (ps:=we0 u.kids k bit) ?_ (by omega) (by omega) (by omega) (by omega) ((qg q k ws u rfl hw hu (by omega)).same sf)
 unfold we0
 rw[U4,U4,qn4,qn5]
 refine Dvs.append (Dvs.append (qi2 _ du) ?_) (qi3 _ du)
 rw[Tr.das,Tr.das]
 exact Dvs.one (Dv.same sf _ _ db)
abbrev wy3(K:Fg)(k_NoFit:Addr)(E:XK):TS :=
 (I0 (B9 (S7 K k_NoFit) [] E (A2 (A4 0) (A2 (B9 (Q1 K) [] E0 (A2 (A4 1) (A2 (tSl (qh5 K) (A4 2) N9 (S6 (tUn (rU fun i=>.int (-i)) (tC (.int 1))))) (A2 (B9 (qn7 K) [] E0 (A2 (tOp (O7 K) (tSl (qh5 K) (A4 3) N9 (S6 (A4 4))) (tSl (qh5 K) (A4 3) (S6 (tOp (O7 K) (A4 4) (tC (.int 1)))) N9)) B1)) B1)))) B1))))
abbrev wy4(K:Fg)(k_NoFit:Addr)(E:XK):TS :=
 (C0 (D9 (tOp (J0 K) (A4 2) (tUn (rU fun i=>.int (-i)) (tC (.int 1)))) (B3 4))
 (wy3 K k_NoFit E))
def qd4(K:Fg)(kX:Addr)(kY:Addr):Sp:=fun vs H Q E=>∃ (t:Tr) (bv v:V) (rs:List Row) (a:Addr) (pl:List Int),vs=[bv,v,.ref a]/\Ask K H t bv v rs a pl/\(¬wx5 t pl 0->∀ H',A6 H H'->E (.ref kX) none H')/\∀ (q:List Int) (k:Nat) (ws:List Tr) (u:Tr),pl=q++[(k:Int)]->way t q=some (ws++[u])->u.isTx=false->k<u.kids.length->xz2 K H Q E kY rs (R1 t q (W8 (wi6 u.kids k)))
def qg2(K:Fg)(k_NoPlace:Addr)(k_NoFit:Addr)(E:XK):TS :=
 (C0 (D9 (B9 (O4 K k_NoPlace) [] E (A2 (A4 1) (A2 (A4 2) (A2 (tC (.int 0)) B1)))) (B3 3))
 (wy4 K k_NoFit E))
theorem xg5(sf_rule:SeI K kY "rule")(sf_place:SeI K kY "place")(h:qd4 K kX kY vs H Q E):qg2 K kX kY E {nx:=fun _ H'=>Q .non H',rt:=Q} (G9 ["book","tree","place","parts","number"] vs) H:=by
 obtain⟨t,bv,v,rs,a,pl,rfl,A,qb,qg⟩:=h
 show qg2 K kX kY E _ [some bv,some v,some (.ref a),none,none] H
 unfold qg2
 lk
 refine⟨t,v,a,pl,0,rfl,A.d,A.a,A.l,fun q k ws u p us H1 e1 hw hu hk s1 hp du=>?_,fun hn H1 s1=>qb hn H1 s1⟩
 have hul:=O0 du
 have A1:=A.same s1
 have hv:=qu8 hw (i:=ws.length) (w:=u) (by simp)
 obtain⟨wu,hgu⟩:=qg0 hu
 have hkl:=V6 u.kids
 have aw:=A.w
 have al:=A.l
 have ah:=A.h
 subst e1
 rw[List.length_append] at al
 lk
 refine⟨1,rfl,?_⟩
 refine J9 A1.a (v:=.int k) (by rw[N1];exact Q0 (n:=q.length) (by simp[E4]) (by simp[E4])) ?_
 lk
 refine⟨1,rfl,?_⟩
 lk
 refine Z6 A1.a fun c3 H2 s2 hc3=>?_
 rw[N1,qi1] at hc3
 lk
 refine Z6 (s2.sqT hp) fun c4 H3 s3 hc4=>?_
 rw[qu6 (by omega),Int.toNat_natCast] at hc4
 lk
 refine .inl (qe6 ?_)
 lk
 refine Z6 ((A6.tr s2 s3).sqT hp) fun c5 H4 s4 hc5=>?_
 rw[qu7 (by omega),show((k:Int)+1).toNat=k+1 by omega] at hc5
 refine qc2 (s4.sqT hc4) hc5 (D8 (by rw[List.length_take,List.length_drop];omega)) fun c6 H5 s5 hc6=>?_
 have s35:=A6.tr s3 (A6.tr s4 s5)
 have s25:=A6.tr s2 s35
 obtain⟨w,hwk⟩:∃ w,u.kids[k]?=some w:=⟨_,List.getElem?_eq_getElem (by omega)⟩
 have ol:=ym3 hwk
 have jl:=qn6 (wi6 u.kids k)
 have du:=Dvs.same s25 _ _ du
 lk
 refine⟨c6,_,wi6 u.kids k,rfl,hc6,?_,by omega,fun c8 zs H6 s6 hc8 dz=>?_⟩
 ·unfold wi6
  rw[U4,qn4,qn5]
  exact Dvs.append (qi2 _ du) (qi3 _ du)
 obtain⟨b1,b2⟩:=Y8 (B:=0) (C:=0) hw hu (ps:=W8 (wi6 u.kids k)) (by omega) (by omega)
 have s26:=A6.tr s25 s6
 lk
 exact xr4 (A1.same s26).R (A1.same s26).d ((A6.tr s35 s6).sqT hc3) hw hu (SqT.of hc8) dz (by omega) (by omega) (by omega) (by omega) ((qg q k ws u rfl hw hu (by omega)).same (A6.tr s1 s26))
def zc8(t:Tr)(pl:List Int):Prop:=∃ (q:List Int) (k:Nat) (ws:List Tr) (u w:Tr),pl=q++[(k:Int)]/\way t q=some (ws++[u])/\u.isTx=false/\u.kids[k]?=some w/\w.isTx=false
abbrev xz6(K:Fg)(k_NoPlace:Addr)(E:XK):TS :=
 (wg1 k_NoPlace E (A2 (tC (.str ("at the place stands a text, which has no parts":Str))) B1))
abbrev xz7(K:Fg)(k_NoFit:Addr)(E:XK):TS :=
 (I0 (B9 (S7 K k_NoFit) [] E (A2 (A4 0) (A2 (B9 (Q1 K) [] E0 (A2 (A4 1) (A2 (tSl (qh5 K) (A4 2) N9 (S6 (tUn (rU fun i=>.int (-i)) (tC (.int 1))))) (A2 (B9 (qn7 K) [] E0 (A2 (tOp (O7 K) (tOp (O7 K) (tSl (qh5 K) (A4 3) N9 (S6 (A4 4))) (A4 5)) (tSl (qh5 K) (A4 3) (S6 (tOp (O7 K) (A4 4) (tC (.int 1)))) N9)) B1)) B1)))) B1))))
abbrev xz8(K:Fg)(k_NoFit:Addr)(E:XK):TS :=
 (C0 (D9 (B9 (O9 K) [] E0 (A2 (tOp (J0 K) (A4 3) (A4 4)) B1)) (B3 5))
 (xz7 K k_NoFit E))
abbrev xz9(K:Fg)(k_NoPlace:Addr)(k_NoFit:Addr)(E:XK):TS :=
 (C0 (M0 (tB (B9 (S1 K) [] E0 (A2 (tOp (J0 K) (A4 3) (A4 4)) B1)))
 (xz6 K k_NoPlace E) E9)
 (xz8 K k_NoFit E))
abbrev ya0(K:Fg)(k_NoPlace:Addr)(k_NoFit:Addr)(E:XK):TS :=
 (C0 (D9 (tOp (J0 K) (A4 2) (tUn (rU fun i=>.int (-i)) (tC (.int 1)))) (B3 4))
 (xz9 K k_NoPlace k_NoFit E))
def qq6(K:Fg)(kX:Addr)(kY:Addr):Sp:=fun vs H Q E=>∃ (t:Tr) (bv v:V) (rs:List Row) (a:Addr) (pl:List Int),vs=[bv,v,.ref a]/\Ask K H t bv v rs a pl/\(¬zc8 t pl->∀ H',A6 H H'->E (.ref kX) none H')/\∀ (q:List Int) (k:Nat) (ws:List Tr) (u w:Tr),pl=q++[(k:Int)]->way t q=some (ws++[u])->u.isTx=false->u.kids[k]?=some w->w.isTx=false->xz2 K H Q E kY rs (R1 t q (W8 (we1 u.kids k w)))
def qx3(K:Fg)(k_NoPlace:Addr)(k_NoFit:Addr)(E:XK):TS :=
 (C0 (D9 (B9 (O4 K k_NoPlace) [] E (A2 (A4 1) (A2 (A4 2) (A2 (tC (.int 0)) B1)))) (B3 3))
 (ya0 K k_NoPlace k_NoFit E))
theorem yh1(sf_rule:SeI K kY "rule")(sf_place:SeI K kY "place")(h:qq6 K kX kY vs H Q E):qx3 K kX kY E {nx:=fun _ H'=>Q .non H',rt:=Q} (G9 ["book","tree","place","parts","number","inner"] vs) H:=by
 obtain⟨t,bv,v,rs,a,pl,rfl,A,qb,qg⟩:=h
 show qx3 K kX kY E _ [some bv,some v,some (.ref a),none,none,none] H
 unfold qx3
 lk
 refine⟨t,v,a,pl,0,rfl,A.d,A.a,A.l,fun q k ws u p us H1 e1 hw hu hk s1 hp du=>?_,fun hn H1 s1=>qb (fun⟨q,k,ws,u,w,e,h1,h2,h3,_⟩=>hn ⟨q,k,ws,u,e,h1,h2,by have:=(List.getElem?_eq_some_iff.mp h3).1;omega⟩) H1 s1⟩
 have hul:=O0 du
 have A1:=A.same s1
 have hv:=qu8 hw (i:=ws.length) (w:=u) (by simp)
 obtain⟨wu,hgu⟩:=qg0 hu
 have hkl:=V6 u.kids
 have aw:=A.w
 have al:=A.l
 have ah:=A.h
 subst e1
 rw[List.length_append] at al
 lk
 refine⟨1,rfl,?_⟩
 refine J9 A1.a (v:=.int k) (by rw[N1];exact Q0 (n:=q.length) (by simp[E4]) (by simp[E4])) ?_
 lk
 obtain⟨w,hwk⟩:∃ w,u.kids[k]?=some w:=⟨_,List.getElem?_eq_getElem (by omega)⟩
 obtain⟨y,hy,dy⟩:=qa0 du hwk
 refine J9 hp (ixI (by omega) (by rw[Int.toNat_natCast];exact hy)) ?_
 lk
 refine⟨w,y,rfl,dy,?_⟩
 cases hwx:w.isTx with
 | true =>
   lk
   refine⟨D8 (by z_go),qb ?_ H1 s1⟩
   rintro⟨q',k',ws',u',w',e,h1,h2,h3,h4⟩
   obtain⟨rfl,e2⟩:=List.append_inj' e rfl
   injection e2 with e2 _
   obtain rfl:=qi5 hw h1
   rw[show k'=k by omega,hwk] at h3
   cases h3
   rw[hwx] at h4;cases h4
 | false =>
   lk
   refine J9 hp (ixI (by omega) (by rw[Int.toNat_natCast];exact hy)) ?_
   lk
   refine⟨w,y,rfl,dy,fun ci vi Hi si hci di=>?_⟩
   have hil:=O0 di
   have ai:=A1.same si
   have kl:=V6 w.kids
   have ll:=ym4 hwk hwx
   have wk:=(qg0 hwx).1
   have ws1:=(wi7 hwk).1
   lk
   refine⟨1,rfl,?_⟩
   lk
   refine Z6 ai.a fun c3 H2 s2 hc3=>?_
   rw[N1,qi1] at hc3
   lk
   refine Z6 ((A6.tr si s2).sqT hp) fun c4 H3 s3 hc4=>?_
   rw[qu6 (by omega),Int.toNat_natCast] at hc4
   lk
   refine qc2 hc4 ((A6.tr s2 s3).sqT hci) (D8 (by rw[List.length_take];omega)) fun c5 H4 s4 hc5=>?_
   lk
   refine .inl (qe6 ?_)
   lk
   refine Z6 ((A6.tr si (A6.tr s2 (A6.tr s3 s4))).sqT hp) fun c6 H5 s5 hc6=>?_
   rw[qu7 (by omega),show((k:Int)+1).toNat=k+1 by omega] at hc6
   refine qc2 (s5.sqT hc5) hc6 (D8 (by rw[List.length_append,List.length_take,List.length_drop];omega)) fun c7 H6 s6 hc7=>?_
   have s36:=A6.tr s3 (A6.tr s4 (A6.tr s5 s6))
   have s26:=A6.tr s2 s36
   have si6:=A6.tr si s26
   have jl:=qn6 (we1 u.kids k w)
   have du:=Dvs.same si6 _ _ du
   lk
   refine⟨c7,_,we1 u.kids k w,rfl,hc7,?_,by omega,fun c8 zs H7 s7 hc8 dz=>?_⟩
   ·unfold we1
    rw[U4,U4,qn4,qn5]
    exact Dvs.append (Dvs.append (qi2 _ du) (Dvs.same s26 _ _ di)) (qi3 _ du)
   obtain⟨b1,b2⟩:=Y8 (B:=0) (C:=0) hw hu (ps:=W8 (we1 u.kids k w)) (by omega) (by omega)
   have s27:=A6.tr si6 s7
   lk
   exact xr4 (A1.same s27).R (A1.same s27).d ((A6.tr s36 s7).sqT hc3) hw hu (SqT.of hc8) dz (by omega) (by omega) (by omega) (by omega) ((qg q k ws u w rfl hw hu hwk hwx).same (A6.tr s1 s27))
inductive wn5(t:Tr):List Int->Int->Tr->Str->Int->Tr->Prop
 | set {q:List Int} {k:Nat} {ws:List Tr} {u bit:Tr} {nm:Str} {stop:Int}:way t q=some (ws++[u])->u.isTx=false->k<=u.kids.length->wn5 t (q++[(k:Int)]) 0 bit nm stop (R1 t q (we0 u.kids k bit))
 | out {q:List Int} {k:Nat} {ws:List Tr} {u bit:Tr} {nm:Str} {stop:Int}:way t q=some (ws++[u])->u.isTx=false->k<u.kids.length->wn5 t (q++[(k:Int)]) 1 bit nm stop (R1 t q (W8 (wi6 u.kids k)))
 | arn {q:List Int} {k m:Nat} {ws:List Tr} {u bit:Tr} {nm:Str}:way t q=some (ws++[u])->u.isTx=false->k<=m->m<=u.kids.length->wn5 t (q++[(k:Int)]) 2 bit nm m (R1 t q (Z1 u.kids k m nm))
 | lft {q:List Int} {k:Nat} {ws:List Tr} {u w bit:Tr} {nm:Str} {stop:Int}:way t q=some (ws++[u])->u.isTx=false->u.kids[k]?=some w->w.isTx=false->wn5 t (q++[(k:Int)]) 3 bit nm stop (R1 t q (W8 (we1 u.kids k w)))
def Bad(t:Tr)(pl:List Int)(wy stop:Int):Prop:=(wy=0/\¬wx5 t pl 1)\/(wy=1/\¬wx5 t pl 0)\/(wy=3/\¬zc8 t pl)\/(wy=2/\¬ym2 t pl stop)
structure Thg(K:Fg)(H:Hp)(wy:Int)(th:V)(bit:Tr)(nm:Str):Prop where
 b:wy=0->Dv K H bit.da th
 n:wy=2->th=.str nm
 w:wt bit<=10000
 h:hgt bit<=300
variable{th:V}{wy:Int}
theorem Thg.no(h0:wy≠0)(h2:wy≠2):Thg K H wy th (.tx "") "":=⟨fun e=>absurd e h0,fun e=>absurd e h2,by decide,by decide⟩
theorem we2{q':List Int}{k k':Nat}(e:q++[(k:Int)]=q'++[(k':Int)]):q=q'/\k=k':=by
 obtain⟨h1,e2⟩:=List.append_inj' e rfl
 injection e2 with e2 _
 exact⟨h1,by omega⟩
abbrev wn6(K:Fg)(k_NoPlace:Addr)(k_NoFit:Addr)(E:XK):TS :=
 (I0 (B9 (qq5 K k_NoPlace k_NoFit) [] E (A2 (A4 1) (A2 (A4 2) (A2 (A4 3) (A2 (A4 4) B1))))))
abbrev wn7(K:Fg)(k_NoPlace:Addr)(k_NoFit:Addr)(E:XK):TS :=
 (I0 (B9 (qd4 K k_NoPlace k_NoFit) [] E (A2 (A4 1) (A2 (A4 2) (A2 (A4 3) B1)))))
abbrev wn8(K:Fg)(k_NoPlace:Addr)(k_NoFit:Addr)(E:XK):TS :=
 (I0 (B9 (qb2 K k_NoPlace k_NoFit) [] E (A2 (A4 1) (A2 (A4 2) (A2 (A4 3) (A2 (A4 5) (A2 (A4 4) B1)))))))
abbrev wn9(K:Fg)(k_NoPlace:Addr)(k_NoFit:Addr)(E:XK):TS :=
 (I0 (B9 (qq6 K k_NoPlace k_NoFit) [] E (A2 (A4 1) (A2 (A4 2) (A2 (A4 3) B1)))))
abbrev wo0(K:Fg)(k_NoPlace:Addr)(k_NoFit:Addr)(E:XK):TS :=
 (C0 (M0 (D7 (tOp (S4 K) (A4 0) (tC (.int 2))))
 (wn8 K k_NoPlace k_NoFit E) E9)
 (wn9 K k_NoPlace k_NoFit E))
abbrev wo1(K:Fg)(k_NoPlace:Addr)(k_NoFit:Addr)(E:XK):TS :=
 (C0 (M0 (D7 (tOp (S4 K) (A4 0) (tC (.int 1))))
 (wn7 K k_NoPlace k_NoFit E) E9)
 (wo0 K k_NoPlace k_NoFit E))
def qb3(K:Fg)(kX:Addr)(kY:Addr):Sp:=fun vs H Q E=>∃ (t:Tr) (bv v th:V) (rs:List Row) (a:Addr) (pl:List Int) (wy stop:Int) (bit:Tr) (nm:Str),vs=[.int wy,bv,v,.ref a,th,.int stop]/\Ask K H t bv v rs a pl/\Thg K H wy th bit nm/\((Bad t pl wy stop/\∀ H',A6 H H'->E (.ref kX) none H')\/∃ t',wn5 t pl wy bit nm stop t'/\xz2 K H Q E kY rs t')
def qd5(K:Fg)(k_NoPlace:Addr)(k_NoFit:Addr)(E:XK):TS :=
 (C0 (M0 (D7 (tOp (S4 K) (A4 0) (tC (.int 0))))
 (wn6 K k_NoPlace k_NoFit E) E9)
 (wo1 K k_NoPlace k_NoFit E))
theorem wy6(sf_rule:SeI K kY "rule")(sf_place:SeI K kY "place")(h:qb3 K kX kY vs H Q E):qd5 K kX kY E {nx:=fun _ H'=>Q .non H',rt:=Q} (G9 ["_law_way","_law_book_here","_law_tree","_law_place","_law_thing","_law_stop"] vs) H:=by
 obtain⟨t,bv,v,th,rs,a,pl,wy,stop,bit,nm,rfl,A,B,q⟩:=h
 show qd5 K kX kY E _ [some (.int wy),some bv,some v,some (.ref a),some th,some (.int stop)] H
 unfold qd5
 lk
 by_cases h0:wy=0
 ·subst h0
  rw[decide_eq_true rfl]
  x_go
  lk
  refine⟨t,bv,v,th,rs,a,pl,bit,rfl,A,B.b rfl,B.w,B.h,?_,?_⟩
  ·rcases q with⟨_,q⟩|⟨t',d,_⟩
   ·exact fun _=>q
   ·cases d with|set h1 h2 h3=>exact fun hn=>absurd ⟨_,_,_,_,rfl,h1,h2,by omega⟩ hn
  ·intro p k ws u e hw hu hk
   rcases q with⟨hb,q⟩|⟨t',d,M⟩
   ·have:¬wx5 t pl 1:=by rcases hb with h|h|h|h <;> first|exact h.2|exact absurd h.1 (by decide)
    exact absurd ⟨p,k,ws,u,e,hw,hu,by omega⟩ this
   ·cases d with
    | set h1 h2 h3 =>
      obtain⟨rfl,rfl⟩:=we2 e
      obtain rfl:=qi5 hw h1
      exact M
 rw[decide_eq_false h0]
 k_go
 lk
 by_cases h1:wy=1
 ·subst h1
  rw[decide_eq_true rfl]
  x_go
  lk
  refine⟨t,bv,v,rs,a,pl,rfl,A,?_,?_⟩
  ·rcases q with⟨_,q⟩|⟨t',d,_⟩
   ·exact fun _=>q
   ·cases d with|out h1 h2 h3=>exact fun hn=>absurd ⟨_,_,_,_,rfl,h1,h2,by omega⟩ hn
  ·intro p k ws u e hw hu hk
   rcases q with⟨hb,q⟩|⟨t',d,M⟩
   ·have:¬wx5 t pl 0:=by rcases hb with h|h|h|h <;> first|exact h.2|exact absurd h.1 (by decide)
    exact absurd ⟨p,k,ws,u,e,hw,hu,by omega⟩ this
   ·cases d with
    | out h1 h2 h3 =>
      obtain⟨rfl,rfl⟩:=we2 e
      obtain rfl:=qi5 hw h1
      exact M
 rw[decide_eq_false h1]
 k_go
 lk
 by_cases h2:wy=2
 ·subst h2
  rw[decide_eq_true rfl]
  x_go
  obtain rfl:=B.n rfl
  lk
  refine⟨t,bv,v,rs,a,pl,stop,nm,rfl,A.R,A.d,A.a,Nat.le_trans A.w (by decide),Nat.le_trans A.h (by decide),A.l,?_,?_⟩
  ·rcases q with⟨_,q⟩|⟨t',d,_⟩
   ·exact fun _=>q
   ·cases d with|arn h1 h2 h3 h4=>exact fun hn=>absurd ⟨_,_,_,_,rfl,h1,h2,by omega,by omega⟩ hn
  ·intro p k m ws u e hw hu hk hm hs
   rcases q with⟨hb,q⟩|⟨t',d,M⟩
   ·have:¬ym2 t pl stop:=by rcases hb with h|h|h|h <;> first|exact h.2|exact absurd h.1 (by decide)
    exact absurd ⟨p,k,ws,u,e,hw,hu,by omega,by omega⟩ this
   ·cases d with
    | arn h1 h2 h3 h4 =>
      obtain⟨rfl,rfl⟩:=we2 e
      obtain rfl:=qi5 hw h1
      obtain rfl:=Int.ofNat_inj.mp hs
      exact⟨M.q0,M.q1⟩
 ·rw [decide_eq_false h2]
  k_go
  lk
  refine⟨t,bv,v,rs,a,pl,rfl,A,?_,?_⟩
  ·rcases q with⟨_,q⟩|⟨t',d,_⟩
   ·exact fun _=>q
   ·cases d with
    | lft g1 g2 g3 g4=>exact fun hn=>absurd ⟨_,_,_,_,_,rfl,g1,g2,g3,g4⟩ hn
    | set=>exact absurd rfl h0
    | out=>exact absurd rfl h1
    | arn=>exact absurd rfl h2
  ·intro p k ws u w e hw hu hk hwx
   rcases q with⟨hb,q⟩|⟨t',d,M⟩
   ·have:¬zc8 t pl:=by rcases hb with h|h|h|h <;> first|exact h.2|exact absurd h.1 (by assumption)
    exact absurd ⟨p,k,ws,u,w,e,hw,hu,hk,hwx⟩ this
   ·cases d with
    | lft g1 g2 g3 g4 =>
      obtain⟨rfl,rfl⟩:=we2 e
      obtain rfl:=qi5 hw g1
      rw[hk] at g3
      cases g3
      exact M
    | set=>exact absurd rfl h0
    | out=>exact absurd rfl h1
    | arn=>exact absurd rfl h2
structure Ers(K:Fg)(k_Ended:Addr)(k_NoBook:Addr)(k_NoFit:Addr)(k_NoPlace:Addr)(k_NoSpot:Addr)(k_NoText:Addr)(k_NotEnded:Addr)(k_TagError:Addr):Prop where
 ga_NoFit:PySem.W.findIn K (.ref k_NoFit) "__getattribute__"=some (some (.builtin "BaseException.__getattribute__"))
 gn_NoFit:PySem.W.findIn K (.ref k_NoFit) "__getattr__"=some none
 cl_NoFit:PySem.W.findIn K (.ref k_NoFit) "__class__"=some (some (.builtin "object.__class__"))
 bx_NoFit:PySem.W.subIn K (.ref k_NoFit) (.type "BaseException")=some true
 ob_NoFit:PySem.W.subIn K (.ref k_NoFit) (.type "object")=some true
 ve_NoFit:PySem.W.subIn K (.ref k_NoFit) (.type "ValueError")=some true
 s_NoFit_Ended:PySem.W.subIn K (.ref k_NoFit) (.ref k_Ended)=some false
 s_NoFit_NoBook:PySem.W.subIn K (.ref k_NoFit) (.ref k_NoBook)=some false
 s_NoFit_NoFit:PySem.W.subIn K (.ref k_NoFit) (.ref k_NoFit)=some true
 s_NoFit_NoPlace:PySem.W.subIn K (.ref k_NoFit) (.ref k_NoPlace)=some false
 s_NoFit_NoSpot:PySem.W.subIn K (.ref k_NoFit) (.ref k_NoSpot)=some false
 s_NoFit_NoText:PySem.W.subIn K (.ref k_NoFit) (.ref k_NoText)=some false
 s_NoFit_NotEnded:PySem.W.subIn K (.ref k_NoFit) (.ref k_NotEnded)=some false
 ga_NoPlace:PySem.W.findIn K (.ref k_NoPlace) "__getattribute__"=some (some (.builtin "BaseException.__getattribute__"))
 gn_NoPlace:PySem.W.findIn K (.ref k_NoPlace) "__getattr__"=some none
 cl_NoPlace:PySem.W.findIn K (.ref k_NoPlace) "__class__"=some (some (.builtin "object.__class__"))
 bx_NoPlace:PySem.W.subIn K (.ref k_NoPlace) (.type "BaseException")=some true
 ob_NoPlace:PySem.W.subIn K (.ref k_NoPlace) (.type "object")=some true
 ve_NoPlace:PySem.W.subIn K (.ref k_NoPlace) (.type "ValueError")=some true
 s_NoPlace_Ended:PySem.W.subIn K (.ref k_NoPlace) (.ref k_Ended)=some false
 s_NoPlace_NoBook:PySem.W.subIn K (.ref k_NoPlace) (.ref k_NoBook)=some false
 s_NoPlace_NoFit:PySem.W.subIn K (.ref k_NoPlace) (.ref k_NoFit)=some false
 s_NoPlace_NoPlace:PySem.W.subIn K (.ref k_NoPlace) (.ref k_NoPlace)=some true
 s_NoPlace_NoSpot:PySem.W.subIn K (.ref k_NoPlace) (.ref k_NoSpot)=some false
 s_NoPlace_NoText:PySem.W.subIn K (.ref k_NoPlace) (.ref k_NoText)=some false
 s_NoPlace_NotEnded:PySem.W.subIn K (.ref k_NoPlace) (.ref k_NotEnded)=some false
 ic_Ended:PySem.W.isClsIn K k_Ended=true
 it_Ended:PySem.W.typeIn K (.ref k_Ended)=some (.type "type")
 ic_NoBook:PySem.W.isClsIn K k_NoBook=true
 it_NoBook:PySem.W.typeIn K (.ref k_NoBook)=some (.type "type")
 ic_NoFit:PySem.W.isClsIn K k_NoFit=true
 it_NoFit:PySem.W.typeIn K (.ref k_NoFit)=some (.type "type")
 ic_NoPlace:PySem.W.isClsIn K k_NoPlace=true
 it_NoPlace:PySem.W.typeIn K (.ref k_NoPlace)=some (.type "type")
 ic_NoSpot:PySem.W.isClsIn K k_NoSpot=true
 it_NoSpot:PySem.W.typeIn K (.ref k_NoSpot)=some (.type "type")
 ic_NoText:PySem.W.isClsIn K k_NoText=true
 it_NoText:PySem.W.typeIn K (.ref k_NoText)=some (.type "type")
 ic_NotEnded:PySem.W.isClsIn K k_NotEnded=true
 it_NotEnded:PySem.W.typeIn K (.ref k_NotEnded)=some (.type "type")
variable{k_Ended k_NoBook k_NoFit k_NoPlace k_NoSpot k_NoText k_NotEnded k_TagError:Addr}
theorem Ers.l_Ended(e:Ers K k_Ended k_NoBook k_NoFit k_NoPlace k_NoSpot k_NoText k_NotEnded k_TagError):qs6 K k_Ended:=⟨e.ic_Ended,e.it_Ended⟩
theorem Ers.l_NoBook(e:Ers K k_Ended k_NoBook k_NoFit k_NoPlace k_NoSpot k_NoText k_NotEnded k_TagError):qs6 K k_NoBook:=⟨e.ic_NoBook,e.it_NoBook⟩
theorem Ers.l_NoFit(e:Ers K k_Ended k_NoBook k_NoFit k_NoPlace k_NoSpot k_NoText k_NotEnded k_TagError):qs6 K k_NoFit:=⟨e.ic_NoFit,e.it_NoFit⟩
theorem Ers.l_NoPlace(e:Ers K k_Ended k_NoBook k_NoFit k_NoPlace k_NoSpot k_NoText k_NotEnded k_TagError):qs6 K k_NoPlace:=⟨e.ic_NoPlace,e.it_NoPlace⟩
theorem Ers.l_NoSpot(e:Ers K k_Ended k_NoBook k_NoFit k_NoPlace k_NoSpot k_NoText k_NotEnded k_TagError):qs6 K k_NoSpot:=⟨e.ic_NoSpot,e.it_NoSpot⟩
theorem Ers.l_NoText(e:Ers K k_Ended k_NoBook k_NoFit k_NoPlace k_NoSpot k_NoText k_NotEnded k_TagError):qs6 K k_NoText:=⟨e.ic_NoText,e.it_NoText⟩
theorem Ers.l_NotEnded(e:Ers K k_Ended k_NoBook k_NoFit k_NoPlace k_NoSpot k_NoText k_NotEnded k_TagError):qs6 K k_NotEnded:=⟨e.ic_NotEnded,e.it_NotEnded⟩
theorem Ers.e_NoFit(e:Ers K k_Ended k_NoBook k_NoFit k_NoPlace k_NoSpot k_NoText k_NotEnded k_TagError):xn9 K k_NoFit:=⟨⟨e.ga_NoFit,e.gn_NoFit,e.cl_NoFit,e.bx_NoFit,e.ob_NoFit⟩,e.l_NoFit,e.s_NoFit_NoFit⟩
theorem Ers.e_NoPlace(e:Ers K k_Ended k_NoBook k_NoFit k_NoPlace k_NoSpot k_NoText k_NotEnded k_TagError):xn9 K k_NoPlace:=⟨⟨e.ga_NoPlace,e.gn_NoPlace,e.cl_NoPlace,e.bx_NoPlace,e.ob_NoPlace⟩,e.l_NoPlace,e.s_NoPlace_NoPlace⟩
abbrev xg6(K:Fg)(k_NoFit:Addr):TS :=
 (I0 (tOp qt3 (X4 (A2 (tC (.str ("place":Str))) B1)) (tOp (rI0 fun i j=>.int (i-j)) (tC (.int 2)) (tCB yj1 (A2 (tCB (qr9 K) (A2 (A4 6) (A2 (tC (.ref k_NoFit)) B1))) B1)))))
abbrev xg7(K:Fg)(k_NoFit:Addr):TS :=
 (I0 (X4 (A2 (tCB (qr9 K) (A2 (A4 6) (A2 (tC (.ref k_NoFit)) B1))) (A2 (yr4 K (A4 6) "rule") (A2 (yr4 K (A4 6) "place") B1)))))
abbrev xg8(K:Fg)(k_NoFit:Addr):TS :=
 (C0 (M0 (tOr (wq1 (tB (tCB (qr9 K) (A2 (yr4 K (A4 6) "rule") (A2 (tC (.ty "str")) B1))))) (wq1 (tB (tCB (qr9 K) (A2 (yr4 K (A4 6) "place") (A2 (tC (.ty "tuple")) B1))))))
 (I0 (X4 B1)) E9)
 (xg7 K k_NoFit))
abbrev xg9(K:Fg)(k_NoPlace:Addr)(k_NoFit:Addr):TS :=
 (C0 (M0 (tB (tCB (qr9 K) (A2 (A4 6) (A2 (tC (.ref k_NoPlace)) B1))))
 (xg6 K k_NoFit) E9)
 (xg8 K k_NoFit))
abbrev xh0(K:Fg)(k_NoText:Addr)(k_NoBook:Addr)(k_NoSpot:Addr)(k_Ended:Addr)(k_NotEnded:Addr)(k_NoPlace:Addr)(k_NoFit:Addr):TS :=
 (C0 (M0 (tOr (wq1 (tB (tCB (qr9 K) (A2 (A4 6) (A2 (tC (.ty "ValueError")) B1))))) (tB (tCB (qr9 K) (A2 (A4 6) (A2 (O1 (A2 (tC (.ref k_NoText)) (A2 (tC (.ref k_NoBook)) (A2 (tC (.ref k_NoSpot)) (A2 (tC (.ref k_Ended)) (A2 (tC (.ref k_NotEnded)) B1)))))) B1)))))
 (I0 (X4 B1)) E9)
 (xg9 K k_NoPlace k_NoFit))
abbrev xh1(K:Fg)(k_NoText:Addr)(k_NoBook:Addr)(k_NoSpot:Addr)(k_Ended:Addr)(k_NotEnded:Addr)(k_NoPlace:Addr)(k_NoFit:Addr):TS :=
 (C0 (M0 (D7 (tOp xu0 (A4 6) (tC .non)))
 (I0 (X4 (A2 (A4 7) B1))) E9)
 (xh0 K k_NoText k_NoBook k_NoSpot k_Ended k_NotEnded k_NoPlace k_NoFit))
abbrev xh2(K:Fg)(k_NoPlace:Addr)(k_NoFit:Addr)(k_NoText:Addr)(k_NoBook:Addr)(k_NoSpot:Addr)(k_Ended:Addr)(k_NotEnded:Addr):TS :=
 (C0 (yk4 [k_NoPlace,k_NoFit] 8 7 (fun E=>B9 (qb3 K k_NoPlace k_NoFit) [] E (A2 (A4 0) (A2 (A4 1) (A2 (A4 2) (A2 (A4 3) (A2 (A4 4) (A2 (A4 5) B1))))))) (D9 (A4 8) (B3 6)))
 (xh1 K k_NoText k_NoBook k_NoSpot k_Ended k_NotEnded k_NoPlace k_NoFit))
abbrev xh3(K:Fg)(k_NoPlace:Addr)(k_NoFit:Addr)(k_NoText:Addr)(k_NoBook:Addr)(k_NoSpot:Addr)(k_Ended:Addr)(k_NotEnded:Addr):TS :=
 (C0 (D9 (tC .non) (B3 7))
 (xh2 K k_NoPlace k_NoFit k_NoText k_NoBook k_NoSpot k_Ended k_NotEnded))
def qb4(K:Fg):Sp:=fun vs H Q _=>∃ (t:Tr) (bv v th:V) (rs:List Row) (a:Addr) (pl:List Int) (wy stop:Int) (bit:Tr) (nm:Str),vs=[.int wy,bv,v,.ref a,th,.int stop]/\Ask K H t bv v rs a pl/\Thg K H wy th bit nm/\((Bad t pl wy stop/\∀ p H',A6 H H'->H' p=some (.lst [.str ("place":Str),.str ("place":Str)])->Q (.ref p) H')\/∃ t',wn5 t pl wy bit nm stop t'/\(Q4 (ffk rs [] [] t')=none->∀ l x H',A6 H H'->H' l=some (.lst [x])->Dv K H' t'.da x->Q (.ref l) H')/\∀ r pl',Q4 (ffk rs [] [] t')=some (r,pl')->∀ l p H',A6 H H'->H' l=some (.lst [.bl true,.str r,.ref p])->SqT K H' p (E4 pl')->Q (.ref l) H')
def qk6(K:Fg)(k_NoPlace:Addr)(k_NoFit:Addr)(k_NotEnded:Addr)(k_Ended:Addr)(k_NoSpot:Addr)(k_NoBook:Addr)(k_NoText:Addr):TS :=
 (C0 (D9 (tC .non) (B3 6))
 (xh3 K k_NoPlace k_NoFit k_NoText k_NoBook k_NoSpot k_Ended k_NotEnded))
theorem xr5(ei_rule:ExI K k_NoFit "rule")(ei_place:ExI K k_NoFit "place")(er:Ers K k_Ended k_NoBook k_NoFit k_NoPlace k_NoSpot k_NoText k_NotEnded k_TagError)(h:qb4 K vs H Q E):qk6 K k_NoPlace k_NoFit k_NotEnded k_Ended k_NoSpot k_NoBook k_NoText {nx:=fun _ H'=>Q .non H',rt:=Q} (G9 ["_law_way","_law_book_here","_law_tree","_law_place","_law_thing","_law_stop","_law_error","_law_found","e"] vs) H:=by
 obtain⟨t,bv,v,th,rs,a,pl,wy,stop,bit,nm,rfl,A,B,q⟩:=h
 show qk6 K _ _ _ _ _ _ _ _ [some (.int wy),some bv,some v,some (.ref a),some th,some (.int stop),none,none,none] H
 unfold qk6
 lk
 show yk4 [k_NoPlace,k_NoFit] 8 7 _ _ _ _ _
 unfold yk4
 lk
 refine⟨t,bv,v,th,rs,a,pl,wy,stop,bit,nm,rfl,A,B,?_⟩
 rcases q with⟨hb,q⟩|⟨t',dd,q0,q1⟩
 ·refine .inl ⟨hb,fun H1 s1=>⟨k_NoPlace,by simp,rfl,fun x hx=>?_⟩⟩
  have e1:(upd H1 x (qm9 x k_NoPlace none)) x=some (qm9 x k_NoPlace none):=A7
  have s2:A6 H (upd H1 x (qm9 x k_NoPlace none)):=A6.tr s1 (A6.new hx _)
  generalize upd H1 x (qm9 x k_NoPlace none)=H2 at *
  lk
  rw[decide_eq_false (show ¬(V.ref x=V.non) from fun z=>by cases z)]
  k_go
  lk
  refine yk5 e1 er.e_NoPlace (by rfl) er.ve_NoPlace ?_
  lk
  k_go
  lk
  refine⟨D8 (by z_go),fun c hc=>?_⟩
  have s3:=A6.new hc (.tup [.ref k_NoText,.ref k_NoBook,.ref k_NoSpot,.ref k_Ended,.ref k_NotEnded])
  have e3:(upd H2 c (.tup [.ref k_NoText,.ref k_NoBook,.ref k_NoSpot,.ref k_Ended,.ref k_NotEnded])) c=some (.tup [.ref k_NoText,.ref k_NoBook,.ref k_NoSpot,.ref k_Ended,.ref k_NotEnded]):=A7
  generalize upd H2 c (.tup [.ref k_NoText,.ref k_NoBook,.ref k_NoSpot,.ref k_Ended,.ref k_NotEnded])=H3 at *
  have e1:=s3 _ _ e1
  lk
  refine yk6 (cs:=[k_NoText,k_NoBook,k_NoSpot,k_Ended,k_NotEnded]) e1 er.e_NoPlace (SqT.of e3) ?_ ?_
  ·intro D hD
   simp only[List.mem_cons,List.not_mem_nil,or_false] at hD
   rcases hD with rfl|rfl|rfl|rfl|rfl
   ·exact⟨er.l_NoText,er.s_NoPlace_NoText⟩
   ·exact⟨er.l_NoBook,er.s_NoPlace_NoBook⟩
   ·exact⟨er.l_NoSpot,er.s_NoPlace_NoSpot⟩
   ·exact⟨er.l_Ended,er.s_NoPlace_Ended⟩
   ·exact⟨er.l_NotEnded,er.s_NoPlace_NotEnded⟩
  lk
  refine xo3 e1 er.e_NoPlace er.l_NoPlace er.s_NoPlace_NoPlace ?_
  lk
  refine⟨D8 (by z_go),fun l hl=>?_⟩
  have s4:=A6.new hl (.lst [.str ("place":Str)])
  have e4:(upd H3 l (.lst [.str ("place":Str)])) l=some (.lst [.str ("place":Str)]):=A7
  generalize upd H3 l (.lst [.str ("place":Str)])=H4 at *
  have e1:=s4 _ _ e1
  lk
  refine xo3 e1 er.e_NoPlace er.l_NoFit er.s_NoPlace_NoFit ?_
  lk
  refine .inr ⟨_,rfl,?_⟩
  lk
  refine .inr (.inr ⟨l,_,_,rfl,rfl,e4,by decide,by decide,D8 (by decide),fun p hp=>?_⟩)
  exact q p _ (A6.tr s2 (A6.tr s3 (A6.tr s4 (A6.new hp _)))) A7
 ·refine .inr ⟨t',dd,fun hn x H1 s1 dx=>?_,fun r pl' ho dx p H1 s1 hdx hp=>⟨k_NoFit,by simp,rfl,fun x hx=>?_⟩⟩
  ·lk
   rw[decide_eq_true rfl]
   x_go
   lk
   refine⟨D8 (by z_go),fun l hl=>?_⟩
   have s2:=A6.new hl (.lst [x])
   exact q0 hn l x _ (A6.tr s1 s2) A7 (Dv.same s2 _ _ dx)
  ·have e1:(upd H1 x (qm9 x k_NoFit (some dx))) x=some (qm9 x k_NoFit (some dx)):=A7
   have s2:A6 H1 (upd H1 x (qm9 x k_NoFit (some dx))):=A6.new hx _
   have hdx:=s2 _ _ hdx
   have hp:=s2.sqT hp
   generalize upd H1 x (qm9 x k_NoFit (some dx))=H2 at *
   lk
   rw[decide_eq_false (show ¬(V.ref x=V.non) from fun z=>by cases z)]
   k_go
   lk
   refine yk5 e1 er.e_NoFit (by rfl) er.ve_NoFit ?_
   lk
   k_go
   lk
   refine⟨D8 (by z_go),fun c hc=>?_⟩
   have s3:=A6.new hc (.tup [.ref k_NoText,.ref k_NoBook,.ref k_NoSpot,.ref k_Ended,.ref k_NotEnded])
   have e3:(upd H2 c (.tup [.ref k_NoText,.ref k_NoBook,.ref k_NoSpot,.ref k_Ended,.ref k_NotEnded])) c=some (.tup [.ref k_NoText,.ref k_NoBook,.ref k_NoSpot,.ref k_Ended,.ref k_NotEnded]):=A7
   generalize upd H2 c (.tup [.ref k_NoText,.ref k_NoBook,.ref k_NoSpot,.ref k_Ended,.ref k_NotEnded])=H3 at *
   have e1:=s3 _ _ e1
   have hdx:=s3 _ _ hdx
   have hp:=s3.sqT hp
   lk
   refine yk6 (cs:=[k_NoText,k_NoBook,k_NoSpot,k_Ended,k_NotEnded]) e1 er.e_NoFit (SqT.of e3) ?_ ?_
   ·intro D hD
    simp only[List.mem_cons,List.not_mem_nil,or_false] at hD
    rcases hD with rfl|rfl|rfl|rfl|rfl
    ·exact⟨er.l_NoText,er.s_NoFit_NoText⟩
    ·exact⟨er.l_NoBook,er.s_NoFit_NoBook⟩
    ·exact⟨er.l_NoSpot,er.s_NoFit_NoSpot⟩
    ·exact⟨er.l_Ended,er.s_NoFit_Ended⟩
    ·exact⟨er.l_NotEnded,er.s_NoFit_NotEnded⟩
   lk
   refine xo3 e1 er.e_NoFit er.l_NoPlace er.s_NoFit_NoPlace ?_
   lk
   refine xo2 ?_
   lk
   refine⟨x,k_NoFit,dx,_,_,rfl,e1,hdx,ei_rule,rfl,?_⟩
   lk
   refine yk7 (yx2 (.str _) (b:=true) rfl ?_)
   lk
   k_go
   lk
   refine xo2 ?_
   lk
   refine⟨x,k_NoFit,dx,_,_,rfl,e1,hdx,ei_place,rfl,?_⟩
   lk
   refine yk7 (yx3 hp (b:=true) rfl ?_)
   lk
   k_go
   lk
   refine xo3 e1 er.e_NoFit er.l_NoFit er.s_NoFit_NoFit ?_
   lk
   refine xo2 ?_
   lk
   refine⟨x,k_NoFit,dx,_,_,rfl,e1,hdx,ei_rule,rfl,?_⟩
   lk
   refine xo2 ?_
   lk
   refine⟨x,k_NoFit,dx,_,_,rfl,e1,hdx,ei_place,rfl,?_⟩
   lk
   refine⟨D8 (by z_go),fun l hl=>?_⟩
   have s4:=A6.new hl (.lst [.bl true,.str r,.ref p])
   exact q1 r pl' ho l p _ (A6.tr s1 (A6.tr s2 (A6.tr s3 s4))) A7 (s4.sqT hp)
mutual
def wbK(pl:List Int)(ab:List Str):Tr->List (T3×Bool)
 | .tx _=>[]
 | .nd _ ps=>wbS pl ab 0 false ps
def wbS(pl:List Int)(ab:List Str)(k:Nat)(bs:Bool):List Tr->List (T3×Bool)
 | []=>[]
 | t::ts=>((pl++[(k:Int)],ab,t),bs)::(wbK (pl++[(k:Int)]) (ab++[qe7 t]) t++wbS pl ab (k+1) t.isTx ts)
end
mutual
theorem zc9(pl:List Int)(ns ab:List Str):∀ t:Tr,wkT pl ns ab t=(pl,ns,t)::(wbK pl ab t).map (·.1)
 | .tx s=>by rw[wkT,wbK];rfl
 | .nd n ps=>by rw[wkT,wbK,zd0 pl ab 0 false ps]
theorem zd0(pl:List Int)(ab:List Str)(k:Nat)(bs:Bool):∀ ts:List Tr,wkS pl ab k ts=(wbS pl ab k bs ts).map (·.1)
 | []=>by rw[wkS,wbS];rfl
 | t::ts=>by rw[wkS,wbS,zc9 (pl++[(k:Int)]) ab (ab++[qe7 t]) t,zd0 pl ab (k+1) t.isTx ts,List.map_cons,List.map_append];rfl
end
def fOf(rs:List Row)(y:T3×Bool):List Int×Option Str:=(y.1.1,X3 rs y.1.2.1 y.1.2.2 y.2)
mutual
theorem yh2(rs:List Row)(pl:List Int)(ab:List Str):∀ t:Tr,ffk rs pl ab t=(wbK pl ab t).map (fOf rs)
 | .tx s=>by rw[ffk,wbK];rfl
 | .nd n ps=>by rw[ffk,wbK,zd1 rs pl ab 0 false ps]
theorem zd1(rs:List Row)(pl:List Int)(ab:List Str)(k:Nat)(bs:Bool):∀ ts:List Tr,ffs rs pl ab k bs ts=(wbS pl ab k bs ts).map (fOf rs)
 | []=>by rw[ffs,wbS];rfl
 | t::ts=>by rw[ffs,wbS,yh2 rs (pl++[(k:Int)]) (ab++[qe7 t]) t,zd1 rs pl ab (k+1) t.isTx ts,List.map_cons,List.map_append];rfl
end
mutual
theorem xr6(t:Tr)(q:List Int)(ab:List Str)(ws:List Tr):∀ p:Tr,way t q=some (ws++[p])->∀ y∈wbK q ab p,∃ ws',way t y.1.1=some (ws'++[y.1.2.2])
 | .tx s,_,y,hy=>by rw[wbK] at hy;cases hy
 | .nd n ps,hw,y,hy=>by
   rw[wbK] at hy
   exact ym5 t q ab ws (.nd n ps) hw [] ps rfl 0 false rfl y hy
theorem ym5(t:Tr)(q:List Int)(ab:List Str)(ws:List Tr)(p:Tr)(hw:way t q=some (ws++[p])):∀ (done ts:List Tr),p.kids=done++ts->∀ (k:Nat) (bs:Bool),k=done.length->∀ y∈wbS q ab k bs ts,∃ ws',way t y.1.1=some (ws'++[y.1.2.2])
 | done,[],_,k,bs,_,y,hy=>by rw[wbS] at hy;cases hy
 | done,u::us,hk,k,bs,hl,y,hy=>by
   have ek:p.kids[k]?=some u:=by rw[hk,hl];simp
   have hw2:=qn3 hw ek
   rw[wbS,List.mem_cons,List.mem_append] at hy
   rcases hy with rfl|hy|hy
   ·exact⟨ws++[p],hw2⟩
   ·exact xr6 t _ _ (ws++[p]) u hw2 y hy
   ·exact ym5 t q ab ws p hw (done++[u]) us (by rw[hk];simp) (k+1) u.isTx (by simp[hl]) y hy
end
def Sib(pl:List Int)(k:Nat)(bs:Bool)(L:List (T3×Bool)):Prop:=∀ (i:Nat) (y:T3×Bool),L[i]?=some y->∃ (q:List Int) (m:Nat),y.1.1=q++[(m:Int)]/\((m=0/\y.2=false)\/(∃ m',m=m'+1/\∃ z∈L.take i,z.1.1=q++[(m':Int)]/\z.1.2.2.isTx=y.2)\/(q=pl/\m=k/\y.2=bs))
mutual
theorem ym6(pl:List Int)(ab:List Str):∀ t:Tr,Sib pl 0 false (wbK pl ab t)
 | .tx s=>by rw[wbK];intro i y h;simp at h
 | .nd n ps=>by rw[wbK];exact ym7 pl ab 0 false ps
theorem ym7(pl:List Int)(ab:List Str)(k:Nat)(bs:Bool):∀ ts:List Tr,Sib pl k bs (wbS pl ab k bs ts)
 | []=>by rw[wbS];intro i y h;simp at h
 | t :: ts=>by
   rw[wbS]
   intro i y h
   cases i with
   | zero=>cases h;exact⟨pl,k,rfl,.inr (.inr ⟨rfl,rfl,rfl⟩)⟩
   | succ i =>
     rw[List.getElem?_cons_succ] at h
     rw[List.take_succ_cons]
     by_cases hi:i<(wbK (pl++[(k:Int)]) (ab++[qe7 t]) t).length
     ·rw[List.getElem?_append_left hi] at h
      obtain⟨q,m,e,hc⟩:=ym6 (pl++[(k:Int)]) (ab++[qe7 t]) t i y h
      refine⟨q,m,e,?_⟩
      rcases hc with hc|⟨m',h1,z,hz,h2⟩|⟨h1,h2,h3⟩
      ·exact .inl hc
      ·exact .inr (.inl ⟨m',h1,z,List.mem_cons_of_mem _ (by rw[List.take_append_of_le_length (by omega)];exact hz),h2⟩)
      ·exact .inl ⟨h2,h3⟩
     ·rw[List.getElem?_append_right (by omega)] at h
      obtain⟨q,m,e,hc⟩:=ym7 pl ab (k+1) t.isTx ts _ y h
      refine⟨q,m,e,?_⟩
      rcases hc with hc|⟨m',h1,z,hz,h2⟩|⟨h1,h2,h3⟩
      ·exact .inl hc
      ·exact .inr (.inl ⟨m',h1,z,List.mem_cons_of_mem _ (by rw[List.take_append];exact List.mem_append.mpr (.inr hz)),h2⟩)
      ·subst h1 h2
       exact .inr (.inl ⟨k,rfl,((q++[(k:Int)],ab,t),bs),List.mem_cons_self,rfl,h3.symm⟩)
end
theorem zk3{t:Tr}{x:List Tr}(h:way t (q++[(-1:Int)])=some x):False:=by
 induction q generalizing t x with
 | nil=>have:=(R9 h).1;omega
 | cons k q ih=>obtain⟨_,u,ws,_,h2,_⟩:=R9 h;exact ih h2
def ky(pl:List Int):List Key:=pl.map Sum.inl
theorem zn8(pl:List Int):(ky pl).map kV=E4 pl:=by unfold ky E4;rw[List.map_map];rfl
theorem zd2:∀ {a b:List Int},ky a=ky b->a=b
 | [],[],_=>rfl
 | [],_::_,h=>by cases h
 | _::_,[],h=>by cases h
 | x::a,y::b,h=>by
   have h:(Sum.inl x::ky a:List Key)=Sum.inl y::ky b:=h
   injection h with h1 h2
   rw[Sum.inl.inj h1,zd2 h2]
theorem zk4{xs:List (List Key×V)}{o:HO}(h:H d=some (.dT xs)):qe3 H (upd H d o) :=
 ⟨fun b zs e=>by rw[C1 (fun z=>by rw[z,h] at e;cases e)];exact e,fun b o zs e=>by rw[C1 (fun z=>by rw[z,h] at e;cases e)];exact e⟩
def oD:Option Str->PyData
 | none=>.none
 | some r=>.str r
theorem Ad2(x:Option Str):Dv K H (oD x) (oV x):=by cases x with|none=>exact qo6.mpr rfl|some r=>exact P9.mpr rfl
def fD(x:List Int×Option Str):PyData:=.tuple [oD x.2,.tuple (qp2 x.1)]
theorem zw8(x:Option Str):fix (oD x)=true:=by cases x <;> (unfold oD;rw[fix])
theorem zd3(x:List Int×Option Str):fix (fD x)=true:=by unfold fD;rw[fix,X2,X2,X2,zw8,fix,wt2];rfl
theorem zd4(h:Dv K H (fD x) v):∃ a b,v=.ref a/\SqT K H a [oV x.2,.ref b]/\SqT K H b (E4 x.1):=by
 obtain⟨a,xs,rfl,ha,h⟩:=C6.mp h
 rw[Dvs] at h;obtain⟨v1,r1,rfl,e1,h⟩:=h
 rw[Dvs] at h;obtain⟨v2,r2,rfl,e2,h⟩:=h
 rw[Dvs] at h;subst h
 have e1:v1=oV x.2:=by
  cases e:x.2 with
  | none=>rw[e] at e1;exact qo6.mp e1
  | some r=>rw[e] at e1;exact P9.mp e1
 subst e1
 obtain⟨b,ys,rfl,hb,h⟩:=C6.mp e2
 rw[O8] at h;subst h
 exact⟨a,b,rfl,ha,hb⟩
abbrev wo3(K:Fg):TS :=
 (qh3 (tBM K "list" X8 (A4 2) (A2 (O1 (A2 (B9 (X7 K) [] E0 (A2 (A4 0) (A2 (A4 6) (A2 (A4 7) (A2 (A4 8) B1))))) (A2 (A4 5) B1))) B1)))
abbrev wo4(K:Fg):TS :=
 (C0 (D9 (yc5 (A4 4) (tOp (O7 K) (tSl (qh5 K) (A4 5) N9 (S6 (tUn (rU fun i=>.int (-i)) (tC (.int 1))))) (O1 (A2 (tOp (rI0 fun i j=>.int (i-j)) (tOp (J0 K) (A4 5) (tUn (rU fun i=>.int (-i)) (tC (.int 1)))) (tC (.int 1))) B1)))) (B3 8))
 (wo3 K))
def ym8(K:Fg):TS :=
 (M0 (D7 (tOp (Z2 K) (A4 5) (O1 B1)))
 (wo4 K) E9)
abbrev wo5(K:Fg):TS :=
 (C0 (D9 (A4 7) (yn5 (A4 4) (A4 5) xj8))
 (ym8 K))
abbrev wo6(K:Fg):TS :=
 (C0 (qm3 (ql5 K (A4 3)) (wq4 K 3 (S5 (B3 5) (S5 (B3 6) (S5 (B3 7) wq3))))
 (wo5 K))
 (I0 (A4 2)))
abbrev wo7(K:Fg):TS :=
 (C0 (D9 (B9 (qa8 K) [] E0 (A2 (A4 1) B1)) (B3 3))
 (C0 (D9 yv3 (B3 4))
 (wo6 K)))
def qb5(K:Fg):Sp:=fun vs H Q _=>∃ (bv v:V) (rs:List Row) (t:Tr),vs=[bv,v]/\BkS rs/\Rws K H bv rs/\rs.length<=1000/\Dv K H t.da v/\wt t<=30000/\hgt t<=700/\∀ (p:Addr) (us:List V) (H':Hp),A6 H H'->H' p=some (.lst us)->Dvs K H' ((ffk rs [] [] t).map fD) us->Q (.ref p) H'
def qd6(K:Fg):TS :=
 (C0 (D9 (X4 B1) (B3 2))
 (wo7 K))
theorem wy7 (h:qb5 K vs H Q E):qd6 K {nx:=fun _ H'=>Q .non H',rt:=Q} (G9 ["_law_book_here","_law_tree","_law_due","_law_walked","_law_parts","_law_place","_law_names","_law_part","_law_ahead"] vs) H:=by
 obtain⟨bv,v,rs,t,rfl,B,hR,hrl,hd,hz,hh,q⟩:=h
 show qd6 K _ [some bv,some v,none,none,none,none,none,none,none] H
 unfold qd6
 lk
 refine⟨D8 (by z_go),fun du hdu=>?_⟩
 have s1:=A6.new hdu (.lst [])
 have e1:(upd H du (.lst [])) du=some (.lst []):=A7
 generalize upd H du (.lst [])=H1 at *
 lk
 refine⟨t,v,rfl,Dv.same s1 _ _ hd,by omega,fun wd us H2 s2 nwd hwd w3=>?_⟩
 lk
 intro dc hdc
 have s3:=A6.new hdc (.dT [])
 have e3:(upd H2 dc (.dT [])) dc=some (.dT []):=A7
 have ndd:du≠dc:=M9 (s2 _ _ e1) hdc
 have ndw:du≠wd:=fun z=>by rw[<-z,e1] at nwd;cases nwd
 have ncw:wd≠dc:=M9 hwd hdc
 have e1:=s3 _ _ (s2 _ _ e1)
 have nwd0:H wd=none:=qw4 s1 nwd
 have ndc0:H dc=none:=qw4 (A6.tr s1 s2) hdc
 have hwd:=s3 _ _ hwd
 have w3:=w3.tupK s3.tupK
 have s13:=A6.tr s1 (A6.tr s2 s3)
 generalize upd H2 dc (.dT [])=H3 at *
 have hul:=w3.length
 have hwk:wk ([],[],t)=([],[],t)::(wbK [] [] t).map (·.1):=zc9 [] [] [] t
 have hwl:(wk ([],[],t)).length<=wt t:=xq4 _ _ _ t
 lk
 refine⟨wd,rfl,.inl ⟨⟨us,SqL.of hwd⟩,wb2 (xs:=us) (fun i σ H'=>∃ (a5 a6 a7 a8:Option V) (ds:List V) (kvs:List (List Key×V)),σ=[some bv,some v,some (.ref du),some (.ref wd),some (.ref dc),a5,a6,a7,a8]/\A6 H H'/\H' du=some (.lst ds)/\H' wd=some (.lst us)/\H' dc=some (.dT kvs)/\W3s K H' (wk ([],[],t)) us/\Dvs K H' (((ffk rs [] [] t).take (i-1)).map fD) ds/\kvs.length<=i/\(∀ pl w,S2 kvs (ky pl)=some w->∃ ws u,way t pl=some (ws++[u])/\Dv K H' u.da w)/\∀ x∈(wk ([],[],t)).take i,∃ w,S2 kvs (ky x.1)=some w) ⟨_,_,_,_,[],[],rfl,s13,e1,hwd,e3,w3,G8,by simp,fun pl w h=>by simp[yu7] at h,by simp⟩ ?_ ?_ ?_⟩⟩
 ·rintro i σ H' hi ⟨a5,a6,a7,a8,ds,kvs,rfl,z1,z2,z3,z⟩
  exact SqL.of z3
 ·rintro i x σ H' hx ⟨a5,a6,a7,a8,ds,kvs,rfl,z1,z2,z3,z4,z5,z6,z7,zA,zB⟩
  obtain⟨y,hy,wy⟩:=z5.get hx
  obtain⟨xa,pa,na,pv,rfl,k1,k2,k3,k4⟩:=wy
  have hil:i<(wk ([],[],t)).length:=(List.getElem?_eq_some_iff.mp hy).1
  have hylen:=zn4 [] [] (abv ([],[],t)) (by simp) t y (List.mem_of_getElem? hy)
  have hab0:(abv ([],[],t)).length=0:=rfl
  rw[hab0] at hylen
  simp only[List.length_nil,Nat.zero_add] at hylen
  have hway:∃ ws,way t y.1=some (ws++[y.2.2]):=by
   have hm:=List.mem_of_getElem? hy
   rw[hwk,List.mem_cons] at hm
   rcases hm with rfl|hm
   ·exact⟨[],by rw[way];rfl⟩
   ·obtain⟨w,hw,rfl⟩:=List.mem_map.mp hm
    exact xr6 t [] [] [] t (by rw[way];rfl) w hw
  refine⟨xa,_,rfl,SqT.of k1,rfl,_,_,rfl,N7 ⟨_,_,rfl,N7 ⟨_,_,rfl,N7 ⟨rfl,?_⟩⟩⟩⟩
  lk
  refine .inr ⟨dc,_,rfl,xt7.t (k:=ky y.1) z4 (by rw[k2,zn8]) (by rw[sizeLine_eq];omega),?_⟩
  have tk:=zk4 (o:=.dT (Z3 kvs (ky y.1) pv)) z4
  have u1:A6 H (upd H' dc (.dT (Z3 kvs (ky y.1) pv))):=A6.put z1 ndc0 _
  have u2:(upd H' dc (.dT (Z3 kvs (ky y.1) pv))) du=some (.lst ds):=by rw[C1 ndd];exact z2
  have u3:(upd H' dc (.dT (Z3 kvs (ky y.1) pv))) wd=some (.lst us):=by rw[C1 ncw];exact z3
  have u4:(upd H' dc (.dT (Z3 kvs (ky y.1) pv))) dc=some (.dT (Z3 kvs (ky y.1) pv)):=A7
  have u5:=z5.tupK tk
  have u6:=Dvs.tupK tk _ _ (R7 zd3 _) z6
  have k2:=tk.1 _ _ k2
  have k3:=tk.1 _ _ k3
  have k4:=Dv.tupK tk _ _ (Z9 _) k4
  have uA:∀ pl w,S2 (Z3 kvs (ky y.1) pv) (ky pl)=some w->∃ ws u,way t pl=some (ws++[u])/\Dv K (upd H' dc (.dT (Z3 kvs (ky y.1) pv))) u.da w:=by
   intro pl w h
   rw[xt5] at h
   by_cases e:ky pl=ky y.1
   ·rw[if_pos e] at h
    cases h
    obtain⟨ws,hw⟩:=hway
    rw[zd2 e]
    exact⟨ws,_,hw,k4⟩
   ·rw[if_neg e] at h
    obtain⟨ws,u,h1,h2⟩:=zA pl w h
    exact⟨ws,u,h1,Dv.tupK tk _ _ (Z9 _) h2⟩
  have uB:∀ x∈(wk ([],[],t)).take (i+1),∃ w,S2 (Z3 kvs (ky y.1) pv) (ky x.1)=some w:=by
   intro x hx
   rw[xt5]
   by_cases e:ky x.1=ky y.1
   ·rw[if_pos e];exact⟨_,rfl⟩
   ·rw[if_neg e]
    rw[List.take_add_one,hy] at hx
    rcases List.mem_append.mp hx with hx|hx
    ·exact zB x hx
    ·have:x=y:=by simpa using hx
     rw[this] at e;exact absurd rfl e
  have uL:(Z3 kvs (ky y.1) pv).length<=i+1:=by
   unfold Z3
   split
   ·rw[List.length_map];omega
   ·rw[List.length_append,List.length_singleton];omega
  generalize Z3 kvs (ky y.1) pv=kvs' at *
  generalize upd H' dc (.dT kvs')=H4 at *
  clear z1 z2 z3 z4 z5 z6 zA zB tk k1
  unfold ym8
  lk
  refine⟨D8 (by z_go),fun e0 he0=>?_⟩
  have s4:=A6.new he0 (.tup [])
  refine xj7 (d:=.tuple (qp2 y.1)) (e:=.tuple []) (C6.mpr ⟨pa,_,rfl,SqT.of (s4 _ _ k2),O8.mpr rfl⟩) (C6.mpr ⟨e0,[],rfl,SqT.of A7,G8⟩) (Nat.le_trans (Nat.min_le_right _ _) (by decide)) ?_
  rw[wv0]
  have u1:=A6.tr u1 s4
  have u2:=s4 _ _ u2
  have u3:=s4 _ _ u3
  have u4:=s4 _ _ u4
  have u5:=u5.tupK s4.tupK
  have u6:=Dvs.same s4 _ _ u6
  have k2:=s4 _ _ k2
  have k3:=s4 _ _ k3
  have k4:=Dv.same s4 _ _ k4
  have uA:∀ pl w,S2 kvs' (ky pl)=some w->∃ ws u,way t pl=some (ws++[u])/\Dv K (upd H4 e0 (.tup [])) u.da w:=fun pl w h=>by obtain⟨ws,u,h1,h2⟩:=uA pl w h;exact⟨ws,u,h1,Dv.same s4 _ _ h2⟩
  generalize upd H4 e0 (.tup [])=H5 at *
  lk
  cases i with
  | zero =>
    rw[hwk] at hy
    cases hy
    k_go
    lk
    exact⟨_,_,_,_,ds,kvs',rfl,u1,u2,u3,u4,u5,u6,uL,uA,uB⟩
  | succ i =>
    rw[hwk,List.getElem?_cons_succ,List.getElem?_map] at hy
    obtain⟨yb,hyb,rfl⟩:=Option.map_eq_some_iff.mp hy
    obtain⟨qq,m,eq,hc⟩:=ym6 [] [] t i yb hyb
    have e0:(!yb.1.1.isEmpty)=true:=by rw[eq];cases qq <;> rfl
    rw[e0]
    x_go
    have hc:(m=0/\yb.2=false)\/(∃ m',m=m'+1/\∃ z∈(wbK [] [] t).take i,z.1.1=qq++[(m':Int)]/\z.1.2.2.isTx=yb.2):=by
     rcases hc with hc|hc|⟨_,h2,h3⟩
     ·exact .inl hc
     ·exact .inr hc
     ·exact .inl ⟨h2,h3⟩
    have hff:(ffk rs [] [] t)[i]?=some (fOf rs yb):=by rw[yh2,List.getElem?_map,hyb];rfl
    rw[eq] at hylen k2
    rw[List.length_append,List.length_singleton] at hylen
    lk
    unfold yc5
    lk
    refine⟨dc,rfl,.inr ⟨kvs',.inl u4⟩,?_⟩
    lk
    refine⟨1,rfl,?_⟩
    lk
    refine Ab4 k2 fun c1 H6 s6 hc1=>?_
    rw[N1,qi1] at hc1
    lk
    refine⟨1,rfl,?_⟩
    refine J9 (SqT.of (s6 _ _ k2)) (v:=.int m) (Q0 (n:=(E4 qq).length) (by rw[N1];simp) (by rw[N1];simp)) ?_
    lk
    refine⟨D8 (by z_go),fun c2 hc2=>?_⟩
    have s7:=A6.new hc2 (.tup [.int ((m:Int)-1)])
    refine yd6 (s7 _ _ hc1) A7 (by rw[L8];exact D8 (by show qq.length+1<=_;omega)) fun c3 H8 s8 hc3=>?_
    have hc3:H8 c3=some (.tup ((ky (qq++[(m:Int)-1])).map kV)):=by rw[zn8,hc3,N1]
    have s58:A6 H5 H8:=A6.tr s6 (A6.tr s7 s8)
    have u1:=A6.tr u1 s58
    have u2:=s58 _ _ u2
    have u3:=s58 _ _ u3
    have u4:=s58 _ _ u4
    have u5:=u5.tupK s58.tupK
    have u6:=Dvs.same s58 _ _ u6
    have k2:=s58 _ _ k2
    have k3:=s58 _ _ k3
    have k4:=Dv.same s58 _ _ k4
    have uA:∀ pl w,S2 kvs' (ky pl)=some w->∃ ws u,way t pl=some (ws++[u])/\Dv K H8 u.da w:=fun pl w h=>by obtain⟨ws,u,h1,h2⟩:=uA pl w h;exact⟨ws,u,h1,Dv.same s58 _ _ h2⟩
    refine⟨_,qz5.t u4 hc3,?_⟩
    have hah:Ahd K H8 ((S2 kvs' (ky (qq++[(m:Int)-1]))).getD .non) yb.2:=by
     rcases hc with⟨rfl,h2⟩|⟨m',rfl,z,hz,h3,h4⟩
     ·cases e:S2 kvs' (ky (qq++[((0:Nat):Int)-1])) with
      | none=>exact .inl ⟨rfl,h2⟩
      | some w =>
        obtain⟨ws,u,h5,_⟩:=uA _ _ e
        exact(zk3 h5).elim
     ·have em:(((m'+1:Nat):Int)-1)=(m':Int):=by omega
      rw[em]
      obtain⟨w,hw⟩:=uB z.1 (by
       rw[hwk,List.take_succ_cons]
       refine List.mem_cons_of_mem _ ?_
       rw[<-List.map_take]
       refine List.mem_map_of_mem ?_
       rw[List.take_add_one]
       exact List.mem_append.mpr (.inl hz))
      rw[h3] at hw
      rw[hw]
      obtain⟨ws,u,h5,h6⟩:=uA _ _ hw
      obtain⟨ws',h7⟩:=xr6 t [] [] [] t (by rw[way];rfl) z (List.mem_of_mem_take hz)
      rw[h3] at h7
      have:=qi5 h5 h7
      exact .inr ⟨u,h6,by rw[this];exact h4⟩
    generalize (S2 kvs' (ky (qq++[(m:Int)-1]))).getD .non=av at *
    lk
    refine⟨.inl ⟨rfl,_,SqL.of u2⟩,?_⟩
    lk
    refine⟨bv,na,pv,av,rs,yb.1.2.1,yb.1.2.2,yb.2,rfl,B,hR.same u1,hrl,SqT.of k3,by omega,k4,hah,fun H9 s9=>?_⟩
    lk
    refine⟨D8 (by z_go),fun c4 hc4=>?_⟩
    have s10:=A6.new hc4 (.tup [oV (X3 rs yb.1.2.1 yb.1.2.2 yb.2),.ref pa])
    have e10:(upd H9 c4 (.tup [oV (X3 rs yb.1.2.1 yb.1.2.2 yb.2),.ref pa])) c4=some (.tup [oV (X3 rs yb.1.2.1 yb.1.2.2 yb.2),.ref pa]):=A7
    generalize upd H9 c4 (.tup [oV (X3 rs yb.1.2.1 yb.1.2.2 yb.2),.ref pa])=H10 at *
    have s810:=A6.tr s9 s10
    have u1:=A6.tr u1 s810
    have u2:=s810 _ _ u2
    have u3:=s810 _ _ u3
    have u4:=s810 _ _ u4
    have u5:=u5.tupK s810.tupK
    have u6:=Dvs.same s810 _ _ u6
    have k2:=s810 _ _ k2
    have hdsl:ds.length<=i:=by
     have:=u6.length
     rw[List.length_map,List.length_take] at this
     have e:i+1-1=i:=by omega
     rw[e] at this
     omega
    lk
    refine X5 u2 (by rw[sizeLine_eq];omega) ?_
    have tk:=T9 (ys:=ds++[.ref c4]) u2
    refine⟨_,_,_,_,_,kvs',rfl,A6.put u1 hdu _,A7,by rw[C1 (Ne.symm ndw)];exact u3,by rw[C1 (Ne.symm ndd)];exact u4,u5.tupK tk,?_,uL,fun pl w h=>?_,uB⟩
    ·have e:i+1+1-1=i+1:=by omega
     rw[e,List.take_add_one,hff,List.map_append]
     have e:i+1-1=i:=by omega
     rw[e] at u6
     refine Dvs.append (Dvs.tupK tk _ _ (R7 zd3 _) u6) (Dvs.one ?_)
     unfold fD fOf
     refine C6.mpr ⟨c4,_,rfl,SqT.of (tk.1 _ _ e10),I9 (Ad2 _) (I9 (C6.mpr ⟨pa,_,rfl,SqT.of (tk.1 _ _ k2),?_⟩) G8)⟩
     rw[<-eq]
     exact O8.mpr rfl
    ·obtain⟨ws,u,h1,h2⟩:=uA pl w h
     exact⟨ws,u,h1,Dv.tupK tk _ _ (Z9 _) (Dv.same s810 _ _ h2)⟩
 ·rintro σ H' ⟨a5,a6,a7,a8,ds,kvs,rfl,z1,z2,z3,z4,z5,z6,z7,zA,zB⟩
  lk
  refine q du ds H' z1 z2 ?_
  have hlen:(ffk rs [] [] t).length=us.length-1:=by rw[hul,hwk,yh2];simp
  rw[List.take_of_length_le (by omega)] at z6
  exact z6
abbrev wy8(K:Fg):TS :=
 (M0 (D7 (tOp qj3 (A4 2) (tC .non)))
 (I0 (O1 (A2 (A4 2) (A2 (A4 3) B1)))) E9)
def qd7(K:Fg):Sp:=fun vs H Q _=>∃ (bv v:V) (rs:List Row) (t:Tr),vs=[bv,v]/\BkS rs/\Rws K H bv rs/\rs.length<=1000/\Dv K H t.da v/\wt t<=30000/\hgt t<=700/\∀ (x:V) (H':Hp),A6 H H'->Ac5 K H' (Q4 (ffk rs [] [] t)) x->Q x H'
def qg3(K:Fg):TS :=
 (C0 (qm3 (ql5 K (B9 (qb5 K) [] E0 (A2 (A4 0) (A2 (A4 1) B1)))) (wq4 K 2 (S5 (B3 2) (S5 (B3 3) wq3)))
 (wy8 K))
 (I0 (tC .non)))
theorem xh5(h:qd7 K vs H Q E):qg3 K {nx:=fun _ H'=>Q .non H',rt:=Q} (G9 ["_law_book_here","_law_tree","_law_rule","_law_place"] vs) H:=by
 obtain⟨bv,v,rs,t,rfl,B,hR,hrl,hd,hz,hh,q⟩:=h
 show qg3 K _ [some bv,some v,none,none] H
 unfold qg3
 lk
 refine⟨bv,v,rs,t,rfl,B,hR,hrl,hd,hz,hh,fun p us H1 s1 hp dv=>?_⟩
 have hul:us.length=(ffk rs [] [] t).length:=by have:=dv.length;rw[List.length_map] at this;exact this
 refine qn0 (H0:=H1) (xs:=us) (.inl (SqL.of hp)) (fun _ _ e=>e) (fun i σ H'=>H'=H1/\(∃ (a2 a3:Option V),σ=[some bv,some v,a2,a3])/\∀ y∈(ffk rs [] [] t).take i,y.2=none) ⟨rfl,⟨_,_,rfl⟩,by simp⟩ (fun i σ H' p=>p.1▸fun _ _ e=>e) ?_ ?_
 ·rintro i x σ H' hx ⟨rfl,⟨a2,a3,rfl⟩,hn⟩
  obtain⟨d,h1,h2⟩:=dv.get' hx
  rw[List.getElem?_map] at h1
  obtain⟨y,hy,rfl⟩:=Option.map_eq_some_iff.mp h1
  obtain⟨a,pb,rfl,ha,hb⟩:=zd4 h2
  refine⟨a,_,rfl,ha,rfl,_,_,rfl,N7 ⟨_,_,rfl,N7 ⟨rfl,?_⟩⟩⟩
  lk
  rw[wa3]
  cases e:y.2 with
  | none =>
    k_go
    lk
    exact⟨rfl,⟨_,_,rfl⟩,qu2 hy hn e⟩
  | some r =>
    x_go
    lk
    refine⟨D8 (by z_go),fun c hc=>?_⟩
    have s2:=A6.new hc (.tup [.str r,.ref pb])
    refine q _ _ (A6.tr s1 s2) ?_
    rw[wk4 hn hy e]
    exact C6.mpr ⟨c,_,rfl,SqT.of A7,I9 (P9.mpr rfl) (I9 (C6.mpr ⟨pb,_,rfl,s2.sqT hb,O8.mpr rfl⟩) G8)⟩
 ·rintro σ H' ⟨rfl,⟨a2,a3,rfl⟩,hn⟩
  lk
  refine q _ _ s1 ?_
  rw[hul,List.take_length] at hn
  rw[wa4 hn]
  rfl
abbrev wz0(K:Fg):TS :=
 (C0 (D9 (tOp (J0 K) (A4 2) (B9 (E5 K) [] E0 (A2 (A4 0) (A2 (tCB (P6 K) (A2 (A4 2) B1)) B1)))) (wq4 K 3 (S5 (B3 3) (S5 (B3 4) (S5 (B3 5) wq3)))))
 (I0 (O1 (A2 (A4 3) (A2 (tOp (J0 K) (A4 5) (tC (.int 1))) B1)))))
def qd8(K:Fg):Sp:=fun vs H Q _=>∃ (d:Addr) (v:V) (t:Tr),vs=[.ref d,v]/\Dk H d/\Dv K H t.da v/\t.isTx=false/\wt t<=10000/\∀ (x pa pb:Addr) (q:List Int) (ws:List Tr) (u:Tr) (us:List V) (H':Hp),Mv d H H'->H' x=some (.tup [.ref pa,.ref pb])->SqT K H' pa (E4 q)->way t q=some (ws++[u])->u.isTx=false->SqT K H' pb us->Dvs K H' (Tr.das u.kids) us->Q (.ref x) H'
def qg4(K:Fg):TS :=
 (C0 (D9 (Z4 [none] (ql5 K (B9 (qa8 K) [] E0 (A2 (A4 1) B1))) (B3 0) (wq1 (tB (tCB (wl2 K) (A2 (tOp (J0 K) (A4 0) (tC (.int 2))) (A2 (tC (.ty "str")) B1))))) (A4 0)) (B3 2))
 (wz0 K))
theorem xh6(h:qd8 K vs H Q E):qg4 K {nx:=fun _ H'=>Q .non H',rt:=Q} (G9 ["_law_deck","_law_tree","_law_some_here","_law_place","_law_names","_law_part"] vs) H:=by
 obtain⟨d,tv,t,rfl,dk,htv,ht,hz,q⟩:=h
 show qg4 K _ [some (.ref d),some tv,none,none,none,none] H
 unfold qg4
 have hwl:(wk ([],[],t)).length<=wt t:=xq4 _ _ _ t
 lk
 refine⟨t,tv,rfl,htv,by omega,fun p us H1 s1 np hp w3=>?_⟩
 have hul:=w3.length
 refine qc1 (xs:=us) (SqL.of hp) (fun i ys H'=>H'=H1/\∃ xs:List T3,W3s K H1 xs ys/\(∀ x∈xs,x∈wk ([],[],t)/\x.2.2.isTx=false)/\xs.length<=i/\(1<=i->1<=xs.length)) ⟨rfl,[],rfl,by simp,by simp,by simp⟩ ?_ ?_ ?_ ?_
 ·rintro i ys H' hi ⟨rfl,xs,w,_,h1,_⟩
  rw[w.length];exact D8 (by omega)
 ·rintro i ys H' hi ⟨rfl,_⟩
  exact SqL.of hp
 ·rintro i x ys H' hx ⟨rfl,xs,w,hm,h1,h2⟩
  obtain⟨y,hy,wy⟩:=w3.get hx
  have wy0:=wy
  obtain⟨xa,pa,na,pv,rfl,k1,k2,k3,k4⟩:=wy
  lk
  refine J9 (SqT.of k1) (v:=pv) (E8 (j:=2) rfl) ?_
  lk
  refine wt4 k4 ?_
  lk
  cases htx:y.2.2.isTx with
  | false =>
    x_go
    lk
    refine⟨rfl,xs++[y],W3s.app w (W3s.one wy0),fun z hz=>?_,by simp;omega,fun _=>by simp⟩
    rcases List.mem_append.mp hz with hz|hz
    ·exact hm z hz
    ·rw[List.mem_singleton.mp hz];exact⟨List.mem_of_getElem? hy,htx⟩
  | true =>
    k_go
    refine⟨rfl,xs,w,hm,by omega,fun _=>?_⟩
    cases i with
    | zero =>
      rw[xq3] at hy
      cases hy
      rw[ht] at htx;cases htx
    | succ i=>exact h2 (by omega)
 ·rintro ys H' ⟨rfl,xs,w,hm,h1,h2⟩ wd hwd
  have h2:1<=xs.length:=h2 (by rw[hul,xq3];simp)
  have hyl:=w.length
  have s2:=A6.new hwd (.lst ys)
  have e2:(upd H' wd (.lst ys)) wd=some (.lst ys):=A7
  have w:=w.tupK s2.tupK
  have s12:=A6.tr s1 s2
  generalize upd H' wd (.lst ys)=H2 at *
  have dk2:=dk.same s12
  lk
  refine M8 (.inl (SqL.of e2)) ?_
  lk
  refine⟨d,(ys.length:Int),rfl,by omega,by omega,dk2,fun m H3 m0 m1 mv3=>?_⟩
  lk
  have nwd:wd≠d:=(dk.same s1).ne hwd
  have hml:m.toNat<ys.length:=by omega
  refine R6 (SqL.of (mv3.at e2 nwd)) (ixI m0 (List.getElem?_eq_getElem hml)) ?_
  obtain⟨y,hy,wy⟩:=(w.tupK (mv3.tupK dk2)).get (List.getElem?_eq_getElem hml)
  obtain⟨xa,pa,na,pv,ev,k1,k2,k3,k4⟩:=wy
  obtain⟨hym,hyt⟩:=hm y (List.mem_of_getElem? hy)
  rw[ev]
  refine⟨xa,_,rfl,SqT.of k1,rfl,_,_,rfl,N7 ⟨_,_,rfl,N7 ⟨_,_,rfl,N7 ⟨rfl,?_⟩⟩⟩⟩
  obtain⟨ws,hway⟩:=zw7 hym
  obtain⟨pl,ns,u⟩:=y
  cases u with
  | tx s=>cases hyt
  | nd n ps =>
    obtain⟨ta,pb,us2,rfl,hta,htb,hd2⟩:=qh9 k4
    lk
    refine J9 hta (v:=.ref pb) (E8 (j:=1) rfl) ?_
    lk
    refine⟨D8 (by z_go),fun x hx=>?_⟩
    have s4:=A6.new hx (.tup [.ref pa,.ref pb])
    exact q x pa pb pl ws (.nd n ps) us2 _ ((Mv.tr (Mv.same (Mv.refl dk) s12) mv3).same s4) A7 (SqT.of (s4 _ _ k2)) hway rfl (s4.sqT htb) (Dvs.same s4 _ _ hd2)
mutual
theorem zn9:∀ t:Tr,nd t.da=true
 | .tx s=>by rw[Tr.da,nd]
 | .nd n ps=>by rw[Tr.da,nd,nds,nd,nds,nd,nds,ym9 ps];rfl
theorem ym9:∀ ts:List Tr,nds (Tr.das ts)=true
 | []=>by rw[Tr.das,nds]
 | t::ts=>by rw[Tr.das,nds,zn9 t,ym9 ts];rfl
end
mutual
theorem ya2:∀ t:Tr,t.da.depth<=2*hgt t+4
 | .tx s=>by rw[Tr.da];simp[PyData.depth]
 | .nd n ps=>by
   have:=xl0 ps
   rw[Tr.da,hgt]
   simp[PyData.depth,PyData.depthAll] at this ⊢
   omega
theorem xl0:∀ ts:List Tr,PyData.depthAll (Tr.das ts)<=2*L9 ts+4
 | []=>by rw[Tr.das];simp[PyData.depthAll]
 | t::ts=>by
   have h1:=ya2 t
   have h2:=xl0 ts
   rw[Tr.das,L9]
   simp[PyData.depthAll] at h2 ⊢
   omega
end
theorem wp8{t:Tr}{k:Int}(h:way t (k::q)=some (ws++[u])):0<=k/\∃ w l,t.kids[k.toNat]?=some w/\way w q=some (l++[u])/\ws=t::l:=by
 obtain⟨h0,w,ws',h1,h2,h3⟩:=R9 h
 cases ws with
 | nil=>injection h3 with _ h3;subst h3;have:=V8 h2;simp at this
 | cons a l=>injection h3 with e h3;subst e h3;exact⟨h0,w,l,h1,h2,rfl⟩
theorem zd5{t:Tr}{p':Addr}{x y:V}(hh:hgt t<=90)(h:H p=some (.lst [x]))(h':H p'=some (.lst [y]))(dx:Dv K H t.da x)(dy:Dv K H t.da y)(q:Q (.bl false) H):Z2 K (.ref p) (.ref p') H Q:=by
 have hd:=ya2 t
 have hd2:(PyData.list [t.da]).depth<=190:=by simp[PyData.depth,PyData.depthAll];omega
 refine xj7 (d:=.list [t.da]) (e:=.list [t.da]) (T5.mpr ⟨p,_,rfl,SqL.of h,Dvs.one dx⟩) (T5.mpr ⟨p',_,rfl,SqL.of h',Dvs.one dy⟩) (by omega) ?_
 rw[wc0 _ (by rw[nd,nds,nds,zn9];rfl)]
 exact q
theorem wp9{t:Tr}(h:way t []=some (ws++[u])):t=u:=by
 rw[way] at h
 simpa using congrArg List.getLast? (Option.some.inj h)
variable{qs:List Tr}
theorem zd6{k:Nat}{x:Tr}(h:k<qs.length):(qs.take k++[x]++qs.drop (k+1))[k]?=some x:=by
 rw[List.append_assoc,List.getElem?_append_right (by rw[List.length_take];omega),List.length_take,Nat.min_eq_left (by omega),Nat.sub_self];rfl
theorem we3{n:Str}{k:Int}(h:qs[k.toNat]?=some w):R1 (.nd n qs) (k::pl) ps=.nd n (qs.take k.toNat++[R1 w pl ps]++qs.drop (k.toNat+1)):=by rw[R1,h];rfl
theorem wz2:∀ {q:List Int} {t u:Tr} {ws ps:List Tr},way t q=some (ws++[u])->u.isTx=false->∃ ws',way (R1 t q ps) q=some (ws'++[Tr.nd (qe7 u) ps])
 | [],t,u,ws,ps,h,hu=>by
   obtain rfl:=wp9 h
   cases t with
   | tx s=>cases hu
   | nd n qs=>exact⟨[],by rw[R1,way];rfl⟩
 | k :: q,t,u,ws,ps,h,hu=>by
   obtain⟨h0,w,l,h1,h2,rfl⟩:=wp8 h
   obtain⟨ws',h3⟩:=wz2 (ps:=ps) h2 hu
   cases t with
   | tx s=>cases h1
   | nd n qs =>
     have h1:qs[k.toNat]?=some w:=h1
     rw[we3 h1]
     have h4:=yf4 (t:=.nd n (qs.take k.toNat++[R1 w q ps]++qs.drop (k.toNat+1))) (zd6 (List.getElem?_eq_some_iff.mp h1).1) h3
     rw[show((k.toNat:Nat):Int)=k by omega] at h4
     exact⟨_::ws',h4⟩
theorem ys9{k:Nat}{x y:Tr}(h:k<qs.length):(qs.take k++[x]++qs.drop (k+1)).take k++[y]++(qs.take k++[x]++qs.drop (k+1)).drop (k+1)=qs.take k++[y]++qs.drop (k+1):=by
 have e:(qs.take k).length=k:=by rw[List.length_take];omega
 have e2:(qs.take k++[x]).length=k+1:=by rw[List.length_append,e];rfl
 rw[List.take_append_of_le_length (by omega),List.take_append_of_le_length (by omega),List.take_of_length_le (by omega),List.drop_append_of_le_length (by omega),List.drop_of_length_le (by omega),List.nil_append]
theorem wi8:∀ {q:List Int} {t u:Tr} {ws a b:List Tr},way t q=some (ws++[u])->u.isTx=false->R1 (R1 t q a) q b=R1 t q b
 | [],t,u,ws,a,b,h,hu=>by
   obtain rfl:=wp9 h
   cases t with
   | tx s=>cases hu
   | nd n qs=>rw[R1,R1,R1]
 | k :: q,t,u,ws,a,b,h,hu=>by
   obtain⟨h0,w,l,h1,h2,rfl⟩:=wp8 h
   cases t with
   | tx s=>cases h1
   | nd n qs =>
     have h1:qs[k.toNat]?=some w:=h1
     have hl:=(List.getElem?_eq_some_iff.mp h1).1
     rw[we3 h1,we3 h1,we3 (zd6 hl),ys9 hl,wi8 h2 hu]
theorem xr7:∀ {q:List Int} {t u:Tr} {ws:List Tr},way t q=some (ws++[u])->u.isTx=false->R1 t q u.kids=t
 | [],t,u,ws,h,hu=>by
   obtain rfl:=wp9 h
   cases t with
   | tx s=>cases hu
   | nd n qs=>rw[R1];rfl
 | k :: q,t,u,ws,h,hu=>by
   obtain⟨h0,w,l,h1,h2,rfl⟩:=wp8 h
   cases t with
   | tx s=>cases h1
   | nd n qs =>
     have h1:qs[k.toNat]?=some w:=h1
     obtain⟨hl,e⟩:=List.getElem?_eq_some_iff.mp h1
     rw[we3 h1,xr7 h2 hu,<-e,List.append_assoc,List.singleton_append,<-List.drop_eq_getElem_cons hl,List.take_append_drop]
theorem zd7{t:Tr}(h:X3 rs ns t true=none):t.isTx=false:=by
 cases t with
 | nd n ps=>rfl
 | tx s =>
   have h:wd4 rs ns s true=none:=h
   unfold wd4 at h
   repeat' split at h
   all_goals first|(cases h;done)|(rename_i z;exact absurd rfl z)
theorem xl1 {rs:List Row} {pl:List Int} {ns:List Str}:∀ (ts acc:List Tr) (k:Nat) (bs:Bool),(∀ y∈ffs rs pl ns k bs ts,y.2=none)->(∀ l w,acc=l++[w]->w.isTx=bs)->ts.foldl jn acc=acc++ts
 | [],acc,k,bs,_,_=>by simp
 | t :: ts,acc,k,bs,h,ha=>by
   rw[ffs] at h
   have h1:X3 rs ns t bs=none:=h _ List.mem_cons_self
   have e:jn acc t=acc++[t]:=by
    cases ht:t.isTx with
    | false=>exact zc5 ht
    | true =>
      cases t with
      | nd n ps=>cases ht
      | tx s =>
        rcases List.eq_nil_or_concat acc with rfl|⟨l,w,rfl⟩
        ·exact yg6
        ·rw[List.concat_eq_append] at *
         have hw:=ha l w rfl
         cases bs with
         | true=>have:=zd7 h1;cases this
         | false=>exact zc6 hw
   rw[List.foldl_cons,e,xl1 ts (acc++[t]) (k+1) t.isTx (fun y hy=>h y (List.mem_cons_of_mem _ (List.mem_append_right _ hy))) (fun l w e=>by obtain⟨_,e⟩:=List.append_inj' e rfl;cases e;rfl),List.append_assoc];rfl
theorem zd8{rs:List Row}{pl:List Int}{ns:List Str}{w:Tr}:∀ {ts:List Tr} {k i:Nat} {bs:Bool},(∀ y∈ffs rs pl ns k bs ts,y.2=none)->ts[i]?=some w->∃ pl' ns',∀ y∈ffk rs pl' ns' w,y.2=none
 | [],k,i,bs,h,e=>by simp at e
 | t::ts,k,0,bs,h,e=>by cases e;rw[ffs] at h;exact⟨_,_,fun y hy=>h y (List.mem_cons_of_mem _ (List.mem_append_left _ hy))⟩
 | t::ts,k,i+1,bs,h,e=>by rw[ffs] at h;exact zd8 (i:=i) (fun y hy=>h y (List.mem_cons_of_mem _ (List.mem_append_right _ hy))) (by simpa using e)
theorem zd9{rs:List Row}{u:Tr}:∀ {q:List Int} {t:Tr} {ws:List Tr} {pl:List Int} {ns:List Str},(∀ y∈ffk rs pl ns t,y.2=none)->way t q=some (ws++[u])->∃ pl' ns',∀ y∈ffk rs pl' ns' u,y.2=none
 | [],t,ws,pl,ns,h,hw=>by obtain rfl:=wp9 hw;exact⟨pl,ns,h⟩
 | k :: q,t,ws,pl,ns,h,hw=>by
   obtain⟨h0,w,l,h1,h2,rfl⟩:=wp8 hw
   cases t with
   | tx s=>cases h1
   | nd n qs =>
     rw[ffk] at h
     obtain⟨pl',ns',h'⟩:=zd8 h (show qs[k.toNat]?=some w from h1)
     exact zd9 h' h2
theorem yh3(h:Q4 l=none):∀ y∈l,y.2=none:=fun y hy=>by
 unfold Q4 at h
 have:=List.findSome?_eq_none_iff.mp h y hy
 cases e:y.2 with
 | none=>rfl
 | some r=>rw[e] at this;cases this
theorem yn0{t:Tr}(h:Q4 (ffk rs [] [] t)=none)(hw:way t q=some (ws++[u]))(hu:u.isTx=false):W8 u.kids=u.kids:=by
 obtain⟨pl,ns,h'⟩:=zd9 (yh3 h) hw
 cases u with
 | tx s=>cases hu
 | nd n ps =>
   rw[ffk] at h'
   exact xl1 ps [] 0 false h' (fun l w e=>by simp at e)
theorem zk5{k:Nat}(h:k<=ts.length):wi6 (we0 ts k w) k=ts/\k<(we0 ts k w).length:=by
 have e:(ts.take k).length=k:=by rw[List.length_take];omega
 have e2:(ts.take k++[w]).length=k+1:=by rw[List.length_append,e];rfl
 unfold wi6 we0
 rw[List.take_append_of_le_length (by omega),List.take_append_of_le_length (by omega),List.take_of_length_le (by omega),List.drop_append_of_le_length (by omega),List.drop_of_length_le (by omega),List.nil_append,List.take_append_drop]
 exact⟨rfl,by rw[List.length_append,e2];omega⟩
theorem zk6{a c:List Tr}{k:Nat}(e:a.length=k):we1 (a++[w]++c) k w=a++w.kids++c:=by
 have e2:(a++[w]).length=k+1:=by rw[List.length_append,e];rfl
 unfold we1
 rw[List.take_append_of_le_length (by omega),List.take_append_of_le_length (by omega),List.take_of_length_le (by omega),List.drop_append_of_le_length (by omega),List.drop_of_length_le (by omega),List.nil_append]
theorem zk7{k:Nat}{n:Str}(h:k<=m)(h2:m<=ts.length):(Z1 ts k m n)[k]?=some (.nd n ((ts.drop k).take (m-k)))/\we1 (Z1 ts k m n) k (.nd n ((ts.drop k).take (m-k)))=ts:=by
 have e:(ts.take k).length=k:=by rw[List.length_take];omega
 have e2:(ts.take k++[Tr.nd n ((ts.drop k).take (m-k))]).length=k+1:=by rw[List.length_append,e];rfl
 constructor
 ·unfold Z1
  rw[List.append_assoc,List.getElem?_append_right (by omega),e,Nat.sub_self];rfl
 ·unfold Z1
  rw[zk6 e]
  show _++(ts.drop k).take (m-k)++_=_
  have:ts.drop m=(ts.drop k).drop (m-k):=by rw[List.drop_drop,show k+(m-k)=m by omega]
  rw[this,List.append_assoc,List.take_append_drop,List.take_append_drop]
variable{bit t':Tr}{nm:Str}{stop:Int}
theorem zk8{t:Tr}(h:Q4 (ffk rs [] [] t)=none)(d:wn5 t pl wy bit nm stop t')(hw:wy=0\/wy=2):wn5 t' pl (wy+1) (.tx "") "" 0 t:=by
 cases d with
 | @set q k ws u _ _ _ h1 h2 h3 =>
   obtain⟨ws',h4⟩:=wz2 (ps:=we0 u.kids k bit) h1 h2
   obtain⟨e1,e2⟩:=zk5 (w:=bit) h3
   have:=wn5.out (t:=R1 t q (we0 u.kids k bit)) (bit:=.tx "") (nm := "") (stop:=0) h4 rfl (k:=k) e2
   rw[show(Tr.nd (qe7 u) (we0 u.kids k bit)).kids=we0 u.kids k bit from rfl,e1,yn0 h h1 h2,wi8 h1 h2,xr7 h1 h2] at this
   exact this
 | @arn q k m ws u _ _ h1 h2 h3 h4 =>
   obtain⟨ws',h5⟩:=wz2 (ps:=Z1 u.kids k m nm) h1 h2
   obtain⟨e1,e2⟩:=zk7 (n:=nm) h3 h4
   have:=wn5.lft (t:=R1 t q (Z1 u.kids k m nm)) (bit:=.tx "") (nm := "") (stop:=0) h5 rfl (k:=k) e1 rfl
   rw[show(Tr.nd (qe7 u) (Z1 u.kids k m nm)).kids=Z1 u.kids k m nm from rfl,e2,yn0 h h1 h2,wi8 h1 h2,xr7 h1 h2] at this
   exact this
 | out=>rcases hw with h|h <;> cases h
 | lft=>rcases hw with h|h <;> cases h
theorem zk9{t:Tr}(d:wn5 t pl wy bit nm stop t'):wt t'<=wt t+wt bit+1/\hgt t'<=hgt t+hgt bit+1/\(t.isTx=false->t'.isTx=false):=by
 cases d with
 | @set q k _ u _ _ _ h1 h2 h3=>have:=Y8 h1 h2 (wp7 u.kids k bit).1 (wp7 u.kids k bit).2;exact⟨by omega,by omega,fun h=>wp6 h1 h⟩
 | @out q k _ u _ _ _ h1 h2 h3 =>
   have a:=ym3 (k:=k) (List.getElem?_eq_getElem h3)
   have c:=qn6 (wi6 u.kids k)
   have:=Y8 (B:=0) (C:=0) h1 h2 (ps:=W8 (wi6 u.kids k)) (by omega) (by omega)
   exact⟨by omega,by omega,fun h=>wp6 h1 h⟩
 | @arn q k m _ u _ _ h1 h2 h3 h4 =>
   have a:=xz0 u.kids nm h3
   have:=Y8 (B:=1) (C:=1) h1 h2 (ps:=Z1 u.kids k m nm) (by omega) (by omega)
   exact⟨by omega,by omega,fun h=>wp6 h1 h⟩
 | @lft q k _ u w _ _ _ h1 h2 h3 h4 =>
   have a:=ym4 h3 h4
   have c:=qn6 (we1 u.kids k w)
   have:=Y8 (B:=0) (C:=0) h1 h2 (ps:=W8 (we1 u.kids k w)) (by omega) (by omega)
   exact⟨by omega,by omega,fun h=>wp6 h1 h⟩
abbrev xr8(K:Fg):TS :=
 (I0 (O1 (A2 (A4 2) (A2 (B9 (ql7 K) [] E0 (A2 (A4 0) (A2 (A4 1) (A2 (O1 (A2 (A4 2) B1)) (A2 (tC (.int 2)) B1))))) B1))))
abbrev xr9(K:Fg):TS :=
 (C0 (M0 (D7 (tOp (S4 K) (tOp (J0 K) (B9 (S0 K) [] E0 (A2 (A4 1) (A2 (A4 2) B1))) (tC (.int 1))) (tC (.str ("bare":Str)))))
 (I0 (O1 (A2 (A4 2) (A2 (O1 B1) B1)))) E9)
 (xr8 K))
abbrev xs0(K:Fg):TS :=
 (C0 (M0 (D7 (tOp (S4 K) (B9 (E5 K) [] E0 (A2 (A4 0) (A2 (tC (.int 3)) B1))) (tC (.int 0))))
 (I0 (B9 (qb0 K) [] E0 (A2 (A4 0) B1))) E9)
 (xr9 K))
def qk7(K:Fg):Sp:=fun vs H Q _=>∃ (d bk e:Addr) (ub:List V) (rs:List Row),vs=[.ref d,.ref bk]/\Grw K H d bk e 3 ub rs []/\∀ (x:V) (w:Tr) (H':Hp),Mv d H H'->Dv K H' w.da x->wt w<=200->hgt w<=3->Q x H'
def qq7(K:Fg):TS :=
 (C0 (D9 (tOp (J0 K) (tOp (J0 K) (A4 1) (B9 (E5 K) [] E0 (A2 (A4 0) (A2 (tCB (P6 K) (A2 (A4 1) B1)) B1)))) (tC (.int 0))) (B3 2))
 (xs0 K))
theorem ya3(h:qk7 K vs H Q E):qq7 K {nx:=fun _ H'=>Q .non H',rt:=Q} (G9 ["_law_deck","_law_book_here","_law_name_here"] vs) H:=by
 obtain⟨d,bk,e,ub,rs,rfl,G,q⟩:=h
 show qq7 K _ [some (.ref d),some (.ref bk),none] H
 unfold qq7
 have hul:ub.length=rs.length:=by have:=G.dvs.length;rw[List.length_map] at this;exact this
 have r1:=G.r1
 have r8:=G.r8
 lk
 refine M8 (.inr G.hbk) ?_
 lk
 refine⟨d,_,rfl,by omega,by omega,G.dk,fun y H1 y0 y1 mv1=>?_⟩
 have G1:=G.mv mv1
 lk
 have hyl:y.toNat<ub.length:=by omega
 refine J9 G1.hbk (ixI y0 (List.getElem?_eq_getElem hyl)) ?_
 obtain⟨dd,hd1,hd2⟩:=G1.dvs.get' (List.getElem?_eq_getElem hyl)
 rw[List.getElem?_map] at hd1
 obtain⟨r,hr,rfl⟩:=Option.map_eq_some_iff.mp hd1
 obtain⟨rb,sv,bv,erv,hrb,_,_⟩:=N0 hd2
 rw[erv]
 lk
 refine J9 hrb (v:=.str r.name) (E8 (j:=0) rfl) ?_
 lk
 refine⟨d,3,rfl,by decide,by decide,G1.dk,fun j H2 j0 j1 mv2=>?_⟩
 have mv12:=Mv.tr mv1 mv2
 have G2:=G1.mv mv2
 lk
 by_cases hj:j=0
 ·rw[decide_eq_true hj]
  x_go
  lk
  exact⟨d,rfl,G2.dk,fun x H3 mv3 l1 l2=>q _ (.tx x) H3 (Mv.tr mv12 mv3) (za2 x) (by rw[wt];omega) (by rw[hgt];omega)⟩
 rw[decide_eq_false hj]
 k_go
 lk
 refine⟨.ref bk,r.name,rs,rfl,G2.rws,fun u H3 s3 du=>?_⟩
 obtain⟨rb2,sv2,bv2,rfl,hrb2,_,_⟩:=N0 du
 have G3:=G2.same s3
 have mv3:=mv12.same s3
 lk
 refine J9 hrb2 (v:=.str (U5 rs r.name).sort) (E8 (j:=1) rfl) ?_
 lk
 by_cases hb:(U5 rs r.name).sort=("bare":Str)
 ·rw[decide_eq_true hb]
  x_go
  lk
  refine⟨D8 (by z_go),fun c hc=>?_⟩
  have s4:=A6.new hc (.tup [])
  have e4:(upd H3 c (.tup [])) c=some (.tup []):=A7
  generalize upd H3 c (.tup [])=H4 at *
  lk
  refine⟨D8 (by z_go),fun c2 hc2=>?_⟩
  have s5:=A6.new hc2 (.tup [.str r.name,.ref c])
  exact q _ (.nd r.name []) _ (mv3.same (A6.tr s4 s5)) (wt6 (SqT.of A7) (SqT.of (s5 _ _ e4)) (by rw[Tr.das];exact G8)) (by simp[wt,wts]) (by simp[hgt,L9])
 ·rw[decide_eq_false hb]
  k_go
  lk
  refine⟨D8 (by z_go),fun c hc=>?_⟩
  have s4:=A6.new hc (.tup [.str r.name])
  have G4:=G3.same s4
  have G5:Grw K (upd H3 c (.tup [.str r.name])) d bk c 1 ub rs [r.name]:=⟨G4.dk,G4.hbk,G4.dvs,G.r1,G.r8,G.B,SqT.of A7,by simp⟩
  generalize upd H3 c (.tup [.str r.name])=H4 at *
  lk
  refine⟨d,bk,c,1,ub,rs,[r.name],rfl,G5,by decide,fun t vs ps H5 mv5 ht dv _ hw hl hh=>?_⟩
  lk
  refine⟨D8 (by z_go),fun c2 hc2=>?_⟩
  have s6:=A6.new hc2 (.tup [.str r.name,.ref t])
  have hl:ps.length<=3:=hl
  have hB:BB 1=31:=by decide
  rw[hB] at hw
  refine q _ (.nd r.name ps) _ ((Mv.tr (mv3.same s4) mv5).same s6) (wt6 (SqT.of A7) (SqT.of (s6 _ _ ht)) (Dvs.same s6 _ _ dv)) ?_ ?_
  ·rw[wt];omega
  ·rw[hgt];omega
abbrev zl0(K:Fg):TS :=
 (C0 (M0 (D7 (tOp (Z2 K) (B9 (qb4 K) [] E0 (A2 (tOp (O7 K) (A4 9) (tC (.int 1))) (A2 (A4 3) (A2 (tOp (J0 K) (A4 11) (tC (.int 0))) (A2 (tOp (O7 K) (A4 6) (O1 (A2 (A4 8) B1))) (A2 (tC (.str ("":Str))) (A2 (tC (.int 0)) B1))))))) (X4 (A2 (A4 4) B1))))
 (I0 (tC (.bl false))) E9)
 (D9 (tOp (J0 K) (A4 11) (tC (.int 0))) (B3 4)))
abbrev zl1(K:Fg):TS :=
 (M0 (tOr (D7 (tOp (Z2 K) (tCB (P6 K) (A2 (A4 11) B1)) (tC (.int 3)))) (D7 (tOp yk3 (tOp (J0 K) (A4 11) (tC (.int 0))) (tC (.bl true)))))
 (I0 (tC (.bl false))) E9)
abbrev zl2(K:Fg):TS :=
 (M0 (D7 (tOp (S4 K) (tCB (P6 K) (A2 (A4 11) B1)) (tC (.int 1))))
 (zl0 K) (zl1 K))
def zw9(K:Fg):TS :=
 (C0 (D9 (B9 (qb4 K) [] E0 (A2 (A4 9) (A2 (A4 3) (A2 (A4 4) (A2 (tOp (O7 K) (A4 6) (O1 (A2 (A4 8) B1))) (A2 (A4 10) (A2 (tOp (O7 K) (A4 8) (B9 (E5 K) [] E0 (A2 (A4 1) (A2 (tOp (O7 K) (tOp (rI0 fun i j=>.int (i-j)) (tCB (P6 K) (A2 (A4 7) B1)) (A4 8)) (tC (.int 1))) B1)))) B1))))))) (B3 11))
 (zl2 K))
section
variable{d bk e sc:Addr}{ub us:List V}{rs:List Row}{t u:Tr}{tv:V}{q:List Int}{ws:List Tr}{D:U8}{c:Int}
structure Tn(K:Fg)(H:Hp)(d bk e:Addr)(ub:List V)(rs:List Row)(t:Tr)(tv:V)(i:Nat):Prop where
 G:Grw K H d bk e 3 ub rs []
 dt:Dv K H t.da tv
 nd:t.isTx=false
 ff:Q4 (ffk rs [] [] t)=none
 wt:wt t<=1200+300*i
 ht:hgt t<=5+4*i
theorem Tn.mv(L:Tn K H d bk e ub rs t tv i)(m:Mv d H H'):Tn K H' d bk e ub rs t tv i:={L with G:=L.G.mv m,dt:=Dv.tupK (m.tupK L.G.dk) _ _ (Z9 t) L.dt}
theorem Tn.same(L:Tn K H d bk e ub rs t tv i)(m:A6 H H'):Tn K H' d bk e ub rs t tv i:=L.mv (Mv.same (Mv.refl L.G.dk) m)
theorem Tn.ask(L:Tn K H d bk e ub rs t tv i)(hi:i<=6)(ha:SqT K H a (E4 pl))(hl:pl.length<=1010):Ask K H t (.ref bk) tv rs a pl :=
 ⟨L.G.rws,L.dt,ha,by have:=L.wt;omega,by have:=L.ht;omega,by omega⟩
theorem zo0{pa pb:Addr}{k:Nat}{a11:Option V}(L:Tn K H d bk e ub rs t tv i)(hi:i<6)(hpa:SqT K H pa (E4 q))(hpb:SqT K H pb us)(du:Dvs K H (Tr.das u.kids) us)(hw:way t q=some (ws++[u]))(hu:u.isTx=false)(hk:k<=us.length)(hwy:wy=0\/wy=2)(T:Thg K H wy th bit nm)(wb:wt bit<=200)(hb:hgt bit<=3)(qq:∀ (t':Tr) (tv':V) (H':Hp) (a11:Option V),Tn K H' d bk e ub rs t' tv' (i+1)->D.nx [some (.ref sc),some (.ref d),some (.int c),some (.ref bk),some tv',a5,some (.ref pa),some (.ref pb),some (.int k),some (.int wy),some th,a11] H') :
 zw9 K D [some (.ref sc),some (.ref d),some (.int c),some (.ref bk),some tv,a5,some (.ref pa),some (.ref pb),some (.int k),some (.int wy),some th,a11] H:=by
 have hqh:=wp4 hw
 have hth:=L.ht
 have hql:q.length<=200:=by omega
 have hul:=O0 du
 have huw:=qu8 hw (i:=ws.length) (w:=u) (by simp)
 have htw:=L.wt
 have hkw:=(qg0 hu).1
 have hkl:=V6 u.kids
 have cat:∀ {H4:Hp} {p:Addr} {Q':VK},SqT K H4 pa (E4 q)->H4 p=some (.tup [.int k])->(∀ p' H5,A6 H4 H5->SqT K H5 p' (E4 (q++[(k:Int)]))->Q' (.ref p') H5)->O7 K (.ref pa) (.ref p) H4 Q':=by
  intro H4 p Q' h4 hp hQ
  refine qc2 h4 (SqT.of hp) (by rw[L8];exact D8 (by show _+1<=_;omega)) fun p' H5 s5 hp5=>?_
  rw[<-N1] at hp5
  exact hQ p' H5 s5 hp5
 have hpl:(q++[(k:Int)]).length<=1010:=by rw[List.length_append];show _+1<=_;omega
 unfold zw9
 lk
 refine⟨D8 (by z_go),fun p hp=>?_⟩
 have s1:=A6.new hp (.tup [.int k])
 refine cat (s1.sqT hpa) A7 fun a H2 s2 ha=>?_
 have s12:=A6.tr s1 s2
 have La:=L.same s12
 lk
 refine M8 (.inr (s12.sqT hpb)) ?_
 lk
 refine .inl (qe6 ?_)
 lk
 refine⟨d,_,rfl,by omega,by omega,La.G.dk,fun j H3 j0 j1 mv3=>?_⟩
 have Lb:=La.mv mv3
 have tk:=(mv3.tupK La.G.dk)
 have tk13:qe3 H H3:=qe3.trans s12.tupK tk
 lk
 refine .inl (qe6 ?_)
 lk
 obtain⟨m,em,hkm,hml⟩:∃ m:Nat,(k:Int)+j=m/\k<=m/\m<=u.kids.length:=⟨k+j.toNat,by omega,by omega,by omega⟩
 rw[em]
 obtain⟨t',dd⟩:∃ t',wn5 t (q++[(k:Int)]) wy bit nm m t':=by
  rcases hwy with rfl|rfl
  ·exact⟨_,.set hw hu (by omega)⟩
  ·exact⟨_,.arn hw hu hkm hml⟩
 have dl:=zk9 dd
 have T3:Thg K H3 wy th bit nm:={T with b:=fun e=>Dv.tupK tk13 _ _ (Z9 bit) (T.b e)}
 refine⟨t,.ref bk,tv,th,rs,a,_,wy,m,bit,nm,rfl,Lb.ask (by omega) (tk.sqT ha) hpl,T3,.inr ⟨t',dd,fun hn l x H4 s4 hl dx=>?_,fun r pl' _ l p2 H4 s4 hl hp2=>?_⟩⟩
 ·have Lc:=Lb.same s4
  lk
  refine M8 (.inl (SqL.of hl)) ?_
  lk
  rw[decide_eq_true (by rfl)]
  x_go
  lk
  refine .inl (qe6 ?_)
  lk
  refine R6 (SqL.of hl) (v:=x) (E8 (j:=0) rfl) ?_
  lk
  refine⟨D8 (by z_go),fun p3 hp3=>?_⟩
  have s5:=A6.new hp3 (.tup [.int k])
  refine cat ((A6.tr s4 s5).sqT (tk13.sqT hpa)) A7 fun a3 H6 s6 ha3=>?_
  have s56:=A6.tr s5 s6
  have Ld:=Lc.same s56
  have dx6:=Dv.same s56 _ _ dx
  lk
  refine⟨t',.ref bk,x,.str ("":Str),rs,a3,_,wy+1,0,.tx "","",rfl,⟨Ld.G.rws,dx6,ha3,by omega,by omega,by omega⟩,Thg.no (by omega) (by omega),.inr ⟨t,zk8 L.ff dd hwy,fun _ l2 y H7 s7 hl2 dy=>?_,fun r pl e=>by rw[L.ff] at e;cases e⟩⟩
  lk
  refine⟨D8 (by z_go),fun l3 hl3=>?_⟩
  have s8:=A6.new hl3 (.lst [tv])
  have s78:=A6.tr s7 s8
  refine zd5 (t:=t) (by omega) (s8 _ _ hl2) A7 (Dv.same s8 _ _ dy) (Dv.same s78 _ _ Ld.dt) ?_
  lk
  have s58:=A6.tr s56 s78
  refine R6 (SqL.of (s58 _ _ hl)) (v:=x) (E8 (j:=0) rfl) ?_
  lk
  have Le:=Lc.same s58
  exact qq t' x _ _ ⟨Le.G,Dv.same s58 _ _ dx,dl.2.2 L.nd,hn,by omega,by omega⟩
 ·have Lc:=Lb.same s4
  lk
  refine M8 (.inl (SqL.of hl)) ?_
  lk
  rw[decide_eq_false (show ¬((([V.bl true,.str r,.ref p2]:List V).length:Int)=1) from (by show ¬((3:Int)=1);decide))]
  k_go
  lk
  refine M8 (.inl (SqL.of hl)) ?_
  lk
  rw[decide_eq_true (show((([V.bl true,.str r,.ref p2]:List V).length:Int)=3) from rfl)]
  k_go
  lk
  refine R6 (SqL.of hl) (v:=.bl true) (E8 (j:=0) rfl) ?_
  lk
  refine⟨true,true,rfl,rfl,?_⟩
  refine⟨_,rfl,?_⟩
  k_go
  lk
  exact qq t tv _ _ {Lc with wt:=by omega,ht:=by omega}
end
abbrev zl3(K:Fg):TS :=
 (C0 (M0 (D7 (tOp (S4 K) (A4 9) (tC (.int 0))))
 (D9 (B9 (qk7 K) [] E0 (A2 (A4 1) (A2 (A4 3) B1))) (B3 10)) E9)
 (zw9 K))
abbrev zl4(K:Fg):TS :=
 (C0 (D9 (tOp (J0 K) (tOp (J0 K) (A4 3) (B9 (E5 K) [] E0 (A2 (A4 1) (A2 (tCB (P6 K) (A2 (A4 3) B1)) B1)))) (tC (.int 0))) (B3 10))
 (zl3 K))
abbrev zl5(K:Fg):TS :=
 (C0 (D9 (tOp qt3 (B9 (E5 K) [] E0 (A2 (A4 1) (A2 (tC (.int 2)) B1))) (tC (.int 2))) (B3 9))
 (zl4 K))
abbrev zl6(K:Fg):TS :=
 (C0 (D9 (B9 (E5 K) [] E0 (A2 (A4 1) (A2 (tOp (O7 K) (tCB (P6 K) (A2 (A4 7) B1)) (tC (.int 1))) B1))) (B3 8))
 (zl5 K))
abbrev zl7(K:Fg):TS :=
 (C0 (D9 (B9 (qd8 K) [] E0 (A2 (A4 1) (A2 (A4 4) B1))) (wq4 K 2 (S5 (B3 6) (S5 (B3 7) wq3))))
 (zl6 K))
abbrev zl8(K:Fg):TS :=
 (C0 (qm3 (qm2 (A2 (tC (.int 6)) B1)) (B3 5)
 (zl7 K))
 (I0 (tOp xu0 (B9 (qd7 K) [] E0 (A2 (A4 3) (A2 (A4 4) B1))) (tC .non))))
abbrev ze0(K:Fg):TS :=
 (C0 (D9 (O1 (A2 (tC (.str ("":Str))) (A2 (B9 (ql7 K) [] E0 (A2 (A4 1) (A2 (A4 3) (A2 (O1 B1) (A2 (tC (.int 4)) B1))))) B1))) (B3 4))
 (zl8 K))
abbrev ze1(K:Fg):TS :=
 (C0 (D9 (B9 (qf9 K) [] E0 (A2 (A4 1) (A2 (A4 2) (A2 (tC (.int 8)) B1)))) (B3 3))
 (ze0 K))
abbrev ze2(K:Fg):TS :=
 (C0 (D9 (B9 (E5 K) [] E0 (A2 (A4 1) (A2 (tOp (rI zx4 fun i j=>.int (i ^ j.toNat)) (tC (.int 10)) (tC (.int 6))) B1))) (B3 2))
 (ze1 K))
def wi9(K:Fg):Sp:=fun vs H Q _=>∃ (a:Addr) (ns:List Int),vs=[.ref a]/\SqL K H a (ns.map V.int)/\ns.length<=63/\∀ H',Q (.bl true) H'
def yn1(K:Fg):TS :=
 (C0 (D9 (B9 (Y2 K) [] E0 (A2 (A4 0) (A2 (tC (.int 800)) B1))) (B3 1))
 (ze2 K))
theorem zx0(h:wi9 K vs H Q E):yn1 K {nx:=fun _ H'=>Q .non H',rt:=Q} (G9 ["_law_script","_law_deck","_law_code","_law_book_here","_law_tree","_law_turn","_law_place","_law_parts","_law_k","_law_way","_law_thing","_law_told_here"] vs) H:=by
 obtain⟨sc,ns,rfl,hS,hn,q⟩:=h
 show yn1 K _ [some (.ref sc),none,none,none,none,none,none,none,none,none,none,none] H
 unfold yn1
 lk
 refine⟨sc,ns,800,rfl,hS,by decide,fun d H1 s1 _ dk1=>?_⟩
 lk
 refine⟨10,6,rfl,rfl,⟨by decide,by decide,by decide⟩,?_⟩
 lk
 refine⟨d,_,rfl,by decide,by decide,dk1,fun c H2 c0 c1 mv2=>?_⟩
 lk
 refine⟨d,c,8,rfl,by decide,by decide,mv2.dk,fun bk ub rs H3 mv3 hbk dvs r1 r8 BS=>?_⟩
 lk
 refine⟨D8 (by z_go),fun e he=>?_⟩
 have s4:=A6.new he (.tup [])
 have G:Grw K (upd H3 e (.tup [])) d bk e 3 ub rs []:=⟨mv3.dk.same s4,s4.sqT (SqT.of hbk),Dvs.same s4 _ _ dvs,r1,r8,BS,SqT.of A7,by decide⟩
 generalize upd H3 e (.tup [])=H4 at *
 lk
 refine⟨d,bk,e,3,ub,rs,[],rfl,G,by decide,fun t vs ps H5 mv5 ht dv hff hw hl hh=>?_⟩
 have G5:=G.mv mv5
 lk
 refine⟨D8 (by z_go),fun p hp=>?_⟩
 have s6:=A6.new hp (.tup [.str ("":Str),.ref t])
 have dt:Dv K (upd H5 p (.tup [.str ("":Str),.ref t])) (Tr.nd ("":Str) ps).da (.ref p):=wt6 (SqT.of A7) (SqT.of (s6 _ _ ht)) (Dvs.same s6 _ _ dv)
 generalize upd H5 p (.tup [.str ("":Str),.ref t])=H6 at *
 have G6:=G5.same s6
 have hB:BB 3=283:=by decide
 have hl:ps.length<=4:=hl
 have hwt:wt (Tr.nd ("":Str) ps)<=1133:=by
  rw[hB] at hw
  have:=Nat.mul_le_mul_right 283 hl
  rw[wt];omega
 have hht:hgt (Tr.nd ("":Str) ps)<=5:=by rw[hgt];omega
 have La:Tn K H6 d bk e ub rs (Tr.nd ("":Str) ps) (.ref p) 0:=⟨G6,dt,rfl,wa4 (by rw[ffk];exact hff []),by omega,by omega⟩
 lk
 refine qm5 (by omega) (by omega) (fun i σ H'=>∃ (t:Tr) (tv:V) (a5 a6 a7 a8 a9 a10 a11:Option V),σ=[some (.ref sc),some (.ref d),some (.int c),some (.ref bk),some tv,a5,a6,a7,a8,a9,a10,a11]/\Tn K H' d bk e ub rs t tv i) ⟨_,_,_,_,_,_,_,_,_,rfl,La⟩ ?_ ?_
 ·rintro i σ H' hi ⟨t,tv,a5,a6,a7,a8,a9,a10,a11,rfl,L⟩
  have hi:i<6:=by omega
  have hwt:=L.wt
  lk
  refine⟨d,tv,t,rfl,L.G.dk,L.dt,L.nd,by omega,fun x pa pb pl ws u us H7 mv7 hx hpa hway hu hpb du=>?_⟩
  have L:=L.mv mv7
  have hul:=O0 du
  have huw:=qu8 hway (i:=ws.length) (w:=u) (by simp)
  have hkw:=(qg0 hu).1
  have hkl:=V6 u.kids
  refine⟨x,_,rfl,SqT.of hx,rfl,_,_,rfl,N7 ⟨_,_,rfl,N7 ⟨rfl,?_⟩⟩⟩
  lk
  refine M8 (.inr hpb) ?_
  lk
  refine .inl (qe6 ?_)
  lk
  refine⟨d,_,rfl,by omega,by omega,L.G.dk,fun k H8 k0 k1 mv8=>?_⟩
  obtain⟨k,rfl⟩:∃ n:Nat,k=n:=⟨k.toNat,by omega⟩
  have hpa:=(mv8.tupK L.G.dk).sqT hpa
  have hpb:=(mv8.tupK L.G.dk).sqT hpb
  have du:=Dvs.tupK (mv8.tupK L.G.dk) _ _ (Y0 _) du
  have L:=L.mv mv8
  lk
  refine⟨d,2,rfl,by decide,by decide,L.G.dk,fun w H9 w0 w1 mv9=>?_⟩
  have hpa:=(mv9.tupK L.G.dk).sqT hpa
  have hpb:=(mv9.tupK L.G.dk).sqT hpb
  have du:=Dvs.tupK (mv9.tupK L.G.dk) _ _ (Y0 _) du
  have L:=L.mv mv9
  lk
  refine .inl ⟨_,_,rfl,rfl,.inr ⟨by decide,by decide⟩,?_⟩
  show B3 9 (.int (w*2)) _ _ _
  obtain⟨wy,ew,hwy⟩:∃ wy:Int,w*2=wy/\(wy=0\/wy=2):=⟨_,rfl,by omega⟩
  rw[ew]
  lk
  have hbl:ub.length=rs.length:=by have:=L.G.dvs.length;rw[List.length_map] at this;exact this
  have r1:=L.G.r1
  have r8:=L.G.r8
  refine M8 (.inr L.G.hbk) ?_
  lk
  refine⟨d,_,rfl,by omega,by omega,L.G.dk,fun y H10 y0 y1 mv10=>?_⟩
  have hpa:=(mv10.tupK L.G.dk).sqT hpa
  have hpb:=(mv10.tupK L.G.dk).sqT hpb
  have du:=Dvs.tupK (mv10.tupK L.G.dk) _ _ (Y0 _) du
  have L:=L.mv mv10
  lk
  have hyl:y.toNat<ub.length:=by omega
  refine J9 L.G.hbk (ixI y0 (List.getElem?_eq_getElem hyl)) ?_
  obtain⟨dd,hd1,hd2⟩:=L.G.dvs.get' (List.getElem?_eq_getElem hyl)
  rw[List.getElem?_map] at hd1
  obtain⟨r,hr,rfl⟩:=Option.map_eq_some_iff.mp hd1
  obtain⟨rb,sv,bv,erv,hrb,_,_⟩:=N0 hd2
  rw[erv]
  lk
  refine J9 hrb (v:=.str r.name) (E8 (j:=0) rfl) ?_
  lk
  by_cases h0:wy=0
  ·subst h0
   rw[decide_eq_true rfl]
   x_go
   lk
   refine⟨d,bk,e,ub,rs,rfl,L.G,fun x w H11 mv11 dx wx hx=>?_⟩
   refine N7 ?_
   refine zo0 (nm := "") (L.mv mv11) hi ((mv11.tupK L.G.dk).sqT hpa) ((mv11.tupK L.G.dk).sqT hpb) (Dvs.tupK (mv11.tupK L.G.dk) _ _ (Y0 _) du) hway hu (by omega) hwy ⟨fun _=>dx,fun z=>(by cases z),by omega,by omega⟩ wx hx ?_
   intro t' tv' H12 a11 L'
   exact⟨t',tv',_,_,_,_,_,_,_,rfl,L'⟩
  ·rw[decide_eq_false h0]
   k_go
   refine xn5 ?_
   refine zo0 (bit:=.tx "") L hi hpa hpb du hway hu (by omega) hwy ⟨fun z=>absurd z h0,fun _=>rfl,by decide,by decide⟩ (by decide) (by decide) ?_
   intro t' tv' H12 a11 L'
   exact⟨t',tv',_,_,_,_,_,_,_,rfl,L'⟩
 ·rintro σ H' ⟨t,tv,a5,a6,a7,a8,a9,a10,a11,rfl,L⟩
  have hwt:=L.wt
  have hht:=L.ht
  have h6:(6:Int).toNat=6:=rfl
  rw[h6] at hwt hht
  have r8:=L.G.r8
  lk
  refine⟨.ref bk,tv,rs,t,rfl,L.G.B,L.G.rws,by omega,L.dt,by omega,by omega,fun x H1 s1 hx=>?_⟩
  rw[L.ff] at hx
  obtain rfl:x=.non:=hx
  lk
  rw[decide_eq_true rfl]
  exact q _
end
variable{P:Program}{mg:Str->Option Value}{us:List Value}{h:Heap}
section
open PyProof.Rows
set_option maxHeartbeats 0
def top(i:Nat):Stmt:=PySem.Challenge.pw_tagmend_k73_there_and_back.main.body.getD i (.Pass ⟨0,0,0,0⟩)
def Ad3(s:Stmt)(j:Nat):Stmt:=match s with
 | .ClassDef _ _ _ b _ _ _ _ _ _ _=>b.getD j (.Pass ⟨0,0,0,0⟩)
 | _=>.Pass ⟨0,0,0,0⟩
abbrev wz3:Stmt:=top 16
abbrev wj0:Stmt:=top 17
abbrev wj1:Stmt:=top 18
abbrev wj2:Stmt:=top 19
abbrev wa5:Stmt:=top 20
abbrev wj3:Stmt:=top 23
abbrev wj4:Stmt:=top 24
abbrev wa6:Stmt:=top 25
abbrev wj5:Stmt:=top 26
abbrev qd9:Stmt:=top 27
abbrev wz4:Stmt:=top 28
abbrev qk8:Stmt:=top 29
abbrev qi6:Stmt:=top 30
abbrev qe0:Stmt:=top 31
abbrev qc4:Stmt:=top 32
abbrev wj6:Stmt:=top 33
abbrev wa7:Stmt:=top 36
abbrev wa8:Stmt:=top 37
abbrev qi7:Stmt:=top 38
abbrev qq8:Stmt:=top 39
abbrev qq9:Stmt:=top 40
abbrev ql8:Stmt:=top 41
abbrev qr0:Stmt:=top 42
abbrev qb6:Stmt:=top 43
abbrev wz5:Stmt:=top 45
abbrev qu9:Stmt:=top 46
abbrev qr1:Stmt:=top 47
abbrev wz6:Stmt:=top 48
abbrev qi8:Stmt:=top 49
abbrev qr2:Stmt:=top 50
abbrev wz7:Stmt:=top 51
abbrev wj7:Stmt:=top 52
abbrev qi9:Stmt:=top 54
abbrev qv0:Stmt:=top 55
abbrev qv1:Stmt:=top 56
abbrev qb7:Stmt:=top 57
abbrev qv2:Stmt:=top 58
abbrev V3:Stmt:=top 59
abbrev qk9:Stmt:=top 60
abbrev ql0:Stmt:=top 61
abbrev wa9:Stmt:=top 62
abbrev qv3:Stmt:=top 63
abbrev V9:Stmt:=top 64
abbrev ql9:Stmt:=top 65
abbrev qr3:Stmt:=top 66
abbrev qr4:Stmt:=top 68
abbrev qg5:Stmt:=top 70
abbrev qr5:Stmt:=top 71
abbrev qv4:Stmt:=top 72
abbrev wb0:Stmt:=top 73
abbrev xl2:Stmt:=top 74
abbrev wj8:Stmt:=Ad3 (top 8) 0
set_option genInjectivity false in
structure Fa where
 a:Addr
 d:FuncData
structure Fok(K:Fg)(mg:Str->Option Value)(x:Str)(st:Stmt)(ps:List Str)(f:Fa):Prop where
 F:Fun K x x st f.a f.d
 b:wb5 K f.d ps []
 m:mg x=some (.ref f.a)
set_option genInjectivity false in
structure Adr where
 f_row_of:Fa
 f_sort_of:Fa
 f_is_wall:Fa
 f_host_of:Fa
 f_frame_of:Fa
 f_is_text:Fa
 f_name_of:Fa
 f_parts_of:Fa
 f_part_at:Fa
 f_names_above:Fa
 f_way_to:Fa
 f_places_in:Fa
 f_placed_parts:Fa
 f_steps_below:Fa
 f_straight_above:Fa
 f_near_of:Fa
 f_fault_of:Fa
 f_fault_at:Fa
 f_follows_text:Fa
 f_text_fault:Fa
 f_tree_fault:Fa
 f_frame_fault:Fa
 f_near_fault:Fa
 f_share_a_name:Fa
 f_set_in:Fa
 f_taken_out:Fa
 f_put_around:Fa
 f_lifted:Fa
 f_parts_around:Fa
 f_with_parts:Fa
 f_joined:Fa
 f_fitting:Fa
 f__law_numbers:Fa
 f__law_draw:Fa
 f__law_name:Fa
 f__law_sorts:Fa
 f__law_some:Fa
 f__law_book:Fa
 f__law_text:Fa
 f__law_walk:Fa
 f__law_row:Fa
 f__law_near:Fa
 f__law_fault:Fa
 f__law_faults:Fa
 f__law_grown:Fa
 f__law_first:Fa
 f__law_elder:Fa
 f__law_asked:Fa
 f__law_told:Fa
 f__law_bit:Fa
 f_law:Fa
 a_i_NoFit:Addr
 d_i_NoFit:FuncData
 c_WALL_SORTS:Addr
 v_NAME:Value
 v_SORT:Value
 v_HOST:Value
 v_SHUTS:Value
 v_BARS:Value
 v_ROOT_NAME:Value
 v_MOST_ABOVE:Value
 k_Ended:Addr
 k_NoBook:Addr
 k_NoFit:Addr
 k_NoPlace:Addr
 k_NoSpot:Addr
 k_NoText:Addr
 k_NotEnded:Addr
 k_TagError:Addr
structure Txt(K:Fg)(mg:Str->Option Value)(t:Adr):Prop where
 f_row_of:Fok K mg "row_of" wz3 ["rows","name"] t.f_row_of
 f_sort_of:Fok K mg "sort_of" wj0 ["book","name"] t.f_sort_of
 f_is_wall:Fok K mg "is_wall" wj1 ["book","name"] t.f_is_wall
 f_host_of:Fok K mg "host_of" wj2 ["book","name"] t.f_host_of
 f_frame_of:Fok K mg "frame_of" wa5 ["book","name"] t.f_frame_of
 f_is_text:Fok K mg "is_text" wj3 ["part"] t.f_is_text
 f_name_of:Fok K mg "name_of" wj4 ["tree"] t.f_name_of
 f_parts_of:Fok K mg "parts_of" wa6 ["part"] t.f_parts_of
 f_part_at:Fok K mg "part_at" wj5 ["tree","place"] t.f_part_at
 f_names_above:Fok K mg "names_above" qd9 ["tree","place"] t.f_names_above
 f_way_to:Fok K mg "way_to" wz4 ["tree","place"] t.f_way_to
 f_places_in:Fok K mg "places_in" qk8 ["tree"] t.f_places_in
 f_placed_parts:Fok K mg "placed_parts" qi6 ["tree"] t.f_placed_parts
 f_steps_below:Fok K mg "steps_below" qe0 ["place","part"] t.f_steps_below
 f_straight_above:Fok K mg "straight_above" qc4 ["names"] t.f_straight_above
 f_near_of:Fok K mg "near_of" wj6 ["book","names"] t.f_near_of
 f_fault_of:Fok K mg "fault_of" wa7 ["book","tree"] t.f_fault_of
 f_fault_at:Fok K mg "fault_at" wa8 ["book","tree","place"] t.f_fault_at
 f_follows_text:Fok K mg "follows_text" qi7 ["tree","place"] t.f_follows_text
 f_text_fault:Fok K mg "text_fault" qq8 ["book","names","text","beside"] t.f_text_fault
 f_tree_fault:Fok K mg "tree_fault" qq9 ["book","names","tree"] t.f_tree_fault
 f_frame_fault:Fok K mg "frame_fault" ql8 ["book","names","name"] t.f_frame_fault
 f_near_fault:Fok K mg "near_fault" qr0 ["book","names","name"] t.f_near_fault
 f_share_a_name:Fok K mg "share_a_name" qb6 ["names","others"] t.f_share_a_name
 f_set_in:Fok K mg "set_in" wz5 ["book","tree","place","bit"] t.f_set_in
 f_taken_out:Fok K mg "taken_out" qu9 ["book","tree","place"] t.f_taken_out
 f_put_around:Fok K mg "put_around" qr1 ["book","tree","place","stop","name"] t.f_put_around
 f_lifted:Fok K mg "lifted" wz6 ["book","tree","place"] t.f_lifted
 f_parts_around:Fok K mg "parts_around" qi8 ["tree","place","beyond"] t.f_parts_around
 f_with_parts:Fok K mg "with_parts" qr2 ["tree","place","parts"] t.f_with_parts
 f_joined:Fok K mg "joined" wz7 ["parts"] t.f_joined
 f_fitting:Fok K mg "fitting" wj7 ["book","tree"] t.f_fitting
 f__law_numbers:Fok K mg "_law_numbers" qi9 ["_law_script","_law_most"] t.f__law_numbers
 f__law_draw:Fok K mg "_law_draw" qv0 ["_law_deck","_law_most"] t.f__law_draw
 f__law_name:Fok K mg "_law_name" qv1 ["_law_code","_law_k"] t.f__law_name
 f__law_sorts:Fok K mg "_law_sorts" qb7 ["_law_deck","_law_count"] t.f__law_sorts
 f__law_some:Fok K mg "_law_some" qv2 ["_law_deck","_law_names"] t.f__law_some
 f__law_book:Fok K mg "_law_book" V3 ["_law_deck","_law_code","_law_most"] t.f__law_book
 f__law_text:Fok K mg "_law_text" qk9 ["_law_deck"] t.f__law_text
 f__law_walk:Fok K mg "_law_walk" ql0 ["_law_tree"] t.f__law_walk
 f__law_row:Fok K mg "_law_row" wa9 ["_law_book_here","_law_name_here"] t.f__law_row
 f__law_near:Fok K mg "_law_near" qv3 ["_law_book_here","_law_names"] t.f__law_near
 f__law_fault:Fok K mg "_law_fault" V9 ["_law_book_here","_law_names","_law_part","_law_ahead"] t.f__law_fault
 f__law_faults:Fok K mg "_law_faults" ql9 ["_law_book_here","_law_tree"] t.f__law_faults
 f__law_grown:Fok K mg "_law_grown" qr3 ["_law_deck","_law_book_here","_law_names","_law_deep"] t.f__law_grown
 f__law_first:Fok K mg "_law_first" qr4 ["_law_book_here","_law_tree"] t.f__law_first
 f__law_elder:Fok K mg "_law_elder" qg5 ["_law_deck","_law_tree"] t.f__law_elder
 f__law_asked:Fok K mg "_law_asked" qr5 ["_law_way","_law_book_here","_law_tree","_law_place","_law_thing","_law_stop"] t.f__law_asked
 f__law_told:Fok K mg "_law_told" qv4 ["_law_way","_law_book_here","_law_tree","_law_place","_law_thing","_law_stop"] t.f__law_told
 f__law_bit:Fok K mg "_law_bit" wb0 ["_law_deck","_law_book_here"] t.f__law_bit
 f_law:Fok K mg "law" xl2 ["_law_script"] t.f_law
 F_i_NoFit:Fun K "__init__" "NoFit.__init__" wj8 t.a_i_NoFit t.d_i_NoFit
 b_i_NoFit:wb5 K t.d_i_NoFit ["self","rule","place"] []
 m_i_NoFit:InI K mg "NoFit" t.k_NoFit t.a_i_NoFit
 g_WALL_SORTS:mg "WALL_SORTS"=some (.ref t.c_WALL_SORTS)
 q_WALL_SORTS:∀ H:Hp,SqT K H t.c_WALL_SORTS [.str ("room":Str),.str ("frame":Str)]
 g_NAME:mg "NAME"=some t.v_NAME/\L6 (.int 0) t.v_NAME
 g_SORT:mg "SORT"=some t.v_SORT/\L6 (.int 1) t.v_SORT
 g_HOST:mg "HOST"=some t.v_HOST/\L6 (.int 2) t.v_HOST
 g_SHUTS:mg "SHUTS"=some t.v_SHUTS/\L6 (.int 3) t.v_SHUTS
 g_BARS:mg "BARS"=some t.v_BARS/\L6 (.int 4) t.v_BARS
 g_ROOT_NAME:mg "ROOT_NAME"=some t.v_ROOT_NAME/\L6 (.str ("":Str)) t.v_ROOT_NAME
 g_MOST_ABOVE:mg "MOST_ABOVE"=some t.v_MOST_ABOVE/\L6 (.int 19) t.v_MOST_ABOVE
 z_ValueError:mg "ValueError"=none
 z_any:mg "any"=none
 z_enumerate:mg "enumerate"=none
 z_int:mg "int"=none
 z_isinstance:mg "isinstance"=none
 z_len:mg "len"=none
 z_list:mg "list"=none
 z_range:mg "range"=none
 z_sorted:mg "sorted"=none
 z_str:mg "str"=none
 z_sum:mg "sum"=none
 z_tuple:mg "tuple"=none
 n_Ended:mg "Ended"=some (.ref t.k_Ended)
 n_NoBook:mg "NoBook"=some (.ref t.k_NoBook)
 n_NoFit:mg "NoFit"=some (.ref t.k_NoFit)
 n_NoPlace:mg "NoPlace"=some (.ref t.k_NoPlace)
 n_NoSpot:mg "NoSpot"=some (.ref t.k_NoSpot)
 n_NoText:mg "NoText"=some (.ref t.k_NoText)
 n_NotEnded:mg "NotEnded"=some (.ref t.k_NotEnded)
 n_TagError:mg "TagError"=some (.ref t.k_TagError)
 x_NoPlace:Ab7 K mg "NoPlace" t.k_NoPlace
 er:Ers K t.k_Ended t.k_NoBook t.k_NoFit t.k_NoPlace t.k_NoSpot t.k_NoText t.k_NotEnded t.k_TagError
 y_NoFit_TagError:PySem.W.exmOne K (.ref t.k_NoFit) (.ref t.k_TagError)=some true
 y_NoPlace_TagError:PySem.W.exmOne K (.ref t.k_NoPlace) (.ref t.k_TagError)=some true
 se_NoFit_rule:SeI K t.k_NoFit "rule"
 ei_NoFit_rule:ExI K t.k_NoFit "rule"
 se_NoFit_place:SeI K t.k_NoFit "place"
 ei_NoFit_place:ExI K t.k_NoFit "place"
 ba_TagError:BaI K mg "TagError" t.k_TagError
section
variable{w:World}{base:Heap}{t:Adr}
theorem xl3:D0 ["rows","name","row"] ["rows","name"] (B5 wz3):=by walk_at "k"
theorem wz8:D0 ["book","name","row"] ["book","name"] (B5 wj0):=by walk_at "k"
theorem wz9:D0 ["book","name"] ["book","name"] (B5 wj1):=by walk_at "k"
theorem xa0:D0 ["book","name","row"] ["book","name"] (B5 wj2):=by walk_at "k"
theorem wk5:D0 ["book","name","row"] ["book","name"] (B5 wa5):=by walk_at "k"
theorem xa1:D0 ["part"] ["part"] (B5 wj3):=by walk_at "k"
theorem xa2:D0 ["tree"] ["tree"] (B5 wj4):=by walk_at "k"
theorem wk6:D0 ["part"] ["part"] (B5 wa6):=by walk_at "k"
theorem qr6:D0 ["tree","place"] ["tree","place"] (B5 wj5):=by walk_at "k"
theorem qv5:D0 ["tree","place"] ["tree","place"] (B5 qd9):=by walk_at "k"
theorem qx4:D0 ["tree","place","way","number","parts"] ["tree","place"] (B5 wz4):=by walk_at "k"
theorem we4:D0 ["tree"] ["tree"] (B5 qk8):=by walk_at "k"
theorem qs0:D0 ["tree","placed","ahead","step"] ["tree"] (B5 qi6):=by walk_at "k"
theorem qv6:D0 ["place","part","parts"] ["place","part"] (B5 qe0):=by walk_at "k"
theorem ql1:D0 ["names"] ["names"] (B5 qc4):=by walk_at "k"
theorem xa3:D0 ["book","names","start","number","name"] ["book","names"] (B5 wj6):=by walk_at "k"
theorem wk7:D0 ["book","tree","place","rule"] ["book","tree"] (B5 wa7):=by walk_at "k"
theorem wk8:D0 ["book","tree","place","part","names"] ["book","tree","place"] (B5 wa8):=by walk_at "k"
theorem qs1:D0 ["tree","place","number"] ["tree","place"] (B5 qi7):=by walk_at "k"
theorem qy1:D0 ["book","names","text","beside"] ["book","names","text","beside"] (B5 qq8):=by walk_at "k"
theorem qy2:D0 ["book","names","tree","sort"] ["book","names","tree"] (B5 qq9):=by walk_at "k"
theorem qv7:D0 ["book","names","name","above","host","frame"] ["book","names","name"] (B5 ql8):=by walk_at "k"
theorem qy3:D0 ["book","names","name","row","near"] ["book","names","name"] (B5 qr0):=by walk_at "k"
theorem qs2:D0 ["names","others"] ["names","others"] (B5 qb6):=by walk_at "k"
theorem xl4:D0 ["book","tree","place","bit","parts","number"] ["book","tree","place","bit"] (B5 wz5):=by walk_at "k"
theorem we5:D0 ["book","tree","place","parts","number"] ["book","tree","place"] (B5 qu9):=by walk_at "k"
theorem qy4:D0 ["book","tree","place","stop","name","parts","number","around"] ["book","tree","place","stop","name"] (B5 qr1):=by walk_at "k"
theorem xl5:D0 ["book","tree","place","parts","number","inner"] ["book","tree","place"] (B5 wz6):=by walk_at "k"
theorem qs3:D0 ["tree","place","beyond","above"] ["tree","place","beyond"] (B5 qi8):=by walk_at "k"
theorem qy5:D0 ["tree","place","parts","way","part","level","number","beside"] ["tree","place","parts"] (B5 qr2):=by walk_at "k"
theorem xl6:D0 ["parts","told","part"] ["parts"] (B5 wz7):=by walk_at "k"
theorem xa4:D0 ["book","tree","fault"] ["book","tree"] (B5 wj7):=by walk_at "k"
theorem qs4:D0 ["_law_script","_law_most","_law_deck","_law_kind","_law_last"] ["_law_script","_law_most"] (B5 qi9):=by walk_at "k"
theorem we6:D0 ["_law_deck","_law_most","_law_number"] ["_law_deck","_law_most"] (B5 qv0):=by walk_at "k"
theorem we7:D0 ["_law_code","_law_k","_law_letters","_law_first_here","_law_long","_law_told_here","_law_name_here","_law_j","_law_step"] ["_law_code","_law_k"] (B5 qv1):=by walk_at "k"
theorem qy6:D0 ["_law_deck","_law_count","_law_kinds","_law_sorts_here","_law_hosts","_law_k","_law_free"] ["_law_deck","_law_count"] (B5 qb7):=by walk_at "k"
theorem we8:D0 ["_law_deck","_law_names","_law_some_here","_law_name_here"] ["_law_deck","_law_names"] (B5 qv2):=by walk_at "k"
theorem we9:D0 ["_law_deck","_law_code","_law_most","_law_count","_law_sorts_here","_law_hosts","_law_names","_law_soft","_law_may_shut","_law_book_here","_law_k","_law_shuts","_law_host","_law_row_here"] ["_law_deck","_law_code","_law_most"] (B5 V3):=by walk_at "k"
theorem wf0:D0 ["_law_deck","_law_signs"] ["_law_deck"] (B5 qk9):=by walk_at "k"
theorem wf1:D0 ["_law_tree","_law_found","_law_todo","_law_place","_law_names","_law_part","_law_above"] ["_law_tree"] (B5 ql0):=by walk_at "k"
theorem wk9:D0 ["_law_book_here","_law_name_here","_law_row_here"] ["_law_book_here","_law_name_here"] (B5 wa9):=by walk_at "k"
theorem wf2:D0 ["_law_book_here","_law_names","_law_near_here","_law_k"] ["_law_book_here","_law_names"] (B5 qv3):=by walk_at "k"
theorem qy7:D0 ["_law_book_here","_law_names","_law_part","_law_ahead","_law_above","_law_frame","_law_name_here","_law_sort","_law_host","_law_shuts","_law_bars","_law_frames","_law_near_here"] ["_law_book_here","_law_names","_law_part","_law_ahead"] (B5 V9):=by walk_at "k"
theorem qv8:D0 ["_law_book_here","_law_tree","_law_due","_law_walked","_law_parts","_law_place","_law_names","_law_part","_law_ahead"] ["_law_book_here","_law_tree"] (B5 ql9):=by walk_at "k"
theorem qe1:D0 ["_law_deck","_law_book_here","_law_names","_law_deep","_law_parts","_law_frame","_law_k","_law_row_here","_law_part","_law_inner"] ["_law_deck","_law_book_here","_law_names","_law_deep"] (B5 qr3):=by walk_at "k"
theorem qy8:D0 ["_law_book_here","_law_tree","_law_rule","_law_place"] ["_law_book_here","_law_tree"] (B5 qr4):=by walk_at "k"
theorem qy9:D0 ["_law_deck","_law_tree","_law_some_here","_law_place","_law_names","_law_part"] ["_law_deck","_law_tree"] (B5 qg5):=by walk_at "k"
theorem qz0:D0 ["_law_way","_law_book_here","_law_tree","_law_place","_law_thing","_law_stop"] ["_law_way","_law_book_here","_law_tree","_law_place","_law_thing","_law_stop"] (B5 qr5):=by walk_at "k"
theorem wf3:D0 ["_law_way","_law_book_here","_law_tree","_law_place","_law_thing","_law_stop","_law_error","_law_found","e"] ["_law_way","_law_book_here","_law_tree","_law_place","_law_thing","_law_stop"] (B5 qv4):=by walk_at "k"
theorem wl0:D0 ["_law_deck","_law_book_here","_law_name_here"] ["_law_deck","_law_book_here"] (B5 wb0):=by walk_at "k"
theorem ze3:D0 ["_law_script","_law_deck","_law_code","_law_book_here","_law_tree","_law_turn","_law_place","_law_parts","_law_k","_law_way","_law_thing","_law_told_here"] ["_law_script"] (B5 xl2):=by walk_at "k"
theorem xa5:D0 ["self","rule","place"] ["self","rule","place"] (B5 wj8):=by walk_at "k"
theorem wj9(T:Txt K mg t):M5 P w K mg base CX0 1 t.f_row_of.a t.f_row_of.d ["rows","name"] (qg7 K):=by
 refine T.f_row_of.F.ok xl3 (ye7 K) (fun cdv A outer s H vs Q E hr h=>⟨wc6 K,?_,yr7 h⟩)
 have S:=xl3
 refine A5 ?_ ?_
 ·refine T2 PassesOwn.never rfl ?_ ?_ ?_
  ·exact(T6 (pv 0))
  ·exact(D5 (i:=2) S.nd rfl (Or.inl rfl))
  ·refine A8 ?_
   refine E7 ?_ ?_ ?_
   ·exact(B7 (M3 (N8 hr)) (C7 (B4 (C4 hr)) (pv 2) (P0 rfl T.g_NAME.1 T.g_NAME.2) (fun _ _=>rfl)) (pv 1) (C5 _))
   ·refine A8 ?_
    exact(B8 (pv 2))
   ·exact C2
 refine A8 ?_
 exact(B8 N6)
theorem ya4(T:Txt K mg t):M5 P w K mg base CX0 1 t.f_frame_of.a t.f_frame_of.d ["book","name"] (qj4 K):=by
 refine T.f_frame_of.F.ok wk5 (by walk_at "n") (fun cdv A outer s H vs Q E hr h=>⟨wa1 K,?_,xv7 h⟩)
 have S:=wk5
 refine A5 ?_ ?_
 ·refine T2 PassesOwn.never rfl ?_ ?_ ?_
  ·exact(T6 (pv 0))
  ·exact(D5 (i:=2) S.nd rfl (Or.inl rfl))
  ·refine A8 ?_
   refine E7 ?_ ?_ ?_
   ·exact(PW.pt (Y5 (B7 (M3 (N8 hr)) (C7 (B4 (C4 hr)) (pv 2) (P0 rfl T.g_SORT.1 T.g_SORT.2) (fun _ _=>rfl)) C9 (C5 _)) (U6 (B7 (M3 (N8 hr)) (C7 (B4 (C4 hr)) (pv 2) (P0 rfl T.g_HOST.1 T.g_HOST.2) (fun _ _=>rfl)) (pv 1) (C5 _)))))
   ·refine A8 ?_
    exact(B8 (C7 (B4 (C4 hr)) (pv 2) (P0 rfl T.g_NAME.1 T.g_NAME.2) (fun _ _=>rfl)))
   ·exact C2
 refine A8 ?_
 exact(B8 N6)
theorem Y9(T:Txt K mg t):M5 P w K mg base CX0 1 t.f_is_text.a t.f_is_text.d ["part"] (S1 K):=by
 refine T.f_is_text.F.ok xa1 (by walk_at "n") (fun cdv A outer s H vs Q E hr h=>⟨qw5 K,?_,yf1 h⟩)
 have S:=xa1
 refine A8 ?_
 exact(B8 (C8 Q3 rfl T.z_isinstance boot_isinstance (A0 (pv 0) (A0 (qj1 rfl T.z_str boot_str rfl) A3))))
theorem qc5(T:Txt K mg t):M5 P w K mg base CX0 1 t.f_name_of.a t.f_name_of.d ["tree"] (T8 K):=by
 refine T.f_name_of.F.ok xa2 (by walk_at "n") (fun cdv A outer s H vs Q E hr h=>⟨qw8 K,?_,yf5 h⟩)
 have S:=xa2
 refine A8 ?_
 exact(B8 (C7 (B4 (C4 hr)) (pv 0) A9 (fun _ _=>rfl)))
theorem ql2(T:Txt K mg t):M5 P w K mg base CX0 1 t.f_straight_above.a t.f_straight_above.d ["names"] (R8 K):=by
 refine T.f_straight_above.F.ok ql1 (by walk_at "n") (fun cdv A outer s H vs Q E hr h=>⟨V7 K,?_,wc9 h⟩)
 have S:=ql1
 refine A8 ?_
 exact(B8 (qm1 (B7 qo7 (C8 E3 rfl T.z_len boot_len (A0 (pv 0) A3)) A9 (C5 _)) (C7 (B4 (C4 hr)) (pv 0) (Q9 N4 A9) (fun _ _=>rfl)) (P0 rfl T.g_ROOT_NAME.1 T.g_ROOT_NAME.2)))
theorem qs5(T:Txt K mg t):M5 P w K mg base CX0 1 t.f_share_a_name.a t.f_share_a_name.d ["names","others"] (U0 K):=by
 refine T.f_share_a_name.F.ok qs2 (by walk_at "n") (fun cdv A outer s H vs Q E hr h=>⟨qa4 K,?_,wl8 h⟩)
 have S:=qs2
 refine A8 ?_
 refine B8 ?_
 exact(C8 (yq3 rfl) rfl T.z_any boot_any (A0 (Z5 rfl (M7 (osc:=B5 qb6) (ON:=["names","others"]) (N:=["others","name"]) (fr:=[some 1,none]) (by decide +kernel) rfl rfl) (T6 (pv 0)) (fun _ _ _ _ _ _=>(D5 (i:=1) (show List.Nodup (["others","name"]:List Str) by decide +kernel) rfl (Or.inl rfl))) T4 (fun _ _ _ _ _ _=>qf0) (fun _ _ _ _ _ _=>(qw1 (qt5 (C4 hr)) (pv 1) (pv 0) (by with_unfolding_all rfl)))) A3))
theorem wo9(T:Txt K mg t):M5 P w K mg base CX0 1 t.f__law_numbers.a t.f__law_numbers.d ["_law_script","_law_most"] (Y2 K):=by
 refine T.f__law_numbers.F.ok qs4 (by walk_at "n") (fun cdv A outer s H vs Q E hr h=>⟨qa3 K,?_,wl7 h⟩)
 have S:=qs4
 refine A5 ?_ ?_
 ·refine B6 (i:=2) S.nd rfl (Or.inl rfl) ?_ rfl ?_
  ·exact(P4 qz9 rfl T.z_list boot_list (A0 (M6 yd0 (pv 0) P5 (N2 A9)) A3))
  ·walk_at "or"
 refine A5 ?_ ?_
 ·refine B6 (i:=3) S.nd rfl (Or.inl rfl) ?_ rfl ?_
  ·exact A9
  ·walk_at "or"
 refine A5 ?_ ?_
 ·refine E7 ?_ ?_ ?_
  ·exact(B7 (R0 (N8 hr)) (pv 2) (N5 A3) (C5 _))
  ·refine A5 ?_ ?_
   ·refine B6 (i:=3) S.nd rfl (Or.inl rfl) ?_ rfl ?_
    ·exact(D6 qb9 (C7 (B4 (C4 hr)) (pv 2) A9 (fun _ _=>rfl)) A9)
    ·walk_at "or"
   refine A8 ?_
   exact(qo1 (D6 qw0 (C7 (B4 (C4 hr)) (pv 2) A9 (fun _ _=>rfl)) A9) (xl9 (pv 2) A9 (wc3 (C4 hr))))
  ·exact C2
 refine A5 ?_ ?_
 ·refine B6 (i:=4) S.nd rfl (Or.inl rfl) ?_ rfl ?_
  ·exact(D6 Q6 A9 (D6 qb9 (C8 (yq6 rfl) rfl T.z_sum boot_sum (A0 (pv 2) A3)) A9))
  ·walk_at "or"
 refine A5 ?_ ?_
 ·refine wq6 PassesOwn.never ?_ ?_
  ·exact(B7 xn0 (C8 E3 rfl T.z_len boot_len (A0 (pv 2) A3)) (pv 1) (C5 _))
  ·refine A5 ?_ ?_
   ·refine B6 (i:=4) S.nd rfl (Or.inl rfl) ?_ rfl ?_
    ·exact(D6 qb9 (D6 Q6 (D6 Q6 (D6 qj2 (pv 4) (pv 4)) (D6 qj2 A9 (pv 4))) (C8 E3 rfl T.z_len boot_len (A0 (pv 2) A3))) A9)
    ·walk_at "or"
   refine A5 ?_ ?_
   ·refine B6 (i:=4) S.nd rfl (Or.inl rfl) ?_ rfl ?_
    ·exact(D6 qb9 (D6 Q6 (D6 Q6 (D6 qj2 (pv 4) (pv 4)) (D6 qj2 A9 (pv 4))) A9) A9)
    ·walk_at "or"
   refine A8 ?_
   exact(U7 (qh4 PySem.F.plainAttrs_list PySem.F.slot_list_append PySem.F.type_list_append S3 (pv 2) (A0 (pv 4) A3)))
 refine A8 ?_
 exact(B8 (D6 Q6 (N5 (A0 (pv 3) A3)) (zh0 (pv 2) (Q9 N4 A9))))
theorem E6(T:Txt K mg t):M5 P w K mg base CX0 1 t.f__law_draw.a t.f__law_draw.d ["_law_deck","_law_most"] (E5 K):=by
 refine T.f__law_draw.F.ok we6 (by walk_at "n") (fun cdv A outer s H vs Q E hr h=>⟨qj5 K,?_,xo8 h⟩)
 have S:=we6
 refine A5 ?_ ?_
 ·refine E7 ?_ ?_ ?_
  ·exact(B7 (M3 (N8 hr)) (C8 E3 rfl T.z_len boot_len (A0 (pv 0) A3)) A9 (C5 _))
  ·refine A8 ?_
   exact(B8 A9)
  ·exact C2
 refine A5 ?_ ?_
 ·refine B6 (i:=2) S.nd rfl (Or.inl rfl) ?_ rfl ?_
  ·exact(yc1 PySem.F.plainAttrs_list PySem.F.slot_list_pop PySem.F.type_list_pop yc3 (pv 0))
  ·walk_at "or"
 refine A5 ?_ ?_
 ·refine E7 ?_ ?_ ?_
  ·exact(PW.pt (Y5 (B7 (M3 (N8 hr)) (C7 (B4 (C4 hr)) (pv 0) A9 (fun _ _=>rfl)) A9 (C5 _)) (U6 (B7 (R0 (N8 hr)) (D6 xu6 (pv 2) (pv 1)) A9 (C5 _)))))
  ·refine A8 ?_
   exact(U7 (qh4 PySem.F.plainAttrs_list PySem.F.slot_list_append PySem.F.type_list_append S3 (pv 0) (A0 (D6 xu6 (pv 2) (pv 1)) A3)))
  ·exact C2
 refine A8 ?_
 exact(B8 (D6 qb9 (pv 2) (pv 1)))
theorem xs2(T:Txt K mg t):M5 P w K mg base CX0 1 t.f__law_name.a t.f__law_name.d ["_law_code","_law_k"] (qf1 K):=by
 refine T.f__law_name.F.ok we7 (by walk_at "n") (fun cdv A outer s H vs Q E hr h=>⟨qj6 K,?_,xo9 h⟩)
 have S:=we7
 refine A5 ?_ ?_
 ·refine B6 (i:=2) S.nd rfl (Or.inl rfl) ?_ rfl ?_
  ·exact C9
  ·walk_at "or"
 refine A5 ?_ ?_
 ·refine B6 (i:=3) S.nd rfl (Or.inl rfl) ?_ rfl ?_
  ·exact(D6 qb9 (D6 qw0 (pv 0) A9) A9)
  ·walk_at "or"
 refine A5 ?_ ?_
 ·refine E7 ?_ ?_ ?_
  ·exact(B7 (M3 (N8 hr)) (D6 qb9 (D6 qw0 (pv 0) A9) A9) A9 (C5 _))
  ·refine A8 ?_
   exact(B8 (D6 qj2 (C7 (B4 (C4 hr)) (pv 2) (D6 qb9 (D6 Q6 (pv 3) (D6 qw0 (pv 1) A9)) A9) (fun _ _=>rfl)) (D6 Q6 A9 (D6 qb9 (pv 1) A9))))
  ·exact C2
 refine A5 ?_ ?_
 ·refine B6 (i:=4) S.nd rfl (Or.inl rfl) ?_ rfl ?_
  ·exact(D6 Q6 A9 (D6 qb9 (pv 0) A9))
  ·walk_at "or"
 refine A5 ?_ ?_
 ·refine B6 (i:=5) S.nd rfl (Or.inl rfl) ?_ rfl ?_
  ·exact(D6 qb9 (D6 qw0 (pv 0) A9) (pv 4))
  ·walk_at "or"
 refine A5 ?_ ?_
 ·refine B6 (i:=6) S.nd rfl (Or.inl rfl) ?_ rfl ?_
  ·exact C9
  ·walk_at "or"
 refine A5 ?_ ?_
 ·refine T2 PassesOwn.never rfl ?_ ?_ ?_
  ·exact(R3 rfl T.z_range (A0 (pv 4) A3))
  ·exact(D5 (i:=7) S.nd rfl (Or.inl rfl))
  ·refine A5 ?_ ?_
   ·refine B6 (i:=8) S.nd rfl (Or.inl rfl) ?_ rfl ?_
    ·exact(D6 qj2 (D6 qb9 (D6 qw0 (pv 0) A9) A9) (pv 7))
    ·walk_at "or"
   refine A5 ?_ ?_
   ·refine E7 ?_ ?_ ?_
    ·exact(B7 (M3 (N8 hr)) (pv 7) (pv 5) (C5 _))
    ·refine A8 ?_
     refine B6 (i:=8) S.nd rfl (Or.inl rfl) ?_ rfl ?_
     ·exact(D6 Q6 (pv 8) (pv 1))
     ·walk_at "or"
    ·exact C2
   refine A8 ?_
   refine B6 (i:=6) S.nd rfl (Or.inl rfl) ?_ rfl ?_
   ·exact(D6 Q6 (pv 6) (C7 (B4 (C4 hr)) (pv 2) (D6 qb9 (D6 Q6 (pv 3) (pv 8)) A9) (fun _ _=>rfl)))
   ·walk_at "or"
 refine A8 ?_
 exact(B8 (pv 6))
theorem wf4(T:Txt K mg t):M5 P w K mg base CX0 1 t.f__law_walk.a t.f__law_walk.d ["_law_tree"] (qa8 K):=by
 refine T.f__law_walk.F.ok wf1 (by walk_at "n") (fun cdv A outer s H vs Q E hr h=>⟨qk1 K,?_,xq5 h⟩)
 have S:=wf1
 refine A5 ?_ ?_
 ·refine B6 (i:=1) S.nd rfl (Or.inl rfl) ?_ rfl ?_
  ·exact(N5 A3)
  ·walk_at "or"
 refine A5 ?_ ?_
 ·refine B6 (i:=2) S.nd rfl (Or.inl rfl) ?_ rfl ?_
  ·exact(N5 (A0 (E1 (A0 (E1 A3) (A0 (E1 A3) (A0 (pv 0) A3)))) A3))
  ·walk_at "or"
 refine A5 ?_ ?_
 ·refine wq6 PassesOwn.never ?_ ?_
  ·exact(B7 (R0 (N8 hr)) (pv 2) (N5 A3) (C5 _))
  ·refine A5 ?_ ?_
   ·exact(qo1 (qh4 PySem.F.plainAttrs_list PySem.F.slot_list_pop PySem.F.type_list_pop yu6 (pv 2) (A0 A9 A3)) (qo0 rfl (L7 (D5 (i:=3) S.nd rfl (Or.inr rfl)) (L7 (D5 (i:=4) S.nd rfl (Or.inl rfl)) (L7 (D5 (i:=5) S.nd rfl (Or.inr rfl)) qe9)))))
   refine A5 ?_ ?_
   ·exact(U7 (qh4 PySem.F.plainAttrs_list PySem.F.slot_list_append PySem.F.type_list_append S3 (pv 1) (A0 (E1 (A0 (pv 3) (A0 (pv 4) (A0 (pv 5) A3)))) A3)))
   refine A8 ?_
   refine E7 ?_ ?_ ?_
   ·exact(qn9 (T1 (C8 Q3 rfl T.z_isinstance boot_isinstance (A0 (pv 5) (A0 (qj1 rfl T.z_str boot_str rfl) A3)))))
   ·refine A5 ?_ ?_
    ·refine B6 (i:=6) S.nd rfl (Or.inr rfl) ?_ rfl ?_
     ·exact(pv 4)
     ·walk_at "or"
    refine A5 ?_ ?_
    ·refine E7 ?_ ?_ ?_
     ·exact(B7 (R0 (N8 hr)) (pv 3) (E1 A3) (C5 _))
     ·refine A8 ?_
      refine B6 (i:=6) S.nd rfl (Or.inr rfl) ?_ rfl ?_
      ·exact(D6 L0 (pv 4) (E1 (A0 (C7 (B4 (C4 hr)) (pv 5) A9 (fun _ _=>rfl)) A3)))
      ·walk_at "or"
     ·exact C2
    refine A8 ?_
    refine B6 (i:=2) S.nd rfl (Or.inl rfl) ?_ rfl ?_
    ·refine D6 L0 ?_ ?_
     ·exact(Z5 rfl (M7 (osc:=B5 ql0) (ON:=["_law_tree","_law_found","_law_todo","_law_place","_law_names","_law_part","_law_above"]) (N:=["_law_above","_law_place","_law_part","_law_k"]) (fr:=[some 6,some 3,some 5,none]) (by decide +kernel) rfl rfl) (R3 rfl T.z_range (A0 (C8 E3 rfl T.z_len boot_len (A0 (C7 (B4 (C4 hr)) (pv 5) A9 (fun _ _=>rfl)) A3)) A3)) (fun _ _ _ _ _ _=>(D5 (i:=3) (show List.Nodup (["_law_above","_law_place","_law_part","_law_k"]:List Str) by decide +kernel) rfl (Or.inl rfl))) T4 (fun _ _ _ _ _ _=>qf0) (fun _ _ _ _ _ _=>(E1 (A0 (D6 L0 (pv 1) (E1 (A0 (pv 3) A3))) (A0 (pv 0) (A0 (C7 (B4 (C4 hr)) (C7 (B4 (C4 hr)) (pv 2) A9 (fun _ _=>rfl)) (pv 3) (fun _ _=>rfl)) A3))))))
     ·exact(pv 2)
    ·walk_at "or"
   ·exact C2
 refine A8 ?_
 exact(B8 (pv 1))
theorem S8(T:Txt K mg t):M5 P w K mg base CX0 1 t.f__law_row.a t.f__law_row.d ["_law_book_here","_law_name_here"] (S0 K):=by
 refine T.f__law_row.F.ok wk9 (by walk_at "n") (fun cdv A outer s H vs Q E hr h=>⟨qp9 K,?_,xx6 h⟩)
 have S:=wk9
 refine A5 ?_ ?_
 ·refine T2 PassesOwn.never rfl ?_ ?_ ?_
  ·exact(T6 (pv 0))
  ·exact(D5 (i:=2) S.nd rfl (Or.inl rfl))
  ·refine A8 ?_
   refine E7 ?_ ?_ ?_
   ·exact(B7 (M3 (N8 hr)) (C7 (B4 (C4 hr)) (pv 2) A9 (fun _ _=>rfl)) (pv 1) (C5 _))
   ·refine A8 ?_
    exact(B8 (pv 2))
   ·exact C2
 refine A8 ?_
 exact(B8 (E1 (A0 C9 (A0 C9 (A0 C9 (A0 (E1 A3) (A0 (E1 A3) A3)))))))
theorem yh4(T:Txt K mg t):M5 P w K mg base CX0 1 t.a_i_NoFit t.d_i_NoFit ["self","rule","place"] (qq0 K):=by
 refine T.F_i_NoFit.ok xa5 (by walk_at "n") (fun cdv A outer s H vs Q E hr h=>⟨qx0 K,?_,yg3 h⟩)
 have S:=xa5
 refine A5 ?_ ?_
 ·exact(U7 (zu4 T.ba_TagError rfl (A0 (pv 0) (A0 (zv1 hr.gd hr.units0 (pv 1) (pv 2)) A3))))
 refine A5 ?_ ?_
 ·exact(zu5 (pv 0) (pv 1) rfl)
 refine A8 ?_
 exact(zi5 (pv 0) (pv 2) rfl)
theorem xa6(T:Txt K mg t):M5 P w K mg base CX0 2 t.f_sort_of.a t.f_sort_of.d ["book","name"] (qh6 K):=by
 refine T.f_sort_of.F.ok wz8 (by walk_at "n") (fun cdv A outer s H vs Q E hr h=>⟨wg3 K,?_,ye8 h⟩)
 have S:=wz8
 refine A5 ?_ ?_
 ·refine B6 (i:=2) S.nd rfl (Or.inl rfl) ?_ rfl ?_
  ·exact(B0 (wj9 T) (hr.mono (by walk_at "le")) rfl T.f_row_of.m T.f_row_of.F.kp T.f_row_of.b .nil C3 (A0 (pv 0) (A0 (pv 1) A3)))
  ·walk_at "or"
 refine A8 ?_
 exact(B8 (qm1 (B7 qz8 (pv 2) N6 (C5 _)) N6 (C7 (B4 (C4 hr)) (pv 2) (P0 rfl T.g_SORT.1 T.g_SORT.2) (fun _ _=>rfl))))
theorem xa7(T:Txt K mg t):M5 P w K mg base CX0 2 t.f_host_of.a t.f_host_of.d ["book","name"] (qh7 K):=by
 refine T.f_host_of.F.ok xa0 (by walk_at "n") (fun cdv A outer s H vs Q E hr h=>⟨wg4 K,?_,ye9 h⟩)
 have S:=xa0
 refine A5 ?_ ?_
 ·refine B6 (i:=2) S.nd rfl (Or.inl rfl) ?_ rfl ?_
  ·exact(B0 (wj9 T) (hr.mono (by walk_at "le")) rfl T.f_row_of.m T.f_row_of.F.kp T.f_row_of.b .nil C3 (A0 (pv 0) (A0 (pv 1) A3)))
  ·walk_at "or"
 refine A5 ?_ ?_
 ·refine E7 ?_ ?_ ?_
  ·exact(PW.pt (xs8 (B7 qz8 (pv 2) N6 (C5 _)) (wq2 (B7 (R0 (N8 hr)) (C7 (B4 (C4 hr)) (pv 2) (P0 rfl T.g_SORT.1 T.g_SORT.2) (fun _ _=>rfl)) C9 (C5 _)))))
  ·refine A8 ?_
   exact(B8 N6)
  ·exact C2
 refine A8 ?_
 exact(B8 (C7 (B4 (C4 hr)) (pv 2) (P0 rfl T.g_HOST.1 T.g_HOST.2) (fun _ _=>rfl)))
theorem S9(T:Txt K mg t):M5 P w K mg base CX0 2 t.f_parts_of.a t.f_parts_of.d ["part"] (O9 K):=by
 refine T.f_parts_of.F.ok wk6 (by walk_at "n") (fun cdv A outer s H vs Q E hr h=>⟨qp3 K,?_,xw2 h⟩)
 have S:=wk6
 refine A8 ?_
 exact(B8 (qm1 (T1 (B0 (Y9 T) (hr.mono (by walk_at "le")) rfl T.f_is_text.m T.f_is_text.F.kp T.f_is_text.b .nil C3 (A0 (pv 0) A3))) (E1 A3) (C7 (B4 (C4 hr)) (pv 0) A9 (fun _ _=>rfl))))
theorem xl7(T:Txt K mg t):M5 P w K mg base CX0 2 t.f_joined.a t.f_joined.d ["parts"] (qn7 K):=by
 refine T.f_joined.F.ok xl6 (by walk_at "n") (fun cdv A outer s H vs Q E hr h=>⟨wd9 K,?_,ys8 h⟩)
 have S:=xl6
 refine A5 ?_ ?_
 ·refine B6 (i:=1) S.nd rfl (Or.inl rfl) ?_ rfl ?_
  ·exact(N5 A3)
  ·walk_at "or"
 refine A5 ?_ ?_
 ·refine T2 PassesOwn.never rfl ?_ ?_ ?_
  ·exact(T6 (pv 0))
  ·exact(D5 (i:=2) S.nd rfl (Or.inl rfl))
  ·refine A5 ?_ ?_
   ·refine E7 ?_ ?_ ?_
    ·exact(PW.pt (Y5 (T1 (B0 (Y9 T) (hr.mono (by walk_at "le")) rfl T.f_is_text.m T.f_is_text.F.kp T.f_is_text.b .nil C3 (A0 (pv 2) A3))) (Y5 (B7 qo7 (C8 E3 rfl T.z_len boot_len (A0 (pv 1) A3)) A9 (C5 _)) (U6 (T1 (B0 (Y9 T) (hr.mono (by walk_at "le")) rfl T.f_is_text.m T.f_is_text.F.kp T.f_is_text.b .nil C3 (A0 (C7 (B4 (C4 hr)) (pv 1) (Q9 N4 A9) (fun _ _=>rfl)) A3)))))))
    ·refine A8 ?_
     refine B6 (i:=2) S.nd rfl (Or.inl rfl) ?_ rfl ?_
     ·exact(D6 L0 (yc1 PySem.F.plainAttrs_list PySem.F.slot_list_pop PySem.F.type_list_pop yc3 (pv 1)) (pv 2))
     ·walk_at "or"
    ·exact C2
   refine A8 ?_
   exact(U7 (qh4 PySem.F.plainAttrs_list PySem.F.slot_list_append PySem.F.type_list_append S3 (pv 1) (A0 (pv 2) A3)))
 refine A8 ?_
 exact(B8 (P4 V1 rfl T.z_tuple boot_tuple (A0 (pv 1) A3)))
theorem xh7(T:Txt K mg t):M5 P w K mg base CX0 2 t.f__law_sorts.a t.f__law_sorts.d ["_law_deck","_law_count"] (qd2 K):=by
 refine T.f__law_sorts.F.ok qy6 (by walk_at "n") (fun cdv A outer s H vs Q E hr h=>⟨qf8 K,?_,xe8 h⟩)
 have S:=qy6
 refine A5 ?_ ?_
 ·refine B6 (i:=2) ?_ ?_ ?_ ?_ ?_ ?_
  ·exact S.nd
  ·rfl
  ·exact(Or.inr rfl)
  ·refine N5 ?_
   with_reducible refine wk2 ?_
   with_reducible refine wk2 ?_
   with_reducible refine wk2 ?_
   with_reducible refine wk2 ?_
   with_reducible refine wk2 ?_
   with_reducible refine wk2 ?_
   with_reducible refine wk2 ?_
   with_reducible refine wk2 ?_
   exact Ab0
  ·exact rfl
  ·walk_at "or"
 refine A5 ?_ ?_
 ·refine B6 (i:=3) S.nd rfl (Or.inr rfl) ?_ rfl ?_
  ·exact(Z5 rfl (M7 (osc:=B5 qb7) (ON:=["_law_deck","_law_count","_law_kinds","_law_sorts_here","_law_hosts","_law_k","_law_free"]) (N:=["_law_kinds","_law_deck","_law_k"]) (fr:=[some 2,some 0,none]) (by decide +kernel) rfl rfl) (R3 rfl T.z_range (A0 (pv 1) A3)) (fun _ _ _ _ _ _=>(D5 (i:=2) (show List.Nodup (["_law_kinds","_law_deck","_law_k"]:List Str) by decide +kernel) rfl (Or.inl rfl))) T4 (fun _ _ _ _ _ _=>qf0) (fun _ _ _ _ _ _=>(C7 (B4 (C4 hr)) (pv 0) (B0 (E6 T) (hr.mono (by walk_at "le")) rfl T.f__law_draw.m T.f__law_draw.F.kp T.f__law_draw.b .nil C3 (A0 (pv 1) (A0 A9 A3))) (fun _ _=>rfl))))
  ·walk_at "or"
 refine A5 ?_ ?_
 ·refine B6 (i:=4) S.nd rfl (Or.inr rfl) ?_ rfl ?_
  ·exact yv4
  ·walk_at "or"
 refine A5 ?_ ?_
 ·refine T2 PassesOwn.never rfl ?_ ?_ ?_
  ·exact(R3 rfl T.z_range (A0 (pv 1) A3))
  ·exact(D5 (i:=5) S.nd rfl (Or.inl rfl))
  ·refine A8 ?_
   refine E7 ?_ ?_ ?_
   ·exact(B7 (M3 (N8 hr)) (C7 (B4 (C4 hr)) (pv 3) (pv 5) (fun _ _=>rfl)) C9 (C5 _))
   ·refine A5 ?_ ?_
    ·exact(wb8 (i:=6) S.nd rfl rfl rfl (M7 (osc:=B5 qb7) (ON:=["_law_deck","_law_count","_law_kinds","_law_sorts_here","_law_hosts","_law_k","_law_free"]) (N:=["_law_sorts_here","_law_hosts","_law_j"]) (fr:=[some 3,some 4,none]) (by decide +kernel) rfl rfl) (yn7 rfl T.z_range (A0 (D6 Q6 (pv 5) A9) (A0 (pv 1) A3))) (fun _ _ _ _ _ _=>(D5 (i:=2) (show List.Nodup (["_law_sorts_here","_law_hosts","_law_j"]:List Str) by decide +kernel) rfl (Or.inl rfl))) T4 (fun _ _ _ _ _ _=>(qo5 (PW.pt (Y5 (B7 (qt5 (C4 hr)) (C7 (B4 (C4 hr)) (pv 0) (pv 2) (fun _ _=>rfl)) (E1 (A0 C9 (A0 C9 A3))) (by with_unfolding_all rfl)) (U6 (wg0 rfl (pv 2) (pv 1))))))) (fun _ _ _ _ _ _=>(pv 2)))
    refine A8 ?_
    refine E7 ?_ ?_ ?_
    ·exact(B7 (M3 (N8 hr)) (pv 6) (N5 A3) (C5 _))
    ·refine A8 ?_
     exact(qo1 (C7 (B4 (C4 hr)) (N5 (A0 C9 (A0 C9 A3))) (P4 qw3 rfl T.z_int boot_int (A0 (zt5 rfl (pv 5) (pv 4)) A3)) (fun _ _=>rfl)) (xl9 (pv 3) (pv 5) (wc3 (C4 hr))))
    ·refine A8 ?_
     exact(qo1 (C7 (B4 (C4 hr)) (pv 6) (B0 (E6 T) (hr.mono (by walk_at "le")) rfl T.f__law_draw.m T.f__law_draw.F.kp T.f__law_draw.b .nil C3 (A0 (pv 0) (A0 (C8 E3 rfl T.z_len boot_len (A0 (pv 6) A3)) A3))) (fun _ _=>rfl)) (xl9 (pv 4) (pv 5) (wc3 (C4 hr))))
   ·exact C2
 refine A8 ?_
 exact(B8 (E1 (A0 (pv 3) (A0 (pv 4) A3))))
theorem wf5(T:Txt K mg t):M5 P w K mg base CX0 2 t.f__law_some.a t.f__law_some.d ["_law_deck","_law_names"] (qa9 K):=by
 refine T.f__law_some.F.ok we8 (by walk_at "n") (fun cdv A outer s H vs Q E hr h=>⟨qk2 K,?_,xq6 h⟩)
 have S:=we8
 refine A5 ?_ ?_
 ·refine B6 (i:=2) S.nd rfl (Or.inl rfl) ?_ rfl ?_
  ·exact(N5 A3)
  ·walk_at "or"
 refine A5 ?_ ?_
 ·refine T2 PassesOwn.never rfl ?_ ?_ ?_
  ·exact(T6 (pv 1))
  ·exact(D5 (i:=3) S.nd rfl (Or.inl rfl))
  ·refine A8 ?_
   refine E7 ?_ ?_ ?_
   ·exact(B7 (M3 (N8 hr)) (B0 (E6 T) (hr.mono (by walk_at "le")) rfl T.f__law_draw.m T.f__law_draw.F.kp T.f__law_draw.b .nil C3 (A0 (pv 0) (A0 A9 A3))) A9 (C5 _))
   ·refine A8 ?_
    exact(U7 (qh4 PySem.F.plainAttrs_list PySem.F.slot_list_append PySem.F.type_list_append S3 (pv 2) (A0 (pv 3) A3)))
   ·exact C2
 refine A8 ?_
 exact(B8 (P4 V1 rfl T.z_tuple boot_tuple (A0 (C8 xn2 rfl T.z_sorted boot_sorted (A0 (pv 2) A3)) A3)))
theorem qr7(T:Txt K mg t):M5 P w K mg base CX0 2 t.f__law_text.a t.f__law_text.d ["_law_deck"] (qb0 K):=by
 refine T.f__law_text.F.ok wf0 (by walk_at "n") (fun cdv A outer s H vs Q E hr h=>⟨qk4 K,?_,xq8 h⟩)
 have S:=wf0
 refine A5 ?_ ?_
 ·refine B6 (i:=1) S.nd rfl (Or.inr rfl) ?_ rfl ?_
  ·exact C9
  ·walk_at "or"
 refine A5 ?_ ?_
 ·refine E7 ?_ ?_ ?_
  ·exact(B7 (M3 (N8 hr)) (B0 (E6 T) (hr.mono (by walk_at "le")) rfl T.f__law_draw.m T.f__law_draw.F.kp T.f__law_draw.b .nil C3 (A0 (pv 0) (A0 A9 A3))) A9 (C5 _))
  ·refine A5 ?_ ?_
   ·refine B6 (i:=1) S.nd rfl (Or.inr rfl) ?_ rfl ?_
    ·exact C9
    ·walk_at "or"
   refine A8 ?_
   refine B6 (i:=1) S.nd rfl (Or.inr rfl) ?_ rfl ?_
   ·exact(D6 Q6 (pv 1) C9)
   ·walk_at "or"
  ·exact C2
 refine A8 ?_
 refine B8 ?_
 exact(qh4 PySem.F.plainAttrs_str PySem.F.slot_str_join PySem.F.type_str_join zf9 C9 (A0 (Z5 rfl (M7 (osc:=B5 qk9) (ON:=["_law_deck","_law_signs"]) (N:=["_law_signs","_law_deck","_law_k"]) (fr:=[some 1,some 0,none]) (by decide +kernel) rfl rfl) (R3 rfl T.z_range (A0 (D6 Q6 A9 (B0 (E6 T) (hr.mono (by walk_at "le")) rfl T.f__law_draw.m T.f__law_draw.F.kp T.f__law_draw.b .nil C3 (A0 (pv 0) (A0 A9 A3)))) A3)) (fun _ _ _ _ _ _=>(D5 (i:=2) (show List.Nodup (["_law_signs","_law_deck","_law_k"]:List Str) by decide +kernel) rfl (Or.inl rfl))) T4 (fun _ _ _ _ _ _=>qf0) (fun _ _ _ _ _ _=>(C7 (B4 (C4 hr)) (pv 0) (B0 (E6 T) (hr.mono (by walk_at "le")) rfl T.f__law_draw.m T.f__law_draw.F.kp T.f__law_draw.b .nil C3 (A0 (pv 1) (A0 (C8 E3 rfl T.z_len boot_len (A0 (pv 0) A3)) A3))) (fun _ _=>rfl)))) A3))
theorem xs3(T:Txt K mg t):M5 P w K mg base CX0 2 t.f__law_near.a t.f__law_near.d ["_law_book_here","_law_names"] (qf6 K):=by
 refine T.f__law_near.F.ok wf2 (by walk_at "n") (fun cdv A outer s H vs Q E hr h=>⟨qk0 K,?_,xq2 h⟩)
 have S:=wf2
 refine A5 ?_ ?_
 ·refine B6 (i:=2) S.nd rfl (Or.inl rfl) ?_ rfl ?_
  ·exact(P4 qz9 rfl T.z_list boot_list (A0 (pv 1) A3))
  ·walk_at "or"
 refine A5 ?_ ?_
 ·refine T2 PassesOwn.never rfl ?_ ?_ ?_
  ·exact(R3 rfl T.z_range (A0 (C8 E3 rfl T.z_len boot_len (A0 (pv 1) A3)) A3))
  ·exact(D5 (i:=3) S.nd rfl (Or.inl rfl))
  ·refine A8 ?_
   refine E7 ?_ ?_ ?_
   ·exact(B7 (qt5 (C4 hr)) (C7 (B4 (C4 hr)) (B0 (S8 T) (hr.mono (by walk_at "le")) rfl T.f__law_row.m T.f__law_row.F.kp T.f__law_row.b .nil C3 (A0 (pv 0) (A0 (C7 (B4 (C4 hr)) (pv 1) (pv 3) (fun _ _=>rfl)) A3))) A9 (fun _ _=>rfl)) (E1 (A0 C9 (A0 C9 A3))) (by with_unfolding_all rfl))
   ·refine A8 ?_
    refine B6 (i:=2) S.nd rfl (Or.inl rfl) ?_ rfl ?_
    ·exact(P4 qz9 rfl T.z_list boot_list (A0 (M6 P7 (pv 1) (N2 (D6 L0 (pv 3) A9)) P5) A3))
    ·walk_at "or"
   ·exact C2
 refine A8 ?_
 exact(B8 (pv 2))
theorem xh8(T:Txt K mg t):M5 P w K mg base CX0 2 t.f__law_elder.a t.f__law_elder.d ["_law_deck","_law_tree"] (qd8 K):=by
 refine T.f__law_elder.F.ok qy9 (by walk_at "n") (fun cdv A outer s H vs Q E hr h=>⟨qg4 K,?_,xh6 h⟩)
 have S:=qy9
 refine A5 ?_ ?_
 ·exact(wb8 (i:=2) S.nd rfl rfl rfl (M7 (osc:=B5 qg5) (ON:=["_law_deck","_law_tree","_law_some_here","_law_place","_law_names","_law_part"]) (N:=["_law_one"]) (fr:=[none]) (by decide +kernel) rfl rfl) (T6 (B0 (wf4 T) (hr.mono (by walk_at "le")) rfl T.f__law_walk.m T.f__law_walk.F.kp T.f__law_walk.b .nil C3 (A0 (pv 1) A3))) (fun _ _ _ _ _ _=>(D5 (i:=0) (show List.Nodup (["_law_one"]:List Str) by decide +kernel) rfl (Or.inl rfl))) T4 (fun _ _ _ _ _ _=>(qo5 (qn9 (T1 (C8 Q3 rfl T.z_isinstance boot_isinstance (A0 (C7 (B4 (C4 hr)) (pv 0) A9 (fun _ _=>rfl)) (A0 (qj1 rfl T.z_str boot_str rfl) A3))))))) (fun _ _ _ _ _ _=>(pv 0)))
 refine A5 ?_ ?_
 ·exact(qo1 (C7 (B4 (C4 hr)) (pv 2) (B0 (E6 T) (hr.mono (by walk_at "le")) rfl T.f__law_draw.m T.f__law_draw.F.kp T.f__law_draw.b .nil C3 (A0 (pv 0) (A0 (C8 E3 rfl T.z_len boot_len (A0 (pv 2) A3)) A3))) (fun _ _=>rfl)) (qo0 rfl (L7 (D5 (i:=3) S.nd rfl (Or.inl rfl)) (L7 (D5 (i:=4) S.nd rfl (Or.inl rfl)) (L7 (D5 (i:=5) S.nd rfl (Or.inl rfl)) qe9)))))
 refine A8 ?_
 exact(B8 (E1 (A0 (pv 3) (A0 (C7 (B4 (C4 hr)) (pv 5) A9 (fun _ _=>rfl)) A3))))
theorem yh5(T:Txt K mg t):M5 P w K mg base CX0 3 t.f_is_wall.a t.f_is_wall.d ["book","name"] (qp4 K):=by
 refine T.f_is_wall.F.ok wz9 (by walk_at "n") (fun cdv A outer s H vs Q E hr h=>⟨qw6 K t.c_WALL_SORTS,?_,yf2 T.q_WALL_SORTS h⟩)
 have S:=wz9
 refine A8 ?_
 exact(B8 (qw1 (qt5 (C4 hr)) (B0 (xa6 T) (hr.mono (by walk_at "le")) rfl T.f_sort_of.m T.f_sort_of.F.kp T.f_sort_of.b .nil C3 (A0 (pv 0) (A0 (pv 1) A3))) (P0 rfl T.g_WALL_SORTS rfl) (by with_unfolding_all rfl)))
theorem wk0(T:Txt K mg t):M5 P w K mg base CX0 3 t.f_way_to.a t.f_way_to.d ["tree","place"] (qh0 K):=by
 refine T.f_way_to.F.ok qx4 (by walk_at "n") (fun cdv A outer s H vs Q E hr h=>⟨wd2 K,?_,ys3 h⟩)
 have S:=qx4
 refine A5 ?_ ?_
 ·refine B6 (i:=2) S.nd rfl (Or.inl rfl) ?_ rfl ?_
  ·exact(N5 (A0 (pv 0) A3))
  ·walk_at "or"
 refine A5 ?_ ?_
 ·refine T2 PassesOwn.never rfl ?_ ?_ ?_
  ·exact(T6 (pv 1))
  ·exact(D5 (i:=3) S.nd rfl (Or.inl rfl))
  ·refine A5 ?_ ?_
   ·refine B6 (i:=4) S.nd rfl (Or.inl rfl) ?_ rfl ?_
    ·exact(B0 (S9 T) (hr.mono (by walk_at "le")) rfl T.f_parts_of.m T.f_parts_of.F.kp T.f_parts_of.b .nil C3 (A0 (C7 (B4 (C4 hr)) (pv 2) (Q9 N4 A9) (fun _ _=>rfl)) A3))
    ·walk_at "or"
   refine A5 ?_ ?_
   ·refine E7 ?_ ?_ ?_
    ·exact(qn9 (wb3 wr6 xn0 A9 (pv 3) (C8 E3 rfl T.z_len boot_len (A0 (pv 4) A3))))
    ·refine A8 ?_
     exact yt5
    ·exact C2
   refine A8 ?_
   exact(U7 (qh4 PySem.F.plainAttrs_list PySem.F.slot_list_append PySem.F.type_list_append S3 (pv 2) (A0 (C7 (B4 (C4 hr)) (pv 4) (pv 3) (fun _ _=>rfl)) A3)))
 refine A8 ?_
 exact(B8 (pv 2))
theorem yh6(T:Txt K mg t):M5 P w K mg base (Fly P w) 3 t.f_way_to.a t.f_way_to.d ["tree","place"] (qq1 K t.k_NoPlace):=by
 refine T.f_way_to.F.okX qx4 (by walk_at "n") (fun cdv A outer s H vs Q E hr h=>⟨qx1 K t.k_NoPlace E,?_,yg4 h⟩)
 have S:=qx4
 refine A5 ?_ ?_
 ·refine B6 (i:=2) S.nd rfl (Or.inl rfl) ?_ rfl ?_
  ·exact(N5 (A0 (pv 0) A3))
  ·walk_at "or"
 refine A5 ?_ ?_
 ·refine T2 zu0 rfl ?_ ?_ ?_
  ·exact(T6 (pv 1))
  ·exact(D5 (i:=3) S.nd rfl (Or.inl rfl))
  ·refine A5 ?_ ?_
   ·refine B6 (i:=4) S.nd rfl (Or.inl rfl) ?_ rfl ?_
    ·exact(B0 (S9 T) (hr.mono (by walk_at "le")) rfl T.f_parts_of.m T.f_parts_of.F.kp T.f_parts_of.b .nil C3 (A0 (C7 (B4 (C4 hr)) (pv 2) (Q9 N4 A9) (fun _ _=>rfl)) A3))
    ·walk_at "or"
   refine A5 ?_ ?_
   ·refine E7 ?_ ?_ ?_
    ·exact(qn9 (wb3 wr6 xn0 A9 (pv 3) (C8 E3 rfl T.z_len boot_len (A0 (pv 4) A3))))
    ·refine A8 ?_
     exact(qu0 qm8 rfl T.x_NoPlace rfl (A0 C9 A3))
    ·exact C2
   refine A8 ?_
   exact(U7 (qh4 PySem.F.plainAttrs_list PySem.F.slot_list_append PySem.F.type_list_append S3 (pv 2) (A0 (C7 (B4 (C4 hr)) (pv 4) (pv 3) (fun _ _=>rfl)) A3)))
 refine A8 ?_
 exact(B8 (pv 2))
theorem xa8(T:Txt K mg t):M5 P w K mg base CX0 3 t.f_steps_below.a t.f_steps_below.d ["place","part"] (qa1 K):=by
 refine T.f_steps_below.F.ok qv6 (by walk_at "n") (fun cdv A outer s H vs Q E hr h=>⟨qc6 K,?_,wt5 h⟩)
 have S:=qv6
 refine A5 ?_ ?_
 ·refine B6 (i:=2) S.nd rfl (Or.inr rfl) ?_ rfl ?_
  ·exact(B0 (S9 T) (hr.mono (by walk_at "le")) rfl T.f_parts_of.m T.f_parts_of.F.kp T.f_parts_of.b .nil C3 (A0 (pv 1) A3))
  ·walk_at "or"
 refine A8 ?_
 refine B8 ?_
 exact(Z5 rfl (M7 (osc:=B5 qe0) (ON:=["place","part","parts"]) (N:=["place","parts","number"]) (fr:=[some 0,some 2,none]) (by decide +kernel) rfl rfl) (xk0 rfl T.z_range (A0 (D6 ql4 (C8 E3 rfl T.z_len boot_len (A0 (pv 2) A3)) A9) (A0 (Q9 N4 A9) (A0 (Q9 N4 A9) A3)))) (fun _ _ _ _ _ _=>(D5 (i:=2) (show List.Nodup (["place","parts","number"]:List Str) by decide +kernel) rfl (Or.inl rfl))) T4 (fun _ _ _ _ _ _=>qf0) (fun _ _ _ _ _ _=>(E1 (A0 (D6 L0 (pv 0) (E1 (A0 (pv 2) A3))) (A0 (C7 (B4 (C4 hr)) (pv 1) (pv 2) (fun _ _=>rfl)) A3)))))
theorem xh9(T:Txt K mg t):M5 P w K mg base CX0 3 t.f_text_fault.a t.f_text_fault.d ["book","names","text","beside"] (qc8 K):=by
 refine T.f_text_fault.F.ok qy1 (by walk_at "n") (fun cdv A outer s H vs Q E hr h=>⟨qf3 K,?_,xd4 h⟩)
 have S:=qy1
 refine A5 ?_ ?_
 ·refine E7 ?_ ?_ ?_
  ·exact(B7 qg6 (B0 (xa7 T) (hr.mono (by walk_at "le")) rfl T.f_host_of.m T.f_host_of.F.kp T.f_host_of.b .nil C3 (A0 (pv 0) (A0 (B0 (ql2 T) (hr.mono (by walk_at "le")) rfl T.f_straight_above.m T.f_straight_above.F.kp T.f_straight_above.b .nil C3 (A0 (pv 1) A3)) A3))) N6 (C5 _))
  ·refine A8 ?_
   exact(B8 C9)
  ·exact C2
 refine A5 ?_ ?_
 ·refine E7 ?_ ?_ ?_
  ·exact(B7 (M3 (N8 hr)) (pv 2) C9 (C5 _))
  ·refine A8 ?_
   exact(B8 C9)
  ·exact C2
 refine A8 ?_
 exact(B8 (qm1 (T1 (pv 3)) C9 N6))
theorem xa9(T:Txt K mg t):M5 P w K mg base CX0 3 t.f_frame_fault.a t.f_frame_fault.d ["book","names","name"] (qa6 K):=by
 refine T.f_frame_fault.F.ok qv7 (by walk_at "n") (fun cdv A outer s H vs Q E hr h=>⟨qc9 K,?_,wu1 h⟩)
 have S:=qv7
 refine A5 ?_ ?_
 ·refine B6 (i:=3) S.nd rfl (Or.inl rfl) ?_ rfl ?_
  ·exact(B0 (ql2 T) (hr.mono (by walk_at "le")) rfl T.f_straight_above.m T.f_straight_above.F.kp T.f_straight_above.b .nil C3 (A0 (pv 1) A3))
  ·walk_at "or"
 refine A5 ?_ ?_
 ·refine B6 (i:=4) S.nd rfl (Or.inl rfl) ?_ rfl ?_
  ·exact(B0 (xa7 T) (hr.mono (by walk_at "le")) rfl T.f_host_of.m T.f_host_of.F.kp T.f_host_of.b .nil C3 (A0 (pv 0) (A0 (pv 3) A3)))
  ·walk_at "or"
 refine A5 ?_ ?_
 ·refine E7 ?_ ?_ ?_
  ·exact(PW.pt (Y5 (B7 qg6 (pv 4) N6 (C5 _)) (U6 (B7 (R0 (N8 hr)) (pv 4) (pv 2) (C5 _)))))
  ·refine A8 ?_
   exact(B8 C9)
  ·exact C2
 refine A5 ?_ ?_
 ·refine B6 (i:=5) S.nd rfl (Or.inl rfl) ?_ rfl ?_
  ·exact(B0 (ya4 T) (hr.mono (by walk_at "le")) rfl T.f_frame_of.m T.f_frame_of.F.kp T.f_frame_of.b .nil C3 (A0 (pv 0) (A0 (pv 2) A3)))
  ·walk_at "or"
 refine A5 ?_ ?_
 ·refine E7 ?_ ?_ ?_
  ·exact(PW.pt (Y5 (B7 qg6 (pv 5) N6 (C5 _)) (U6 (B7 (R0 (N8 hr)) (pv 5) (pv 3) (C5 _)))))
  ·refine A8 ?_
   exact(B8 C9)
  ·exact C2
 refine A8 ?_
 exact(B8 N6)
theorem xs4(T:Txt K mg t):M5 P w K mg base CX0 3 t.f__law_book.a t.f__law_book.d ["_law_deck","_law_code","_law_most"] (qf9 K):=by
 refine T.f__law_book.F.ok we9 (by walk_at "n") (fun cdv A outer s H vs Q E hr h=>⟨qk3 K,?_,xq7 h⟩)
 have S:=we9
 refine A5 ?_ ?_
 ·refine B6 (i:=3) S.nd rfl (Or.inl rfl) ?_ rfl ?_
  ·exact(D6 Q6 A9 (B0 (E6 T) (hr.mono (by walk_at "le")) rfl T.f__law_draw.m T.f__law_draw.F.kp T.f__law_draw.b .nil C3 (A0 (pv 0) (A0 (pv 2) A3))))
  ·walk_at "or"
 refine A5 ?_ ?_
 ·exact(qo1 (B0 (xh7 T) (hr.mono (by walk_at "le")) rfl T.f__law_sorts.m T.f__law_sorts.F.kp T.f__law_sorts.b .nil C3 (A0 (pv 0) (A0 (pv 3) A3))) (qo0 rfl (L7 (D5 (i:=4) S.nd rfl (Or.inr rfl)) (L7 (D5 (i:=5) S.nd rfl (Or.inr rfl)) qe9))))
 refine A5 ?_ ?_
 ·refine B6 (i:=6) S.nd rfl (Or.inr rfl) ?_ rfl ?_
  ·exact(Z5 rfl (M7 (osc:=B5 V3) (ON:=["_law_deck","_law_code","_law_most","_law_count","_law_sorts_here","_law_hosts","_law_names","_law_soft","_law_may_shut","_law_book_here","_law_k","_law_shuts","_law_host","_law_row_here"]) (N:=["_law_code","_law_k"]) (fr:=[some 1,none]) (by decide +kernel) rfl rfl) (R3 rfl T.z_range (A0 (pv 3) A3)) (fun _ _ _ _ _ _=>(D5 (i:=1) (show List.Nodup (["_law_code","_law_k"]:List Str) by decide +kernel) rfl (Or.inl rfl))) T4 (fun _ _ _ _ _ _=>qf0) (fun _ _ _ _ _ _=>(B0 (xs2 T) (hr.mono (by walk_at "le")) rfl T.f__law_name.m T.f__law_name.F.kp T.f__law_name.b .nil C3 (A0 (pv 0) (A0 (pv 1) A3)))))
  ·walk_at "or"
 refine A5 ?_ ?_
 ·exact(wb8 (i:=7) S.nd rfl rfl rfl (M7 (osc:=B5 V3) (ON:=["_law_deck","_law_code","_law_most","_law_count","_law_sorts_here","_law_hosts","_law_names","_law_soft","_law_may_shut","_law_book_here","_law_k","_law_shuts","_law_host","_law_row_here"]) (N:=["_law_sorts_here","_law_k"]) (fr:=[some 4,none]) (by decide +kernel) rfl rfl) (R3 rfl T.z_range (A0 (pv 3) A3)) (fun _ _ _ _ _ _=>(D5 (i:=1) (show List.Nodup (["_law_sorts_here","_law_k"]:List Str) by decide +kernel) rfl (Or.inl rfl))) T4 (fun _ _ _ _ _ _=>(qo5 (B7 (qt5 (C4 hr)) (C7 (B4 (C4 hr)) (pv 0) (pv 1) (fun _ _=>rfl)) (E1 (A0 C9 (A0 C9 A3))) (by with_unfolding_all rfl)))) (fun _ _ _ _ _ _=>(pv 1)))
 refine A5 ?_ ?_
 ·exact(wb8 (i:=8) S.nd rfl rfl rfl (M7 (osc:=B5 V3) (ON:=["_law_deck","_law_code","_law_most","_law_count","_law_sorts_here","_law_hosts","_law_names","_law_soft","_law_may_shut","_law_book_here","_law_k","_law_shuts","_law_host","_law_row_here"]) (N:=["_law_names","_law_hosts","_law_k"]) (fr:=[some 6,some 5,none]) (by decide +kernel) rfl rfl) (T6 (pv 7)) (fun _ _ _ _ _ _=>(D5 (i:=2) (show List.Nodup (["_law_names","_law_hosts","_law_k"]:List Str) by decide +kernel) rfl (Or.inl rfl))) T4 (fun _ _ _ _ _ _=>(qo5 (wg0 rfl (pv 2) (pv 1)))) (fun _ _ _ _ _ _=>(C7 (B4 (C4 hr)) (pv 0) (pv 2) (fun _ _=>rfl))))
 refine A5 ?_ ?_
 ·refine B6 (i:=9) S.nd rfl (Or.inl rfl) ?_ rfl ?_
  ·exact(N5 A3)
  ·walk_at "or"
 refine A5 ?_ ?_
 ·refine T2 PassesOwn.never rfl ?_ ?_ ?_
  ·exact(R3 rfl T.z_range (A0 (pv 3) A3))
  ·exact(D5 (i:=10) S.nd rfl (Or.inl rfl))
  ·refine A5 ?_ ?_
   ·refine B6 (i:=11) S.nd rfl (Or.inl rfl) ?_ rfl ?_
    ·exact(E1 A3)
    ·walk_at "or"
   refine A5 ?_ ?_
   ·refine E7 ?_ ?_ ?_
    ·exact(wg0 rfl (pv 10) (pv 5))
    ·refine A8 ?_
     refine B6 (i:=11) S.nd rfl (Or.inl rfl) ?_ rfl ?_
     ·exact(B0 (wf5 T) (hr.mono (by walk_at "le")) rfl T.f__law_some.m T.f__law_some.F.kp T.f__law_some.b .nil C3 (A0 (pv 0) (A0 (pv 8) A3)))
     ·walk_at "or"
    ·exact C2
   refine A5 ?_ ?_
   ·refine B6 (i:=12) S.nd rfl (Or.inl rfl) ?_ rfl ?_
    ·exact C9
    ·walk_at "or"
   refine A5 ?_ ?_
   ·refine E7 ?_ ?_ ?_
    ·exact(B7 (qt5 (C4 hr)) (pv 10) (pv 5) (by with_unfolding_all rfl))
    ·refine A8 ?_
     refine B6 (i:=12) S.nd rfl (Or.inl rfl) ?_ rfl ?_
     ·exact(C7 (B4 (C4 hr)) (pv 6) (zf7 (C4 hr) (pv 5) (pv 10) (fun _ _=>rfl)) (fun _ _=>rfl))
     ·walk_at "or"
    ·exact C2
   refine A5 ?_ ?_
   ·refine B6 (i:=13) S.nd rfl (Or.inl rfl) ?_ rfl ?_
    ·refine E1 ?_
     refine A0 ?_ ?_
     ·exact(C7 (B4 (C4 hr)) (pv 6) (pv 10) (fun _ _=>rfl))
     refine A0 ?_ ?_
     ·exact(C7 (B4 (C4 hr)) (pv 4) (pv 10) (fun _ _=>rfl))
     refine A0 ?_ ?_
     ·exact(pv 12)
     refine A0 ?_ ?_
     ·exact(pv 11)
     refine A0 ?_ ?_
     ·refine B0 (wf5 T) (hr.mono (by walk_at "le")) rfl T.f__law_some.m T.f__law_some.F.kp T.f__law_some.b .nil C3 ?_
      refine A0 ?_ ?_
      ·exact(pv 0)
      refine A0 ?_ ?_
      ·exact(Z5 rfl (M7 (osc:=B5 V3) (ON:=["_law_deck","_law_code","_law_most","_law_count","_law_sorts_here","_law_hosts","_law_names","_law_soft","_law_may_shut","_law_book_here","_law_k","_law_shuts","_law_host","_law_row_here"]) (N:=["_law_names","_law_j"]) (fr:=[some 6,none]) (by decide +kernel) rfl rfl) (T6 (pv 7)) (fun _ _ _ _ _ _=>(D5 (i:=1) (show List.Nodup (["_law_names","_law_j"]:List Str) by decide +kernel) rfl (Or.inl rfl))) T4 (fun _ _ _ _ _ _=>qf0) (fun _ _ _ _ _ _=>(C7 (B4 (C4 hr)) (pv 0) (pv 1) (fun _ _=>rfl))))
      exact A3
     exact A3
    ·walk_at "or"
   refine A8 ?_
   exact(U7 (qh4 PySem.F.plainAttrs_list PySem.F.slot_list_insert PySem.F.type_list_insert yp6 (pv 9) (A0 (B0 (E6 T) (hr.mono (by walk_at "le")) rfl T.f__law_draw.m T.f__law_draw.F.kp T.f__law_draw.b .nil C3 (A0 (pv 0) (A0 (D6 Q6 (C8 E3 rfl T.z_len boot_len (A0 (pv 9) A3)) A9) A3))) (A0 (pv 13) A3))))
 refine A8 ?_
 exact(B8 (P4 V1 rfl T.z_tuple boot_tuple (A0 (pv 9) A3)))
theorem qm0(T:Txt K mg t):M5 P w K mg base CX0 3 t.f__law_fault.a t.f__law_fault.d ["_law_book_here","_law_names","_law_part","_law_ahead"] (X7 K):=by
 refine T.f__law_fault.F.ok qy7 (by walk_at "n") (fun cdv A outer s H vs Q E hr h=>⟨qf7 K,?_,xe1 h⟩)
 have S:=qy7
 refine A5 ?_ ?_
 ·refine B6 (i:=4) S.nd rfl (Or.inl rfl) ?_ rfl ?_
  ·exact C9
  ·walk_at "or"
 refine A5 ?_ ?_
 ·refine E7 ?_ ?_ ?_
  ·exact(B7 (R0 (N8 hr)) (pv 1) (E1 A3) (C5 _))
  ·refine A8 ?_
   refine B6 (i:=4) S.nd rfl (Or.inl rfl) ?_ rfl ?_
   ·exact(C7 (B4 (C4 hr)) (pv 1) (Q9 N4 A9) (fun _ _=>rfl))
   ·walk_at "or"
  ·exact C2
 refine A5 ?_ ?_
 ·refine B6 (i:=5) S.nd rfl (Or.inl rfl) ?_ rfl ?_
  ·exact(B0 (S8 T) (hr.mono (by walk_at "le")) rfl T.f__law_row.m T.f__law_row.F.kp T.f__law_row.b .nil C3 (A0 (pv 0) (A0 (pv 4) A3)))
  ·walk_at "or"
 refine A5 ?_ ?_
 ·refine E7 ?_ ?_ ?_
  ·exact(T1 (C8 Q3 rfl T.z_isinstance boot_isinstance (A0 (pv 2) (A0 (qj1 rfl T.z_str boot_str rfl) A3))))
  ·refine A5 ?_ ?_
   ·refine E7 ?_ ?_ ?_
    ·exact(B7 (M3 (N8 hr)) (C7 (B4 (C4 hr)) (pv 5) A9 (fun _ _=>rfl)) C9 (C5 _))
    ·refine A8 ?_
     exact(B8 C9)
    ·exact C2
   refine A5 ?_ ?_
   ·refine E7 ?_ ?_ ?_
    ·exact(B7 (M3 (N8 hr)) (pv 2) C9 (C5 _))
    ·refine A8 ?_
     exact(B8 C9)
    ·exact C2
   refine A5 ?_ ?_
   ·refine E7 ?_ ?_ ?_
    ·exact(T1 (C8 Q3 rfl T.z_isinstance boot_isinstance (A0 (pv 3) (A0 (qj1 rfl T.z_str boot_str rfl) A3))))
    ·refine A8 ?_
     exact(B8 C9)
    ·exact C2
   refine A8 ?_
   exact(B8 N6)
  ·exact C2
 refine A5 ?_ ?_
 ·exact(qo1 (B0 (S8 T) (hr.mono (by walk_at "le")) rfl T.f__law_row.m T.f__law_row.F.kp T.f__law_row.b .nil C3 (A0 (pv 0) (A0 (C7 (B4 (C4 hr)) (pv 2) A9 (fun _ _=>rfl)) A3))) (qo0 rfl (L7 (D5 (i:=6) S.nd rfl (Or.inr rfl)) (L7 (D5 (i:=7) S.nd rfl (Or.inl rfl)) (L7 (D5 (i:=8) S.nd rfl (Or.inl rfl)) (L7 (D5 (i:=9) S.nd rfl (Or.inr rfl)) (L7 (D5 (i:=10) S.nd rfl (Or.inr rfl)) qe9)))))))
 refine A5 ?_ ?_
 ·refine E7 ?_ ?_ ?_
  ·exact(B7 (M3 (N8 hr)) (pv 7) C9 (C5 _))
  ·refine A8 ?_
   exact(B8 C9)
  ·exact C2
 refine A5 ?_ ?_
 ·refine E7 ?_ ?_ ?_
  ·exact(PW.pt (Y5 (B7 (M3 (N8 hr)) (pv 7) C9 (C5 _)) (U6 (B7 qo7 (C8 E3 rfl T.z_len boot_len (A0 (C7 (B4 (C4 hr)) (pv 2) A9 (fun _ _=>rfl)) A3)) A9 (C5 _)))))
  ·refine A8 ?_
   exact(B8 C9)
  ·exact C2
 refine A5 ?_ ?_
 ·refine E7 ?_ ?_ ?_
  ·exact(B7 zr4 (C8 E3 rfl T.z_len boot_len (A0 (pv 1) A3)) A9 (C5 _))
  ·refine A8 ?_
   exact(B8 C9)
  ·exact C2
 refine A5 ?_ ?_
 ·refine E7 ?_ ?_ ?_
  ·exact(PW.pt (Y5 (B7 (M3 (N8 hr)) (C7 (B4 (C4 hr)) (pv 5) A9 (fun _ _=>rfl)) C9 (C5 _)) (U6 (B7 (R0 (N8 hr)) (C7 (B4 (C4 hr)) (pv 5) A9 (fun _ _=>rfl)) (pv 6) (C5 _)))))
  ·refine A8 ?_
   exact(B8 C9)
  ·exact C2
 refine A5 ?_ ?_
 ·exact(wb8 (i:=11) S.nd rfl rfl rfl (M7 (osc:=B5 V9) (ON:=["_law_book_here","_law_names","_law_part","_law_ahead","_law_above","_law_frame","_law_name_here","_law_sort","_law_host","_law_shuts","_law_bars","_law_frames","_law_near_here"]) (N:=["_law_name_here","_law_row_here"]) (fr:=[some 6,none]) (by decide +kernel) rfl rfl) (T6 (pv 0)) (fun _ _ _ _ _ _=>(D5 (i:=1) (show List.Nodup (["_law_name_here","_law_row_here"]:List Str) by decide +kernel) rfl (Or.inl rfl))) T4 (fun _ _ _ _ _ _=>(qo5 (B7 (M3 (N8 hr)) (C7 (B4 (C4 hr)) (pv 1) A9 (fun _ _=>rfl)) (pv 0) (C5 _)))) (fun _ _ _ _ _ _=>(C7 (B4 (C4 hr)) (pv 1) A9 (fun _ _=>rfl))))
 refine A5 ?_ ?_
 ·refine E7 ?_ ?_ ?_
  ·exact(PW.pt (Y5 (B7 (R0 (N8 hr)) (pv 11) (N5 A3) (C5 _)) (U6 (B7 (R0 (N8 hr)) (pv 11) (N5 (A0 (pv 4) A3)) (C5 _)))))
  ·refine A8 ?_
   exact(B8 C9)
  ·exact C2
 refine A5 ?_ ?_
 ·refine B6 (i:=12) S.nd rfl (Or.inl rfl) ?_ rfl ?_
  ·exact(B0 (xs3 T) (hr.mono (by walk_at "le")) rfl T.f__law_near.m T.f__law_near.F.kp T.f__law_near.b .nil C3 (A0 (pv 0) (A0 (pv 1) A3)))
  ·walk_at "or"
 refine A5 ?_ ?_
 ·refine E7 ?_ ?_ ?_
  ·exact(B7 (R0 (N8 hr)) (Z5 rfl (M7 (osc:=B5 V9) (ON:=["_law_book_here","_law_names","_law_part","_law_ahead","_law_above","_law_frame","_law_name_here","_law_sort","_law_host","_law_shuts","_law_bars","_law_frames","_law_near_here"]) (N:=["_law_shuts","_law_one"]) (fr:=[some 9,none]) (by decide +kernel) rfl rfl) (T6 (pv 12)) (fun _ _ _ _ _ _=>(D5 (i:=1) (show List.Nodup (["_law_shuts","_law_one"]:List Str) by decide +kernel) rfl (Or.inl rfl))) T4 (fun _ _ _ _ _ _=>(qo5 (B7 (qt5 (C4 hr)) (pv 1) (pv 0) (by with_unfolding_all rfl)))) (fun _ _ _ _ _ _=>(pv 1))) (N5 A3) (C5 _))
  ·refine A8 ?_
   exact(B8 C9)
  ·exact C2
 refine A5 ?_ ?_
 ·refine E7 ?_ ?_ ?_
  ·exact(B7 (R0 (N8 hr)) (Z5 rfl (M7 (osc:=B5 V9) (ON:=["_law_book_here","_law_names","_law_part","_law_ahead","_law_above","_law_frame","_law_name_here","_law_sort","_law_host","_law_shuts","_law_bars","_law_frames","_law_near_here"]) (N:=["_law_bars","_law_one"]) (fr:=[some 10,none]) (by decide +kernel) rfl rfl) (T6 (pv 12)) (fun _ _ _ _ _ _=>(D5 (i:=1) (show List.Nodup (["_law_bars","_law_one"]:List Str) by decide +kernel) rfl (Or.inl rfl))) T4 (fun _ _ _ _ _ _=>(qo5 (B7 (qt5 (C4 hr)) (pv 1) (pv 0) (by with_unfolding_all rfl)))) (fun _ _ _ _ _ _=>(pv 1))) (N5 A3) (C5 _))
  ·refine A8 ?_
   exact(B8 C9)
  ·exact C2
 refine A8 ?_
 exact(B8 N6)
theorem xb0(T:Txt K mg t):M5 P w K mg base CX0 4 t.f_part_at.a t.f_part_at.d ["tree","place"] (qi0 K):=by
 refine T.f_part_at.F.ok qr6 (by walk_at "n") (fun cdv A outer s H vs Q E hr h=>⟨qw9 K,?_,yf9 h⟩)
 have S:=qr6
 refine A8 ?_
 exact(B8 (C7 (B4 (C4 hr)) (B0 (wk0 T) (hr.mono (by walk_at "le")) rfl T.f_way_to.m T.f_way_to.F.kp T.f_way_to.b .nil C3 (A0 (pv 0) (A0 (pv 1) A3))) (Q9 N4 A9) (fun _ _=>rfl)))
theorem ya5(T:Txt K mg t):M5 P w K mg base (Fly P w) 4 t.f_part_at.a t.f_part_at.d ["tree","place"] (qk5 K t.k_NoPlace):=by
 refine T.f_part_at.F.okX qr6 (by walk_at "n") (fun cdv A outer s H vs Q E hr h=>⟨qq2 K t.k_NoPlace E,?_,xy8 h⟩)
 have S:=qr6
 refine A8 ?_
 exact(B8 (C7 (B4 (C4 hr)) (B0 (yh6 T) (hr.mono (by walk_at "le")) rfl T.f_way_to.m T.f_way_to.F.kp T.f_way_to.b .nil P8 (A0 (pv 0) (A0 (pv 1) A3))) (Q9 N4 A9) (fun _ _=>rfl)))
theorem xb1(T:Txt K mg t):M5 P w K mg base CX0 4 t.f_names_above.a t.f_names_above.d ["tree","place"] (qa5 K):=by
 refine T.f_names_above.F.ok qv5 (by walk_at "n") (fun cdv A outer s H vs Q E hr h=>⟨qc7 K,?_,wt8 h⟩)
 have S:=qv5
 refine A8 ?_
 refine B8 ?_
 exact(P4 V1 rfl T.z_tuple boot_tuple (A0 (Z5 rfl (M7 (osc:=B5 qd9) (ON:=["tree","place"]) (N:=["above"]) (fr:=[none]) (by decide +kernel) rfl rfl) (T6 (M6 yd0 (B0 (wk0 T) (hr.mono (by walk_at "le")) rfl T.f_way_to.m T.f_way_to.F.kp T.f_way_to.b .nil C3 (A0 (pv 0) (A0 (pv 1) A3))) (N2 A9) (N2 (Q9 N4 A9)))) (fun _ _ _ _ _ _=>(D5 (i:=0) (show List.Nodup (["above"]:List Str) by decide +kernel) rfl (Or.inl rfl))) T4 (fun _ _ _ _ _ _=>qf0) (fun _ _ _ _ _ _=>(B0 (qc5 T) (hr.mono (by walk_at "le")) rfl T.f_name_of.m T.f_name_of.F.kp T.f_name_of.b .nil C3 (A0 (pv 0) A3)))) A3))
theorem wp0(T:Txt K mg t):M5 P w K mg base CX0 4 t.f_placed_parts.a t.f_placed_parts.d ["tree"] (Y1 K):=by
 refine T.f_placed_parts.F.ok qs0 (by walk_at "n") (fun cdv A outer s H vs Q E hr h=>⟨qa2 K,?_,wl6 h⟩)
 have S:=qs0
 refine A5 ?_ ?_
 ·refine B6 (i:=1) S.nd rfl (Or.inl rfl) ?_ rfl ?_
  ·exact(N5 A3)
  ·walk_at "or"
 refine A5 ?_ ?_
 ·refine B6 (i:=2) S.nd rfl (Or.inl rfl) ?_ rfl ?_
  ·exact(N5 (A0 (E1 (A0 (E1 A3) (A0 (pv 0) A3))) A3))
  ·walk_at "or"
 refine A5 ?_ ?_
 ·refine wq6 PassesOwn.never ?_ ?_
  ·exact(B7 qo7 (C8 E3 rfl T.z_len boot_len (A0 (pv 2) A3)) A9 (C5 _))
  ·refine A5 ?_ ?_
   ·refine B6 (i:=3) S.nd rfl (Or.inl rfl) ?_ rfl ?_
    ·exact(yc1 PySem.F.plainAttrs_list PySem.F.slot_list_pop PySem.F.type_list_pop yc3 (pv 2))
    ·walk_at "or"
   refine A5 ?_ ?_
   ·exact(U7 (qh4 PySem.F.plainAttrs_list PySem.F.slot_list_append PySem.F.type_list_append S3 (pv 1) (A0 (pv 3) A3)))
   refine A8 ?_
   exact(U7 (qh4 PySem.F.plainAttrs_list PySem.F.slot_list_extend PySem.F.type_list_extend yo8 (pv 2) (A0 (B0 (xa8 T) (hr.mono (by walk_at "le")) rfl T.f_steps_below.m T.f_steps_below.F.kp T.f_steps_below.b .nil C3 (A0 (C7 (B4 (C4 hr)) (pv 3) A9 (fun _ _=>rfl)) (A0 (C7 (B4 (C4 hr)) (pv 3) A9 (fun _ _=>rfl)) A3))) A3)))
 refine A8 ?_
 exact(B8 (pv 1))
theorem yh7(T:Txt K mg t):M5 P w K mg base CX0 4 t.f_near_of.a t.f_near_of.d ["book","names"] (qp5 K):=by
 refine T.f_near_of.F.ok xa3 (by walk_at "n") (fun cdv A outer s H vs Q E hr h=>⟨qw7 K,?_,yf3 h⟩)
 have S:=xa3
 refine A5 ?_ ?_
 ·refine B6 (i:=2) S.nd rfl (Or.inl rfl) ?_ rfl ?_
  ·exact A9
  ·walk_at "or"
 refine A5 ?_ ?_
 ·refine T2 PassesOwn.never rfl ?_ ?_ ?_
  ·exact(yx9 rfl T.z_enumerate (A0 (pv 1) A3))
  ·exact(qo0 rfl (L7 (D5 (i:=3) S.nd rfl (Or.inl rfl)) (L7 (D5 (i:=4) S.nd rfl (Or.inl rfl)) qe9)))
  ·refine A8 ?_
   refine E7 ?_ ?_ ?_
   ·exact(T1 (B0 (yh5 T) (hr.mono (by walk_at "le")) rfl T.f_is_wall.m T.f_is_wall.F.kp T.f_is_wall.b .nil C3 (A0 (pv 0) (A0 (pv 4) A3))))
   ·refine A8 ?_
    refine B6 (i:=2) S.nd rfl (Or.inl rfl) ?_ rfl ?_
    ·exact(D6 L0 (pv 3) A9)
    ·walk_at "or"
   ·exact C2
 refine A8 ?_
 exact(B8 (P4 V1 rfl T.z_tuple boot_tuple (A0 (M6 P7 (pv 1) (N2 (pv 2)) P5) A3)))
theorem qe2(T:Txt K mg t):M5 P w K mg base CX0 4 t.f_with_parts.a t.f_with_parts.d ["tree","place","parts"] (Q1 K):=by
 refine T.f_with_parts.F.ok qy5 (by walk_at "n") (fun cdv A outer s H vs Q E hr h=>⟨qg1 K,?_,xg4 h⟩)
 have S:=qy5
 refine A5 ?_ ?_
 ·refine B6 (i:=3) S.nd rfl (Or.inl rfl) ?_ rfl ?_
  ·exact(B0 (wk0 T) (hr.mono (by walk_at "le")) rfl T.f_way_to.m T.f_way_to.F.kp T.f_way_to.b .nil C3 (A0 (pv 0) (A0 (pv 1) A3)))
  ·walk_at "or"
 refine A5 ?_ ?_
 ·refine B6 (i:=4) S.nd rfl (Or.inl rfl) ?_ rfl ?_
  ·refine E1 ?_
   refine A0 ?_ ?_
   ·refine B0 (qc5 T) (hr.mono (by walk_at "le")) rfl T.f_name_of.m T.f_name_of.F.kp T.f_name_of.b .nil C3 ?_
    refine A0 ?_ ?_
    ·exact(C7 (B4 (C4 hr)) (pv 3) (Q9 N4 A9) (fun _ _=>rfl))
    exact A3
   refine A0 ?_ ?_
   ·exact(pv 2)
   exact A3
  ·walk_at "or"
 refine A5 ?_ ?_
 ·refine T2 PassesOwn.never rfl ?_ ?_ ?_
  ·exact(xk0 rfl T.z_range (A0 (D6 ql4 (C8 E3 rfl T.z_len boot_len (A0 (pv 1) A3)) A9) (A0 (Q9 N4 A9) (A0 (Q9 N4 A9) A3))))
  ·exact(D5 (i:=5) S.nd rfl (Or.inl rfl))
  ·refine A5 ?_ ?_
   ·refine B6 (i:=6) S.nd rfl (Or.inl rfl) ?_ rfl ?_
    ·exact(C7 (B4 (C4 hr)) (pv 1) (pv 5) (fun _ _=>rfl))
    ·walk_at "or"
   refine A5 ?_ ?_
   ·refine B6 (i:=7) S.nd rfl (Or.inl rfl) ?_ rfl ?_
    ·exact(B0 (S9 T) (hr.mono (by walk_at "le")) rfl T.f_parts_of.m T.f_parts_of.F.kp T.f_parts_of.b .nil C3 (A0 (C7 (B4 (C4 hr)) (pv 3) (pv 5) (fun _ _=>rfl)) A3))
    ·walk_at "or"
   refine A8 ?_
   refine B6 (i:=4) S.nd rfl (Or.inl rfl) ?_ rfl ?_
   ·refine E1 ?_
    refine A0 ?_ ?_
    ·exact(B0 (qc5 T) (hr.mono (by walk_at "le")) rfl T.f_name_of.m T.f_name_of.F.kp T.f_name_of.b .nil C3 (A0 (C7 (B4 (C4 hr)) (pv 3) (pv 5) (fun _ _=>rfl)) A3))
    refine A0 ?_ ?_
    ·exact(D6 L0 (D6 L0 (M6 P7 (pv 7) P5 (N2 (pv 6))) (E1 (A0 (pv 4) A3))) (M6 P7 (pv 7) (N2 (D6 L0 (pv 6) A9)) P5))
    exact A3
   ·walk_at "or"
 refine A8 ?_
 exact(B8 (pv 4))
theorem xb2(T:Txt K mg t):M5 P w K mg base CX0 4 t.f__law_faults.a t.f__law_faults.d ["_law_book_here","_law_tree"] (qb5 K):=by
 refine T.f__law_faults.F.ok qv8 (by walk_at "n") (fun cdv A outer s H vs Q E hr h=>⟨qd6 K,?_,wy7 h⟩)
 have S:=qv8
 refine A5 ?_ ?_
 ·refine B6 (i:=2) S.nd rfl (Or.inl rfl) ?_ rfl ?_
  ·exact(N5 A3)
  ·walk_at "or"
 refine A5 ?_ ?_
 ·refine B6 (i:=3) S.nd rfl (Or.inl rfl) ?_ rfl ?_
  ·exact(B0 (wf4 T) (hr.mono (by walk_at "le")) rfl T.f__law_walk.m T.f__law_walk.F.kp T.f__law_walk.b .nil C3 (A0 (pv 1) A3))
  ·walk_at "or"
 refine A5 ?_ ?_
 ·refine B6 (i:=4) S.nd rfl (Or.inl rfl) ?_ rfl ?_
  ·exact yv5
  ·walk_at "or"
 refine A5 ?_ ?_
 ·refine T2 PassesOwn.never rfl ?_ ?_ ?_
  ·exact(T6 (pv 3))
  ·exact(qo0 rfl (L7 (D5 (i:=5) S.nd rfl (Or.inl rfl)) (L7 (D5 (i:=6) S.nd rfl (Or.inl rfl)) (L7 (D5 (i:=7) S.nd rfl (Or.inl rfl)) qe9))))
  ·refine A5 ?_ ?_
   ·exact(qo1 (pv 7) (xl9 (pv 4) (pv 5) (wc3 (C4 hr))))
   refine A8 ?_
   refine E7 ?_ ?_ ?_
   ·exact(B7 (R0 (N8 hr)) (pv 5) (E1 A3) (C5 _))
   ·refine A5 ?_ ?_
    ·refine B6 (i:=8) S.nd rfl (Or.inl rfl) ?_ rfl ?_
     ·exact(yv6 (C4 hr) (pv 4) (D6 L0 (M6 P7 (pv 5) P5 (N2 (Q9 N4 A9))) (E1 (A0 (D6 ql4 (C7 (B4 (C4 hr)) (pv 5) (Q9 N4 A9) (fun _ _=>rfl)) A9) A3))) m1)
     ·walk_at "or"
    refine A8 ?_
    exact(U7 (qh4 PySem.F.plainAttrs_list PySem.F.slot_list_append PySem.F.type_list_append S3 (pv 2) (A0 (E1 (A0 (B0 (qm0 T) (hr.mono (by walk_at "le")) rfl T.f__law_fault.m T.f__law_fault.F.kp T.f__law_fault.b .nil C3 (A0 (pv 0) (A0 (pv 6) (A0 (pv 7) (A0 (pv 8) A3))))) (A0 (pv 5) A3))) A3)))
   ·exact C2
 refine A8 ?_
 exact(B8 (pv 2))
theorem xs5(T:Txt K mg t):M5 P w K mg base CX0 5 t.f_places_in.a t.f_places_in.d ["tree"] (qf2 K):=by
 refine T.f_places_in.F.ok we4 (by walk_at "n") (fun cdv A outer s H vs Q E hr h=>⟨qj7 K,?_,xp1 h⟩)
 have S:=we4
 refine A8 ?_
 refine B8 ?_
 exact(Z5 rfl (M7 (osc:=B5 qk8) (ON:=["tree"]) (N:=["place","part"]) (fr:=[none,none]) (by decide +kernel) rfl rfl) (T6 (B0 (wp0 T) (hr.mono (by walk_at "le")) rfl T.f_placed_parts.m T.f_placed_parts.F.kp T.f_placed_parts.b .nil C3 (A0 (pv 0) A3))) (fun _ _ _ _ _ _=>(qo0 rfl (L7 (D5 (i:=0) (show List.Nodup (["place","part"]:List Str) by decide +kernel) rfl (Or.inl rfl)) (L7 (D5 (i:=1) (show List.Nodup (["place","part"]:List Str) by decide +kernel) rfl (Or.inl rfl)) qe9)))) (zr0 (yi9 rfl (yi9 rfl zq9))) (fun _ _ _ _ _ _=>qf0) (fun _ _ _ _ _ _=>(pv 0)))
theorem wp1(T:Txt K mg t):M5 P w K mg base CX0 5 t.f_follows_text.a t.f_follows_text.d ["tree","place"] (Y3 K):=by
 refine T.f_follows_text.F.ok qs1 (by walk_at "n") (fun cdv A outer s H vs Q E hr h=>⟨qa7 K,?_,wm4 h⟩)
 have S:=qs1
 refine A5 ?_ ?_
 ·refine B6 (i:=2) S.nd rfl (Or.inl rfl) ?_ rfl ?_
  ·exact(C7 (B4 (C4 hr)) (pv 1) (Q9 N4 A9) (fun _ _=>rfl))
  ·walk_at "or"
 refine A8 ?_
 exact(B8 (zo6 (qw1 qo7 (pv 2) A9 (C5 _)) (yt3 (B0 (Y9 T) (hr.mono (by walk_at "le")) rfl T.f_is_text.m T.f_is_text.F.kp T.f_is_text.b .nil C3 (A0 (B0 (xb0 T) (hr.mono (by walk_at "le")) rfl T.f_part_at.m T.f_part_at.F.kp T.f_part_at.b .nil C3 (A0 (pv 0) (A0 (D6 L0 (M6 P7 (pv 1) P5 (N2 (Q9 N4 A9))) (E1 (A0 (D6 ql4 (pv 2) A9) A3))) A3))) A3)))))
theorem xi0(T:Txt K mg t):M5 P w K mg base CX0 5 t.f_near_fault.a t.f_near_fault.d ["book","names","name"] (qd0 K):=by
 refine T.f_near_fault.F.ok qy3 (by walk_at "n") (fun cdv A outer s H vs Q E hr h=>⟨qf4 K,?_,xd5 h⟩)
 have S:=qy3
 refine A5 ?_ ?_
 ·refine B6 (i:=3) S.nd rfl (Or.inl rfl) ?_ rfl ?_
  ·exact(B0 (wj9 T) (hr.mono (by walk_at "le")) rfl T.f_row_of.m T.f_row_of.F.kp T.f_row_of.b .nil C3 (A0 (pv 0) (A0 (pv 2) A3)))
  ·walk_at "or"
 refine A5 ?_ ?_
 ·refine B6 (i:=4) S.nd rfl (Or.inl rfl) ?_ rfl ?_
  ·exact(B0 (yh7 T) (hr.mono (by walk_at "le")) rfl T.f_near_of.m T.f_near_of.F.kp T.f_near_of.b .nil C3 (A0 (pv 0) (A0 (pv 1) A3)))
  ·walk_at "or"
 refine A5 ?_ ?_
 ·refine E7 ?_ ?_ ?_
  ·exact(T1 (B0 (qs5 T) (hr.mono (by walk_at "le")) rfl T.f_share_a_name.m T.f_share_a_name.F.kp T.f_share_a_name.b .nil C3 (A0 (pv 4) (A0 (C7 (B4 (C4 hr)) (pv 3) (P0 rfl T.g_SHUTS.1 T.g_SHUTS.2) (fun _ _=>rfl)) A3))))
  ·refine A8 ?_
   exact(B8 C9)
  ·exact C2
 refine A8 ?_
 exact(B8 (qm1 (T1 (B0 (qs5 T) (hr.mono (by walk_at "le")) rfl T.f_share_a_name.m T.f_share_a_name.F.kp T.f_share_a_name.b .nil C3 (A0 (pv 4) (A0 (C7 (B4 (C4 hr)) (pv 3) (P0 rfl T.g_BARS.1 T.g_BARS.2) (fun _ _=>rfl)) A3)))) C9 N6))
theorem W0(T:Txt K mg t):M5 P w K mg base (Fly P w) 5 t.f_parts_around.a t.f_parts_around.d ["tree","place","beyond"] (O4 K t.k_NoPlace):=by
 refine T.f_parts_around.F.okX qs3 (by walk_at "n") (fun cdv A outer s H vs Q E hr h=>⟨Y4 K t.k_NoPlace E,?_,wi5 h⟩)
 have S:=qs3
 refine A5 ?_ ?_
 ·refine E7 ?_ ?_ ?_
  ·exact(B7 (M3 (N8 hr)) (C8 E3 rfl T.z_len boot_len (A0 (pv 1) A3)) A9 (C5 _))
  ·refine A8 ?_
   exact(qu0 qm8 rfl T.x_NoPlace rfl (A0 C9 A3))
  ·exact C2
 refine A5 ?_ ?_
 ·refine B6 (i:=3) S.nd rfl (Or.inl rfl) ?_ rfl ?_
  ·exact(B0 (ya5 T) (hr.mono (by walk_at "le")) rfl T.f_part_at.m T.f_part_at.F.kp T.f_part_at.b .nil P8 (A0 (pv 0) (A0 (M6 P7 (pv 1) P5 (N2 (Q9 N4 A9))) A3)))
  ·walk_at "or"
 refine A5 ?_ ?_
 ·refine E7 ?_ ?_ ?_
  ·exact(PW.pt (xs8 (T1 (B0 (Y9 T) (hr.mono (by walk_at "le")) rfl T.f_is_text.m T.f_is_text.F.kp T.f_is_text.b .nil C3 (A0 (pv 3) A3))) (wq2 (qn9 (wb3 wr6 xn0 A9 (C7 (B4 (C4 hr)) (pv 1) (Q9 N4 A9) (fun _ _=>rfl)) (D6 L0 (C8 E3 rfl T.z_len boot_len (A0 (B0 (S9 T) (hr.mono (by walk_at "le")) rfl T.f_parts_of.m T.f_parts_of.F.kp T.f_parts_of.b .nil C3 (A0 (pv 3) A3)) A3)) (pv 2)))))))
  ·refine A8 ?_
   exact(qu0 qm8 rfl T.x_NoPlace rfl (A0 C9 A3))
  ·exact C2
 refine A8 ?_
 exact(B8 (B0 (S9 T) (hr.mono (by walk_at "le")) rfl T.f_parts_of.m T.f_parts_of.F.kp T.f_parts_of.b .nil C3 (A0 (pv 3) A3)))
theorem xi1(T:Txt K mg t):M5 P w K mg base CX0 5 t.f__law_first.a t.f__law_first.d ["_law_book_here","_law_tree"] (qd7 K):=by
 refine T.f__law_first.F.ok qy8 (by walk_at "n") (fun cdv A outer s H vs Q E hr h=>⟨qg3 K,?_,xh5 h⟩)
 have S:=qy8
 refine A5 ?_ ?_
 ·refine T2 PassesOwn.never rfl ?_ ?_ ?_
  ·exact(T6 (B0 (xb2 T) (hr.mono (by walk_at "le")) rfl T.f__law_faults.m T.f__law_faults.F.kp T.f__law_faults.b .nil C3 (A0 (pv 0) (A0 (pv 1) A3))))
  ·exact(qo0 rfl (L7 (D5 (i:=2) S.nd rfl (Or.inl rfl)) (L7 (D5 (i:=3) S.nd rfl (Or.inl rfl)) qe9)))
  ·refine A8 ?_
   refine E7 ?_ ?_ ?_
   ·exact(B7 qg6 (pv 2) N6 (C5 _))
   ·refine A8 ?_
    exact(B8 (E1 (A0 (pv 2) (A0 (pv 3) A3))))
   ·exact C2
 refine A8 ?_
 exact(B8 N6)
theorem xi2(T:Txt K mg t):M5 P w K mg base CX0 6 t.f_tree_fault.a t.f_tree_fault.d ["book","names","tree"] (qd1 K):=by
 refine T.f_tree_fault.F.ok qy2 (by walk_at "n") (fun cdv A outer s H vs Q E hr h=>⟨qf5 K,?_,xd6 h⟩)
 have S:=qy2
 refine A5 ?_ ?_
 ·refine B6 (i:=3) S.nd rfl (Or.inl rfl) ?_ rfl ?_
  ·refine B0 (xa6 T) (hr.mono (by walk_at "le")) rfl T.f_sort_of.m T.f_sort_of.F.kp T.f_sort_of.b .nil C3 ?_
   refine A0 ?_ ?_
   ·exact(pv 0)
   refine A0 ?_ ?_
   ·exact(B0 (qc5 T) (hr.mono (by walk_at "le")) rfl T.f_name_of.m T.f_name_of.F.kp T.f_name_of.b .nil C3 (A0 (pv 2) A3))
   exact A3
  ·walk_at "or"
 refine A5 ?_ ?_
 ·refine E7 ?_ ?_ ?_
  ·exact(B7 qz8 (pv 3) N6 (C5 _))
  ·refine A8 ?_
   exact(B8 C9)
  ·exact C2
 refine A5 ?_ ?_
 ·refine E7 ?_ ?_ ?_
  ·exact(PW.pt (Y5 (B7 (M3 (N8 hr)) (pv 3) C9 (C5 _)) (U6 (B7 qo7 (C8 E3 rfl T.z_len boot_len (A0 (B0 (S9 T) (hr.mono (by walk_at "le")) rfl T.f_parts_of.m T.f_parts_of.F.kp T.f_parts_of.b .nil C3 (A0 (pv 2) A3)) A3)) A9 (C5 _)))))
  ·refine A8 ?_
   exact(B8 C9)
  ·exact C2
 refine A5 ?_ ?_
 ·refine E7 ?_ ?_ ?_
  ·exact(B7 qo7 (C8 E3 rfl T.z_len boot_len (A0 (pv 1) A3)) (P0 rfl T.g_MOST_ABOVE.1 T.g_MOST_ABOVE.2) (C5 _))
  ·refine A8 ?_
   exact(B8 C9)
  ·exact C2
 refine A8 ?_
 refine B8 ?_
 exact(zt8 (B0 (xa9 T) (hr.mono (by walk_at "le")) rfl T.f_frame_fault.m T.f_frame_fault.F.kp T.f_frame_fault.b .nil C3 (A0 (pv 0) (A0 (pv 1) (A0 (B0 (qc5 T) (hr.mono (by walk_at "le")) rfl T.f_name_of.m T.f_name_of.F.kp T.f_name_of.b .nil C3 (A0 (pv 2) A3)) A3)))) (yt3 (B0 (xi0 T) (hr.mono (by walk_at "le")) rfl T.f_near_fault.m T.f_near_fault.F.kp T.f_near_fault.b .nil C3 (A0 (pv 0) (A0 (pv 1) (A0 (B0 (qc5 T) (hr.mono (by walk_at "le")) rfl T.f_name_of.m T.f_name_of.F.kp T.f_name_of.b .nil C3 (A0 (pv 2) A3)) A3))))))
theorem ya6(T:Txt K mg t):M5 P w K mg base CX0 7 t.f_fault_at.a t.f_fault_at.d ["book","tree","place"] (qj8 K):=by
 refine T.f_fault_at.F.ok wk8 (by walk_at "n") (fun cdv A outer s H vs Q E hr h=>⟨qp7 K,?_,xx1 h⟩)
 have S:=wk8
 refine A5 ?_ ?_
 ·refine B6 (i:=3) S.nd rfl (Or.inl rfl) ?_ rfl ?_
  ·exact(B0 (xb0 T) (hr.mono (by walk_at "le")) rfl T.f_part_at.m T.f_part_at.F.kp T.f_part_at.b .nil C3 (A0 (pv 1) (A0 (pv 2) A3)))
  ·walk_at "or"
 refine A5 ?_ ?_
 ·refine B6 (i:=4) S.nd rfl (Or.inl rfl) ?_ rfl ?_
  ·exact(B0 (xb1 T) (hr.mono (by walk_at "le")) rfl T.f_names_above.m T.f_names_above.F.kp T.f_names_above.b .nil C3 (A0 (pv 1) (A0 (pv 2) A3)))
  ·walk_at "or"
 refine A5 ?_ ?_
 ·refine E7 ?_ ?_ ?_
  ·exact(T1 (B0 (Y9 T) (hr.mono (by walk_at "le")) rfl T.f_is_text.m T.f_is_text.F.kp T.f_is_text.b .nil C3 (A0 (pv 3) A3)))
  ·refine A8 ?_
   exact(B8 (B0 (xh9 T) (hr.mono (by walk_at "le")) rfl T.f_text_fault.m T.f_text_fault.F.kp T.f_text_fault.b .nil C3 (A0 (pv 0) (A0 (pv 4) (A0 (pv 3) (A0 (B0 (wp1 T) (hr.mono (by walk_at "le")) rfl T.f_follows_text.m T.f_follows_text.F.kp T.f_follows_text.b .nil C3 (A0 (pv 1) (A0 (pv 2) A3))) A3))))))
  ·exact C2
 refine A8 ?_
 exact(B8 (B0 (xi2 T) (hr.mono (by walk_at "le")) rfl T.f_tree_fault.m T.f_tree_fault.F.kp T.f_tree_fault.b .nil C3 (A0 (pv 0) (A0 (pv 4) (A0 (pv 3) A3)))))
theorem ya7(T:Txt K mg t):M5 P w K mg base CX0 8 t.f_fault_of.a t.f_fault_of.d ["book","tree"] (qj9 K):=by
 refine T.f_fault_of.F.ok wk7 (by walk_at "n") (fun cdv A outer s H vs Q E hr h=>⟨qp8 K,?_,xx5 h⟩)
 have S:=wk7
 refine A5 ?_ ?_
 ·refine T2 PassesOwn.never rfl ?_ ?_ ?_
  ·exact(T6 (B0 (xs5 T) (hr.mono (by walk_at "le")) rfl T.f_places_in.m T.f_places_in.F.kp T.f_places_in.b .nil C3 (A0 (pv 1) A3)))
  ·exact(D5 (i:=2) S.nd rfl (Or.inl rfl))
  ·refine A5 ?_ ?_
   ·refine B6 (i:=3) S.nd rfl (Or.inl rfl) ?_ rfl ?_
    ·exact(qm1 (B7 (M3 (N8 hr)) (pv 2) (E1 A3) (C5 _)) N6 (B0 (ya6 T) (hr.mono (by walk_at "le")) rfl T.f_fault_at.m T.f_fault_at.F.kp T.f_fault_at.b .nil C3 (A0 (pv 0) (A0 (pv 1) (A0 (pv 2) A3)))))
    ·walk_at "or"
   refine A8 ?_
   refine E7 ?_ ?_ ?_
   ·exact(B7 qg6 (pv 3) N6 (C5 _))
   ·refine A8 ?_
    exact(B8 (E1 (A0 (pv 3) (A0 (pv 2) A3))))
   ·exact C2
 refine A8 ?_
 exact(B8 N6)
theorem ql3(T:Txt K mg t):M5 P w K mg base (Fly P w) 9 t.f_fitting.a t.f_fitting.d ["book","tree"] (S7 K t.k_NoFit):=by
 refine T.f_fitting.F.okX xa4 (by walk_at "n") (fun cdv A outer s H vs Q E hr h=>⟨qq3 K t.k_NoFit E,?_,xy9 T.se_NoFit_rule T.se_NoFit_place h⟩)
 have S:=xa4
 refine A5 ?_ ?_
 ·refine B6 (i:=2) S.nd rfl (Or.inl rfl) ?_ rfl ?_
  ·exact(B0 (ya7 T) (hr.mono (by walk_at "le")) rfl T.f_fault_of.m T.f_fault_of.F.kp T.f_fault_of.b .nil C3 (A0 (pv 0) (A0 (pv 1) A3)))
  ·walk_at "or"
 refine A5 ?_ ?_
 ·refine E7 ?_ ?_ ?_
  ·exact(B7 qg6 (pv 2) N6 (C5 _))
  ·refine A8 ?_
   exact(yr5 T.m_i_NoFit (yh4 T) (hr.mono (by walk_at "le")) T.b_i_NoFit ye0 rfl rfl (A0 (C7 (B4 (C4 hr)) (pv 2) A9 (fun _ _=>rfl)) (A0 (C7 (B4 (C4 hr)) (pv 2) A9 (fun _ _=>rfl)) A3)))
  ·exact C2
 refine A8 ?_
 exact(B8 (pv 1))
theorem yh8(T:Txt K mg t):M5 P w K mg base (Fly P w) 10 t.f_set_in.a t.f_set_in.d ["book","tree","place","bit"] (qq5 K t.k_NoPlace t.k_NoFit):=by
 refine T.f_set_in.F.okX xl4 (by walk_at "n") (fun cdv A outer s H vs Q E hr h=>⟨qx2 K t.k_NoPlace t.k_NoFit E,?_,yh0 T.se_NoFit_rule T.se_NoFit_place h⟩)
 have S:=xl4
 refine A5 ?_ ?_
 ·refine B6 (i:=4) S.nd rfl (Or.inl rfl) ?_ rfl ?_
  ·exact(B0 (W0 T) (hr.mono (by walk_at "le")) rfl T.f_parts_around.m T.f_parts_around.F.kp T.f_parts_around.b .nil P8 (A0 (pv 1) (A0 (pv 2) (A0 A9 A3))))
  ·walk_at "or"
 refine A5 ?_ ?_
 ·refine B6 (i:=5) S.nd rfl (Or.inl rfl) ?_ rfl ?_
  ·exact(C7 (B4 (C4 hr)) (pv 2) (Q9 N4 A9) (fun _ _=>rfl))
  ·walk_at "or"
 refine A8 ?_
 refine B8 ?_
 refine B0 (ql3 T) (hr.mono (by walk_at "le")) rfl T.f_fitting.m T.f_fitting.F.kp T.f_fitting.b .nil P8 ?_
 refine A0 ?_ ?_
 ·exact(pv 0)
 refine A0 ?_ ?_
 ·refine B0 (qe2 T) (hr.mono (by walk_at "le")) rfl T.f_with_parts.m T.f_with_parts.F.kp T.f_with_parts.b .nil C3 ?_
  refine A0 ?_ ?_
  ·exact(pv 1)
  refine A0 ?_ ?_
  ·exact(M6 P7 (pv 2) P5 (N2 (Q9 N4 A9)))
  refine A0 ?_ ?_
  ·exact(D6 L0 (D6 L0 (M6 P7 (pv 4) P5 (N2 (pv 5))) (E1 (A0 (pv 3) A3))) (M6 P7 (pv 4) (N2 (pv 5)) P5))
  exact A3
 exact A3
theorem xi3(T:Txt K mg t):M5 P w K mg base (Fly P w) 10 t.f_taken_out.a t.f_taken_out.d ["book","tree","place"] (qd4 K t.k_NoPlace t.k_NoFit):=by
 refine T.f_taken_out.F.okX we5 (by walk_at "n") (fun cdv A outer s H vs Q E hr h=>⟨qg2 K t.k_NoPlace t.k_NoFit E,?_,xg5 T.se_NoFit_rule T.se_NoFit_place h⟩)
 have S:=we5
 refine A5 ?_ ?_
 ·refine B6 (i:=3) S.nd rfl (Or.inl rfl) ?_ rfl ?_
  ·exact(B0 (W0 T) (hr.mono (by walk_at "le")) rfl T.f_parts_around.m T.f_parts_around.F.kp T.f_parts_around.b .nil P8 (A0 (pv 1) (A0 (pv 2) (A0 A9 A3))))
  ·walk_at "or"
 refine A5 ?_ ?_
 ·refine B6 (i:=4) S.nd rfl (Or.inl rfl) ?_ rfl ?_
  ·exact(C7 (B4 (C4 hr)) (pv 2) (Q9 N4 A9) (fun _ _=>rfl))
  ·walk_at "or"
 refine A8 ?_
 refine B8 ?_
 refine B0 (ql3 T) (hr.mono (by walk_at "le")) rfl T.f_fitting.m T.f_fitting.F.kp T.f_fitting.b .nil P8 ?_
 refine A0 ?_ ?_
 ·exact(pv 0)
 refine A0 ?_ ?_
 ·refine B0 (qe2 T) (hr.mono (by walk_at "le")) rfl T.f_with_parts.m T.f_with_parts.F.kp T.f_with_parts.b .nil C3 ?_
  refine A0 ?_ ?_
  ·exact(pv 1)
  refine A0 ?_ ?_
  ·exact(M6 P7 (pv 2) P5 (N2 (Q9 N4 A9)))
  refine A0 ?_ ?_
  ·refine B0 (xl7 T) (hr.mono (by walk_at "le")) rfl T.f_joined.m T.f_joined.F.kp T.f_joined.b .nil C3 ?_
   refine A0 ?_ ?_
   ·exact(D6 L0 (M6 P7 (pv 3) P5 (N2 (pv 4))) (M6 P7 (pv 3) (N2 (D6 L0 (pv 4) A9)) P5))
   exact A3
  exact A3
 exact A3
theorem xb3(T:Txt K mg t):M5 P w K mg base (Fly P w) 10 t.f_put_around.a t.f_put_around.d ["book","tree","place","stop","name"] (qb2 K t.k_NoPlace t.k_NoFit):=by
 refine T.f_put_around.F.okX qy4 (by walk_at "n") (fun cdv A outer s H vs Q E hr h=>⟨qd3 K t.k_NoPlace t.k_NoFit E,?_,wy2 T.se_NoFit_rule T.se_NoFit_place h⟩)
 have S:=qy4
 refine A5 ?_ ?_
 ·refine B6 (i:=5) S.nd rfl (Or.inl rfl) ?_ rfl ?_
  ·exact(B0 (W0 T) (hr.mono (by walk_at "le")) rfl T.f_parts_around.m T.f_parts_around.F.kp T.f_parts_around.b .nil P8 (A0 (pv 1) (A0 (pv 2) (A0 A9 A3))))
  ·walk_at "or"
 refine A5 ?_ ?_
 ·refine B6 (i:=6) S.nd rfl (Or.inl rfl) ?_ rfl ?_
  ·exact(C7 (B4 (C4 hr)) (pv 2) (Q9 N4 A9) (fun _ _=>rfl))
  ·walk_at "or"
 refine A5 ?_ ?_
 ·refine E7 ?_ ?_ ?_
  ·exact(qn9 (wb3 wr6 wr6 (pv 6) (pv 3) (C8 E3 rfl T.z_len boot_len (A0 (pv 5) A3))))
  ·refine A8 ?_
   exact(qu0 qm8 rfl T.x_NoPlace rfl (A0 C9 A3))
  ·exact C2
 refine A5 ?_ ?_
 ·refine B6 (i:=7) S.nd rfl (Or.inl rfl) ?_ rfl ?_
  ·exact(E1 (A0 (pv 4) (A0 (M6 P7 (pv 5) (N2 (pv 6)) (N2 (pv 3))) A3)))
  ·walk_at "or"
 refine A8 ?_
 refine B8 ?_
 refine B0 (ql3 T) (hr.mono (by walk_at "le")) rfl T.f_fitting.m T.f_fitting.F.kp T.f_fitting.b .nil P8 ?_
 refine A0 ?_ ?_
 ·exact(pv 0)
 refine A0 ?_ ?_
 ·refine B0 (qe2 T) (hr.mono (by walk_at "le")) rfl T.f_with_parts.m T.f_with_parts.F.kp T.f_with_parts.b .nil C3 ?_
  refine A0 ?_ ?_
  ·exact(pv 1)
  refine A0 ?_ ?_
  ·exact(M6 P7 (pv 2) P5 (N2 (Q9 N4 A9)))
  refine A0 ?_ ?_
  ·exact(D6 L0 (D6 L0 (M6 P7 (pv 5) P5 (N2 (pv 6))) (E1 (A0 (pv 7) A3))) (M6 P7 (pv 5) (N2 (pv 3)) P5))
  exact A3
 exact A3
theorem yh9(T:Txt K mg t):M5 P w K mg base (Fly P w) 10 t.f_lifted.a t.f_lifted.d ["book","tree","place"] (qq6 K t.k_NoPlace t.k_NoFit):=by
 refine T.f_lifted.F.okX xl5 (by walk_at "n") (fun cdv A outer s H vs Q E hr h=>⟨qx3 K t.k_NoPlace t.k_NoFit E,?_,yh1 T.se_NoFit_rule T.se_NoFit_place h⟩)
 have S:=xl5
 refine A5 ?_ ?_
 ·refine B6 (i:=3) S.nd rfl (Or.inl rfl) ?_ rfl ?_
  ·exact(B0 (W0 T) (hr.mono (by walk_at "le")) rfl T.f_parts_around.m T.f_parts_around.F.kp T.f_parts_around.b .nil P8 (A0 (pv 1) (A0 (pv 2) (A0 A9 A3))))
  ·walk_at "or"
 refine A5 ?_ ?_
 ·refine B6 (i:=4) S.nd rfl (Or.inl rfl) ?_ rfl ?_
  ·exact(C7 (B4 (C4 hr)) (pv 2) (Q9 N4 A9) (fun _ _=>rfl))
  ·walk_at "or"
 refine A5 ?_ ?_
 ·refine E7 ?_ ?_ ?_
  ·exact(T1 (B0 (Y9 T) (hr.mono (by walk_at "le")) rfl T.f_is_text.m T.f_is_text.F.kp T.f_is_text.b .nil C3 (A0 (C7 (B4 (C4 hr)) (pv 3) (pv 4) (fun _ _=>rfl)) A3)))
  ·refine A8 ?_
   exact(qu0 qm8 rfl T.x_NoPlace rfl (A0 C9 A3))
  ·exact C2
 refine A5 ?_ ?_
 ·refine B6 (i:=5) S.nd rfl (Or.inl rfl) ?_ rfl ?_
  ·exact(B0 (S9 T) (hr.mono (by walk_at "le")) rfl T.f_parts_of.m T.f_parts_of.F.kp T.f_parts_of.b .nil C3 (A0 (C7 (B4 (C4 hr)) (pv 3) (pv 4) (fun _ _=>rfl)) A3))
  ·walk_at "or"
 refine A8 ?_
 refine B8 ?_
 refine B0 (ql3 T) (hr.mono (by walk_at "le")) rfl T.f_fitting.m T.f_fitting.F.kp T.f_fitting.b .nil P8 ?_
 refine A0 ?_ ?_
 ·exact(pv 0)
 refine A0 ?_ ?_
 ·refine B0 (qe2 T) (hr.mono (by walk_at "le")) rfl T.f_with_parts.m T.f_with_parts.F.kp T.f_with_parts.b .nil C3 ?_
  refine A0 ?_ ?_
  ·exact(pv 1)
  refine A0 ?_ ?_
  ·exact(M6 P7 (pv 2) P5 (N2 (Q9 N4 A9)))
  refine A0 ?_ ?_
  ·refine B0 (xl7 T) (hr.mono (by walk_at "le")) rfl T.f_joined.m T.f_joined.F.kp T.f_joined.b .nil C3 ?_
   refine A0 ?_ ?_
   ·exact(D6 L0 (D6 L0 (M6 P7 (pv 3) P5 (N2 (pv 4))) (pv 5)) (M6 P7 (pv 3) (N2 (D6 L0 (pv 4) A9)) P5))
   exact A3
  exact A3
 exact A3
theorem qv9 (T:Txt K mg t):∀ n:Nat,M5 P w K mg base CX0 (4+n) t.f__law_grown.a t.f__law_grown.d ["_law_deck","_law_book_here","_law_names","_law_deep"] (V2 n K)
 | 0 => by
   have FR:M5 P w K mg base CX0 3 t.f__law_grown.a t.f__law_grown.d ["_law_deck","_law_book_here","_law_names","_law_deep"] (R4 K 0):=⟨fun _ _ _ _ h=>h.elim,fun _ _ _ _ _ _ _ _ _ _ _ _ _ h=>h.elim⟩
   refine T.f__law_grown.F.ok (k:=3) qe1 (by walk_at "n") (fun cdv A outer s H vs Q E hr h=>⟨qb1 K (R4 K 0),?_,qy0 0 h⟩)
   have S:=qe1
   refine A5 ?_ ?_
   ·refine B6 (i:=4) S.nd rfl (Or.inl rfl) ?_ rfl ?_
    ·exact(N5 A3)
    ·walk_at "or"
   refine A5 ?_ ?_
   ·refine B6 (i:=5) S.nd rfl (Or.inl rfl) ?_ rfl ?_
    ·exact(E1 (A0 C9 (A0 C9 (A0 C9 (A0 (E1 A3) (A0 (E1 A3) A3))))))
    ·walk_at "or"
   refine A5 ?_ ?_
   ·refine E7 ?_ ?_ ?_
    ·exact(B7 (R0 (N8 hr)) (pv 2) (E1 A3) (C5 _))
    ·refine A8 ?_
     refine B6 (i:=5) S.nd rfl (Or.inl rfl) ?_ rfl ?_
     ·exact(B0 (S8 T) (hr.mono (by walk_at "le")) rfl T.f__law_row.m T.f__law_row.F.kp T.f__law_row.b .nil C3 (A0 (pv 1) (A0 (C7 (B4 (C4 hr)) (pv 2) (Q9 N4 A9) (fun _ _=>rfl)) A3)))
     ·walk_at "or"
    ·exact C2
   refine A5 ?_ ?_
   ·refine T2 PassesOwn.never rfl ?_ ?_ ?_
    ·exact(R3 rfl T.z_range (A0 (D6 L0 (B0 (E6 T) (hr.mono (by walk_at "le")) rfl T.f__law_draw.m T.f__law_draw.F.kp T.f__law_draw.b .nil C3 (A0 (pv 0) (A0 A9 A3))) (P4 qw3 rfl T.z_int boot_int (A0 (qw1 (M3 (N8 hr)) (pv 2) (E1 A3) (C5 _)) A3))) A3))
    ·exact(D5 (i:=6) S.nd rfl (Or.inl rfl))
    ·refine A5 ?_ ?_
     ·refine B6 (i:=7) S.nd rfl (Or.inl rfl) ?_ rfl ?_
      ·refine C7 ?_ ?_ ?_ ?_
       ·exact B4 (C4 hr)
       ·exact(pv 1)
       ·refine B0 (E6 T) (hr.mono (by walk_at "le")) rfl T.f__law_draw.m T.f__law_draw.F.kp T.f__law_draw.b .nil C3 ?_
        refine A0 ?_ ?_
        ·exact(pv 0)
        refine A0 ?_ ?_
        ·exact(C8 E3 rfl T.z_len boot_len (A0 (pv 1) A3))
        exact A3
       ·exact fun _ _=>rfl
      ·walk_at "or"
     refine A5 ?_ ?_
     ·refine E7 ?_ ?_ ?_
      ·exact(B7 (M3 (N8 hr)) (C7 (B4 (C4 hr)) (pv 5) A9 (fun _ _=>rfl)) C9 (C5 _))
      ·refine A8 ?_
       refine B6 (i:=7) S.nd rfl (Or.inl rfl) ?_ rfl ?_
       ·exact(B0 (S8 T) (hr.mono (by walk_at "le")) rfl T.f__law_row.m T.f__law_row.F.kp T.f__law_row.b .nil C3 (A0 (pv 1) (A0 (C7 (B4 (C4 hr)) (pv 5) A9 (fun _ _=>rfl)) A3)))
       ·walk_at "or"
      ·exact C2
     refine A5 ?_ ?_
     ·refine E7 ?_ ?_ ?_
      ·exact(PW.pt (Y5 (B7 (R0 (N8 hr)) (C7 (B4 (C4 hr)) (pv 5) A9 (fun _ _=>rfl)) C9 (C5 _)) (U6 (B7 (M3 (N8 hr)) (B0 (E6 T) (hr.mono (by walk_at "le")) rfl T.f__law_draw.m T.f__law_draw.F.kp T.f__law_draw.b .nil C3 (A0 (pv 0) (A0 A9 A3))) A9 (C5 _)))))
      ·refine A8 ?_
       refine B6 (i:=8) S.nd rfl (Or.inl rfl) ?_ rfl ?_
       ·exact(B0 (qr7 T) (hr.mono (by walk_at "le")) rfl T.f__law_text.m T.f__law_text.F.kp T.f__law_text.b .nil C3 (A0 (pv 0) A3))
       ·walk_at "or"
      ·refine A5 ?_ ?_
       ·refine B6 (i:=9) S.nd rfl (Or.inl rfl) ?_ rfl ?_
        ·exact(E1 A3)
        ·walk_at "or"
       refine A5 ?_ ?_
       ·refine E7 ?_ ?_ ?_
        ·exact(PW.pt (Y5 (B7 (R0 (N8 hr)) (C7 (B4 (C4 hr)) (pv 7) A9 (fun _ _=>rfl)) C9 (C5 _)) (U6 (B7 qo7 (pv 3) A9 (C5 _)))))
        ·refine A8 ?_
         refine B6 (i:=9) S.nd rfl (Or.inl rfl) ?_ rfl ?_
         ·exact(B0 FR (hr.mono (by omega)) rfl T.f__law_grown.m T.f__law_grown.F.kp T.f__law_grown.b .nil C3 (A0 (pv 0) (A0 (pv 1) (A0 (D6 L0 (pv 2) (E1 (A0 (C7 (B4 (C4 hr)) (pv 7) A9 (fun _ _=>rfl)) A3))) (A0 (D6 ql4 (pv 3) A9) A3)))))
         ·walk_at "or"
        ·exact C2
       refine A8 ?_
       refine B6 (i:=8) S.nd rfl (Or.inl rfl) ?_ rfl ?_
       ·exact(E1 (A0 (C7 (B4 (C4 hr)) (pv 7) A9 (fun _ _=>rfl)) (A0 (pv 9) A3)))
       ·walk_at "or"
     refine A8 ?_
     refine E7 ?_ ?_ ?_
     ·exact(B7 qz8 (B0 (qm0 T) (hr.mono (by walk_at "le")) rfl T.f__law_fault.m T.f__law_fault.F.kp T.f__law_fault.b .nil C3 (A0 (pv 1) (A0 (pv 2) (A0 (pv 8) (A0 (C7 (B4 (C4 hr)) (D6 L0 (pv 4) (N5 (A0 N6 A3))) (D6 ql4 (C8 E3 rfl T.z_len boot_len (A0 (pv 4) A3)) A9) (fun _ _=>rfl)) A3))))) N6 (C5 _))
     ·refine A8 ?_
      exact(U7 (qh4 PySem.F.plainAttrs_list PySem.F.slot_list_append PySem.F.type_list_append S3 (pv 4) (A0 (pv 8) A3)))
     ·exact C2
   refine A8 ?_
   exact(B8 (P4 V1 rfl T.z_tuple boot_tuple (A0 (pv 4) A3)))
 | n + 1 => by
   have FR:M5 P w K mg base CX0 (4+n) t.f__law_grown.a t.f__law_grown.d ["_law_deck","_law_book_here","_law_names","_law_deep"] (R4 K (n+1)):=qv9 T n
   refine T.f__law_grown.F.ok (k:=(4+n)) qe1 (by walk_at "n") (fun cdv A outer s H vs Q E hr h=>⟨qb1 K (R4 K (n+1)),?_,qy0 (n+1) h⟩)
   have S:=qe1
   refine A5 ?_ ?_
   ·refine B6 (i:=4) S.nd rfl (Or.inl rfl) ?_ rfl ?_
    ·exact(N5 A3)
    ·walk_at "or"
   refine A5 ?_ ?_
   ·refine B6 (i:=5) S.nd rfl (Or.inl rfl) ?_ rfl ?_
    ·exact(E1 (A0 C9 (A0 C9 (A0 C9 (A0 (E1 A3) (A0 (E1 A3) A3))))))
    ·walk_at "or"
   refine A5 ?_ ?_
   ·refine E7 ?_ ?_ ?_
    ·exact(B7 (R0 (N8 hr)) (pv 2) (E1 A3) (C5 _))
    ·refine A8 ?_
     refine B6 (i:=5) S.nd rfl (Or.inl rfl) ?_ rfl ?_
     ·exact(B0 (S8 T) (hr.mono (by walk_at "le")) rfl T.f__law_row.m T.f__law_row.F.kp T.f__law_row.b .nil C3 (A0 (pv 1) (A0 (C7 (B4 (C4 hr)) (pv 2) (Q9 N4 A9) (fun _ _=>rfl)) A3)))
     ·walk_at "or"
    ·exact C2
   refine A5 ?_ ?_
   ·refine T2 PassesOwn.never rfl ?_ ?_ ?_
    ·exact(R3 rfl T.z_range (A0 (D6 L0 (B0 (E6 T) (hr.mono (by walk_at "le")) rfl T.f__law_draw.m T.f__law_draw.F.kp T.f__law_draw.b .nil C3 (A0 (pv 0) (A0 A9 A3))) (P4 qw3 rfl T.z_int boot_int (A0 (qw1 (M3 (N8 hr)) (pv 2) (E1 A3) (C5 _)) A3))) A3))
    ·exact(D5 (i:=6) S.nd rfl (Or.inl rfl))
    ·refine A5 ?_ ?_
     ·refine B6 (i:=7) S.nd rfl (Or.inl rfl) ?_ rfl ?_
      ·refine C7 ?_ ?_ ?_ ?_
       ·exact B4 (C4 hr)
       ·exact(pv 1)
       ·refine B0 (E6 T) (hr.mono (by walk_at "le")) rfl T.f__law_draw.m T.f__law_draw.F.kp T.f__law_draw.b .nil C3 ?_
        refine A0 ?_ ?_
        ·exact(pv 0)
        refine A0 ?_ ?_
        ·exact(C8 E3 rfl T.z_len boot_len (A0 (pv 1) A3))
        exact A3
       ·exact fun _ _=>rfl
      ·walk_at "or"
     refine A5 ?_ ?_
     ·refine E7 ?_ ?_ ?_
      ·exact(B7 (M3 (N8 hr)) (C7 (B4 (C4 hr)) (pv 5) A9 (fun _ _=>rfl)) C9 (C5 _))
      ·refine A8 ?_
       refine B6 (i:=7) S.nd rfl (Or.inl rfl) ?_ rfl ?_
       ·exact(B0 (S8 T) (hr.mono (by walk_at "le")) rfl T.f__law_row.m T.f__law_row.F.kp T.f__law_row.b .nil C3 (A0 (pv 1) (A0 (C7 (B4 (C4 hr)) (pv 5) A9 (fun _ _=>rfl)) A3)))
       ·walk_at "or"
      ·exact C2
     refine A5 ?_ ?_
     ·refine E7 ?_ ?_ ?_
      ·exact(PW.pt (Y5 (B7 (R0 (N8 hr)) (C7 (B4 (C4 hr)) (pv 5) A9 (fun _ _=>rfl)) C9 (C5 _)) (U6 (B7 (M3 (N8 hr)) (B0 (E6 T) (hr.mono (by walk_at "le")) rfl T.f__law_draw.m T.f__law_draw.F.kp T.f__law_draw.b .nil C3 (A0 (pv 0) (A0 A9 A3))) A9 (C5 _)))))
      ·refine A8 ?_
       refine B6 (i:=8) S.nd rfl (Or.inl rfl) ?_ rfl ?_
       ·exact(B0 (qr7 T) (hr.mono (by walk_at "le")) rfl T.f__law_text.m T.f__law_text.F.kp T.f__law_text.b .nil C3 (A0 (pv 0) A3))
       ·walk_at "or"
      ·refine A5 ?_ ?_
       ·refine B6 (i:=9) S.nd rfl (Or.inl rfl) ?_ rfl ?_
        ·exact(E1 A3)
        ·walk_at "or"
       refine A5 ?_ ?_
       ·refine E7 ?_ ?_ ?_
        ·exact(PW.pt (Y5 (B7 (R0 (N8 hr)) (C7 (B4 (C4 hr)) (pv 7) A9 (fun _ _=>rfl)) C9 (C5 _)) (U6 (B7 qo7 (pv 3) A9 (C5 _)))))
        ·refine A8 ?_
         refine B6 (i:=9) S.nd rfl (Or.inl rfl) ?_ rfl ?_
         ·exact(B0 FR (hr.mono (by omega)) rfl T.f__law_grown.m T.f__law_grown.F.kp T.f__law_grown.b .nil C3 (A0 (pv 0) (A0 (pv 1) (A0 (D6 L0 (pv 2) (E1 (A0 (C7 (B4 (C4 hr)) (pv 7) A9 (fun _ _=>rfl)) A3))) (A0 (D6 ql4 (pv 3) A9) A3)))))
         ·walk_at "or"
        ·exact C2
       refine A8 ?_
       refine B6 (i:=8) S.nd rfl (Or.inl rfl) ?_ rfl ?_
       ·exact(E1 (A0 (C7 (B4 (C4 hr)) (pv 7) A9 (fun _ _=>rfl)) (A0 (pv 9) A3)))
       ·walk_at "or"
     refine A8 ?_
     refine E7 ?_ ?_ ?_
     ·exact(B7 qz8 (B0 (qm0 T) (hr.mono (by walk_at "le")) rfl T.f__law_fault.m T.f__law_fault.F.kp T.f__law_fault.b .nil C3 (A0 (pv 1) (A0 (pv 2) (A0 (pv 8) (A0 (C7 (B4 (C4 hr)) (D6 L0 (pv 4) (N5 (A0 N6 A3))) (D6 ql4 (C8 E3 rfl T.z_len boot_len (A0 (pv 4) A3)) A9) (fun _ _=>rfl)) A3))))) N6 (C5 _))
     ·refine A8 ?_
      exact(U7 (qh4 PySem.F.plainAttrs_list PySem.F.slot_list_append PySem.F.type_list_append S3 (pv 4) (A0 (pv 8) A3)))
     ·exact C2
   refine A8 ?_
   exact(B8 (P4 V1 rfl T.z_tuple boot_tuple (A0 (pv 4) A3)))
theorem qz1(T:Txt K mg t):M5 P w K mg base CX0 10 t.f__law_grown.a t.f__law_grown.d ["_law_deck","_law_book_here","_law_names","_law_deep"] (ql7 K):=qv9 T 6
theorem xb4(T:Txt K mg t):M5 P w K mg base (Fly P w) 11 t.f__law_asked.a t.f__law_asked.d ["_law_way","_law_book_here","_law_tree","_law_place","_law_thing","_law_stop"] (qb3 K t.k_NoPlace t.k_NoFit):=by
 refine T.f__law_asked.F.okX qz0 (by walk_at "n") (fun cdv A outer s H vs Q E hr h=>⟨qd5 K t.k_NoPlace t.k_NoFit E,?_,wy6 T.se_NoFit_rule T.se_NoFit_place h⟩)
 have S:=qz0
 refine A5 ?_ ?_
 ·refine E7 ?_ ?_ ?_
  ·exact(B7 (M3 (N8 hr)) (pv 0) A9 (C5 _))
  ·refine A8 ?_
   exact(B8 (B0 (yh8 T) (hr.mono (by walk_at "le")) rfl T.f_set_in.m T.f_set_in.F.kp T.f_set_in.b .nil P8 (A0 (pv 1) (A0 (pv 2) (A0 (pv 3) (A0 (pv 4) A3))))))
  ·exact C2
 refine A5 ?_ ?_
 ·refine E7 ?_ ?_ ?_
  ·exact(B7 (M3 (N8 hr)) (pv 0) A9 (C5 _))
  ·refine A8 ?_
   exact(B8 (B0 (xi3 T) (hr.mono (by walk_at "le")) rfl T.f_taken_out.m T.f_taken_out.F.kp T.f_taken_out.b .nil P8 (A0 (pv 1) (A0 (pv 2) (A0 (pv 3) A3)))))
  ·exact C2
 refine A5 ?_ ?_
 ·refine E7 ?_ ?_ ?_
  ·exact(B7 (M3 (N8 hr)) (pv 0) A9 (C5 _))
  ·refine A8 ?_
   exact(B8 (B0 (xb3 T) (hr.mono (by walk_at "le")) rfl T.f_put_around.m T.f_put_around.F.kp T.f_put_around.b .nil P8 (A0 (pv 1) (A0 (pv 2) (A0 (pv 3) (A0 (pv 5) (A0 (pv 4) A3)))))))
  ·exact C2
 refine A8 ?_
 exact(B8 (B0 (yh9 T) (hr.mono (by walk_at "le")) rfl T.f_lifted.m T.f_lifted.F.kp T.f_lifted.b .nil P8 (A0 (pv 1) (A0 (pv 2) (A0 (pv 3) A3)))))
theorem ya8(T:Txt K mg t):M5 P w K mg base CX0 11 t.f__law_bit.a t.f__law_bit.d ["_law_deck","_law_book_here"] (qk7 K):=by
 refine T.f__law_bit.F.ok wl0 (by walk_at "n") (fun cdv A outer s H vs Q E hr h=>⟨qq7 K,?_,ya3 h⟩)
 have S:=wl0
 refine A5 ?_ ?_
 ·refine B6 (i:=2) S.nd rfl (Or.inl rfl) ?_ rfl ?_
  ·refine C7 ?_ ?_ ?_ ?_
   ·exact B4 (C4 hr)
   ·refine C7 ?_ ?_ ?_ ?_
    ·exact B4 (C4 hr)
    ·exact(pv 1)
    ·refine B0 (E6 T) (hr.mono (by walk_at "le")) rfl T.f__law_draw.m T.f__law_draw.F.kp T.f__law_draw.b .nil C3 ?_
     refine A0 ?_ ?_
     ·exact(pv 0)
     refine A0 ?_ ?_
     ·exact(C8 E3 rfl T.z_len boot_len (A0 (pv 1) A3))
     exact A3
    ·exact fun _ _=>rfl
   ·exact A9
   ·exact fun _ _=>rfl
  ·walk_at "or"
 refine A5 ?_ ?_
 ·refine E7 ?_ ?_ ?_
  ·exact(B7 (M3 (N8 hr)) (B0 (E6 T) (hr.mono (by walk_at "le")) rfl T.f__law_draw.m T.f__law_draw.F.kp T.f__law_draw.b .nil C3 (A0 (pv 0) (A0 A9 A3))) A9 (C5 _))
  ·refine A8 ?_
   exact(B8 (B0 (qr7 T) (hr.mono (by walk_at "le")) rfl T.f__law_text.m T.f__law_text.F.kp T.f__law_text.b .nil C3 (A0 (pv 0) A3)))
  ·exact C2
 refine A5 ?_ ?_
 ·refine E7 ?_ ?_ ?_
  ·exact(B7 (M3 (N8 hr)) (C7 (B4 (C4 hr)) (B0 (S8 T) (hr.mono (by walk_at "le")) rfl T.f__law_row.m T.f__law_row.F.kp T.f__law_row.b .nil C3 (A0 (pv 1) (A0 (pv 2) A3))) A9 (fun _ _=>rfl)) C9 (C5 _))
  ·refine A8 ?_
   exact(B8 (E1 (A0 (pv 2) (A0 (E1 A3) A3))))
  ·exact C2
 refine A8 ?_
 exact(B8 (E1 (A0 (pv 2) (A0 (B0 (qz1 T) (hr.mono (by walk_at "le")) rfl T.f__law_grown.m T.f__law_grown.F.kp T.f__law_grown.b .nil C3 (A0 (pv 0) (A0 (pv 1) (A0 (E1 (A0 (pv 2) A3)) (A0 A9 A3))))) A3))))
theorem wf6(T:Txt K mg t):M5 P w K mg base CX0 12 t.f__law_told.a t.f__law_told.d ["_law_way","_law_book_here","_law_tree","_law_place","_law_thing","_law_stop"] (qb4 K):=by
 refine T.f__law_told.F.ok wf3 (by walk_at "n") (fun cdv A outer s H vs Q E hr h=>⟨qk6 K t.k_NoPlace t.k_NoFit t.k_NotEnded t.k_Ended t.k_NoSpot t.k_NoBook t.k_NoText,?_,xr5 T.ei_NoFit_rule T.ei_NoFit_place T.er h⟩)
 have S:=wf3
 refine A5 ?_ ?_
 ·refine B6 (i:=6) S.nd rfl (Or.inl rfl) ?_ rfl ?_
  ·exact N6
  ·walk_at "or"
 refine A5 ?_ ?_
 ·refine B6 (i:=7) S.nd rfl (Or.inl rfl) ?_ rfl ?_
  ·exact N6
  ·walk_at "or"
 refine A5 ?_ ?_
 ·exact(zi4 (Cs:=[t.k_NoPlace,t.k_NoFit]) (i:=8) (j:=7) (zh9 (xb4 T) (hr.mono (by walk_at "le")) rfl T.f__law_asked.m T.f__law_asked.F.kp T.f__law_asked.b .nil (fun _=>(A0 (pv 0) (A0 (pv 1) (A0 (pv 2) (A0 (pv 3) (A0 (pv 4) (A0 (pv 5) A3)))))))) rfl T.n_TagError (all_cons T.y_NoPlace_TagError (all_cons T.y_NoFit_TagError zi3)) S.nd rfl rfl rfl rfl (fun _ _=>(A8 (B6 (i:=6) S.nd rfl (Or.inl rfl) (pv 8)))))
 refine A5 ?_ ?_
 ·refine E7 ?_ ?_ ?_
  ·exact(B7 qz8 (pv 6) N6 (C5 _))
  ·refine A8 ?_
   exact(B8 (N5 (A0 (pv 7) A3)))
  ·exact C2
 refine A5 ?_ ?_
 ·refine E7 ?_ ?_ ?_
  ·exact(PW.pt (xs8 (qn9 (T1 (C8 O3 rfl T.z_isinstance boot_isinstance (A0 (pv 6) (A0 (qj1 rfl T.z_ValueError wl3 rfl) A3))))) (wq2 (T1 (C8 O3 rfl T.z_isinstance boot_isinstance (A0 (pv 6) (A0 (E1 (A0 (P0 rfl T.n_NoText rfl) (A0 (P0 rfl T.n_NoBook rfl) (A0 (P0 rfl T.n_NoSpot rfl) (A0 (P0 rfl T.n_Ended rfl) (A0 (P0 rfl T.n_NotEnded rfl) A3)))))) A3)))))))
  ·refine A8 ?_
   exact(B8 (N5 A3))
  ·exact C2
 refine A5 ?_ ?_
 ·refine E7 ?_ ?_ ?_
  ·exact(T1 (C8 O3 rfl T.z_isinstance boot_isinstance (A0 (pv 6) (A0 (P0 rfl T.n_NoPlace rfl) A3))))
  ·refine A8 ?_
   exact(B8 (D6 qj2 (N5 (A0 C9 A3)) (D6 ql4 A9 (P4 qw3 rfl T.z_int boot_int (A0 (C8 O3 rfl T.z_isinstance boot_isinstance (A0 (pv 6) (A0 (P0 rfl T.n_NoFit rfl) A3))) A3)))))
  ·exact C2
 refine A5 ?_ ?_
 ·refine E7 ?_ ?_ ?_
  ·exact(PW.pt (xs8 (qn9 (T1 (C8 O3 rfl T.z_isinstance boot_isinstance (A0 (xo0 (pv 6) rfl) (A0 (qj1 rfl T.z_str boot_str rfl) A3))))) (wq2 (qn9 (T1 (C8 O3 rfl T.z_isinstance boot_isinstance (A0 (xo0 (pv 6) rfl) (A0 (qj1 rfl T.z_tuple boot_tuple rfl) A3))))))))
  ·refine A8 ?_
   exact(B8 (N5 A3))
  ·exact C2
 refine A8 ?_
 exact(B8 (N5 (A0 (C8 O3 rfl T.z_isinstance boot_isinstance (A0 (pv 6) (A0 (P0 rfl T.n_NoFit rfl) A3))) (A0 (xo0 (pv 6) rfl) (A0 (xo0 (pv 6) rfl) A3)))))
theorem zx1(T:Txt K mg t):M5 P w K mg base CX0 13 t.f_law.a t.f_law.d ["_law_script"] (wi9 K):=by
 refine T.f_law.F.ok ze3 (by walk_at "n") (fun cdv A outer s H vs Q E hr h=>⟨yn1 K,?_,zx0 h⟩)
 have S:=ze3
 refine A5 ?_ ?_
 ·refine B6 (i:=1) S.nd rfl (Or.inl rfl) ?_ rfl ?_
  ·exact(B0 (wo9 T) (hr.mono (by walk_at "le")) rfl T.f__law_numbers.m T.f__law_numbers.F.kp T.f__law_numbers.b .nil C3 (A0 (pv 0) (A0 A9 A3)))
  ·walk_at "or"
 refine A5 ?_ ?_
 ·refine B6 (i:=2) S.nd rfl (Or.inl rfl) ?_ rfl ?_
  ·exact(B0 (E6 T) (hr.mono (by walk_at "le")) rfl T.f__law_draw.m T.f__law_draw.F.kp T.f__law_draw.b .nil C3 (A0 (pv 1) (A0 (D6 zp1 A9 A9) A3)))
  ·walk_at "or"
 refine A5 ?_ ?_
 ·refine B6 (i:=3) S.nd rfl (Or.inl rfl) ?_ rfl ?_
  ·exact(B0 (xs4 T) (hr.mono (by walk_at "le")) rfl T.f__law_book.m T.f__law_book.F.kp T.f__law_book.b .nil C3 (A0 (pv 1) (A0 (pv 2) (A0 A9 A3))))
  ·walk_at "or"
 refine A5 ?_ ?_
 ·refine B6 (i:=4) S.nd rfl (Or.inl rfl) ?_ rfl ?_
  ·refine E1 ?_
   refine A0 ?_ ?_
   ·exact C9
   refine A0 ?_ ?_
   ·refine B0 (qz1 T) (hr.mono (by walk_at "le")) rfl T.f__law_grown.m T.f__law_grown.F.kp T.f__law_grown.b .nil C3 ?_
    refine A0 ?_ ?_
    ·exact(pv 1)
    refine A0 ?_ ?_
    ·exact(pv 3)
    refine A0 ?_ ?_
    ·exact(E1 A3)
    refine A0 ?_ ?_
    ·exact A9
    exact A3
   exact A3
  ·walk_at "or"
 refine A5 ?_ ?_
 ·refine T2 PassesOwn.never rfl ?_ ?_ ?_
  ·exact(R3 rfl T.z_range (A0 A9 A3))
  ·exact(D5 (i:=5) S.nd rfl (Or.inl rfl))
  ·refine A5 ?_ ?_
   ·exact(qo1 (B0 (xh8 T) (hr.mono (by walk_at "le")) rfl T.f__law_elder.m T.f__law_elder.F.kp T.f__law_elder.b .nil C3 (A0 (pv 1) (A0 (pv 4) A3))) (qo0 rfl (L7 (D5 (i:=6) S.nd rfl (Or.inl rfl)) (L7 (D5 (i:=7) S.nd rfl (Or.inl rfl)) qe9))))
   refine A5 ?_ ?_
   ·refine B6 (i:=8) S.nd rfl (Or.inl rfl) ?_ rfl ?_
    ·exact(B0 (E6 T) (hr.mono (by walk_at "le")) rfl T.f__law_draw.m T.f__law_draw.F.kp T.f__law_draw.b .nil C3 (A0 (pv 1) (A0 (D6 L0 (C8 E3 rfl T.z_len boot_len (A0 (pv 7) A3)) A9) A3)))
    ·walk_at "or"
   refine A5 ?_ ?_
   ·refine B6 (i:=9) S.nd rfl (Or.inl rfl) ?_ rfl ?_
    ·exact(D6 qj2 (B0 (E6 T) (hr.mono (by walk_at "le")) rfl T.f__law_draw.m T.f__law_draw.F.kp T.f__law_draw.b .nil C3 (A0 (pv 1) (A0 A9 A3))) A9)
    ·walk_at "or"
   refine A5 ?_ ?_
   ·refine B6 (i:=10) S.nd rfl (Or.inl rfl) ?_ rfl ?_
    ·refine C7 ?_ ?_ ?_ ?_
     ·exact B4 (C4 hr)
     ·refine C7 ?_ ?_ ?_ ?_
      ·exact B4 (C4 hr)
      ·exact(pv 3)
      ·refine B0 (E6 T) (hr.mono (by walk_at "le")) rfl T.f__law_draw.m T.f__law_draw.F.kp T.f__law_draw.b .nil C3 ?_
       refine A0 ?_ ?_
       ·exact(pv 1)
       refine A0 ?_ ?_
       ·exact(C8 E3 rfl T.z_len boot_len (A0 (pv 3) A3))
       exact A3
      ·exact fun _ _=>rfl
     ·exact A9
     ·exact fun _ _=>rfl
    ·walk_at "or"
   refine A5 ?_ ?_
   ·refine E7 ?_ ?_ ?_
    ·exact(B7 (M3 (N8 hr)) (pv 9) A9 (C5 _))
    ·refine A8 ?_
     refine B6 (i:=10) S.nd rfl (Or.inl rfl) ?_ rfl ?_
     ·exact(B0 (ya8 T) (hr.mono (by walk_at "le")) rfl T.f__law_bit.m T.f__law_bit.F.kp T.f__law_bit.b .nil C3 (A0 (pv 1) (A0 (pv 3) A3)))
     ·walk_at "or"
    ·exact C2
   refine A5 ?_ ?_
   ·refine B6 (i:=11) S.nd rfl (Or.inl rfl) ?_ rfl ?_
    ·refine B0 (wf6 T) (hr.mono (by walk_at "le")) rfl T.f__law_told.m T.f__law_told.F.kp T.f__law_told.b .nil C3 ?_
     refine A0 ?_ ?_
     ·exact(pv 9)
     refine A0 ?_ ?_
     ·exact(pv 3)
     refine A0 ?_ ?_
     ·exact(pv 4)
     refine A0 ?_ ?_
     ·exact(D6 L0 (pv 6) (E1 (A0 (pv 8) A3)))
     refine A0 ?_ ?_
     ·exact(pv 10)
     refine A0 ?_ ?_
     ·refine D6 L0 ?_ ?_
      ·exact(pv 8)
      ·refine B0 (E6 T) (hr.mono (by walk_at "le")) rfl T.f__law_draw.m T.f__law_draw.F.kp T.f__law_draw.b .nil C3 ?_
       refine A0 ?_ ?_
       ·exact(pv 1)
       refine A0 ?_ ?_
       ·exact(D6 L0 (D6 ql4 (C8 E3 rfl T.z_len boot_len (A0 (pv 7) A3)) (pv 8)) A9)
       exact A3
     exact A3
    ·walk_at "or"
   refine A8 ?_
   refine E7 ?_ ?_ ?_
   ·exact(B7 (M3 (N8 hr)) (C8 E3 rfl T.z_len boot_len (A0 (pv 11) A3)) A9 (C5 _))
   ·refine A5 ?_ ?_
    ·refine E7 ?_ ?_ ?_
     ·exact(B7 (R0 (N8 hr)) (B0 (wf6 T) (hr.mono (by walk_at "le")) rfl T.f__law_told.m T.f__law_told.F.kp T.f__law_told.b .nil C3 (A0 (D6 L0 (pv 9) A9) (A0 (pv 3) (A0 (C7 (B4 (C4 hr)) (pv 11) A9 (fun _ _=>rfl)) (A0 (D6 L0 (pv 6) (E1 (A0 (pv 8) A3))) (A0 C9 (A0 A9 A3))))))) (N5 (A0 (pv 4) A3)) (C5 _))
     ·refine A8 ?_
      exact(B8 yt1)
     ·exact C2
    refine A8 ?_
    refine B6 (i:=4) S.nd rfl (Or.inl rfl) ?_ rfl ?_
    ·exact(C7 (B4 (C4 hr)) (pv 11) A9 (fun _ _=>rfl))
    ·walk_at "or"
   ·refine A8 ?_
    refine E7 ?_ ?_ ?_
    ·exact(PW.pt (xs8 (B7 (R0 (N8 hr)) (C8 E3 rfl T.z_len boot_len (A0 (pv 11) A3)) A9 (C5 _)) (wq2 (B7 yr2 (C7 (B4 (C4 hr)) (pv 11) A9 (fun _ _=>rfl)) yt1 (C5 _)))))
    ·refine A8 ?_
     exact(B8 yt1)
    ·exact C2
 refine A8 ?_
 exact(B8 (qw1 qz8 (B0 (xi1 T) (hr.mono (by walk_at "le")) rfl T.f__law_first.m T.f__law_first.F.kp T.f__law_first.b .nil C3 (A0 (pv 3) (A0 (pv 4) A3))) N6 (C5 _)))
end
theorem ln1(h:us.length=1):∃ x0,us=[x0]:=by
 rcases us with _|⟨x0,_|⟨y,us⟩⟩
 ·cases h
 ·exact⟨x0,rfl⟩
 ·cases h
theorem ln2(h:us.length=2):∃ x0 x1,us=[x0,x1]:=by
 rcases us with _|⟨x0,_|⟨x1,_|⟨y,us⟩⟩⟩
 ·cases h
 ·cases h
 ·exact⟨x0,x1,rfl⟩
 ·cases h
theorem ln3(h:us.length=3):∃ x0 x1 x2,us=[x0,x1,x2]:=by
 rcases us with _|⟨x0,_|⟨x1,_|⟨x2,_|⟨y,us⟩⟩⟩⟩
 ·cases h
 ·cases h
 ·cases h
 ·exact⟨x0,x1,x2,rfl⟩
 ·cases h
theorem ln4(h:us.length=4):∃ x0 x1 x2 x3,us=[x0,x1,x2,x3]:=by
 rcases us with _|⟨x0,_|⟨x1,_|⟨x2,_|⟨x3,_|⟨y,us⟩⟩⟩⟩⟩
 ·cases h
 ·cases h
 ·cases h
 ·cases h
 ·exact⟨x0,x1,x2,x3,rfl⟩
 ·cases h
theorem ln5(h:us.length=5):∃ x0 x1 x2 x3 x4,us=[x0,x1,x2,x3,x4]:=by
 rcases us with _|⟨x0,_|⟨x1,_|⟨x2,_|⟨x3,_|⟨x4,_|⟨y,us⟩⟩⟩⟩⟩⟩
 ·cases h
 ·cases h
 ·cases h
 ·cases h
 ·cases h
 ·exact⟨x0,x1,x2,x3,x4,rfl⟩
 ·cases h
theorem ln6(h:us.length=6):∃ x0 x1 x2 x3 x4 x5,us=[x0,x1,x2,x3,x4,x5]:=by
 rcases us with _|⟨x0,_|⟨x1,_|⟨x2,_|⟨x3,_|⟨x4,_|⟨x5,_|⟨y,us⟩⟩⟩⟩⟩⟩⟩
 ·cases h
 ·cases h
 ·cases h
 ·cases h
 ·cases h
 ·cases h
 ·exact⟨x0,x1,x2,x3,x4,x5,rfl⟩
 ·cases h
theorem all_mk{l:PySem.W.OpenLaw}{w:World}{fa f0 f1 f2 f3 f4 f5 f6 f7 f8 f9 f10 f11 f12 f13 f14 f15 f16 f17 f18 f19 f20 f21 f22 f23 f24 f25 f26 f27 f28 f29 f30 f31 f32 f33 f34 f35 f36 f37 f38 f39 f40 f41 f42 f43 f44 f45 f46 f47 f48 f49 f50 f51:Addr}(X:K.In h)(G:h.Ns mainGlobals mg)(hfa:mg "law"=some (.ref fa)){d0 d1 d2 d3 d4 d5 d6 d7 d8 d9 d10 d11 d12 d13 d14 d15 d16 d17 d18 d19 d20 d21 d22 d23 d24 d25 d26 d27 d28 d29 d30 d31 d32 d33 d34 d35 d36 d37 d38 d39 d40 d41 d42 d43 d44 d45 d46 d47 d48 d49 d50 d51:FuncData}{k_NAME k_SORT k_HOST k_SHUTS k_BARS k_ROOT_NAME k_MOST_ABOVE:Tok}{c_WALL_SORTS:Addr}{d_WALL_SORTS:Option Addr}{n_WALL_SORTS:Nat}{sl_WALL_SORTS:Array (Option Value)}{k_WALL_SORTS_0 k_WALL_SORTS_1:Tok}(eEnded:PySem.W.nsIn K mainGlobals "Ended"=some (some (.ref k_Ended)))(eNoBook:PySem.W.nsIn K mainGlobals "NoBook"=some (some (.ref k_NoBook)))(eNoFit:PySem.W.nsIn K mainGlobals "NoFit"=some (some (.ref k_NoFit)))(eNoPlace:PySem.W.nsIn K mainGlobals "NoPlace"=some (some (.ref k_NoPlace)))(eNoSpot:PySem.W.nsIn K mainGlobals "NoSpot"=some (some (.ref k_NoSpot)))(eNoText:PySem.W.nsIn K mainGlobals "NoText"=some (some (.ref k_NoText)))(eNotEnded:PySem.W.nsIn K mainGlobals "NotEnded"=some (some (.ref k_NotEnded)))(eTagError:PySem.W.nsIn K mainGlobals "TagError"=some (some (.ref k_TagError)))(a0:PySem.W.nsIn K mainGlobals "row_of"=some (some (.ref f0)))(F0:Fun K "row_of" "row_of" wz3 f0 d0)(a1:PySem.W.nsIn K mainGlobals "sort_of"=some (some (.ref f1)))(F1:Fun K "sort_of" "sort_of" wj0 f1 d1)(a2:PySem.W.nsIn K mainGlobals "is_wall"=some (some (.ref f2)))(F2:Fun K "is_wall" "is_wall" wj1 f2 d2)(a3:PySem.W.nsIn K mainGlobals "host_of"=some (some (.ref f3)))(F3:Fun K "host_of" "host_of" wj2 f3 d3)(a4:PySem.W.nsIn K mainGlobals "frame_of"=some (some (.ref f4)))(F4:Fun K "frame_of" "frame_of" wa5 f4 d4)(a5:PySem.W.nsIn K mainGlobals "is_text"=some (some (.ref f5)))(F5:Fun K "is_text" "is_text" wj3 f5 d5)(a6:PySem.W.nsIn K mainGlobals "name_of"=some (some (.ref f6)))(F6:Fun K "name_of" "name_of" wj4 f6 d6)(a7:PySem.W.nsIn K mainGlobals "parts_of"=some (some (.ref f7)))(F7:Fun K "parts_of" "parts_of" wa6 f7 d7)(a8:PySem.W.nsIn K mainGlobals "part_at"=some (some (.ref f8)))(F8:Fun K "part_at" "part_at" wj5 f8 d8)(a9:PySem.W.nsIn K mainGlobals "names_above"=some (some (.ref f9)))(F9:Fun K "names_above" "names_above" qd9 f9 d9)(a10:PySem.W.nsIn K mainGlobals "way_to"=some (some (.ref f10)))(F10:Fun K "way_to" "way_to" wz4 f10 d10)(a11:PySem.W.nsIn K mainGlobals "places_in"=some (some (.ref f11)))(F11:Fun K "places_in" "places_in" qk8 f11 d11)(a12:PySem.W.nsIn K mainGlobals "placed_parts"=some (some (.ref f12)))(F12:Fun K "placed_parts" "placed_parts" qi6 f12 d12)(a13:PySem.W.nsIn K mainGlobals "steps_below"=some (some (.ref f13)))(F13:Fun K "steps_below" "steps_below" qe0 f13 d13)(a14:PySem.W.nsIn K mainGlobals "straight_above"=some (some (.ref f14)))(F14:Fun K "straight_above" "straight_above" qc4 f14 d14)(a15:PySem.W.nsIn K mainGlobals "near_of"=some (some (.ref f15)))(F15:Fun K "near_of" "near_of" wj6 f15 d15)(a16:PySem.W.nsIn K mainGlobals "fault_of"=some (some (.ref f16)))(F16:Fun K "fault_of" "fault_of" wa7 f16 d16)(a17:PySem.W.nsIn K mainGlobals "fault_at"=some (some (.ref f17)))(F17:Fun K "fault_at" "fault_at" wa8 f17 d17)(a18:PySem.W.nsIn K mainGlobals "follows_text"=some (some (.ref f18)))(F18:Fun K "follows_text" "follows_text" qi7 f18 d18)(a19:PySem.W.nsIn K mainGlobals "text_fault"=some (some (.ref f19)))(F19:Fun K "text_fault" "text_fault" qq8 f19 d19)(a20:PySem.W.nsIn K mainGlobals "tree_fault"=some (some (.ref f20)))(F20:Fun K "tree_fault" "tree_fault" qq9 f20 d20)(a21:PySem.W.nsIn K mainGlobals "frame_fault"=some (some (.ref f21)))(F21:Fun K "frame_fault" "frame_fault" ql8 f21 d21)(a22:PySem.W.nsIn K mainGlobals "near_fault"=some (some (.ref f22)))(F22:Fun K "near_fault" "near_fault" qr0 f22 d22)(a23:PySem.W.nsIn K mainGlobals "share_a_name"=some (some (.ref f23)))(F23:Fun K "share_a_name" "share_a_name" qb6 f23 d23)(a24:PySem.W.nsIn K mainGlobals "set_in"=some (some (.ref f24)))(F24:Fun K "set_in" "set_in" wz5 f24 d24)(a25:PySem.W.nsIn K mainGlobals "taken_out"=some (some (.ref f25)))(F25:Fun K "taken_out" "taken_out" qu9 f25 d25)(a26:PySem.W.nsIn K mainGlobals "put_around"=some (some (.ref f26)))(F26:Fun K "put_around" "put_around" qr1 f26 d26)(a27:PySem.W.nsIn K mainGlobals "lifted"=some (some (.ref f27)))(F27:Fun K "lifted" "lifted" wz6 f27 d27)(a28:PySem.W.nsIn K mainGlobals "parts_around"=some (some (.ref f28)))(F28:Fun K "parts_around" "parts_around" qi8 f28 d28)(a29:PySem.W.nsIn K mainGlobals "with_parts"=some (some (.ref f29)))(F29:Fun K "with_parts" "with_parts" qr2 f29 d29)(a30:PySem.W.nsIn K mainGlobals "joined"=some (some (.ref f30)))(F30:Fun K "joined" "joined" wz7 f30 d30)(a31:PySem.W.nsIn K mainGlobals "fitting"=some (some (.ref f31)))(F31:Fun K "fitting" "fitting" wj7 f31 d31)(a32:PySem.W.nsIn K mainGlobals "_law_numbers"=some (some (.ref f32)))(F32:Fun K "_law_numbers" "_law_numbers" qi9 f32 d32)(a33:PySem.W.nsIn K mainGlobals "_law_draw"=some (some (.ref f33)))(F33:Fun K "_law_draw" "_law_draw" qv0 f33 d33)(a34:PySem.W.nsIn K mainGlobals "_law_name"=some (some (.ref f34)))(F34:Fun K "_law_name" "_law_name" qv1 f34 d34)(a35:PySem.W.nsIn K mainGlobals "_law_sorts"=some (some (.ref f35)))(F35:Fun K "_law_sorts" "_law_sorts" qb7 f35 d35)(a36:PySem.W.nsIn K mainGlobals "_law_some"=some (some (.ref f36)))(F36:Fun K "_law_some" "_law_some" qv2 f36 d36)(a37:PySem.W.nsIn K mainGlobals "_law_book"=some (some (.ref f37)))(F37:Fun K "_law_book" "_law_book" V3 f37 d37)(a38:PySem.W.nsIn K mainGlobals "_law_text"=some (some (.ref f38)))(F38:Fun K "_law_text" "_law_text" qk9 f38 d38)(a39:PySem.W.nsIn K mainGlobals "_law_walk"=some (some (.ref f39)))(F39:Fun K "_law_walk" "_law_walk" ql0 f39 d39)(a40:PySem.W.nsIn K mainGlobals "_law_row"=some (some (.ref f40)))(F40:Fun K "_law_row" "_law_row" wa9 f40 d40)(a41:PySem.W.nsIn K mainGlobals "_law_near"=some (some (.ref f41)))(F41:Fun K "_law_near" "_law_near" qv3 f41 d41)(a42:PySem.W.nsIn K mainGlobals "_law_fault"=some (some (.ref f42)))(F42:Fun K "_law_fault" "_law_fault" V9 f42 d42)(a43:PySem.W.nsIn K mainGlobals "_law_faults"=some (some (.ref f43)))(F43:Fun K "_law_faults" "_law_faults" ql9 f43 d43)(a44:PySem.W.nsIn K mainGlobals "_law_grown"=some (some (.ref f44)))(F44:Fun K "_law_grown" "_law_grown" qr3 f44 d44)(a45:PySem.W.nsIn K mainGlobals "_law_first"=some (some (.ref f45)))(F45:Fun K "_law_first" "_law_first" qr4 f45 d45)(a46:PySem.W.nsIn K mainGlobals "_law_elder"=some (some (.ref f46)))(F46:Fun K "_law_elder" "_law_elder" qg5 f46 d46)(a47:PySem.W.nsIn K mainGlobals "_law_asked"=some (some (.ref f47)))(F47:Fun K "_law_asked" "_law_asked" qr5 f47 d47)(a48:PySem.W.nsIn K mainGlobals "_law_told"=some (some (.ref f48)))(F48:Fun K "_law_told" "_law_told" qv4 f48 d48)(a49:PySem.W.nsIn K mainGlobals "_law_bit"=some (some (.ref f49)))(F49:Fun K "_law_bit" "_law_bit" wb0 f49 d49)(a50:PySem.W.nsIn K mainGlobals "law"=some (some (.ref f50)))(F50:Fun K "law" "law" xl2 f50 d50)(a51:PySem.W.findIn K (.ref k_NoFit) "__init__"=some (some (.ref f51)))(F51:Fun K "__init__" "NoFit.__init__" wj8 f51 d51)(uNAME:PySem.W.nsIn K mainGlobals "NAME"=some (some (.int 0 k_NAME)))(uSORT:PySem.W.nsIn K mainGlobals "SORT"=some (some (.int 1 k_SORT)))(uHOST:PySem.W.nsIn K mainGlobals "HOST"=some (some (.int 2 k_HOST)))(uSHUTS:PySem.W.nsIn K mainGlobals "SHUTS"=some (some (.int 3 k_SHUTS)))(uBARS:PySem.W.nsIn K mainGlobals "BARS"=some (some (.int 4 k_BARS)))(uROOT_NAME:PySem.W.nsIn K mainGlobals "ROOT_NAME"=some (some (.str ("":Str) k_ROOT_NAME)))(uMOST_ABOVE:PySem.W.nsIn K mainGlobals "MOST_ABOVE"=some (some (.int 19 k_MOST_ABOVE)))(uWALL_SORTS:PySem.W.nsIn K mainGlobals "WALL_SORTS"=some (some (.ref c_WALL_SORTS)))(wWALL_SORTS:K.lookup c_WALL_SORTS=some ⟨.type "tuple",d_WALL_SORTS,.seq #[.str ("room":Str) k_WALL_SORTS_0,.str ("frame":Str) k_WALL_SORTS_1] n_WALL_SORTS,sl_WALL_SORTS⟩)(xNoPlace:PySem.W.excIn K k_NoPlace bmV "ValueError.__new__"=true)(qNoFit:wt1 K k_NoFit=true)(tfNoFit:PySem.W.typeIn K (.ref f51)=some (.type "function"))(kpNoFit:PySem.W.keepIn K (.ref k_NoFit)=true)(bxNoFit:PySem.W.subIn K (.ref k_NoFit) (.type "BaseException")=some true)(obNoFit:PySem.W.subIn K (.ref k_NoFit) (.type "object")=some true)(icNoFit:PySem.W.isClsIn K k_NoFit=true)(itNoFit:PySem.W.typeIn K (.ref k_NoFit)=some (.type "type"))(gaNoFit:PySem.W.findIn K (.ref k_NoFit) "__getattribute__"=some (some (.builtin "BaseException.__getattribute__")))(gnNoFit:PySem.W.findIn K (.ref k_NoFit) "__getattr__"=some none)(clNoFit:PySem.W.findIn K (.ref k_NoFit) "__class__"=some (some (.builtin "object.__class__")))(saNoFit:PySem.W.findIn K (.ref k_NoFit) "__setattr__"=some (some (.builtin "object.__setattr__")))(hy_ruleNoFit:PySem.W.findIn K (.ref k_NoFit) "rule"=some none)(hy_placeNoFit:PySem.W.findIn K (.ref k_NoFit) "place"=some none)(bgTagError:PySem.W.specialIn K (.ref k_TagError) "__getattribute__"=some (some (.builtin "type.__getattribute__")))(brTagError:PySem.W.readsIn K k_TagError (.type "type")=true)(beTagError:PySem.W.findCls K (.ref k_TagError) (.type "type") "__init__"=some (.val (.builtin "ValueError.__init__")))(rga_NoFit:PySem.W.findIn K (.ref k_NoFit) "__getattribute__"=some (some (.builtin "BaseException.__getattribute__")))(rgn_NoFit:PySem.W.findIn K (.ref k_NoFit) "__getattr__"=some none)(rcl_NoFit:PySem.W.findIn K (.ref k_NoFit) "__class__"=some (some (.builtin "object.__class__")))(rbx_NoFit:PySem.W.subIn K (.ref k_NoFit) (.type "BaseException")=some true)(rob_NoFit:PySem.W.subIn K (.ref k_NoFit) (.type "object")=some true)(rve_NoFit:PySem.W.subIn K (.ref k_NoFit) (.type "ValueError")=some true)(rs_NoFit_Ended:PySem.W.subIn K (.ref k_NoFit) (.ref k_Ended)=some false)(rs_NoFit_NoBook:PySem.W.subIn K (.ref k_NoFit) (.ref k_NoBook)=some false)(rs_NoFit_NoFit:PySem.W.subIn K (.ref k_NoFit) (.ref k_NoFit)=some true)(rs_NoFit_NoPlace:PySem.W.subIn K (.ref k_NoFit) (.ref k_NoPlace)=some false)(rs_NoFit_NoSpot:PySem.W.subIn K (.ref k_NoFit) (.ref k_NoSpot)=some false)(rs_NoFit_NoText:PySem.W.subIn K (.ref k_NoFit) (.ref k_NoText)=some false)(rs_NoFit_NotEnded:PySem.W.subIn K (.ref k_NoFit) (.ref k_NotEnded)=some false)(rga_NoPlace:PySem.W.findIn K (.ref k_NoPlace) "__getattribute__"=some (some (.builtin "BaseException.__getattribute__")))(rgn_NoPlace:PySem.W.findIn K (.ref k_NoPlace) "__getattr__"=some none)(rcl_NoPlace:PySem.W.findIn K (.ref k_NoPlace) "__class__"=some (some (.builtin "object.__class__")))(rbx_NoPlace:PySem.W.subIn K (.ref k_NoPlace) (.type "BaseException")=some true)(rob_NoPlace:PySem.W.subIn K (.ref k_NoPlace) (.type "object")=some true)(rve_NoPlace:PySem.W.subIn K (.ref k_NoPlace) (.type "ValueError")=some true)(rs_NoPlace_Ended:PySem.W.subIn K (.ref k_NoPlace) (.ref k_Ended)=some false)(rs_NoPlace_NoBook:PySem.W.subIn K (.ref k_NoPlace) (.ref k_NoBook)=some false)(rs_NoPlace_NoFit:PySem.W.subIn K (.ref k_NoPlace) (.ref k_NoFit)=some false)(rs_NoPlace_NoPlace:PySem.W.subIn K (.ref k_NoPlace) (.ref k_NoPlace)=some true)(rs_NoPlace_NoSpot:PySem.W.subIn K (.ref k_NoPlace) (.ref k_NoSpot)=some false)(rs_NoPlace_NoText:PySem.W.subIn K (.ref k_NoPlace) (.ref k_NoText)=some false)(rs_NoPlace_NotEnded:PySem.W.subIn K (.ref k_NoPlace) (.ref k_NotEnded)=some false)(ric_Ended:PySem.W.isClsIn K k_Ended=true)(rit_Ended:PySem.W.typeIn K (.ref k_Ended)=some (.type "type"))(ric_NoBook:PySem.W.isClsIn K k_NoBook=true)(rit_NoBook:PySem.W.typeIn K (.ref k_NoBook)=some (.type "type"))(ric_NoFit:PySem.W.isClsIn K k_NoFit=true)(rit_NoFit:PySem.W.typeIn K (.ref k_NoFit)=some (.type "type"))(ric_NoPlace:PySem.W.isClsIn K k_NoPlace=true)(rit_NoPlace:PySem.W.typeIn K (.ref k_NoPlace)=some (.type "type"))(ric_NoSpot:PySem.W.isClsIn K k_NoSpot=true)(rit_NoSpot:PySem.W.typeIn K (.ref k_NoSpot)=some (.type "type"))(ric_NoText:PySem.W.isClsIn K k_NoText=true)(rit_NoText:PySem.W.typeIn K (.ref k_NoText)=some (.type "type"))(ric_NotEnded:PySem.W.isClsIn K k_NotEnded=true)(rit_NotEnded:PySem.W.typeIn K (.ref k_NotEnded)=some (.type "type"))(yNoFit_TagError:PySem.W.exmOne K (.ref k_NoFit) (.ref k_TagError)=some true)(yNoPlace_TagError:PySem.W.exmOne K (.ref k_NoPlace) (.ref k_TagError)=some true)(zValueError:PySem.W.nsIn K mainGlobals "ValueError"=some none)(zany:PySem.W.nsIn K mainGlobals "any"=some none)(zenumerate:PySem.W.nsIn K mainGlobals "enumerate"=some none)(zint:PySem.W.nsIn K mainGlobals "int"=some none)(zisinstance:PySem.W.nsIn K mainGlobals "isinstance"=some none)(zlen:PySem.W.nsIn K mainGlobals "len"=some none)(zlist:PySem.W.nsIn K mainGlobals "list"=some none)(zrange:PySem.W.nsIn K mainGlobals "range"=some none)(zsorted:PySem.W.nsIn K mainGlobals "sorted"=some none)(zstr:PySem.W.nsIn K mainGlobals "str"=some none)(zsum:PySem.W.nsIn K mainGlobals "sum"=some none)(ztuple:PySem.W.nsIn K mainGlobals "tuple"=some none) :
 ∃ fd:FuncData,(∀ (s:Shared) (v:Value),BindsTo s fd ⟨[v],[]⟩ [("_law_script",v)])/\∀ base:Heap,K.In base->base.Ns mainGlobals mg->M5 l.prog w K mg base CX0 13 fa fd ["_law_script"] (wi9 K):=by
 have e:=hfa.symm.trans (PySem.W.mg_of X G a50)
 have e:f50=fa:=by cases e;rfl
 subst e
 obtain⟨_,_,kV,dc,pm,an,cd,ct,_,rfl,_,_⟩:=id F50.ex
 have b0:=F0.binds (ps:=["rows","name"]) fun _ _ _ _ _ _ us hl=>by obtain⟨_,_,rfl⟩:=ln2 hl;rfl
 have b1:=F1.binds (ps:=["book","name"]) fun _ _ _ _ _ _ us hl=>by obtain⟨_,_,rfl⟩:=ln2 hl;rfl
 have b2:=F2.binds (ps:=["book","name"]) fun _ _ _ _ _ _ us hl=>by obtain⟨_,_,rfl⟩:=ln2 hl;rfl
 have b3:=F3.binds (ps:=["book","name"]) fun _ _ _ _ _ _ us hl=>by obtain⟨_,_,rfl⟩:=ln2 hl;rfl
 have b4:=F4.binds (ps:=["book","name"]) fun _ _ _ _ _ _ us hl=>by obtain⟨_,_,rfl⟩:=ln2 hl;rfl
 have b5:=F5.binds (ps:=["part"]) fun _ _ _ _ _ _ us hl=>by obtain⟨_,rfl⟩:=ln1 hl;rfl
 have b6:=F6.binds (ps:=["tree"]) fun _ _ _ _ _ _ us hl=>by obtain⟨_,rfl⟩:=ln1 hl;rfl
 have b7:=F7.binds (ps:=["part"]) fun _ _ _ _ _ _ us hl=>by obtain⟨_,rfl⟩:=ln1 hl;rfl
 have b8:=F8.binds (ps:=["tree","place"]) fun _ _ _ _ _ _ us hl=>by obtain⟨_,_,rfl⟩:=ln2 hl;rfl
 have b9:=F9.binds (ps:=["tree","place"]) fun _ _ _ _ _ _ us hl=>by obtain⟨_,_,rfl⟩:=ln2 hl;rfl
 have b10:=F10.binds (ps:=["tree","place"]) fun _ _ _ _ _ _ us hl=>by obtain⟨_,_,rfl⟩:=ln2 hl;rfl
 have b11:=F11.binds (ps:=["tree"]) fun _ _ _ _ _ _ us hl=>by obtain⟨_,rfl⟩:=ln1 hl;rfl
 have b12:=F12.binds (ps:=["tree"]) fun _ _ _ _ _ _ us hl=>by obtain⟨_,rfl⟩:=ln1 hl;rfl
 have b13:=F13.binds (ps:=["place","part"]) fun _ _ _ _ _ _ us hl=>by obtain⟨_,_,rfl⟩:=ln2 hl;rfl
 have b14:=F14.binds (ps:=["names"]) fun _ _ _ _ _ _ us hl=>by obtain⟨_,rfl⟩:=ln1 hl;rfl
 have b15:=F15.binds (ps:=["book","names"]) fun _ _ _ _ _ _ us hl=>by obtain⟨_,_,rfl⟩:=ln2 hl;rfl
 have b16:=F16.binds (ps:=["book","tree"]) fun _ _ _ _ _ _ us hl=>by obtain⟨_,_,rfl⟩:=ln2 hl;rfl
 have b17:=F17.binds (ps:=["book","tree","place"]) fun _ _ _ _ _ _ us hl=>by obtain⟨_,_,_,rfl⟩:=ln3 hl;rfl
 have b18:=F18.binds (ps:=["tree","place"]) fun _ _ _ _ _ _ us hl=>by obtain⟨_,_,rfl⟩:=ln2 hl;rfl
 have b19:=F19.binds (ps:=["book","names","text","beside"]) fun _ _ _ _ _ _ us hl=>by obtain⟨_,_,_,_,rfl⟩:=ln4 hl;rfl
 have b20:=F20.binds (ps:=["book","names","tree"]) fun _ _ _ _ _ _ us hl=>by obtain⟨_,_,_,rfl⟩:=ln3 hl;rfl
 have b21:=F21.binds (ps:=["book","names","name"]) fun _ _ _ _ _ _ us hl=>by obtain⟨_,_,_,rfl⟩:=ln3 hl;rfl
 have b22:=F22.binds (ps:=["book","names","name"]) fun _ _ _ _ _ _ us hl=>by obtain⟨_,_,_,rfl⟩:=ln3 hl;rfl
 have b23:=F23.binds (ps:=["names","others"]) fun _ _ _ _ _ _ us hl=>by obtain⟨_,_,rfl⟩:=ln2 hl;rfl
 have b24:=F24.binds (ps:=["book","tree","place","bit"]) fun _ _ _ _ _ _ us hl=>by obtain⟨_,_,_,_,rfl⟩:=ln4 hl;rfl
 have b25:=F25.binds (ps:=["book","tree","place"]) fun _ _ _ _ _ _ us hl=>by obtain⟨_,_,_,rfl⟩:=ln3 hl;rfl
 have b26:=F26.binds (ps:=["book","tree","place","stop","name"]) fun _ _ _ _ _ _ us hl=>by obtain⟨_,_,_,_,_,rfl⟩:=ln5 hl;rfl
 have b27:=F27.binds (ps:=["book","tree","place"]) fun _ _ _ _ _ _ us hl=>by obtain⟨_,_,_,rfl⟩:=ln3 hl;rfl
 have b28:=F28.binds (ps:=["tree","place","beyond"]) fun _ _ _ _ _ _ us hl=>by obtain⟨_,_,_,rfl⟩:=ln3 hl;rfl
 have b29:=F29.binds (ps:=["tree","place","parts"]) fun _ _ _ _ _ _ us hl=>by obtain⟨_,_,_,rfl⟩:=ln3 hl;rfl
 have b30:=F30.binds (ps:=["parts"]) fun _ _ _ _ _ _ us hl=>by obtain⟨_,rfl⟩:=ln1 hl;rfl
 have b31:=F31.binds (ps:=["book","tree"]) fun _ _ _ _ _ _ us hl=>by obtain⟨_,_,rfl⟩:=ln2 hl;rfl
 have b32:=F32.binds (ps:=["_law_script","_law_most"]) fun _ _ _ _ _ _ us hl=>by obtain⟨_,_,rfl⟩:=ln2 hl;rfl
 have b33:=F33.binds (ps:=["_law_deck","_law_most"]) fun _ _ _ _ _ _ us hl=>by obtain⟨_,_,rfl⟩:=ln2 hl;rfl
 have b34:=F34.binds (ps:=["_law_code","_law_k"]) fun _ _ _ _ _ _ us hl=>by obtain⟨_,_,rfl⟩:=ln2 hl;rfl
 have b35:=F35.binds (ps:=["_law_deck","_law_count"]) fun _ _ _ _ _ _ us hl=>by obtain⟨_,_,rfl⟩:=ln2 hl;rfl
 have b36:=F36.binds (ps:=["_law_deck","_law_names"]) fun _ _ _ _ _ _ us hl=>by obtain⟨_,_,rfl⟩:=ln2 hl;rfl
 have b37:=F37.binds (ps:=["_law_deck","_law_code","_law_most"]) fun _ _ _ _ _ _ us hl=>by obtain⟨_,_,_,rfl⟩:=ln3 hl;rfl
 have b38:=F38.binds (ps:=["_law_deck"]) fun _ _ _ _ _ _ us hl=>by obtain⟨_,rfl⟩:=ln1 hl;rfl
 have b39:=F39.binds (ps:=["_law_tree"]) fun _ _ _ _ _ _ us hl=>by obtain⟨_,rfl⟩:=ln1 hl;rfl
 have b40:=F40.binds (ps:=["_law_book_here","_law_name_here"]) fun _ _ _ _ _ _ us hl=>by obtain⟨_,_,rfl⟩:=ln2 hl;rfl
 have b41:=F41.binds (ps:=["_law_book_here","_law_names"]) fun _ _ _ _ _ _ us hl=>by obtain⟨_,_,rfl⟩:=ln2 hl;rfl
 have b42:=F42.binds (ps:=["_law_book_here","_law_names","_law_part","_law_ahead"]) fun _ _ _ _ _ _ us hl=>by obtain⟨_,_,_,_,rfl⟩:=ln4 hl;rfl
 have b43:=F43.binds (ps:=["_law_book_here","_law_tree"]) fun _ _ _ _ _ _ us hl=>by obtain⟨_,_,rfl⟩:=ln2 hl;rfl
 have b44:=F44.binds (ps:=["_law_deck","_law_book_here","_law_names","_law_deep"]) fun _ _ _ _ _ _ us hl=>by obtain⟨_,_,_,_,rfl⟩:=ln4 hl;rfl
 have b45:=F45.binds (ps:=["_law_book_here","_law_tree"]) fun _ _ _ _ _ _ us hl=>by obtain⟨_,_,rfl⟩:=ln2 hl;rfl
 have b46:=F46.binds (ps:=["_law_deck","_law_tree"]) fun _ _ _ _ _ _ us hl=>by obtain⟨_,_,rfl⟩:=ln2 hl;rfl
 have b47:=F47.binds (ps:=["_law_way","_law_book_here","_law_tree","_law_place","_law_thing","_law_stop"]) fun _ _ _ _ _ _ us hl=>by obtain⟨_,_,_,_,_,_,rfl⟩:=ln6 hl;rfl
 have b48:=F48.binds (ps:=["_law_way","_law_book_here","_law_tree","_law_place","_law_thing","_law_stop"]) fun _ _ _ _ _ _ us hl=>by obtain⟨_,_,_,_,_,_,rfl⟩:=ln6 hl;rfl
 have b49:=F49.binds (ps:=["_law_deck","_law_book_here"]) fun _ _ _ _ _ _ us hl=>by obtain⟨_,_,rfl⟩:=ln2 hl;rfl
 have b50:=F50.binds (ps:=["_law_script"]) fun _ _ _ _ _ _ us hl=>by obtain⟨_,rfl⟩:=ln1 hl;rfl
 have b51:=F51.binds (ps:=["self","rule","place"]) fun _ _ _ _ _ _ us hl=>by obtain⟨_,_,_,rfl⟩:=ln3 hl;rfl
 let t:Adr:={f_row_of:=⟨f0,d0⟩,f_sort_of:=⟨f1,d1⟩,f_is_wall:=⟨f2,d2⟩,f_host_of:=⟨f3,d3⟩,f_frame_of:=⟨f4,d4⟩,f_is_text:=⟨f5,d5⟩,f_name_of:=⟨f6,d6⟩,f_parts_of:=⟨f7,d7⟩,f_part_at:=⟨f8,d8⟩,f_names_above:=⟨f9,d9⟩,f_way_to:=⟨f10,d10⟩,f_places_in:=⟨f11,d11⟩,f_placed_parts:=⟨f12,d12⟩,f_steps_below:=⟨f13,d13⟩,f_straight_above:=⟨f14,d14⟩,f_near_of:=⟨f15,d15⟩,f_fault_of:=⟨f16,d16⟩,f_fault_at:=⟨f17,d17⟩,f_follows_text:=⟨f18,d18⟩,f_text_fault:=⟨f19,d19⟩,f_tree_fault:=⟨f20,d20⟩,f_frame_fault:=⟨f21,d21⟩,f_near_fault:=⟨f22,d22⟩,f_share_a_name:=⟨f23,d23⟩,f_set_in:=⟨f24,d24⟩,f_taken_out:=⟨f25,d25⟩,f_put_around:=⟨f26,d26⟩,f_lifted:=⟨f27,d27⟩,f_parts_around:=⟨f28,d28⟩,f_with_parts:=⟨f29,d29⟩,f_joined:=⟨f30,d30⟩,f_fitting:=⟨f31,d31⟩,f__law_numbers:=⟨f32,d32⟩,f__law_draw:=⟨f33,d33⟩,f__law_name:=⟨f34,d34⟩,f__law_sorts:=⟨f35,d35⟩,f__law_some:=⟨f36,d36⟩,f__law_book:=⟨f37,d37⟩,f__law_text:=⟨f38,d38⟩,f__law_walk:=⟨f39,d39⟩,f__law_row:=⟨f40,d40⟩,f__law_near:=⟨f41,d41⟩,f__law_fault:=⟨f42,d42⟩,f__law_faults:=⟨f43,d43⟩,f__law_grown:=⟨f44,d44⟩,f__law_first:=⟨f45,d45⟩,f__law_elder:=⟨f46,d46⟩,f__law_asked:=⟨f47,d47⟩,f__law_told:=⟨f48,d48⟩,f__law_bit:=⟨f49,d49⟩,f_law:=⟨f50,PySem.W.fnOf "law" "law" (wb7 xl2) (qo4 xl2) (B5 xl2) .none kV dc pm an cd ct⟩,a_i_NoFit:=f51,d_i_NoFit:=d51,v_NAME:=.int 0 k_NAME,v_SORT:=.int 1 k_SORT,v_HOST:=.int 2 k_HOST,v_SHUTS:=.int 3 k_SHUTS,v_BARS:=.int 4 k_BARS,v_ROOT_NAME:=.str ("":Str) k_ROOT_NAME,v_MOST_ABOVE:=.int 19 k_MOST_ABOVE,c_WALL_SORTS:=c_WALL_SORTS,k_Ended:=k_Ended,k_NoBook:=k_NoBook,k_NoFit:=k_NoFit,k_NoPlace:=k_NoPlace,k_NoSpot:=k_NoSpot,k_NoText:=k_NoText,k_NotEnded:=k_NotEnded,k_TagError:=k_TagError}
 have T:Txt K mg t:=⟨⟨F0,b0,PySem.W.mg_of X G a0⟩,⟨F1,b1,PySem.W.mg_of X G a1⟩,⟨F2,b2,PySem.W.mg_of X G a2⟩,⟨F3,b3,PySem.W.mg_of X G a3⟩,⟨F4,b4,PySem.W.mg_of X G a4⟩,⟨F5,b5,PySem.W.mg_of X G a5⟩,⟨F6,b6,PySem.W.mg_of X G a6⟩,⟨F7,b7,PySem.W.mg_of X G a7⟩,⟨F8,b8,PySem.W.mg_of X G a8⟩,⟨F9,b9,PySem.W.mg_of X G a9⟩,⟨F10,b10,PySem.W.mg_of X G a10⟩,⟨F11,b11,PySem.W.mg_of X G a11⟩,⟨F12,b12,PySem.W.mg_of X G a12⟩,⟨F13,b13,PySem.W.mg_of X G a13⟩,⟨F14,b14,PySem.W.mg_of X G a14⟩,⟨F15,b15,PySem.W.mg_of X G a15⟩,⟨F16,b16,PySem.W.mg_of X G a16⟩,⟨F17,b17,PySem.W.mg_of X G a17⟩,⟨F18,b18,PySem.W.mg_of X G a18⟩,⟨F19,b19,PySem.W.mg_of X G a19⟩,⟨F20,b20,PySem.W.mg_of X G a20⟩,⟨F21,b21,PySem.W.mg_of X G a21⟩,⟨F22,b22,PySem.W.mg_of X G a22⟩,⟨F23,b23,PySem.W.mg_of X G a23⟩,⟨F24,b24,PySem.W.mg_of X G a24⟩,⟨F25,b25,PySem.W.mg_of X G a25⟩,⟨F26,b26,PySem.W.mg_of X G a26⟩,⟨F27,b27,PySem.W.mg_of X G a27⟩,⟨F28,b28,PySem.W.mg_of X G a28⟩,⟨F29,b29,PySem.W.mg_of X G a29⟩,⟨F30,b30,PySem.W.mg_of X G a30⟩,⟨F31,b31,PySem.W.mg_of X G a31⟩,⟨F32,b32,PySem.W.mg_of X G a32⟩,⟨F33,b33,PySem.W.mg_of X G a33⟩,⟨F34,b34,PySem.W.mg_of X G a34⟩,⟨F35,b35,PySem.W.mg_of X G a35⟩,⟨F36,b36,PySem.W.mg_of X G a36⟩,⟨F37,b37,PySem.W.mg_of X G a37⟩,⟨F38,b38,PySem.W.mg_of X G a38⟩,⟨F39,b39,PySem.W.mg_of X G a39⟩,⟨F40,b40,PySem.W.mg_of X G a40⟩,⟨F41,b41,PySem.W.mg_of X G a41⟩,⟨F42,b42,PySem.W.mg_of X G a42⟩,⟨F43,b43,PySem.W.mg_of X G a43⟩,⟨F44,b44,PySem.W.mg_of X G a44⟩,⟨F45,b45,PySem.W.mg_of X G a45⟩,⟨F46,b46,PySem.W.mg_of X G a46⟩,⟨F47,b47,PySem.W.mg_of X G a47⟩,⟨F48,b48,PySem.W.mg_of X G a48⟩,⟨F49,b49,PySem.W.mg_of X G a49⟩,⟨F50,b50,PySem.W.mg_of X G a50⟩,F51,b51,⟨PySem.W.mg_of X G eNoFit,qNoFit,a51,tfNoFit,kpNoFit,bxNoFit,⟨icNoFit,itNoFit⟩⟩,PySem.W.mg_of X G uWALL_SORTS,fun _=>.inr ⟨_,_,_,wWALL_SORTS,rfl,rfl,by rw[sizeLine_eq];show 2<=_;decide,(.cons ⟨_,rfl⟩ (.cons ⟨_,rfl⟩ .nil))⟩,⟨PySem.W.mg_of X G uNAME,⟨_,rfl⟩⟩,⟨PySem.W.mg_of X G uSORT,⟨_,rfl⟩⟩,⟨PySem.W.mg_of X G uHOST,⟨_,rfl⟩⟩,⟨PySem.W.mg_of X G uSHUTS,⟨_,rfl⟩⟩,⟨PySem.W.mg_of X G uBARS,⟨_,rfl⟩⟩,⟨PySem.W.mg_of X G uROOT_NAME,⟨_,rfl⟩⟩,⟨PySem.W.mg_of X G uMOST_ABOVE,⟨_,rfl⟩⟩,PySem.W.mg_none_of X G zValueError,PySem.W.mg_none_of X G zany,PySem.W.mg_none_of X G zenumerate,PySem.W.mg_none_of X G zint,PySem.W.mg_none_of X G zisinstance,PySem.W.mg_none_of X G zlen,PySem.W.mg_none_of X G zlist,PySem.W.mg_none_of X G zrange,PySem.W.mg_none_of X G zsorted,PySem.W.mg_none_of X G zstr,PySem.W.mg_none_of X G zsum,PySem.W.mg_none_of X G ztuple,PySem.W.mg_of X G eEnded,PySem.W.mg_of X G eNoBook,PySem.W.mg_of X G eNoFit,PySem.W.mg_of X G eNoPlace,PySem.W.mg_of X G eNoSpot,PySem.W.mg_of X G eNoText,PySem.W.mg_of X G eNotEnded,PySem.W.mg_of X G eTagError,⟨PySem.W.mg_of X G eNoPlace,xNoPlace⟩,⟨rga_NoFit,rgn_NoFit,rcl_NoFit,rbx_NoFit,rob_NoFit,rve_NoFit,rs_NoFit_Ended,rs_NoFit_NoBook,rs_NoFit_NoFit,rs_NoFit_NoPlace,rs_NoFit_NoSpot,rs_NoFit_NoText,rs_NoFit_NotEnded,rga_NoPlace,rgn_NoPlace,rcl_NoPlace,rbx_NoPlace,rob_NoPlace,rve_NoPlace,rs_NoPlace_Ended,rs_NoPlace_NoBook,rs_NoPlace_NoFit,rs_NoPlace_NoPlace,rs_NoPlace_NoSpot,rs_NoPlace_NoText,rs_NoPlace_NotEnded,ric_Ended,rit_Ended,ric_NoBook,rit_NoBook,ric_NoFit,rit_NoFit,ric_NoPlace,rit_NoPlace,ric_NoSpot,rit_NoSpot,ric_NoText,rit_NoText,ric_NotEnded,rit_NotEnded⟩,yNoFit_TagError,yNoPlace_TagError,⟨qNoFit,saNoFit,hy_ruleNoFit⟩,⟨⟨gaNoFit,gnNoFit,clNoFit,bxNoFit,obNoFit⟩,qNoFit,hy_ruleNoFit⟩,⟨qNoFit,saNoFit,hy_placeNoFit⟩,⟨⟨gaNoFit,gnNoFit,clNoFit,bxNoFit,obNoFit⟩,qNoFit,hy_placeNoFit⟩,⟨PySem.W.mg_of X G eTagError,bgTagError,brTagError,beTagError⟩⟩
 exact⟨_,fun s v=>.of_eq rfl,fun base _ _=>zx1 T⟩
theorem walk{l:PySem.W.OpenLaw}{q:Program}{loose:List Str}{XP:(Str->Option Value)->Heap->Prop}{as:List Addr}{z t:Nat}{d:DefRec}{K:Params->Fg}(hn:l.most=some 63)(hdf:d.params.defaults=[])(hk:∀ P,as=(K P).map (·.1))(h0:0<t) (F:∀ (w:World) (mg:Str->Option Value) (fa:Addr) (h:Heap),(K w.params).In h->h.Ns mainGlobals mg->mg d.name=some (.ref fa) ->
  ∃ fd:FuncData,(∀ (s:Shared) (u:Value),BindsTo s fd ⟨[u],[]⟩ [("_law_script",u)])/\∀ base:Heap,(K w.params).In base->base.Ns mainGlobals mg->M5 l.prog w (K w.params) mg base CX0 13 fa fd ["_law_script"] (wi9 (K w.params))) :
 PySem.W.WalkX q loose XP (PySem.W.X.obsZ as) (PySem.W.X.valZ K z t) l.row.toRowW d [] (fun f vs=>PySem.call f vs) :=
 L2.zf8 (n:=63) (k:=13) (x := "_law_script") (CX:=fun _=>CX0) (sp:=fun w=>wi9 (K w.params)) hn (by decide) hdf ⟨rfl,by decide,by decide,rfl⟩ hk h0 F (fun _ _ a ns hl _ hS=>⟨a,ns,rfl,hS,hl,fun _=>rfl⟩) fun _ _ _ _ _ z=>z
end
end My
open PySem PySem.W PyProof.Rows
local macro_rules | `(tactic| x_go) => `(tactic| (refine' L2.zq8 ?l ?c ?k; (case l => k_is); (case c => k_is); (case k => k_is)))
set_option maxRecDepth 100000 in
set_option maxHeartbeats 0 in
theorem PySem.Challenge.cw_tagmend_k73_there_and_back_holds : PySem.Challenge.rw_tagmend_k73_there_and_back.Holds := by
 w_on;o_law;z_head;(case hw=>w_witness2)
 k_fill
 refine My.walk (l:=PySem.Challenge.rw_tagmend_k73_there_and_back) rfl rfl (fun _=>rfl) (by decide) ?F
 case F =>
  intro w mg fa h KX G hmg
  refine' My.all_mk KX G hmg ?eEnded ?eNoBook ?eNoFit ?eNoPlace ?eNoSpot ?eNoText ?eNotEnded ?eTagError ?a0 ?F0 ?a1 ?F1 ?a2 ?F2 ?a3 ?F3 ?a4 ?F4 ?a5 ?F5 ?a6 ?F6 ?a7 ?F7 ?a8 ?F8 ?a9 ?F9 ?a10 ?F10 ?a11 ?F11 ?a12 ?F12 ?a13 ?F13 ?a14 ?F14 ?a15 ?F15 ?a16 ?F16 ?a17 ?F17 ?a18 ?F18 ?a19 ?F19 ?a20 ?F20 ?a21 ?F21 ?a22 ?F22 ?a23 ?F23 ?a24 ?F24 ?a25 ?F25 ?a26 ?F26 ?a27 ?F27 ?a28 ?F28 ?a29 ?F29 ?a30 ?F30 ?a31 ?F31 ?a32 ?F32 ?a33 ?F33 ?a34 ?F34 ?a35 ?F35 ?a36 ?F36 ?a37 ?F37 ?a38 ?F38 ?a39 ?F39 ?a40 ?F40 ?a41 ?F41 ?a42 ?F42 ?a43 ?F43 ?a44 ?F44 ?a45 ?F45 ?a46 ?F46 ?a47 ?F47 ?a48 ?F48 ?a49 ?F49 ?a50 ?F50 ?a51 ?F51 ?uWALL_SORTS ?wWALL_SORTS ?uNAME ?uSORT ?uHOST ?uSHUTS ?uBARS ?uROOT_NAME ?uMOST_ABOVE ?xNoPlace ?qNoFit ?tfNoFit ?kpNoFit ?bxNoFit ?obNoFit ?icNoFit ?itNoFit ?gaNoFit ?gnNoFit ?clNoFit ?saNoFit ?hy_ruleNoFit ?hy_placeNoFit ?bgTagError ?brTagError ?beTagError ?rga_NoFit ?rgn_NoFit ?rcl_NoFit ?rbx_NoFit ?rob_NoFit ?rve_NoFit ?rs_NoFit_Ended ?rs_NoFit_NoBook ?rs_NoFit_NoFit ?rs_NoFit_NoPlace ?rs_NoFit_NoSpot ?rs_NoFit_NoText ?rs_NoFit_NotEnded ?rga_NoPlace ?rgn_NoPlace ?rcl_NoPlace ?rbx_NoPlace ?rob_NoPlace ?rve_NoPlace ?rs_NoPlace_Ended ?rs_NoPlace_NoBook ?rs_NoPlace_NoFit ?rs_NoPlace_NoPlace ?rs_NoPlace_NoSpot ?rs_NoPlace_NoText ?rs_NoPlace_NotEnded ?ric_Ended ?rit_Ended ?ric_NoBook ?rit_NoBook ?ric_NoFit ?rit_NoFit ?ric_NoPlace ?rit_NoPlace ?ric_NoSpot ?rit_NoSpot ?ric_NoText ?rit_NoText ?ric_NotEnded ?rit_NotEnded ?yNoFit_TagError ?yNoPlace_TagError ?zValueError ?zany ?zenumerate ?zint ?zisinstance ?zlen ?zlist ?zrange ?zsorted ?zstr ?zsum ?ztuple
  (case eEnded=>k_is);(case eNoBook=>k_is);(case eNoFit=>k_is);(case eNoPlace=>k_is)
  (case eNoSpot=>k_is);(case eNoText=>k_is);(case eNotEnded=>k_is);(case eTagError=>k_is)
  (case a0=>k_is);(case F0=>x_go);(case a1=>k_is);(case F1=>x_go)
  (case a2=>k_is);(case F2=>x_go);(case a3=>k_is);(case F3=>x_go)
  (case a4=>k_is);(case F4=>x_go);(case a5=>k_is);(case F5=>x_go)
  (case a6=>k_is);(case F6=>x_go);(case a7=>k_is);(case F7=>x_go)
  (case a8=>k_is);(case F8=>x_go);(case a9=>k_is);(case F9=>x_go)
  (case a10=>k_is);(case F10=>x_go);(case a11=>k_is);(case F11=>x_go)
  (case a12=>k_is);(case F12=>x_go);(case a13=>k_is);(case F13=>x_go)
  (case a14=>k_is);(case F14=>x_go);(case a15=>k_is);(case F15=>x_go)
  (case a16=>k_is);(case F16=>x_go);(case a17=>k_is);(case F17=>x_go)
  (case a18=>k_is);(case F18=>x_go);(case a19=>k_is);(case F19=>x_go)
  (case a20=>k_is);(case F20=>x_go);(case a21=>k_is);(case F21=>x_go)
  (case a22=>k_is);(case F22=>x_go);(case a23=>k_is);(case F23=>x_go)
  (case a24=>k_is);(case F24=>x_go);(case a25=>k_is);(case F25=>x_go)
  (case a26=>k_is);(case F26=>x_go);(case a27=>k_is);(case F27=>x_go)
  (case a28=>k_is);(case F28=>x_go);(case a29=>k_is);(case F29=>x_go)
  (case a30=>k_is);(case F30=>x_go);(case a31=>k_is);(case F31=>x_go)
  (case a32=>k_is);(case F32=>x_go);(case a33=>k_is);(case F33=>x_go)
  (case a34=>k_is);(case F34=>x_go);(case a35=>k_is);(case F35=>x_go)
  (case a36=>k_is);(case F36=>x_go);(case a37=>k_is);(case F37=>x_go)
  (case a38=>k_is);(case F38=>x_go);(case a39=>k_is);(case F39=>x_go)
  (case a40=>k_is);(case F40=>x_go);(case a41=>k_is);(case F41=>x_go)
  (case a42=>k_is);(case F42=>x_go);(case a43=>k_is);(case F43=>x_go)
  (case a44=>k_is);(case F44=>x_go);(case a45=>k_is);(case F45=>x_go)
  (case a46=>k_is);(case F46=>x_go);(case a47=>k_is);(case F47=>x_go)
  (case a48=>k_is);(case F48=>x_go);(case a49=>k_is);(case F49=>x_go)
  (case a50=>k_is);(case F50=>x_go);(case a51=>k_is);(case F51=>x_go)
  (case uWALL_SORTS=>k_is);(case wWALL_SORTS=>k_is);(case uNAME=>k_is);(case uSORT=>k_is)
  (case uHOST=>k_is);(case uSHUTS=>k_is);(case uBARS=>k_is);(case uROOT_NAME=>k_is)
  (case uMOST_ABOVE=>k_is);(case xNoPlace=>k_exc);(case qNoFit=>kernel_rfl);(case tfNoFit=>k_is)
  (case kpNoFit=>k_is);(case bxNoFit=>k_is);(case obNoFit=>k_is);(case icNoFit=>k_is)
  (case itNoFit=>k_is);(case gaNoFit=>k_is);(case gnNoFit=>k_is);(case clNoFit=>k_is)
  (case saNoFit=>k_is);(case hy_ruleNoFit=>k_is);(case hy_placeNoFit=>k_is);(case bgTagError=>k_is)
  (case brTagError=>k_is);(case beTagError=>k_is);(case rga_NoFit=>k_is);(case rgn_NoFit=>k_is)
  (case rcl_NoFit=>k_is);(case rbx_NoFit=>k_is);(case rob_NoFit=>k_is);(case rve_NoFit=>k_is)
  (case rs_NoFit_Ended=>k_is);(case rs_NoFit_NoBook=>k_is);(case rs_NoFit_NoFit=>k_is);(case rs_NoFit_NoPlace=>k_is)
  (case rs_NoFit_NoSpot=>k_is);(case rs_NoFit_NoText=>k_is);(case rs_NoFit_NotEnded=>k_is);(case rga_NoPlace=>k_is)
  (case rgn_NoPlace=>k_is);(case rcl_NoPlace=>k_is);(case rbx_NoPlace=>k_is);(case rob_NoPlace=>k_is)
  (case rve_NoPlace=>k_is);(case rs_NoPlace_Ended=>k_is);(case rs_NoPlace_NoBook=>k_is);(case rs_NoPlace_NoFit=>k_is)
  (case rs_NoPlace_NoPlace=>k_is);(case rs_NoPlace_NoSpot=>k_is);(case rs_NoPlace_NoText=>k_is);(case rs_NoPlace_NotEnded=>k_is)
  (case ric_Ended=>k_is);(case rit_Ended=>k_is);(case ric_NoBook=>k_is);(case rit_NoBook=>k_is)
  (case ric_NoFit=>k_is);(case rit_NoFit=>k_is);(case ric_NoPlace=>k_is);(case rit_NoPlace=>k_is)
  (case ric_NoSpot=>k_is);(case rit_NoSpot=>k_is);(case ric_NoText=>k_is);(case rit_NoText=>k_is)
  (case ric_NotEnded=>k_is);(case rit_NotEnded=>k_is);(case yNoFit_TagError=>kts_exm);(case yNoPlace_TagError=>kts_exm)
  (case zValueError=>k_is);(case zany=>k_is);(case zenumerate=>k_is);(case zint=>k_is)
  (case zisinstance=>k_is);(case zlen=>k_is);(case zlist=>k_is);(case zrange=>k_is)
  (case zsorted=>k_is);(case zstr=>k_is);(case zsum=>k_is);(case ztuple=>k_is)
end
