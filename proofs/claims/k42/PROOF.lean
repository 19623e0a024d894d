import PyProof.Rows.All
import Wide.All
import OpenK.AllK
import Wide.FinOn
import Lean
import PyProof.EqAt
import PyProof.EqKinds
import PyProof.TupleCall
import PyProof.NeData
import PyProof.Rows.StrJoin2
import PyProof.Rows.SortStr
import PyProof.Rows.SortWalk
import KE.KRevIter
import PyProof.Rows.RuleN_isinstance
import PyProof.StrReplace2
import PyProof.StrWalks
import PyProof.Draws
import PyProof.EnumMake
import PyProof.Rows.StrNews2
import PyProof.StrLawsTight
import PyProof.StrLawsReplace
import PyProof.ConsumeWalk
import PyProof.StrLawsFrom
import PyProof.DictValues
import PyProof.Rows.SumAny
import PyProof.SeqI3
import PyProof.NoPylong
import PyProof.Rows.FStrParts
import PyProof.ListRange
import PyProof.ListStr
import PyProof.DictWalks
import PyProof.DictItemsLoops
import PyProof.FactsAll.dict_itemiterator_1
import PyProof.Rows.RegStrFacts
import KE.KDictList
import KE.KDictOf
import PyProof.AttrMissSeq
import PyProof.TupleIter
import PyProof.StrLawsFirst
import PyProof.ReprHeadsTuple
import PyProof.ReprLen
import PyProof.Rows.StrMul
import PySem.Challenge.RW_tagmend_k42_tags_that_shut
set_option Elab.async false
set_option hygiene false
set_option linter.all false
set_option compiler.extract_closed false
set_option genSizeOf false
set_option bootstrap.genMatcherCode false
local macro_rules | `(tactic| omega) => `(tactic| lia)
local macro_rules | `(tactic| walk_at "tk") => `(tactic| first | exact Nat.succ_pos _ | assumption | exact L2.Inv.tk ‹_› | omega)
local macro_rules | `(tactic| z_go) => `(tactic| first | exact Nat.le_of_ble_eq_true rfl | simp)
local macro_rules | `(tactic| walk_at "or") => `(tactic| first | exact .inl rfl | exact .inr rfl)
local macro_rules | `(tactic| walk_at "le") => `(tactic| first | decide | omega)
local macro_rules | `(tactic| walk_at "k") => `(tactic| exact ⟨rfl, rfl, rfl, by decide +kernel, rfl, by decide +kernel, by decide +kernel⟩)
local macro_rules | `(tactic| walk_at "n") => `(tactic| (intro _ _ _ _ zh; repeat (first | (obtain ⟨rfl, _⟩ := zh; rfl) | obtain ⟨_, zh⟩ := zh)))
theorem zAu(a:True:=by rfl)(b:True:=by decide)(c:0<1:=by walk_at "tk")(d:True:=by intro _;rfl)(e:True:=by first|exact .inl rfl|exact .inr rfl|assumption):True:=a
def zAr:Lean.Syntax:=zAu._auto_1
def zAd:Lean.Syntax:=zAu._auto_2
def zAt:Lean.Syntax:=zAu._auto_3
def zAi:Lean.Syntax:=zAu._auto_4
def zAf:Lean.Syntax:=zAu._auto_5
theorem PySem.W.Fast.tw11711589392408208435 : True := ⟨⟩
theorem PySem.W.Fast.tw6917004079697226369 : True := ⟨⟩
theorem PySem.W.Fast.tw8674394721459209492 : True := ⟨⟩
theorem PySem.W.Fast.tw15987488205715673335 : True := ⟨⟩
theorem PySem.W.Fast.tw6014851364760408327 : True := ⟨⟩
theorem PySem.W.Fast.tw7314688019432375440 : True := ⟨⟩
theorem PySem.W.Fast.tw12482271144899641986 : True := ⟨⟩
theorem PySem.W.Fast.tw11059452238855661021 : True := ⟨⟩
theorem PySem.W.Fast.tw3621503893068381243 : True := ⟨⟩
theorem PySem.W.Fast.tw7800862807122157736 : True := ⟨⟩
theorem PySem.W.Fast.tw6894087205471893038 : True := ⟨⟩
theorem PySem.W.Fast.tw5151162382369911405 : True := ⟨⟩
theorem PySem.W.Fast.tw4294058761274664505 : True := ⟨⟩
theorem PySem.W.Fast.tw11914287935363218473 : True := ⟨⟩
theorem PySem.W.Fast.tw4809024045107921957 : True := ⟨⟩
theorem PySem.W.Fast.tw374450332983335524 : True := ⟨⟩
noncomputable section
abbrev Fg:=PySem.W.Frag
set_option maxRecDepth 100000
namespace L2
open PySem PySem.Spec PyProof.Rows
abbrev Key:=Sum Int Str
def xa4:Key->Value->Bool
 | .inl k,v=>Value.isInt k v
 | .inr x,v=>Value.isStrOf x v
def zn0(w:World):Key->Int
 | .inl k=>hashInt k
 | .inr x=>hashStr w x
theorem O8:∀ {k:Key} {v:Value},xa4 k v=true->(∃ i t,k=Sum.inl i/\v=Value.int i t)\/(∃ x t,k=Sum.inr x/\v=Value.str x t)
 | .inl i,v,h=>by
   obtain⟨t,e⟩:=Value.isInt_shape (k:=i) (v:=v) h
   exact .inl ⟨i,t,rfl,e⟩
 | .inr x,v,h=>by
   obtain⟨t,e⟩:=Value.isStrOf_shape (x:=x) (v:=v) h
   exact .inr ⟨x,t,rfl,e⟩
theorem yb5(i:Int)(t:Tok):xa4 (.inl i) (.int i t)=true:=by simp[xa4,Value.isInt]
theorem yb6(x:Str)(t:Tok):xa4 (.inr x) (.str x t)=true:=by simp[xa4,Value.isStrOf]
theorem yz7(a b:Int):decide ((Sum.inl a:Key)=Sum.inl b)=(a == b):=by
 by_cases e:a=b
 ·subst e;simp
 ·have h:¬(Sum.inl a:Key)=Sum.inl b:=fun q=>e (Sum.inl.inj q)
  rw[decide_eq_false h]
  exact(beq_eq_false_iff_ne.mpr e).symm
theorem yz8(a b:Str):decide ((Sum.inr a:Key)=Sum.inr b)=decide (a=b):=by
 by_cases e:a=b
 ·subst e;simp
 ·have h:¬(Sum.inr a:Key)=Sum.inr b:=fun q=>e (Sum.inr.inj q)
  rw[decide_eq_false h,decide_eq_false e]
theorem yz9(a:Int)(b:Str):decide ((Sum.inl a:Key)=Sum.inr b)=false:=decide_eq_false (fun q=>nomatch q)
theorem za0(a:Str)(b:Int):decide ((Sum.inr a:Key)=Sum.inl b)=false:=decide_eq_false (fun q=>nomatch q)
def U2(prog:Program)(w:World):PySem.KeyKind prog w Key where
 is:=xa4
 hash:=zn0 w
 inj:=fun v a b ha hb=>by
  rcases O8 ha with⟨i,t,rfl,rfl⟩|⟨x,t,rfl,rfl⟩
  ·rcases O8 hb with⟨j,u,rfl,e⟩|⟨y,u,rfl,e⟩
   ·injection e with e1 _;rw[e1]
   ·exact nomatch e
  ·rcases O8 hb with⟨j,u,rfl,e⟩|⟨y,u,rfl,e⟩
   ·exact nomatch e
   ·injection e with e1 _;rw[e1]
 byValue:=fun k v h=>by
  rcases O8 h with⟨i,t,rfl,rfl⟩|⟨x,t,rfl,rfl⟩ <;> rfl
 pyHash:=fun hv h=>by
  rcases O8 hv with⟨i,t,rfl,rfl⟩|⟨x,t,rfl,rfl⟩
  ·exact wpAny_pyHash_int h
  ·exact wpAny_pyHash_str h
 eqBool:=fun hu hv h=>by
  rcases O8 hu with⟨i,t,rfl,rfl⟩|⟨x,t,rfl,rfl⟩
  ·rcases O8 hv with⟨j,u,rfl,rfl⟩|⟨y,u,rfl,rfl⟩
   ·rw[yz7] at h;exact wpAny_eqBool_int h
   ·rw[yz9] at h;exact SeqAt.EqAt.int_str i t y u _ _ _ _ h
  ·rcases O8 hv with⟨j,u,rfl,rfl⟩|⟨y,u,rfl,rfl⟩
   ·rw[za0] at h;exact SeqAt.EqAt.str_int x t j u _ _ _ _ h
   ·rw[yz8] at h;exact wpAny_eqBool_str h
 «strs»:=fun k x t v h=>by
  rcases O8 h with⟨i,u,rfl,e⟩|⟨y,u,rfl,e⟩
  ·exact nomatch e
  ·injection e with e1 _
   subst e1
   cases v <;> rfl
theorem xj1(prog:Program)(w:World)(i:Int)(t:Tok):(U2 prog w).is (.inl i) (.int i t)=true:=yb5 i t
theorem xj2(prog:Program)(w:World)(x:Str)(t:Tok):(U2 prog w).is (.inr x) (.str x t)=true:=yb6 x t
inductive V where
 | non|bl (b:Bool)|int (i:Int)|str (x:Str)|byt (b:Array UInt8)|flt (b:UInt64)|ref (a:Addr)|ty (n:String)
 deriving DecidableEq
def E7:V->Value->Prop
 | .non,u=>u=Value.none
 | .bl b,u=>u=Value.bool b
 | .int i,u=>∃ t,u=Value.int i t
 | .str x,u=>∃ t,u=Value.str x t
 | .byt b,u=>∃ t,u=Value.bytes b t
 | .flt b,u=>∃ t,u=Value.float b t
 | .ref a,u=>u=Value.ref a
 | .ty n,u=>u=Value.type n
abbrev D9:List V->List Value->Prop:=Paired E7
variable{us:List Value}{xs:List V}
theorem D9.length(r:D9 xs us):xs.length=us.length:=Paired.length r
theorem D9.get:∀ {xs:List V} {us:List Value} {i:Nat} {x:V},D9 xs us->xs[i]?=some x->∃ u,us[i]?=some u/\E7 x u
 | _,_,_,_,.nil,e=>by simp at e
 | _,_,0,_,.cons r _,e=>by simp at e;subst e;exact⟨_,rfl,r⟩
 | _,_,i+1,x,.cons _ t,e=>by
   obtain⟨u,h1,h2⟩:=D9.get (i:=i) (x:=x) t (by simpa using e)
   exact⟨u,by simpa using h1,h2⟩
theorem D9.set{x:V}{u:Value}(r:E7 x u):∀ {xs:List V} {us:List Value} (i:Nat),D9 xs us->D9 (xs.set i x) (us.set i u)
 | _,_,_,.nil=>.nil
 | _,_,0,.cons _ t=>.cons r t
 | _,_,i+1,.cons q t=>.cons q (D9.set r i t)
theorem D9.append:∀ {xs ys:List V} {us ws:List Value},D9 xs us->D9 ys ws->D9 (xs++ys) (us++ws)
 | _,_,_,_,.nil,s=>s
 | _,_,_,_,.cons r t,s=>.cons r (D9.append t s)
theorem D9.take:∀ {xs:List V} {us:List Value} (n:Nat),D9 xs us->D9 (xs.take n) (us.take n)
 | _,_,0,_=>.nil
 | _,_,_+1,.nil=>.nil
 | _,_,n+1,.cons r t=>.cons r (D9.take n t)
theorem D9.drop:∀ {xs:List V} {us:List Value} (n:Nat),D9 xs us->D9 (xs.drop n) (us.drop n)
 | _,_,0,r=>r
 | _,_,_+1,.nil=>.nil
 | _,_,n+1,.cons _ t=>D9.drop n t
def wf4:Option V->Option Value->Prop
 | some v,some u=>E7 v u
 | none,none=>True
 | _,_=>False
def KV{κ:Type}:List (κ×V)->List (κ×Value)->Prop:=Paired fun(p:κ×V) (q:κ×Value)=>p.1=q.1/\E7 p.2 q.2
def kV:Key->V
 | .inl i=>.int i
 | .inr x=>.str x
set_option genInjectivity false in
inductive HO where
 /-- a list -/
 | lst (xs:List V)
 /-- a tuple (never changes) -/
 | tup (xs:List V)
 /-- a dict whose keys are ints and texts;one whose keys are tuples of ints and texts (the empty one is both) -/
 | dK (kvs:List (Key×V))|dT (kvs:List (List Key×V))
 /-- a set of ints: its members,its size -/
 | set (S:Int->Bool) (n:Nat)
 /-- an instance of the class at C,its dict at dx,its attributes -/
 | ins (C dx:Addr) (fs:List (Str×V))
 /-- the dict of the instance at x -/
 | own (x:Addr)
 /-- the dict of an exception -/
 | xd (fs:List (Str×V))
 /-- a bound method,f of x -/
 | met (f x:Addr)
 /-- a range object lo,lo+1,.. below hi -/
 | rng (lo hi:Int)
 /-- a thing that is known to the object (the script;a dict while a loop walks it): read,never written while it is so -/
 | frz (o:Obj) (u:HO)
 /-- a code object's table -/
 | tbl (ps:Array Value)
 /-- any other thing,by what is true of its one object (a def of one's own: SetO a S n:=HO.ext fun h=>..) -/
 | ext (φ:Heap->Prop)
abbrev Hp:=Addr->Option HO
def upd(H:Hp)(a:Addr)(o:HO):Hp:=fun b=>if b=a then some o else H b
variable{H:Hp}{a:Addr}{o:HO}
theorem A4:upd H a o a=some o:=by unfold upd;rw[if_pos rfl]
variable{b:Addr}
theorem B2(h:b≠a):upd H a o b=H b:=by unfold upd;rw[if_neg h]
theorem zh3{u:HO}(h:H a=some o)(h':H b=some u)(d:o≠u):a≠b:=by
 intro e;subst e;rw[h] at h';exact d (Option.some.inj h')
theorem R4(h:H a=some o)(h':H b=none):a≠b:=by
 intro e;subst e;rw[h] at h';cases h'
section
variable(P:Program)(w:World)
def R3(H:Hp)(h:Heap)(a:Addr):HO->Prop
 | .lst xs=>xs.length<=sizeLine/\∃ (its:List Value) (n:Nat),D9 xs its/\h.get? a=some {cls:=.type "list",data:=.seq its.toArray n}
 | .tup xs=>xs.length<=sizeLine/\∃ its:List Value,D9 xs its/\IsTup h a its.toArray
 | .dK kvs=>kvs.length<=sizeLine/\(a == sysModules)=false/\∃ vs,KV kvs vs/\h.DictOf (U2 P w) a vs
 | .dT kvs=>kvs.length<=sizeLine/\(a == sysModules)=false/\∃ xs:List (List Key×Addr×Value),
  Paired (fun(p:List Key×V) (q:List Key×Addr×Value)=>p.1=q.1/\H q.2.1=some (.tup (p.1.map kV))/\E7 p.2 q.2.2) kvs xs /\
  ∃ o es ep,h.get? a=some o/\o.ExactDict/\o.data=.dict es ep/\es.toList=xs.map (entryOfKey (tupleKind (U2 P w)))/\(xs.map (·.1)).Nodup
 | .set S n=>h.SetOf (intKind P w) a S n
 | .ins C dx fs=>H dx=some (.own a)/\fs.length<=1000/\dx≠a/\h.get? a=some (PySem.W.instObj C dx) /\
  ∃ mA,h.Ns1 dx mA/\(∀ f,wf4 (fs.lookup f) (mA f))/\PySem.Within mA (fs.map (·.1))
 | .own _=>∃ o,h.get? a=some o
 | .xd fs=>∃ mA,h.Ns1 a mA/\∀ f,wf4 (fs.lookup f) (mA f)
 | .rng lo hi=>∃ t u v,h.get? a=some {cls:=.type "range",data:=.fields #[.int lo t,.int hi u,.int 1 v]}
 | .frz o u=>h.get? a=some o/\R3 H h a u
 | .tbl ps=>h.get? a=some {cls:=.none,data:=.fields ps}
 | .met f x=>h.get? a=some (PySem.W.methodObj (.ref f) (.ref x))
 | .ext φ=>φ h/\(∃ o,h.get? a=some o)/\∀ h1 h2:Heap,φ h1->(∀ o,h1.get? a=some o->h2.get? a=some o)->φ h2
def HOk(H:Hp)(h:Heap):Prop:=∀ a o,H a=some o->R3 P w H h a o
end
variable{H':Hp}{P:Program}{h h':Heap}{w:World}
theorem R3.lt(x:R3 P w H h a o):a<h.objs.size:=by
 cases o with
 | lst xs=>obtain⟨_,_,_,_,e⟩:=x;exact Heap.lt_size e
 | tup xs=>obtain⟨_,_,_,p⟩:=x;exact p.lt
 | dK kvs=>obtain⟨_,_,_,_,o,_,_,e,_⟩:=x;exact Heap.lt_size e
 | dT kvs=>obtain⟨_,_,_,_,o,_,_,e,_⟩:=x;exact Heap.lt_size e
 | set S n=>obtain⟨o,_,_,_,e,_⟩:=x;exact Heap.lt_size e
 | ins C dx fs=>obtain⟨_,_,_,e,_⟩:=x;exact Heap.lt_size e
 | own y=>obtain⟨_,e⟩:=x;exact Heap.lt_size e
 | xd fs=>obtain⟨_,⟨_,_,_,e,_⟩,_⟩:=x;exact Heap.lt_size e
 | rng lo hi=>obtain⟨_,_,_,e⟩:=x;exact Heap.lt_size e
 | frz ob u=>obtain⟨e,_⟩:=x;exact Heap.lt_size e
 | tbl ps=>exact Heap.lt_size (show h.get? a=some _ from x)
 | met f y=>exact Heap.lt_size (show h.get? a=some _ from x)
 | ext φ=>obtain⟨_,⟨_,e⟩,_⟩:=x;exact Heap.lt_size e
theorem Paired.mapP{α β:Type}{F G:α->β->Prop}:∀ {l₁:List α} {l₂:List β},Paired F l₁ l₂->(∀ a b,F a b->G a b)->Paired G l₁ l₂
 | _,_,.nil,_=>.nil
 | _,_,.cons r t,f=>.cons (f _ _ r) (Paired.mapP t f)
theorem R3.stay(x:R3 P w H h a o)(k:∀ b u,(b=a\/H b=some (.own a))->h.get? b=some u->h'.get? b=some u)(ho:∀ b,H b=some (.own a)->H' b=some (.own a))(ht:∀ b xs,H b=some (.tup xs)->H' b=some (.tup xs)):R3 P w H' h' a o:=by
 induction o with
 | lst xs=>obtain⟨z,its,n,r,e⟩:=x;exact⟨z,its,n,r,k _ _ (.inl rfl) e⟩
 | tup xs=>obtain⟨z,its,r,ob,e,c⟩:=x;exact⟨z,its,r,ob,k _ _ (.inl rfl) e,c⟩
 | dK kvs=>obtain⟨z,y,vs,r,ob,es,ep,e,c⟩:=x;exact⟨z,y,vs,r,ob,es,ep,k _ _ (.inl rfl) e,c⟩
 | dT kvs =>
   obtain⟨z,y,xs,r,ob,es,ep,e,c⟩:=x
   exact⟨z,y,xs,Paired.mapP r fun p q z=>⟨z.1,ht _ _ z.2.1,z.2.2⟩,ob,es,ep,k _ _ (.inl rfl) e,c⟩
 | set S n=>obtain⟨ob,es,ep,t,e,c⟩:=x;exact⟨ob,es,ep,t,k _ _ (.inl rfl) e,c⟩
 | ins C dx fs =>
   obtain⟨d,z,ne,e,mA,⟨od,es,ep,e2,c⟩,r⟩:=x
   exact⟨ho _ d,z,ne,k _ _ (.inl rfl) e,mA,⟨od,es,ep,k _ _ (.inr d) e2,c⟩,r⟩
 | own y=>obtain⟨ob,e⟩:=x;exact⟨ob,k _ _ (.inl rfl) e⟩
 | xd fs=>obtain⟨mA,⟨od,es,ep,e,c⟩,r⟩:=x;exact⟨mA,⟨od,es,ep,k _ _ (.inl rfl) e,c⟩,r⟩
 | rng lo hi=>obtain⟨t,u,v,e⟩:=x;exact⟨t,u,v,k _ _ (.inl rfl) e⟩
 | frz ob u ih=>obtain⟨e,q⟩:=x;exact⟨k _ _ (.inl rfl) e,ih q⟩
 | tbl ps =>
   have e:h.get? a=some {cls:=.none,data:=.fields ps}:=x
   show h'.get? a=some {cls:=.none,data:=.fields ps}
   exact k a _ (.inl rfl) e
 | met f y =>
   have e:h.get? a=some (PySem.W.methodObj (.ref f) (.ref y)):=x
   show h'.get? a=some (PySem.W.methodObj (.ref f) (.ref y))
   exact k a _ (.inl rfl) e
 | ext φ=>obtain⟨p,⟨o,e⟩,st⟩:=x;exact⟨st _ _ p fun o q=>k _ _ (.inl rfl) q,⟨o,k _ _ (.inl rfl) e⟩,st⟩
theorem HOk.lt(x:HOk P w H h)(e:H a=some o):a<h.objs.size:=(x a o e).lt
theorem HOk.fresh(x:HOk P w H h)(e:h.objs.size<=a):H a=none:=by
 cases q:H a with
 | none=>rfl
 | some u=>exact absurd (Nat.lt_of_lt_of_le (x.lt q) e) (Nat.lt_irrefl _)
theorem HOk.kept(x:HOk P w H h)(k:∀ b u,h.get? b=some u->h'.get? b=some u):HOk P w H h':=fun a o e =>
 (x a o e).stay (fun b u _ q=>k b u q) (fun _ q=>q) fun _ _ q=>q
theorem HOk.laid(x:HOk P w H h)(k:∀ b u,h.get? b=some u->h'.get? b=some u)(hp:h.objs.size<=a)(new:R3 P w (upd H a o) h' a o):HOk P w (upd H a o) h':=fun b u e=>by
 have hn:=x.fresh hp
 by_cases hb:b=a
 ·subst hb;rw[A4] at e;cases e;exact new
 ·rw[B2 hb] at e
  exact(x b u e).stay (fun c v _ q=>k c v q) (fun c q=>by rw[B2 (R4 q hn)];exact q) fun c xs q=>by rw[B2 (R4 q hn)];exact q
def Rd(H:Hp)(a:Addr)(u:HO):Prop:=H a=some u\/∃ o,H a=some (.frz o u)
theorem Rd.ok{u:HO}(r:Rd H a u)(x:HOk P w H h):R3 P w H h a u:=by
 rcases r with r|⟨o,r⟩
 ·exact x a u r
 ·obtain⟨_,q⟩:=x a _ r
  exact q
def Mut:Option HO->Prop
 | some (.lst _)=>True
 | some (.dK _)=>True
 | some (.dT _)=>True
 | some (.set _ _)=>True
 | some (.ins _ _ _)=>True
 | some (.ext _)=>True
 | some (.xd _)=>True
 | _=>False
section
variable{x e:Addr}{o':HO}
theorem HOk.write(ok:HOk P w H h)(mu:Mut (H x))(he:e=x\/H e=some (.own x))(k:∀ b u,b≠e->h.get? b=some u->h'.get? b=some u)(heo:∃ u,h'.get? e=some u)(new:R3 P w (upd H x o') h' x o'):HOk P w (upd H x o') h':=fun b u q=>by
 have nown:∀ c y,H c=some (.own y)->c≠x:=fun c y r z=>by subst z;rw[r] at mu;exact mu
 have ntup:∀ c xs,H c=some (.tup xs)->c≠x:=fun c xs r z=>by subst z;rw[r] at mu;exact mu
 by_cases hb:b=x
 ·subst hb;rw[A4] at q;cases q;exact new
 ·rw[B2 hb] at q
  by_cases hbe:b=e
  ·have q':H b=some (.own x):=by
    rcases he with z|z
    ·exact absurd (hbe.trans z) hb
    ·rw[hbe];exact z
   rw[q] at q';cases q'
   obtain⟨v,hv⟩:=heo
   exact⟨v,by rw[hbe];exact hv⟩
  ·refine(ok b u q).stay (fun c v hc r=>k c v ?_ r) (fun c r=>by rw[B2 (nown c b r)];exact r) fun c xs r=>by rw[B2 (ntup c xs r)];exact r
   rcases hc with rfl|hc
   ·exact hbe
   ·rintro rfl
    rcases he with z|z
    ·exact nown c b hc z
    ·rw[hc] at z;cases z;exact hb rfl
end
structure Un(fs ex:List Addr)(H H':Hp)(h h':Heap):Prop where
 keep:∀ b o,h.get? b=some o->H b=none->b∉fs->b∉ex->h'.get? b=some o
 slot:∀ b o,h.get? b=some o->H b=none->b∈fs->b∉ex->∃ sl,h'.get? b=some {o with slots:=sl}
 free:∀ b o,h.get? b=some o->H b=none->b∉ex->H' b=none
 there:∀ b o,h.get? b=some o->b∉ex->∃ o',h'.get? b=some o'
 tups:∀ b xs,H b=some (.tup xs)->H' b=some (.tup xs)
 frzs:∀ b o u,H b=some (.frz o u)->H' b=some (.frz o u)
 tbls:∀ b ps,H b=some (.tbl ps)->∃ more,H' b=some (.tbl (ps++more))
variable{H1 H2:Hp}
section
variable{fs fs' ex ex':List Addr}{h1 h2:Heap}{x e:Addr}
theorem Un.any(u:Un fs ex H H1 h h1){ob:Obj}(q:h.get? b=some ob)(n:H b=none)(hx:b∉ex):∃ sl,h1.get? b=some {ob with slots:=sl}:=by
 by_cases hb:b∈fs
 ·exact u.slot b ob q n hb hx
 ·exact⟨ob.slots,u.keep b ob q n hb hx⟩
theorem Un.kept(k:∀ b u,h.get? b=some u->h'.get? b=some u):Un fs ex H H h h' :=
 ⟨fun b ob q _ _ _=>k b ob q,fun b ob q _ _ _=>⟨ob.slots,k b ob q⟩,fun _ _ _ n _=>n,fun b ob q _=>⟨ob,k b ob q⟩,fun _ _ q=>q,fun _ _ _ q=>q,fun _ ps q=>⟨#[],by rw[q];simp⟩⟩
theorem Un.refl:Un fs ex H H h h:=Un.kept fun _ _ q=>q
theorem Un.laid(k:∀ b u,h.get? b=some u->h'.get? b=some u)(hp:h.objs.size<=a)(hn:H a=none):Un fs ex H (upd H a o) h h' where
 keep:=fun b u q _ _ _=>k b u q
 slot:=fun b u q _ _ _=>⟨u.slots,k b u q⟩
 free:=fun b u q n _=>by rw[B2 (Nat.ne_of_lt (Nat.lt_of_lt_of_le (Heap.lt_size q) hp))];exact n
 there:=fun b u q _=>⟨u,k b u q⟩
 tups:=fun b xs q=>by rw[B2 (R4 q hn)];exact q
 frzs:=fun b u xs q=>by rw[B2 (R4 q hn)];exact q
 tbls:=fun b ps q=>⟨#[],by rw[B2 (R4 q hn),q];simp⟩
theorem Un.write(mu:Mut (H x))(he:e=x\/H e=some (.own x))(k:∀ b u,b≠e->h.get? b=some u->h'.get? b=some u)(heo:∃ u,h'.get? e=some u):Un fs ex H (upd H x o) h h':=by
 have hx:∀ b,H b=none->b≠x:=fun b n z=>by subst z;rw[n] at mu;exact mu
 have hb:∀ b,H b=none->b≠e:=fun b n z=>by
  subst z
  rcases he with r|r
  ·exact hx b n r
  ·rw[n] at r;cases r
 have hm:∀ b u,H b=some u->¬Mut (some u)->b≠x:=fun b u q nm z=>by subst z;rw[q] at mu;exact nm mu
 refine⟨fun b u q n _ _=>k b u (hb b n) q,fun b u q n _ _=>⟨u.slots,k b u (hb b n) q⟩,fun b u q n _=>by rw[B2 (hx b n)];exact n,fun b u q _=>?_,
  fun b xs q=>by rw[B2 (hm b _ q fun z=>z)];exact q,fun b u xs q=>by rw[B2 (hm b _ q fun z=>z)];exact q,fun b ps q=>⟨#[],by rw[B2 (hm b _ q fun z=>z),q];simp⟩⟩
 by_cases hbe:b=e
 ·subst hbe;exact heo
 ·exact⟨u,k b u hbe q⟩
end
def trk(h:Heap)(H:Hp):List Addr:=(List.range h.objs.size).filter fun a=>(H a).isSome
def xd7(h:Heap)(H:Hp):Heap:=PySem.W.hideAll h (trk h H)
theorem yb7(h:Heap)(H:Hp):(xd7 h H).objs.size=h.objs.size:=PySem.W.hideAll_size _ _
theorem yg2{o:Obj}(e:h.get? b=some o)(n:H b=none):(xd7 h H).get? b=some o :=
 PySem.W.hideAll_get _ e fun hm=>by
  have q:(H b).isSome=true:=(List.mem_filter.mp hm).2
  rw[n] at q;simp at q
theorem yq7{o:Obj}(e:(xd7 h H).get? b=some o):h.get? b=some o/\H b=none:=by
 have e':h.get? b=some o:=PySem.W.of_hideAll (trk h H) e
 refine⟨e',?_⟩
 cases q:H b with
 | none=>rfl
 | some x =>
   have hm:b∈trk h H:=List.mem_filter.mpr ⟨List.mem_range.mpr (Heap.lt_size e'),by simp[q]⟩
   have z:(xd7 h H).get? b=none:=PySem.W.hideAll_none (trk h H) hm
   rw[z] at e;cases e
structure Mod(K:Fg)(mg:Str->Option Value)(base:Heap):Prop where
 kin:K.In base
 glob:base.Ns mainGlobals mg
 blt:∃ mb,base.Ns builtinsNs mb/\∀ x:Str,x ≠ "__name__"->mb x=bootBuiltins x
 nolimit:base.NoLimit
set_option genInjectivity false in
structure Cx where
 prog:Program
 w:World
 K:Fg
 mg:Str->Option Value
 base:Heap
 A:Around
 N:List Str
 s₀:Shared
 H₀:Hp
 env:Env
 outer:List Env
 stack:List Env
 ex:List Addr
 fn:Str->Bool
 calm:Bool
 pn:List (Addr×Obj)
 xe:Value->Shared->Prop
def frs(l:List Env):List Addr:=l.filterMap (·.frame)
abbrev Cx.fs(X:Cx):List Addr:=frs X.outer
def Vis(sc:Scope)(x:Str):Prop:=sc.names.lookup x=some .local\/sc.names.lookup x=some .cell\/sc.names.lookup x=some .free
def Loc(sc:Scope)(x:Str):Prop:=sc.names.lookup x=some .local\/sc.names.lookup x=some .cell
def zn1(env:Env)(h:Heap)(m:Str->Option Value)(x:Str)(u:Value):Prop :=
 (env.kindOf x=some .local/\m x=some u)\/((env.kindOf x=some .cell\/env.kindOf x=some .free)/\∃ c,env.cells.lookup x=some c/\h.IsCell c (some u))
structure Cx.Ok(X:Cx):Prop where
 mod:Mod X.K X.mg X.base
 kind:X.env.scope.kind=.function
 glob:X.env.globals=mainGlobals
 blt:X.env.builtins=builtinsNs
 above:X.s₀.heap.objs.size<=X.env.locals
 inj:∀ x y c,X.env.cells.lookup x=some c->X.env.cells.lookup y=some c->x=y
 has:∀ x,(X.env.kindOf x=some .cell\/X.env.kindOf x=some .free)->∃ c,X.env.cells.lookup x=some c
 cab:∀ x c,X.fn x=true->X.env.cells.lookup x=some c->X.s₀.heap.objs.size<=c
 hd:X.calm=true->X.A.handled=none
 frames:X.A.frames=some X.stack
 stk:X.stack=X.outer\/(X.stack=X.env::X.outer/\X.env.frame=some X.env.locals)
 exf:∀ b∈X.ex,b≠X.env.locals/\∀ x c,X.env.cells.lookup x=some c->c≠b
 bs:∀ b o,X.base.get? b=some o->X.s₀.heap.get? b=some o/\X.H₀ b=none
 bsz:X.base.objs.size<=X.s₀.heap.objs.size
 noex:∀ b o,X.base.get? b=some o->b∉X.ex
 exfs:∀ b∈X.ex,b∉X.fs
 funs:X.s₀.heap.FunFrames X.base X.outer
 frf:∀ b∈X.fs,X.H₀ b=none
structure Inv(X:Cx)(pins:List (Addr×Obj))(σ:List (Option V))(H:Hp)(s:Shared):Prop where
 ok:X.Ok
 os:s.os=X.s₀.os
 bare:AllBare s.gens
 base:Un X.fs X.ex X.H₀ H X.s₀.heap s.heap
 loc:∃ m,s.heap.Ns X.env.locals m/\∀ (i:Nat) (x:Str) (v:V),X.N[i]?=some x->σ[i]?=some (some v)->Vis X.env.scope x->∃ u,E7 v u/\zn1 X.env s.heap m x u
 cell:∀ x c,X.env.cells.lookup x=some c->∃ v,s.heap.IsCell c v
 free:H X.env.locals=none
 freeC:∀ x c,X.env.cells.lookup x=some c->H c=none
 pin:∀ p∈X.pn++pins,s.heap.get? p.1=some p.2/\H p.1=none/\p.1≠X.env.locals/\p.1∉X.fs/\∀ v,p.2.data≠.cell v
 hok:HOk X.prog X.w H s.heap
 len:σ.length=X.N.length
 tk:0<s.toks
variable{X:Cx}{pins:List (Addr×Obj)}{s:Shared}{d':Drawn}{g':Array GenState}{t':Nat}{it:Addr}{N:List Str}{x:Str}{A:Around}{E:Value->Shared->Prop}{M:Model}{u:Value}{v:V}
section
variable{σ:List (Option V)}
theorem Cx.Ok.nofr(ok:X.Ok){o:Obj}(e:X.base.get? b=some o):b∉X.fs:=fun hb=>by
 have:=(ok.funs.mem hb).1
 rw[e] at this;cases this
theorem Inv.bs(I:Inv X pins σ H s):∀ b o,X.base.get? b=some o->s.heap.get? b=some o/\H b=none:=fun b o e =>
 ⟨I.base.keep b o (I.ok.bs b o e).1 (I.ok.bs b o e).2 (I.ok.nofr e) (I.ok.noex b o e),I.base.free b o (I.ok.bs b o e).1 (I.ok.bs b o e).2 (I.ok.noex b o e)⟩
theorem Inv.bk(I:Inv X pins σ H s):∀ b o,X.base.get? b=some o->s.heap.get? b=some o:=fun b o e=>(I.bs b o e).1
theorem Inv.mod(I:Inv X pins σ H s):Mod X.K X.mg X.base:=I.ok.mod
theorem Inv.kIn(I:Inv X pins σ H s):X.K.In s.heap:=I.ok.mod.kin.keeps I.bk
theorem Inv.lt(I:Inv X pins σ H s):X.env.locals<s.heap.objs.size:=let ⟨_,hn,_⟩:=I.loc;hn.lt
theorem Inv.sz(I:Inv X pins σ H s):X.s₀.heap.objs.size<=s.heap.objs.size:=Nat.le_trans I.ok.above (Nat.le_of_lt I.lt)
theorem Inv.nofs(I:Inv X pins σ H s)(h:s.heap.objs.size<=a):a∉X.fs:=fun hb=>by
 obtain⟨_,o,ho,_⟩:=I.ok.funs.mem hb
 exact absurd (Nat.lt_of_lt_of_le (Heap.lt_size ho) (Nat.le_trans I.sz h)) (Nat.lt_irrefl _)
theorem Inv.cne(I:Inv X pins σ H s):∀ x c,X.env.cells.lookup x=some c->c≠X.env.locals:=fun x c e z=>by
 obtain⟨v,o,ho,hd⟩:=I.cell x c e
 obtain⟨m,⟨o',es,ep,ho',hd',_⟩,_⟩:=I.loc
 rw[z,ho'] at ho;cases ho;rw[hd'] at hd;cases hd
theorem Inv.funs(I:Inv X pins σ H s):s.heap.FunFrames X.base X.outer:=by
 have all:∀ (l:List Env),(∀ b∈frs l,b∈X.fs)->X.s₀.heap.FunFrames X.base l->s.heap.FunFrames X.base l:=by
  intro l
  induction l with
  | nil=>intro _ _;trivial
  | cons env r ih =>
    intro hs hl
    obtain⟨hk,⟨L,o,hf,hn,ho,hd⟩,hr⟩:=hl
    have hL:L∈X.fs:=hs L (by unfold frs;rw[List.filterMap_cons,hf];exact List.mem_cons_self)
    obtain⟨sl,e⟩:=I.base.slot L o ho (I.ok.frf L hL) hL fun z=>I.ok.exfs L z hL
    exact⟨hk,⟨L,_,hf,hn,e,hd⟩,ih (fun b hb=>hs b (by unfold frs;rw[List.filterMap_cons,hf];exact List.mem_cons_of_mem _ hb)) hr⟩
 exact all X.outer (fun _ hb=>hb) I.ok.funs
theorem Inv.stack(I:Inv X pins σ H s):s.heap.FunFrames X.base X.stack:=by
 rcases I.ok.stk with e|⟨e,hf⟩
 ·rw[e];exact I.funs
 ·rw[e]
  obtain⟨m,hn,_⟩:=I.loc
  refine .cons (by rw[I.ok.kind];decide) hf hn ?_ I.funs
  exact Heap.get?_none_of_le (Nat.le_trans I.ok.bsz I.ok.above)
theorem Inv.stkSub(I:Inv X pins σ H s):∀ b∈frs X.stack,b∈X.env.locals::X.fs:=fun b hb=>by
 rcases I.ok.stk with e|⟨e,hf⟩
 ·rw[e] at hb;exact List.mem_cons_of_mem _ hb
 ·rw[e] at hb
  unfold frs at hb
  rw[List.filterMap_cons,hf] at hb
  exact hb
theorem Inv.stkFree(I:Inv X pins σ H s):∀ b∈frs X.stack,H b=none:=fun b hb=>by
 rcases List.mem_cons.mp (I.stkSub b hb) with e|hb
 ·rw[e];exact I.free
 ·obtain⟨_,o,ho,_⟩:=I.ok.funs.mem hb
  exact I.base.free b o ho (I.ok.frf b hb) fun z=>I.ok.exfs b z hb
theorem Inv.step{ch:List Addr}(I:Inv X pins σ H s)(hch:∀ b∈ch,(b∈X.ex\/X.s₀.heap.objs.size<=b)/\b≠X.env.locals/\(∀ x c,X.env.cells.lookup x=some c->c≠b)/\∀ p∈X.pn++pins,p.1≠b)(keep:∀ b o,b≠X.env.locals->b∉X.fs->b∉ch->s.heap.get? b=some o->H b=none->h'.get? b=some o)(slot:∀ b o,b≠X.env.locals->b∈X.fs->b∉ch->s.heap.get? b=some o->H b=none->∃ sl,h'.get? b=some {o with slots:=sl})(free:∀ b o,b∉ch->s.heap.get? b=some o->H b=none->H' b=none)(there:∀ b o,b∉ch->s.heap.get? b=some o->∃ o',h'.get? b=some o')(tups:∀ b xs,H b=some (.tup xs)->H' b=some (.tup xs))(frzs:∀ b o u,H b=some (.frz o u)->H' b=some (.frz o u))(tbls:∀ b ps,H b=some (.tbl ps)->∃ more,H' b=some (.tbl (ps++more)))(ns:∀ m,s.heap.Ns X.env.locals m->h'.Ns X.env.locals m)(hok:HOk X.prog X.w H' h')(hg:AllBare g')(ht:autoParam (0<t') zAt) :
 Inv X pins σ H' {s with heap:=h',gens:=g',drawn:=d',toks:=t'}:=by
 have neL:∀ b o,X.s₀.heap.get? b=some o->b≠X.env.locals:=fun b o e=>Nat.ne_of_lt (Nat.lt_of_lt_of_le (Heap.lt_size e) I.ok.above)
 have neC:∀ b o,X.s₀.heap.get? b=some o->b∉X.ex->b∉ch:=fun b o e hx hb=>by
  rcases(hch b hb).1 with z|z
  ·exact hx z
  ·exact absurd (Nat.lt_of_lt_of_le (Heap.lt_size e) z) (Nat.lt_irrefl _)
 have cellK:∀ x c,X.env.cells.lookup x=some c->∀ v,s.heap.IsCell c v->h'.IsCell c v:=fun x c e v ⟨o,ho,hd⟩=>by
  have nch:c∉ch:=fun z=>(hch c z).2.2.1 x c e rfl
  by_cases hc:c∈X.fs
  ·obtain⟨sl,q⟩:=slot c o (I.cne x c e) hc nch ho (I.freeC x c e)
   exact⟨_,q,hd⟩
  ·exact⟨o,keep c o (I.cne x c e) hc nch ho (I.freeC x c e),hd⟩
 refine⟨I.ok,I.os,hg,⟨fun b o e n hb hx=>?_,fun b o e n hb hx=>?_,fun b o e n hx=>?_,fun b o e hx=>?_,fun b xs e=>tups b xs (I.base.tups b xs e),fun b o xs e=>frzs b o xs (I.base.frzs b o xs e),fun b ps e=>?_⟩,?_,fun x c e=>?_,?_,fun x c e=>?_,fun p hp=>?_,hok,I.len,ht⟩
 ·exact keep b o (neL b o e) hb (neC b o e hx) (I.base.keep b o e n hb hx) (I.base.free b o e n hx)
 ·obtain⟨sl,e1⟩:=I.base.slot b o e n hb hx
  obtain⟨sl',e2⟩:=slot b _ (neL b o e) hb (neC b o e hx) e1 (I.base.free b o e n hx)
  exact⟨sl',e2⟩
 ·obtain⟨o',e1⟩:=I.base.there b o e hx
  exact free b o' (neC b o e hx) e1 (I.base.free b o e n hx)
 ·obtain⟨o',e1⟩:=I.base.there b o e hx
  exact there b o' (neC b o e hx) e1
 ·obtain⟨m1,e1⟩:=I.base.tbls b ps e
  obtain⟨m2,e2⟩:=tbls b _ e1
  exact⟨m1++m2,by rw[e2,Array.append_assoc]⟩
 ·obtain⟨m,hn,hl⟩:=I.loc
  refine⟨m,ns m hn,fun i x v e1 e2 e3=>?_⟩
  obtain⟨u,r,l⟩:=hl i x v e1 e2 e3
  refine⟨u,r,?_⟩
  rcases l with l|⟨k,c,e,z⟩
  ·exact .inl l
  ·exact .inr ⟨k,c,e,cellK x c e _ z⟩
 ·obtain⟨v,z⟩:=I.cell x c e
  exact⟨v,cellK x c e v z⟩
 ·obtain⟨m,⟨o,_,_,ho,_⟩,_⟩:=I.loc
  exact free _ o (fun z=>(hch _ z).2.1 rfl) ho I.free
 ·obtain⟨v,o,ho,hd⟩:=I.cell x c e
  exact free c o (fun z=>(hch c z).2.2.1 x c e rfl) ho (I.freeC x c e)
 ·obtain⟨e,n,ne,nf,d⟩:=I.pin p hp
  have nch:p.1∉ch:=fun z=>(hch p.1 z).2.2.2 p hp rfl
  exact⟨keep p.1 p.2 ne nf nch e n,free p.1 p.2 nch e n,ne,nf,d⟩
theorem Inv.un(I:Inv X pins σ H s)(u:Un X.fs [] H H' s.heap h')(hok:HOk X.prog X.w H' h')(ht:autoParam (0<t') zAt):Inv X pins σ H' {s with heap:=h',toks:=t'}:=by
 obtain⟨m,⟨o,es,ep,ho,r⟩,_⟩:=id I.loc
 obtain⟨sl,hL⟩:=u.any ho I.free (by simp)
 exact I.step (g':=s.gens) (d':=s.drawn) (ch:=[]) (fun _ z=>nomatch z) (fun b o _ hb _ e n=>u.keep b o e n hb (by simp)) (fun b o _ hb _ e n=>u.slot b o e n hb (by simp)) (fun b o _ e n=>u.free b o e n (by simp)) (fun b o _ e=>u.there b o e (by simp)) u.tups u.frzs u.tbls (fun m' hm=>by
  obtain⟨o',es',ep',ho',r'⟩:=hm
  rw[ho] at ho';cases ho'
  exact⟨_,es',ep',hL,r'⟩) hok I.bare
theorem Inv.call{ch:List Addr}(I:Inv X pins σ H s)(u:Un (frs X.stack) ch H H' s.heap h')(hok:HOk X.prog X.w H' h')(hg:AllBare g')(hch:∀ b∈ch,(b∈X.ex\/X.s₀.heap.objs.size<=b)/\b≠X.env.locals/\(∀ x c,X.env.cells.lookup x=some c->c≠b)/\∀ p∈X.pn++pins,p.1≠b)(ht:autoParam (0<t') zAt) :
 Inv X pins σ H' {s with heap:=h',gens:=g',drawn:=d',toks:=t'}:=by
 obtain⟨m,⟨o,es,ep,ho,r⟩,_⟩:=id I.loc
 obtain⟨sl,hL⟩:=u.any ho I.free fun z=>(hch _ z).2.1 rfl
 exact I.step (ch:=ch) hch (fun b o hL hb hc e n=>u.keep b o e n (fun z=>(List.mem_cons.mp (I.stkSub b z)).elim hL hb) hc) (fun b o _ _ hc e n=>u.any e n hc) (fun b o hc e n=>u.free b o e n hc) (fun b o hc e=>u.there b o e hc) u.tups u.frzs u.tbls (fun m' hm=>by
  obtain⟨o',es',ep',ho',r'⟩:=hm
  rw[ho] at ho';cases ho'
  exact⟨_,es',ep',hL,r'⟩) hok hg
theorem Inv.turned(I:Inv X pins σ H s)(k:∀ b o,b≠it->s.heap.get? b=some o->h'.get? b=some o)(hn:H it=none)(hL:it≠X.env.locals)(h1:it∈X.ex\/X.s₀.heap.objs.size<=it)(h2:∀ x c,X.env.cells.lookup x=some c->c≠it)(h3:∀ p∈X.pn++pins,p.1≠it)(ht:autoParam (0<t') zAt):Inv X pins σ H {s with heap:=h',toks:=t'}:=by
 have nit:∀ b u,H b=some u->b≠it:=fun b u e z=>by rw[z,hn] at e;cases e
 refine I.step (g':=s.gens) (d':=s.drawn) (ch:=[it]) (fun b hb=>?_) (fun b o _ _ hc e _=>k b o (fun z=>hc (by simp[z])) e) (fun b o _ _ hc e _=>⟨o.slots,k b o (fun z=>hc (by simp[z])) e⟩) (fun _ _ _ _ n=>n)
  (fun b o hc e=>⟨o,k b o (fun z=>hc (by simp[z])) e⟩) (fun _ _ e=>e) (fun _ _ _ e=>e) (fun b ps e=>⟨#[],by rw[e];simp⟩) (fun m hm=>?_) (fun b u e=>?_) I.bare
 ·have e:b=it:=by simpa using hb
  subst e
  exact⟨h1,hL,h2,h3⟩
 ·obtain⟨o,es,ep,ho,r⟩:=hm
  exact⟨o,es,ep,k _ o (Ne.symm hL) ho,r⟩
 ·refine(I.hok b u e).stay (fun c v hc q=>k c v ?_ q) (fun _ q=>q) fun _ _ q=>q
  rcases hc with z|z
  ·rw[z];exact nit b u e
  ·exact nit c _ z
theorem Inv.tok(I:Inv X pins σ H s)(t':Nat)(ht:autoParam (0<t') zAt):Inv X pins σ H {s with toks:=t'}:=I.un (h':=s.heap) (t':=t') Un.refl I.hok
theorem Inv.kept(I:Inv X pins σ H s)(k:∀ b u,s.heap.get? b=some u->h'.get? b=some u)(ht:autoParam (0<t') zAt):Inv X pins σ H {s with heap:=h',toks:=t'}:=I.un (Un.kept k) (I.hok.kept k)
theorem Inv.laid(I:Inv X pins σ H s)(k:∀ b u,s.heap.get? b=some u->h'.get? b=some u)(hp:s.heap.objs.size<=a)(new:R3 X.prog X.w (upd H a o) h' a o)(ht:autoParam (0<t') zAt) :
 Inv X pins σ (upd H a o) {s with heap:=h',toks:=t'}:=I.un (Un.laid k hp (I.hok.fresh hp)) (I.hok.laid k hp new)
theorem Inv.write{x e:Addr}(I:Inv X pins σ H s)(mu:Mut (H x))(he:e=x\/H e=some (.own x))(k:∀ b u,b≠e->s.heap.get? b=some u->h'.get? b=some u)(heo:∃ u,h'.get? e=some u)(new:R3 X.prog X.w (upd H x o) h' x o)(ht:autoParam (0<t') zAt):Inv X pins σ (upd H x o) {s with heap:=h',toks:=t'}:=I.un (Un.write mu he k heo) (I.hok.write mu he k heo new)
theorem Inv.weak{σ':List (Option V)}(I:Inv X pins σ H s)(hl:σ'.length=σ.length)(w:∀ (i:Nat) v,σ'[i]?=some (some v)->σ[i]?=some (some v)):Inv X pins σ' H s :=
 ⟨I.ok,I.os,I.bare,I.base,let ⟨m,hn,hl'⟩:=I.loc;⟨m,hn,fun i x v e1 e2 e3=>hl' i x v e1 (w i v e2) e3⟩,I.cell,I.free,I.freeC,I.pin,I.hok,hl.trans I.len,I.tk⟩
theorem Inv.pins_of{pins':List (Addr×Obj)}(I:Inv X pins σ H s)(h:∀ p∈pins',s.heap.get? p.1=some p.2/\H p.1=none/\p.1≠X.env.locals/\p.1∉X.fs/\∀ v,p.2.data≠.cell v):Inv X pins' σ H s :=
 ⟨I.ok,I.os,I.bare,I.base,I.loc,I.cell,I.free,I.freeC,fun p hp=>(List.mem_append.mp hp).elim (fun z=>I.pin p (List.mem_append_left _ z)) (h p),I.hok,I.len,I.tk⟩
theorem xj3(hN:N.Nodup){i j:Nat}(a:N[i]?=some x)(b:N[j]?=some x):i=j:=by
 obtain⟨h1,e1⟩:=List.getElem?_eq_some_iff.mp a
 obtain⟨h2,e2⟩:=List.getElem?_eq_some_iff.mp b
 exact(List.getElem_inj hN).mp (e1.trans e2.symm)
theorem xa5{i:Nat}{Q:Unit->Shared->Prop}(I:Inv X pins σ H s)(hN:X.N.Nodup)(hi:X.N[i]?=some x)(hx:Loc X.env.scope x)(r:E7 v u)(h:∀ s',Inv X pins (σ.set i (some v)) H s'->(∃ a,Heap.SameBut a s.heap s'.heap/\(a=X.env.locals\/X.env.cells.lookup x=some a))->Q () s')(hf:autoParam (X.fn x=true\/X.env.scope.names.lookup x=some .local) zAf):wpAny M A (storeName X.env x u) Q E s:=by
 obtain⟨m,hn,hl⟩:=id I.loc
 have hcls:(X.env.scope.kind == .class || (X.env.scope.kind == .module && X.env.locals != X.env.globals))=false:=by rw[I.ok.kind];rfl
 have hiσ:i<σ.length:=by rw[I.len];exact(List.getElem?_eq_some_iff.mp hi).1
 have cne:=I.cne
 have tracked:∀ {a:Addr} {h':Heap},(∃ o,s.heap.get? a=some o/\H a=none)->Heap.SameBut a s.heap h'->HOk X.prog X.w H h':=fun{a h'} ha hs b ob e=>by
  obtain⟨_,_,hfree⟩:=ha
  refine(I.hok b ob e).stay (fun c w' hc q=>(hs.2 c ?_).trans q) (fun _ q=>q) fun _ _ q=>q
  rintro rfl
  rcases hc with rfl|hc
  ·rw[hfree] at e;cases e
  ·rw[hfree] at hc;cases hc
 rcases hx with hk|hk
 ·refine wpAny_storeName_local hk hn (fun h' hn' hs=>?_) hcls
  obtain⟨oL,_,_,hoL,_⟩:=id hn
  refine h _ ⟨I.ok,I.os,I.bare,⟨fun b o e n hb hx=>?_,fun b o e n hb hx=>?_,I.base.free,fun b o e hx=>?_,I.base.tups,I.base.frzs,I.base.tbls⟩,⟨_,hn',fun j y v' e1 e2 e3=>?_⟩,fun y c e=>?_,I.free,I.freeC,fun p hp=>?_,tracked ⟨oL,hoL,I.free⟩ hs,by simpa using I.len,by first|exact I.tk|exact Nat.succ_pos _⟩ ⟨_,hs,.inl rfl⟩
  ·exact(hs.2 b (Nat.ne_of_lt (Nat.lt_of_lt_of_le (Heap.lt_size e) I.ok.above))).trans (I.base.keep b o e n hb hx)
  ·obtain⟨sl,e1⟩:=I.base.slot b o e n hb hx
   exact⟨sl,(hs.2 b (Nat.ne_of_lt (Nat.lt_of_lt_of_le (Heap.lt_size e) I.ok.above))).trans e1⟩
  ·obtain⟨o',e1⟩:=I.base.there b o e hx
   exact⟨o',(hs.2 b (Nat.ne_of_lt (Nat.lt_of_lt_of_le (Heap.lt_size e) I.ok.above))).trans e1⟩
  ·by_cases hj:j=i
   ·subst hj
    rw[hi] at e1;cases e1
    rw[List.getElem?_set_self hiσ] at e2
    cases e2
    exact⟨u,r,.inl ⟨hk,by simp⟩⟩
   ·rw[List.getElem?_set_ne (Ne.symm hj)] at e2
    obtain⟨u',r',q⟩:=hl j y v' e1 e2 e3
    refine⟨u',r',?_⟩
    rcases q with⟨k,e⟩|⟨k,c,e,z⟩
    ·refine .inl ⟨k,?_⟩
     have:y≠x:=fun e=>hj (xj3 hN e1 (e▸hi))
     simp[this,e]
    ·exact .inr ⟨k,c,e,z.sameBut hs (cne y c e)⟩
  ·obtain⟨w',z⟩:=I.cell y c e
   exact⟨w',z.sameBut hs (cne y c e)⟩
  ·obtain⟨e,n,ne,nf,d⟩:=I.pin p hp
   exact⟨(hs.2 p.1 ne).trans e,n,ne,nf,d⟩
 ·have hfn:X.fn x=true:=by
   rcases hf with z|z
   ·exact z
   ·rw[z] at hk;cases hk
  obtain⟨c,hc⟩:=I.ok.has x (.inl hk)
  obtain⟨w',z⟩:=I.cell x c hc
  refine wpAny_storeName_cell I.ok.kind hk hc z (fun h' hc' hs=>?_)
  obtain⟨oc,hoc,hocd⟩:=id z
  refine h {s with heap:=h'} ⟨I.ok,I.os,I.bare,⟨fun b o e n hb hx=>?_,fun b o e n hb hx=>?_,I.base.free,fun b o e hx=>?_,I.base.tups,I.base.frzs,I.base.tbls⟩,⟨m,hn.sameBut hs (Ne.symm (cne x c hc)),fun j y v' e1 e2 e3=>?_⟩,fun y c' e=>?_,I.free,I.freeC,fun p hp=>?_,tracked ⟨oc,hoc,I.freeC x c hc⟩ hs,by simpa using I.len,by first|exact I.tk|exact Nat.succ_pos _⟩ ⟨c,hs,.inr hc⟩
  ·exact(hs.2 b (Nat.ne_of_lt (Nat.lt_of_lt_of_le (Heap.lt_size e) (I.ok.cab x c hfn hc)))).trans (I.base.keep b o e n hb hx)
  ·obtain⟨sl,e1⟩:=I.base.slot b o e n hb hx
   exact⟨sl,(hs.2 b (Nat.ne_of_lt (Nat.lt_of_lt_of_le (Heap.lt_size e) (I.ok.cab x c hfn hc)))).trans e1⟩
  ·obtain⟨o',e1⟩:=I.base.there b o e hx
   exact⟨o',(hs.2 b (Nat.ne_of_lt (Nat.lt_of_lt_of_le (Heap.lt_size e) (I.ok.cab x c hfn hc)))).trans e1⟩
  ·by_cases hj:j=i
   ·subst hj
    rw[hi] at e1;cases e1
    rw[List.getElem?_set_self hiσ] at e2
    cases e2
    exact⟨u,r,.inr ⟨.inl hk,c,hc,hc'⟩⟩
   ·rw[List.getElem?_set_ne (Ne.symm hj)] at e2
    obtain⟨u',r',q⟩:=hl j y v' e1 e2 e3
    refine⟨u',r',?_⟩
    rcases q with q|⟨k,c',e,z'⟩
    ·exact .inl q
    ·refine .inr ⟨k,c',e,z'.sameBut hs ?_⟩
     rintro rfl
     exact hj (xj3 hN e1 (I.ok.inj _ _ _ e hc▸hi))
  ·by_cases hcc:c'=c
   ·subst hcc;exact⟨_,hc'⟩
   ·obtain⟨w2,z2⟩:=I.cell y c' e
    exact⟨w2,z2.sameBut hs hcc⟩
  ·obtain⟨e,n,ne,nf,d⟩:=I.pin p hp
   refine⟨(hs.2 p.1 ?_).trans e,n,ne,nf,d⟩
   intro q
   rw[q,hoc] at e
   have q':oc=p.2:=Option.some.inj e
   exact d w' (by rw[<-q'];exact hocd)
theorem xj4{i:Nat}{Q:Unit->Shared->Prop}(I:Inv X pins σ H s)(hN:X.N.Nodup)(hi:X.N[i]?=some x)(hx:Loc X.env.scope x)(r:E7 v u)(h:∀ s',Inv X pins (σ.set i (some v)) H s'->Q () s')(hf:autoParam (X.fn x=true\/X.env.scope.names.lookup x=some .local) zAf):wpAny M A (storeName X.env x u) Q E s :=
 xa5 I hN hi hx r (fun s' I' _=>h s' I') hf
end
abbrev XK:=Value->Option Addr->Hp->Prop
abbrev St:=List (Option V)
abbrev VK:=V->Hp->Prop
abbrev TE:=St->Hp->VK->Prop
abbrev TT:=St->Hp->(Bool->Hp->Prop)->Prop
abbrev TA:=St->Hp->(List V->Hp->Prop)->Prop
set_option genInjectivity false in
structure Y1 where
 nx:St->Hp->Prop
 rt:VK
 bk:St->Hp->Prop:=fun _ _=>False
 ct:St->Hp->Prop:=fun _ _=>False
abbrev TS:=Y1->St->Hp->Prop
def EP(X:Cx)(pins:List (Addr×Obj))(σ:St)(Q:VK)(u:Value)(s':Shared):Prop:=∃ v H',Inv X pins σ H' s'/\E7 v u/\Q v H'
def TP(X:Cx)(pins:List (Addr×Obj))(σ:St)(Q:Bool->Hp->Prop)(b:Bool)(s':Shared):Prop:=∃ H',Inv X pins σ H' s'/\Q b H'
def AP(X:Cx)(pins:List (Addr×Obj))(σ:St)(Q:List V->Hp->Prop)(us:List Value)(s':Shared):Prop:=∃ vs H',Inv X pins σ H' s'/\D9 vs us/\Q vs H'
def SP(X:Cx)(pins:List (Addr×Obj))(D:Y1)(f:Flow)(s':Shared):Prop :=
 match f with
 | .next=>∃ σ' H',Inv X pins σ' H' s'/\D.nx σ' H'
 | .brk=>∃ σ' H',Inv X pins σ' H' s'/\D.bk σ' H'
 | .cont=>∃ σ' H',Inv X pins σ' H' s'/\D.ct σ' H'
 | .ret u=>∃ v σ' H',Inv X pins σ' H' s'/\E7 v u/\D.rt v H'
def PE(X:Cx)(e:Expr)(t:TE):Prop :=
 ∀ (pins:List (Addr×Obj)) (s:Shared) (σ:St) (H:Hp) (Q:VK),Inv X pins σ H s->t σ H Q->wpAny (model X.prog X.w) X.A (eval e X.env) (EP X pins σ Q) X.xe s
def PT(X:Cx)(e:Expr)(t:TT):Prop :=
 ∀ (pins:List (Addr×Obj)) (s:Shared) (σ:St) (H:Hp) (Q:Bool->Hp->Prop),Inv X pins σ H s->t σ H Q->wpAny (model X.prog X.w) X.A (isTrue e X.env (eval e X.env)) (TP X pins σ Q) X.xe s
def PW(X:Cx)(e:Expr)(t:TT):Prop :=
 ∀ (whole:Sem Value) (pins:List (Addr×Obj)) (s:Shared) (σ:St) (H:Hp) (Q:Bool->Hp->Prop),Inv X pins σ H s->t σ H Q->wpAny (model X.prog X.w) X.A (isTrue e X.env whole) (TP X pins σ Q) X.xe s
variable{e:Expr}
theorem PW.pt{t:TT}(h:PW X e t):PT X e t:=h _
def PA(X:Cx)(es:List Expr)(t:TA):Prop :=
 ∀ (pos:Pos) (pins:List (Addr×Obj)) (s:Shared) (σ:St) (H:Hp) (Q:List V->Hp->Prop),Inv X pins σ H s->t σ H Q->wpAny (model X.prog X.w) X.A (spliced (backTo pos (starEach es X.env))) (AP X pins σ Q) X.xe s
def PS(X:Cx)(st:Stmt)(t:TS):Prop :=
 ∀ (pins:List (Addr×Obj)) (s:Shared) (σ:St) (H:Hp) (D:Y1),Inv X pins σ H s->t D σ H->wpAny (model X.prog X.w) X.A (exec st X.env) (SP X pins D) X.xe s
def PSs(X:Cx)(st:List Stmt)(t:TS):Prop :=
 ∀ (pins:List (Addr×Obj)) (s:Shared) (σ:St) (H:Hp) (D:Y1),Inv X pins σ H s->t D σ H->wpAny (model X.prog X.w) X.A (execs st X.env) (SP X pins D) X.xe s
variable{α:Type}
theorem thn{t:Sem α}{Q Q':α->Shared->Prop}(h:wpAny M A t Q E s)(hQ:∀ a s,Q a s->Q' a s):wpAny M A t Q' E s:=wpAny_mono h hQ fun _ _ x=>x
variable{pos:Pos}{Q:Value->Shared->Prop}{σ:St}{c:Expr}
section
def A2(i:Nat):TE:=fun σ H Q=>∃ v,σ[i]?=some (some v)/\Q v H
def tC(v:V):TE:=fun _ H Q=>Q v H
theorem za1{i:Nat}(hN:X.N[i]?=some x)(hv:Vis X.env.scope x)(hd:autoParam ((x == ("__debug__":Str))=false) zAd)(hcd:autoParam ((x == ("__classdict__":Str))=false) zAd):PE X (.Name x pos) (A2 i):=by
 intro pins s σ H Q I h
 obtain⟨v,e,h⟩:=h
 obtain⟨m,hn,hl⟩:=I.loc
 obtain⟨u,r,l⟩:=hl i x v hN e hv
 have fin:EP X pins σ Q u s:=⟨v,H,I,r,h⟩
 rcases l with⟨hk,hm⟩|⟨hk,c,hc,hcell⟩
 ·exact wpAny_Name (wpAny_loadName_local I.ok.kind hk hn hm fin) hd
 ·rcases hk with hk|hk
  ·exact wpAny_Name (wpAny_loadName_cell I.ok.kind hk hc hcell fin) hd
  ·exact wpAny_Name (wpAny_loadName_free I.ok.kind hk hc hcell fin hcd) hd
theorem B0{i j pos}:PE X (.Constant (.int i) j pos) (tC (.int i)):=fun _ _ _ H _ I h=>wpAny_Constant_int ⟨.int i,H,I.tok _,⟨_,rfl⟩,h⟩
theorem xv9{b j pos}:PE X (.Constant (.bool b) j pos) (tC (.bl b)):=fun _ _ _ H _ I h=>Constant_bool ⟨.bl b,H,I,rfl,h⟩
theorem R5{j pos}:PE X (.Constant .none j pos) (tC .non):=fun _ _ _ H _ I h=>Constant_none ⟨.non,H,I,rfl,h⟩
theorem C5{x j pos}:PE X (.Constant (.str x) j pos) (tC (.str x)):=fun _ _ _ H _ I h=>Calls.Constant_str ⟨.str x,H,I.tok _,⟨_,rfl⟩,h⟩
def Gl(X:Cx)(x:Str):Prop:=X.env.kindOf x=some .globalImplicit
theorem xd8(I:Inv X pins σ H s)(hg:Gl X x)(hm:X.mg x=some u)(h:Q u s)(hd:autoParam ((x == ("__debug__":Str))=false) zAd):wpAny (model X.prog X.w) X.A (eval (.Name x pos) X.env) Q E s :=
 Calls.Name_function_global I.ok.kind hg (Calls.loadGlobal_global (by rw[I.ok.glob];exact I.mod.glob.keeps I.bk) hm h) hd
theorem qi4(I:Inv X pins σ H s)(hg:Gl X x)(hm:X.mg x=none)(hv:bootBuiltins x=some u)(h:Q u s)(hn:autoParam (x ≠ "__name__") zAd)(hd:autoParam ((x == ("__debug__":Str))=false) zAd):wpAny (model X.prog X.w) X.A (eval (.Name x pos) X.env) Q E s:=by
 obtain⟨mb,h1,h2⟩:=I.mod.blt
 exact Calls.Name_function_global I.ok.kind hg (Calls.loadGlobal_builtin (by rw[I.ok.glob];exact I.mod.glob.keeps I.bk) hm (by rw[I.ok.blt];exact h1.keeps I.bk) ((h2 x hn).trans hv) h) hd
theorem J5(hg:Gl X x)(hm:X.mg x=some u)(r:E7 v u)(hd:autoParam ((x == ("__debug__":Str))=false) zAd):PE X (.Name x pos) (tC v) :=
 fun _ _ _ H _ I h=>xd8 I hg hm ⟨v,H,I,r,h⟩ hd
theorem yq8(hg:Gl X x)(hm:X.mg x=none)(hv:bootBuiltins x=some u)(r:E7 v u)(hn:autoParam (x ≠ "__name__") zAd)(hd:autoParam ((x == ("__debug__":Str))=false) zAd):PE X (.Name x pos) (tC v) :=
 fun _ _ _ H _ I h=>qi4 I hg hm hv ⟨v,H,I,r,h⟩ hn hd
variable{a b:Expr}{ta tb:TE}
def tB(t:TE):TT:=fun σ H Q=>t σ H fun x H1=>∃ c,x=.bl c/\Q c H1
theorem qf0{t:TE}(h:PE X e t)(he:autoParam (∀ whole,isTrue e X.env whole=(do let v<-whole;standAt e.pos;holding [v] (truthy v))) zAi):PT X e (tB t):=by
 intro pins s σ H Q I hw
 refine isTrue_plain (thn (h pins s σ H _ I hw) fun v s1 zq=>?_) (he _)
 obtain⟨x,H1,I1,r1,q1⟩:=zq
 obtain⟨d,rfl,q⟩:=q1
 cases r1
 exact wpAny_truthy_bool ⟨H1,I1,q⟩
variable{tA tB':TT}{rest:List Expr}
def wp1(t u:TT):TT:=fun σ H Q=>t σ H fun c H1=>if c=true then u σ H1 Q else Q false H1
def tOr(t u:TT):TT:=fun σ H Q=>t σ H fun c H1=>if c=true then Q true H1 else u σ H1 Q
def yq9(t:TT):TT:=fun σ H Q=>t σ H fun c H1=>Q (!c) H1
theorem qq8(ha:PT X a tA):PW X (.BoolOp .And [a] pos) tA:=by
 intro wh pins s σ H Q I h
 refine isTrue_and (thn (ha pins s σ H Q I h) fun c s1 e=>?_)
 cases c with
 | true=>exact isTrue_and_nil e
 | false=>exact e
theorem yg3(ha:PT X a tA):PW X (.BoolOp .Or [a] pos) tA:=by
 intro wh pins s σ H Q I h
 refine isTrue_or (thn (ha pins s σ H Q I h) fun c s1 e=>?_)
 cases c with
 | false=>exact isTrue_or_nil e
 | true=>exact e
theorem wd7(ha:PT X a tA)(hb:PW X (.BoolOp .And (b::rest) pos) tB'):PW X (.BoolOp .And (a::b::rest) pos) (wp1 tA tB'):=by
 intro wh pins s σ H Q I h
 refine isTrue_and (thn (ha pins s σ H _ I h) fun c s1 zq=>?_)
 obtain⟨H1,I1,q1⟩:=zq
 cases c with
 | true=>exact hb wh pins s1 σ H1 Q I1 q1
 | false=>exact⟨H1,I1,q1⟩
theorem yx3(ha:PT X a tA)(hb:PW X (.BoolOp .Or (b::rest) pos) tB'):PW X (.BoolOp .Or (a::b::rest) pos) (tOr tA tB'):=by
 intro wh pins s σ H Q I h
 refine isTrue_or (thn (ha pins s σ H _ I h) fun c s1 zq=>?_)
 obtain⟨H1,I1,q1⟩:=zq
 cases c with
 | true=>exact⟨H1,I1,q1⟩
 | false=>exact hb wh pins s1 σ H1 Q I1 q1
theorem yg4(ha:PT X a tA):PT X (.UnaryOp .Not a pos) (yq9 tA):=by
 intro pins s σ H Q I h
 exact isTrue_not (ha pins s σ H (fun c H1=>Q (!c) H1) I h)
def yg5(ta tb:TE):TE:=fun σ H Q=>ta σ H fun x H1=>∃ c,x=.bl c/\if c=true then tb σ H1 Q else Q (.bl false) H1
theorem za2{op}{t:TE}(h:PE X a t):PE X (.BoolOp op [a] pos) t:=fun pins s σ H Q I hw=>BoolOp_one (h pins s σ H Q I hw)
theorem za3(ha:PE X a ta)(hb:PE X (.BoolOp .And (b::rest) pos) tb):PE X (.BoolOp .And (a::b::rest) pos) (yg5 ta tb):=by
 intro pins s σ H Q I h
 refine BoolOp_and (thn (ha pins s σ H _ I h) fun v s1 zq=>?_)
 obtain⟨x,H1,I1,r1,q1⟩:=zq
 obtain⟨c,rfl,q1⟩:=q1
 cases r1
 refine wpAny_truthy_bool ?_
 cases c with
 | true=>exact hb pins s1 σ H1 Q I1 q1
 | false=>exact⟨.bl false,H1,I1,rfl,q1⟩
def tIf(t:TT)(ta tb:TE):TE:=fun σ H Q=>t σ H fun c H1=>if c=true then ta σ H1 Q else tb σ H1 Q
theorem qi5(hc:PT X c tA)(ha:PE X a ta)(hb:PE X b tb):PE X (.IfExp c a b pos) (tIf tA ta tb):=by
 intro pins s σ H Q I h
 refine wpAny_IfExp (thn (hc pins s σ H _ I h) fun d s1 zq=>?_)
 obtain⟨H1,I1,q1⟩:=zq
 cases d with
 | true=>exact ha pins s1 σ H1 Q I1 q1
 | false=>exact hb pins s1 σ H1 Q I1 q1
end
def SqL(K:Fg)(H:Hp)(a:Addr)(xs:List V):Prop :=
 Rd H a (.lst xs) \/
  ∃ (o:Obj) (its:Array Value) (n:Nat),K.lookup a=some o/\o.cls=.type "list"/\o.dict=none/\o.data=.seq its n/\its.size<=sizeLine/\D9 xs its.toList
def SqT(K:Fg)(H:Hp)(a:Addr)(xs:List V):Prop :=
 Rd H a (.tup xs) \/
  ∃ (o:Obj) (its:Array Value) (n:Nat),K.lookup a=some o/\o.cls=.type "tuple"/\o.data=.seq its n/\its.size<=sizeLine/\D9 xs its.toList
def zn2:Value->Option V
 | .none=>some .non
 | .bool b=>some (.bl b)
 | .int i _=>some (.int i)
 | .str x _=>some (.str x)
 | .bytes b _=>some (.byt b)
 | .float b _=>some (.flt b)
 | .ref a=>some (.ref a)
 | .type n=>some (.ty n)
 | _=>none
theorem E7.abs{x:V}(r:E7 x u):zn2 u=some x:=by
 cases x with
 | non=>cases r;rfl
 | bl _=>cases r;rfl
 | int _=>obtain⟨t,rfl⟩:=r;rfl
 | str _=>obtain⟨t,rfl⟩:=r;rfl
 | byt _=>obtain⟨t,rfl⟩:=r;rfl
 | flt _=>obtain⟨t,rfl⟩:=r;rfl
 | ref _=>cases r;rfl
 | ty _=>cases r;rfl
variable{y:V}
theorem E7.inj{x:V}(r:E7 x u)(q:E7 y u):x=y:=Option.some.inj (r.abs.symm.trans q.abs)
variable{ys:List V}
theorem D9.inj(h:D9 xs us):D9 ys us->xs=ys:=by
 induction h generalizing ys with
 | nil=>intro k;cases k;rfl
 | cons r t ih=>intro k;cases k with|cons r' t'=>rw[r.inj r',ih t']
variable{K:Fg}
theorem SqL.of(h:H a=some (.lst xs)):SqL K H a xs:=.inl (.inl h)
theorem SqT.of(h:H a=some (.tup xs)):SqT K H a xs:=.inl (.inl h)
theorem Inv.list(I:Inv X pins σ H s)(h:SqL X.K H a xs):∃ its:List Value,D9 xs its/\PlainL s.heap a its.toArray/\xs.length<=sizeLine:=by
 rcases h with h|⟨o,its,n,hk,hc,hd,hs,hz,r⟩
 ·obtain⟨z,its,n,r,e⟩:=h.ok I.hok
  exact⟨its,r,⟨_,n,e,rfl,rfl,rfl⟩,z⟩
 ·refine⟨its.toList,r,⟨o,n,I.kIn a o hk,hc,hd,by simpa using hs⟩,?_⟩
  have e:=r.length
  simp only[Array.length_toList] at e
  omega
theorem Inv.tuple(I:Inv X pins σ H s)(h:SqT X.K H a xs):∃ its:List Value,D9 xs its/\IsTup s.heap a its.toArray/\xs.length<=sizeLine:=by
 rcases h with h|⟨o,its,n,hk,hc,hs,hz,r⟩
 ·obtain⟨z,its,r,p⟩:=h.ok I.hok
  exact⟨its,r,p,z⟩
 ·refine⟨its.toList,r,⟨o,I.kIn a o hk,hc,n,by simpa using hs⟩,?_⟩
  have e:=r.length
  simp only[Array.length_toList] at e
  omega
theorem Inv.list_inj(I:Inv X pins σ H s)(h:SqL X.K H a xs)(h':SqL X.K H a ys):xs=ys:=by
 obtain⟨its,r,⟨o,n,e,_,_,d⟩,_⟩:=I.list h
 obtain⟨its',r',⟨o',n',e',_,_,d'⟩,_⟩:=I.list h'
 rw[e] at e';cases e'
 rw[d] at d'
 injection d' with d1 _
 have:its=its':=by simpa using congrArg Array.toList d1
 subst this
 exact r.inj r'
theorem Inv.tuple_inj(I:Inv X pins σ H s)(h:SqT X.K H a xs)(h':SqT X.K H a ys):xs=ys:=by
 obtain⟨its,r,⟨o,e,_,n,d⟩,_⟩:=I.tuple h
 obtain⟨its',r',⟨o',e',_,n',d'⟩,_⟩:=I.tuple h'
 rw[e] at e';cases e'
 rw[d] at d'
 injection d' with d1 _
 have:its=its':=by simpa using congrArg Array.toList d1
 subst this
 exact r.inj r'
abbrev Cx.wish(X:Cx)(E:Value->Shared->Prop):Cx:={X with xe:=E}
abbrev Cx.nox(X:Cx):Cx:=X.wish fun _ _=>False
theorem Cx.Ok.wish(ok:X.Ok)(E:Value->Shared->Prop):(X.wish E).Ok :=
 ⟨ok.mod,ok.kind,ok.glob,ok.blt,ok.above,ok.inj,ok.has,ok.cab,ok.hd,ok.frames,ok.stk,ok.exf,ok.bs,ok.bsz,ok.noex,ok.exfs,ok.funs,ok.frf⟩
theorem Cx.Ok.unwish(ok:(X.wish E).Ok):X.Ok :=
 ⟨ok.mod,ok.kind,ok.glob,ok.blt,ok.above,ok.inj,ok.has,ok.cab,ok.hd,ok.frames,ok.stk,ok.exf,ok.bs,ok.bsz,ok.noex,ok.exfs,ok.funs,ok.frf⟩
theorem Inv.wish(I:Inv X pins σ H s)(E:Value->Shared->Prop):Inv (X.wish E) pins σ H s:=⟨I.ok.wish E,I.os,I.bare,I.base,I.loc,I.cell,I.free,I.freeC,I.pin,I.hok,I.len,I.tk⟩
theorem Inv.unwish(I:Inv (X.wish E) pins σ H s):Inv X pins σ H s:=⟨I.ok.unwish,I.os,I.bare,I.base,I.loc,I.cell,I.free,I.freeC,I.pin,I.hok,I.len,I.tk⟩
variable{D:Y1}{s':Shared}
theorem SP.unwish{f:Flow}(h:SP (X.wish E) pins D f s'):SP X pins D f s':=by
 cases f with
 | next=>obtain⟨σ',H',I,q⟩:=h;exact⟨σ',H',I.unwish,q⟩
 | brk=>obtain⟨σ',H',I,q⟩:=h;exact⟨σ',H',I.unwish,q⟩
 | cont=>obtain⟨σ',H',I,q⟩:=h;exact⟨σ',H',I.unwish,q⟩
 | ret u=>obtain⟨v,σ',H',I,r,q⟩:=h;exact⟨v,σ',H',I.unwish,r,q⟩
theorem PSs.nox{st:List Stmt}{t:TS}(h:PSs X.nox st t):PSs X st t:=fun pins s σ H D I hw =>
 wpAny_mono (h pins s σ H D (I.wish _) hw) (fun _ _ q=>q.unwish) fun _ _ z=>False.elim z
variable{st:Stmt}{te:TE}
section
variable{rest:List Stmt}{t u:TS}
def O3:TS:=fun D σ H=>D.nx σ H
def B7(t u:TS):TS:=fun D σ H=>t {D with nx:=u D} σ H
theorem E6:PSs X [] O3:=fun _ _ σ H _ I h=>wpAny_execs_nil ⟨σ,H,I,h⟩
theorem A5(h1:PS X st t)(h2:PSs X rest u):PSs X (st::rest) (B7 t u):=by
 intro pins s σ H D I h
 refine wpAny_execs_cons (thn (h1 pins s σ H {D with nx:=u D} I h) fun f s1 q=>?_)
 cases f with
 | next =>
   obtain⟨σ',H',I',q⟩:=q
   exact h2 pins s1 σ' H' D I' q
 | ret v=>exact q
 | brk=>exact q
 | cont=>exact q
theorem A7(h1:PS X st t):PSs X [st] t:=by
 intro pins s σ H D I h
 refine wpAny_execs_cons (thn (h1 pins s σ H D I h) fun f s1 q=>?_)
 cases f with
 | next=>exact wpAny_execs_nil q
 | ret v=>exact q
 | brk=>exact q
 | cont=>exact q
def xq0:TS:=fun D σ H=>D.bk σ H
theorem yg6:PS X (.Break pos) xq0:=fun _ _ σ H _ I h=>wpAny_Break ⟨σ,H,I,h⟩
theorem Inv.quiet(I:Inv X pins σ H s):interactive X.env=false:=by simp[interactive,I.ok.kind]
def G5(te:TE):TS:=fun D σ H=>te σ H fun _ H1=>D.nx σ H1
theorem C4(he:PE X e te)(hs:autoParam (swapsWith e none pos.line X.env=pure false) zAr):PS X (.Expr e pos) (G5 te):=by
 intro pins s σ H D I h
 exact wpAny_Expr_any (thn (he pins s σ H _ I h) fun v s1 ⟨x,H1,I1,r1,q1⟩=>⟨σ,H1,I1,q1⟩) I.quiet hs
def G9(te:TE):TS:=fun D σ H=>te σ H D.rt
theorem B8(he:PE X e te):PS X (.Return (some e) pos) (G9 te):=by
 intro pins s σ H D I h
 exact wpAny_Return_some (thn (he pins s σ H _ I h) fun v s1 ⟨x,H1,I1,r1,q1⟩=>⟨x,σ,H1,I1,r1,q1⟩)
def yg7:TS:=fun D _ H=>D.rt .non H
theorem xw0:PS X (.Return none pos) yg7:=fun _ _ σ H _ I h=>wpAny_Return_none ⟨.non,σ,H,I,rfl,h⟩
def T5(c:TT)(t u:TS):TS:=fun D σ H=>c σ H fun b H1=>if b=true then t D σ H1 else u D σ H1
theorem L9{a b:List Stmt}{tc:TT}(hc:PT X c tc)(ha:PSs X a t)(hb:PSs X b u):PS X (.If c a b pos) (T5 tc t u):=by
 intro pins s σ H D I h
 refine wpAny_If (thn (hc pins s σ H _ I h) fun d s1 zq=>?_)
 obtain⟨H1,I1,q1⟩:=zq
 cases d with
 | true=>exact ha pins s1 σ H1 D I1 q1
 | false=>exact hb pins s1 σ H1 D I1 q1
end
abbrev TG:=V->St->Hp->(St->Hp->Prop)->Prop
abbrev TGs:=List V->St->Hp->(St->Hp->Prop)->Prop
def PG(X:Cx)(target:Expr)(t:TG):Prop :=
 ∀ (pins:List (Addr×Obj)) (s:Shared) (σ:St) (H:Hp) (v:V) (u:Value) (Q:St->Hp->Prop),Inv X pins σ H s->E7 v u->t v σ H Q ->
  wpAny (model X.prog X.w) X.A (assign target X.env u) (fun _ s'=>∃ σ' H',Inv X pins σ' H' s'/\Q σ' H') X.xe s
def PGs(X:Cx)(ts:List Expr)(t:TGs):Prop :=
 ∀ (pins:List (Addr×Obj)) (s:Shared) (σ:St) (H:Hp) (vs:List V) (us:List Value) (Q:St->Hp->Prop),Inv X pins σ H s->D9 vs us->t vs σ H Q ->
  wpAny (model X.prog X.w) X.A (assignInOrder ((assignEach ts X.env).map (·.2)) us) (fun _ s'=>∃ σ' H',Inv X pins σ' H' s'/\Q σ' H') X.xe s
abbrev yg8:=V->V->V->Hp->(Hp->Prop)->Prop
def za4(X:Cx)(t:yg8):Prop :=
 ∀ (pins:List (Addr×Obj)) (s:Shared) (σ:St) (H:Hp) (o i v:V) (ov iv u:Value) (Q:Hp->Prop),Inv X pins σ H s->E7 o ov->E7 i iv->E7 v u->t o i v H Q ->
  wpAny (model X.prog X.w) X.A (setItem ov iv u) (fun _ s'=>∃ H',Inv X pins σ H' s'/\Q H') X.xe s
def B1(i:Nat):TG:=fun v σ H Q=>Q (σ.set i (some v)) H
theorem D2{i:Nat}(hN:X.N.Nodup)(hi:X.N[i]?=some x)(hx:Loc X.env.scope x)(hf:autoParam (X.fn x=true\/X.env.scope.names.lookup x=some .local) zAf):PG X (.Name x pos) (B1 i):=by
 intro pins s σ H v u Q I r h
 exact wpAny_assign_Name (xj4 I hN hi hx r (fun s' I'=>⟨_,H,I',h⟩) hf)
def xj5:TGs:=fun vs σ H Q=>vs=[]/\Q σ H
def qg2(t:TG)(u:TGs):TGs:=fun vs σ H Q=>∃ v r,vs=v::r/\t v σ H fun σ' H'=>u r σ' H' Q
theorem qz5:PGs X [] xj5:=by
 intro pins s σ H vs us Q I r h
 obtain⟨e,h⟩:=h
 subst e
 cases r
 exact assignInOrder_nil ⟨σ,H,I,h⟩
variable{es:List Expr}
theorem O9{t:TG}{u:TGs}(h1:PG X e t)(h2:PGs X es u)(hs:autoParam ((assignEach (e::es) X.env).map (·.2)=assign e X.env::(assignEach es X.env).map (·.2)) zAr):PGs X (e::es) (qg2 t u):=by
 intro pins s σ H vs us Q I r h
 obtain⟨v,vr,e1,h⟩:=h
 subst e1
 cases r with
 | cons r rr =>
   rw[hs]
   refine assignInOrder_cons (thn (h1 pins s σ H _ _ _ I r h) fun _ s1 zq=>?_)
   obtain⟨σ1,H1,I1,q1⟩:=zq
   exact h2 pins s1 σ1 H1 _ _ Q I1 rr q1
def xj6(K:Fg)(n:Nat)(t:TGs):TG:=fun v σ H Q=>∃ a xs,v=.ref a/\SqT K H a xs/\xs.length=n/\t xs σ H Q
variable{k n:Nat}
theorem wk0{t:TGs}(hc:X.calm=true)(h:PGs X es t)(hn:autoParam ((assignEach es X.env).length=n) zAr)(hst:autoParam ((assignEach es X.env).findIdx? (·.1)=none) zAr):PG X (.Tuple es k pos) (xj6 X.K n t):=by
 intro pins s σ H v u Q I r hw
 obtain⟨a,xs,e1,hq,hl,hw⟩:=hw
 subst e1
 cases r
 obtain⟨its,rv,ht,hz⟩:=I.tuple hq
 refine assign_Tuple_tuple (I.ok.hd hc) ht (by simp[hn,<-hl,rv.length]) hst fun h' hx=>?_
 have I1:Inv X pins σ H {s with heap:=h'}:=I.kept (t':=s.toks) fun b o e=>hx b o (Nat.ne_of_lt (Heap.lt_size e)) e
 exact h pins _ σ H xs _ Q I1 (by simpa using rv) hw
def yr0(to ti:TE)(t:yg8):TG:=fun v σ H Q=>to σ H fun o H1=>ti σ H1 fun i H2=>t o i v H2 fun H3=>Q σ H3
variable{ti to:TE}
theorem yg9{o i:Expr}{t:yg8}(ho:PE X o to)(hi:PE X i ti)(hs:za4 X t) (ha:∀ v,assign (.Subscript o i pos) X.env v=(do
  let ov<-holding [v] (eval o X.env)
  let iv<-holding [v,ov] (eval i X.env)
  standAt pos
  holding [v,ov,iv] (setItem ov iv v)
  release [v,ov,iv] []):=by intro _;rfl):PG X (.Subscript o i pos) (yr0 to ti t):=by
 intro pins s σ H v u Q I r h
 rw[ha]
 refine wpAny_bind (wpAny_holding (thn (ho pins s σ H _ I h) fun ov s1 zq=>?_))
 obtain⟨x,H1,I1,r1,q1⟩:=zq
 refine wpAny_bind (wpAny_holding (thn (hi pins s1 σ H1 _ I1 q1) fun iv s2 zq=>?_))
 obtain⟨y,H2,I2,r2,q2⟩:=zq
 refine wpAny_bind (wpAny_standAt (wpAny_bind (wpAny_holding (thn (hs pins s2 σ H2 x y v ov iv u _ I2 r1 r2 r q2) fun _ s3 zq=>?_))))
 obtain⟨H3,I3,q3⟩:=zq
 exact wpAny_release ⟨σ,H3,I3,q3⟩
def E1(te:TE)(g:TG):TS:=fun D σ H=>te σ H fun x H1=>g x σ H1 D.nx
variable{g:TG}
theorem yh0{tg:Expr}(he:PE X e te)(hg:PG X tg g)(hs:autoParam (swapsWithSole [tg] e pos.line X.env=pure false) zAr)(hw:autoParam (swappedStores [tg] e X.env=pure none) zAr)(h1:autoParam ((assignEach [tg] X.env).map (·.2)=[assign tg X.env]) zAr):PS X (.Assign [tg] e pos) (E1 te g):=by
 intro pins s σ H D I h
 refine wpAny_Assign_stores (thn (he pins s σ H _ I h) fun v s1 zq=>?_) hs hw
 obtain⟨x,H1,I1,r1,q1⟩:=zq
 rw[h1]
 exact thn (hg pins s1 σ H1 x v _ I1 r1 q1) fun _ s2 q=>q
variable{pos':Pos}
theorem qf1{i:Nat}(hN:X.N.Nodup)(hi:X.N[i]?=some x)(hx:Loc X.env.scope x)(he:PE X e te)(hs:autoParam (swapsWith e (some (.Name x pos')) pos.line X.env=pure false) zAr)(hf:autoParam (X.fn x=true\/X.env.scope.names.lookup x=some .local) zAf) :
 PS X (.Assign [.Name x pos'] e pos) (E1 te (B1 i)):=by
 intro pins s σ H D I h
 refine wpAny_Assign_Name (thn (he pins s σ H _ I h) fun v s1 zq=>?_) hs
 obtain⟨y,H1,I1,r1,q1⟩:=zq
 exact xj4 I1 hN hi hx r1 (fun s2 I2=>⟨_,H1,I2,q1⟩) hf
def qn9(c:TT)(tb:TS):TS:=fun D σ H=>∃ W:Nat->St->Hp->Prop,(∃ m,W m σ H)/\∀ m σ H,W m σ H ->
 c σ H fun b H1=>if b=true then ∃ N:St->Hp->Prop,(∀ σ' H',N σ' H'->∃ m',m'<m/\W m' σ' H')/\tb {D with nx:=N,ct:=N,bk:=D.nx} σ H1 else D.nx σ H1
variable{body:List Stmt}{tb:TS}
theorem qw0{tc:TT}(hp:PassesOwn (model X.prog X.w) X.A X.env X.xe)(hc:PT X c tc)(hb:PSs X body tb):PS X (.While c body [] pos) (qn9 tc tb):=by
 intro pins s σ H D I h
 obtain⟨W,⟨m0,w0⟩,turn⟩:=h
 refine wpAny_While (codeAny_whileLoop (fun n s'=>∃ σ' H',Inv X pins σ' H' s'/\W n σ' H') ?_ m0 ⟨σ,H,I,w0⟩)
 rintro n s1 ⟨σ1,H1,I1,w1⟩
 refine wpAny_passesOwn hp (thn (hc pins s1 σ1 H1 _ I1 (turn n σ1 H1 w1)) fun b s2 zq=>?_)
 obtain⟨H2,I2,q2⟩:=zq
 cases b with
 | true =>
   obtain⟨N,hN,q2⟩:=q2
   rw[if_pos rfl]
   refine wpAny_passesOwn hp (thn (hb pins s2 σ1 H2 _ I2 q2) fun f s3 q3=>?_)
   cases f with
   | next =>
     obtain⟨σ3,H3,I3,n3⟩:=q3
     obtain⟨m',hm,w3⟩:=hN σ3 H3 n3
     exact⟨m',hm,σ3,H3,I3,w3⟩
   | cont =>
     obtain⟨σ3,H3,I3,n3⟩:=q3
     obtain⟨m',hm,w3⟩:=hN σ3 H3 n3
     exact⟨m',hm,σ3,H3,I3,w3⟩
   | brk=>exact q3
   | ret v=>exact q3
 | false =>
   rw[if_neg Bool.false_ne_true]
   exact wpAny_execs_nil ⟨σ1,H2,I2,q2⟩
set_option genInjectivity false in
structure It where
 go:Nat->Hp->Prop
 yld:Nat->Hp->V->Hp->Prop
 stop:Nat->Hp->Prop
def wy0(X:Cx)(pins:List (Addr×Obj))(H:Hp)(b:Addr):Prop :=
 H b=none/\b≠X.env.locals/\b∉X.fs/\(b∈X.ex\/X.s₀.heap.objs.size<=b)/\(∀ x c,X.env.cells.lookup x=some c->c≠b)/\∀ p∈X.pn++pins,p.1≠b
theorem Inv.fpOk(I:Inv X pins σ H s)(hb:s.heap.objs.size<=b)(hn:H' b=none):wy0 X pins H' b:=by
 refine⟨hn,Nat.ne_of_gt (Nat.lt_of_lt_of_le I.lt hb),I.nofs hb,.inr (Nat.le_trans I.sz hb),fun x c e z=>?_,fun p hp z=>?_⟩
 ·obtain⟨v,q⟩:=I.cell x c e
  exact absurd (Nat.lt_of_lt_of_le q.lt (by rw[z];exact hb)) (Nat.lt_irrefl _)
 ·exact absurd (Nat.lt_of_lt_of_le (Heap.lt_size (I.pin p hp).1) (by rw[z];exact hb)) (Nat.lt_irrefl _)
structure wk1(P:Program)(w:World)(K:Fg)(tg:Expr)(J:It)(fp:List Addr)(it:Addr)(tn:Nat->Heap->Prop):Prop where
 mem:it∈fp
 obj:∀ i h,tn i h->∀ b∈fp,∃ o,h.get? b=some o/\∀ v,o.data≠.cell v
 keep:∀ i h h',tn i h->(∀ b∈fp,∀ o,h.get? b=some o->h'.get? b=some o)->tn i h'
 item:∀ (X:Cx),X.prog=P->X.w=w->X.K=K->X.calm=true->∀ (i:Nat) (pins:List (Addr×Obj)) (s:Shared) (σ:St) (H:Hp) (E:Value->Shared->Prop),Inv X pins σ H s->(∀ b∈fp,wy0 X pins H b)->tn i s.heap->J.go i H ->
  wpAny (model P w) X.A (pyNext (.ref it)) (fun r s1=>∃ u,r=some u /\
   wpAny (model P w) X.A (letOwnedTupleGo tg (.ref it) u) (fun _ s2=>∃ x H',Inv X pins σ H' s2/\E7 x u/\J.yld i H x H'/\tn (i+1) s2.heap/\∀ b∈fp,H' b=none) E s1) E s
 done:∀ (X:Cx),X.prog=P->X.w=w->X.K=K->X.calm=true->∀ (i:Nat) (pins:List (Addr×Obj)) (s:Shared) (σ:St) (H:Hp) (E:Value->Shared->Prop),Inv X pins σ H s->(∀ b∈fp,wy0 X pins H b)->tn i s.heap->J.stop i H ->
  wpAny (model P w) X.A (pyNext (.ref it)) (fun r s1=>r=none/\Inv X pins σ H s1) E s
 self:∀ (A:Around) (i:Nat) (s:Shared) (Q:Value->Shared->Prop) (E:Value->Shared->Prop),tn i s.heap->Q (.ref it) s->wpAny (model P w) A (pyIter (.ref it)) Q E s
abbrev TI:=St->Hp->(It->Hp->Prop)->Prop
def PIE(X:Cx)(pins:List (Addr×Obj))(σ:St)(tg:Expr)(R:It->Hp->Prop)(itv:Value)(s2:Shared):Prop :=
 ∃ (it:Addr) (fp:List Addr) (tn:Nat->Heap->Prop) (J:It) (H':Hp),itv=.ref it/\Inv X pins σ H' s2/\wk1 X.prog X.w X.K tg J fp it tn/\tn 0 s2.heap/\(∀ b∈fp,wy0 X pins H' b)/\R J H'
def PI(X:Cx)(tg iter:Expr)(wi:TI):Prop :=
 ∀ (pins:List (Addr×Obj)) (s:Shared) (σ:St) (H:Hp) (R:It->Hp->Prop),Inv X pins σ H s->wi σ H R ->
  wpAny (model X.prog X.w) X.A (eval iter X.env) (fun v s1=>wpAny (model X.prog X.w) X.A (pyIter v) (PIE X pins σ tg R) X.xe s1) X.xe s
theorem wr7{tg:Expr}{o:Obj}{n:String}{vs:Array Value}{Q:Unit->Shared->Prop}(ho:s.heap.get? it=some o)(hc:o.cls=.type n)(hd:o.data=.fields vs)(hn:["enumerate","zip","dict_itemiterator","dict_reverseitemiterator","odict_iterator","itertools.zip_longest","itertools.pairwise"].contains n=false)(hQ:Q () s):wpAny M A (letOwnedTupleGo tg (.ref it) u) Q E s:=by
 unfold letOwnedTupleGo
 cases tg <;> first
  | exact wpAny_pure hQ
  | (cases u <;> first
   | exact wpAny_pure hQ
   | (refine wpAny_bind (wpAny_load ho ?_)
      rw[hc,hd]
      show wpAny M A (if(["enumerate","zip","dict_itemiterator","dict_reverseitemiterator","odict_iterator","itertools.zip_longest","itertools.pairwise"].contains n && vs[0]? == some (rawInt _))=true then _ else _) Q E s
      rw[if_neg (by intro h;rw[hn,Bool.false_and] at h;cases h)]
      exact wpAny_pure hQ))
def Itl(K:Fg)(a:Addr):It :=
 ⟨fun i H=>∃ xs x,SqL K H a xs/\xs[i]?=some x,fun i H x H'=>H'=H/\∀ xs,SqL K H a xs->xs[i]?=some x,fun i H=>∃ xs,SqL K H a xs/\xs.length<=i⟩
def Itt(K:Fg)(a:Addr):It :=
 ⟨fun i H=>∃ xs x,SqT K H a xs/\xs[i]?=some x,fun i H x H'=>H'=H/\∀ xs,SqT K H a xs->xs[i]?=some x,fun i H=>∃ xs,SqT K H a xs/\xs.length<=i⟩
def Itr(lo:Int)(n:Nat):It:=⟨fun i _=>i<n,fun i H x H'=>H'=H/\x=.int (lo+i),fun i _=>n<=i⟩
theorem yb8{tg:Expr}(a it:Addr):wk1 P w K tg (Itl K a) [it] it (fun i h=>h.IsListIter it a i) where
 mem:=by simp
 obj:=fun i h st b hb=>by
  have e:b=it:=by simpa using hb
  subst e
  obtain⟨o,e,c,d⟩:=st
  exact⟨o,e,fun v z=>by rw[d] at z;cases z⟩
 keep:=fun i h h' st k=>st.at fun o e=>k it (by simp) o e
 item:=by
  intro X hP hw hK hc i pins s σ H E I hf st hg
  subst hP hw hK
  obtain⟨xs,x,hq,hx⟩:=hg
  obtain⟨its,rv,p,hz⟩:=I.list hq
  obtain⟨u,hu,ru⟩:=rv.get hx
  obtain⟨f0,f1,f2,f3,f4,f5⟩:=hf it (by simp)
  refine wpAny_pyNext_list_item st p.isList (x:=u) (by simpa using hu) fun h' st' sb=>?_
  have I1:Inv X pins σ H {s with heap:=h'}:=I.turned (t':=s.toks) (fun b o hb e=>(sb.2 b hb).trans e) f0 f1 f3 f4 f5
  obtain⟨o,e,c,d⟩:=id st'
  exact⟨u,rfl,wr7 (s:={s with heap:=h'}) e c d (by decide) ⟨x,H,I1,ru,⟨rfl,fun ys hy=>by rw[I.list_inj hy hq];exact hx⟩,st',fun b hb=>(hf b hb).1⟩⟩
 done:=by
  intro X hP hw hK hc i pins s σ H E I hf st hg
  subst hP hw hK
  obtain⟨xs,hq,hx⟩:=hg
  obtain⟨its,rv,p,hz⟩:=I.list hq
  obtain⟨f0,f1,f2,f3,f4,f5⟩:=hf it (by simp)
  have hl:=rv.length
  exact wpAny_pyNext_list_end (I.ok.hd hc) st p.isList (by simp;omega) fun h' eb=>⟨rfl,I.turned (t':=s.toks) (fun b o hb e=>eb b o hb e) f0 f1 f3 f4 f5⟩
 self:=fun _ _ _ _ _ st h=>wpAny_pyIter_listiter st h
theorem xq1{tg:Expr}(a it:Addr):wk1 P w K tg (Itt K a) [it] it (fun i h=>h.IsTupleIter it a i) where
 mem:=by simp
 obj:=fun i h st b hb=>by
  have e:b=it:=by simpa using hb
  subst e
  obtain⟨o,e,c,d⟩:=st
  exact⟨o,e,fun v z=>by rw[d] at z;cases z⟩
 keep:=fun i h h' st k=>st.at fun o e=>k it (by simp) o e
 item:=by
  intro X hP hw hK hc i pins s σ H E I hf st hg
  subst hP hw hK
  obtain⟨xs,x,hq,hx⟩:=hg
  obtain⟨its,rv,p,hz⟩:=I.tuple hq
  obtain⟨u,hu,ru⟩:=rv.get hx
  obtain⟨f0,f1,f2,f3,f4,f5⟩:=hf it (by simp)
  refine wpAny_pyNext_tuple_item st (show s.heap.IsTuple a its.toArray from p) (x:=u) (by simpa using hu) fun h' st' sb=>?_
  have I1:Inv X pins σ H {s with heap:=h'}:=I.turned (t':=s.toks) (fun b o hb e=>(sb.2 b hb).trans e) f0 f1 f3 f4 f5
  obtain⟨o,e,c,d⟩:=id st'
  exact⟨u,rfl,wr7 (s:={s with heap:=h'}) e c d (by decide) ⟨x,H,I1,ru,⟨rfl,fun ys hy=>by rw[I.tuple_inj hy hq];exact hx⟩,st',fun b hb=>(hf b hb).1⟩⟩
 done:=by
  intro X hP hw hK hc i pins s σ H E I hf st hg
  subst hP hw hK
  obtain⟨xs,hq,hx⟩:=hg
  obtain⟨its,rv,p,hz⟩:=I.tuple hq
  obtain⟨f0,f1,f2,f3,f4,f5⟩:=hf it (by simp)
  have hl:=rv.length
  exact wpAny_pyNext_tuple_end (I.ok.hd hc) st (show s.heap.IsTuple a its.toArray from p) (by simp;omega) fun h' eb=>⟨rfl,I.turned (t':=s.toks) (fun b o hb e=>eb b o hb e) f0 f1 f3 f4 f5⟩
 self:=fun _ _ _ _ _ st h=>wpAny_pyIter_tupleiter st h
theorem xq2{tg:Expr}(it:Addr)(lo:Int)(n:Nat):wk1 P w K tg (Itr lo n) [it] it (fun i h=>IsRangeIter h it (lo+(i:Nat)*1) ((n:Int)-(i:Nat)) 1) where
 mem:=by simp
 obj:=fun i h st b hb=>by
  have e:b=it:=by simpa using hb
  subst e
  exact⟨_,st,fun v z=>by
   have z':Data.fields _=Data.cell v:=z
   cases z'⟩
 keep:=fun i h h' st k=>k it (by simp) _ st
 item:=by
  intro X hP hw hK hc i pins s σ H E I hf st hg
  subst hP hw hK
  obtain⟨f0,f1,f2,f3,f4,f5⟩:=hf it (by simp)
  have W:=Walks.range (prog:=X.prog) (w:=X.w) (I.ok.hd hc) it lo 1 n
  refine wpAny_with_toks (n:=1) I.tk (W.item i s _ _ hg st fun v h' tk hv st' kk ht=>?_)
  have ht:0<tk:=ht
  obtain⟨t,rfl⟩:=hv
  have I1:Inv X pins σ H {s with heap:=h',toks:=tk}:=I.turned (fun b o hb e=>kk b o (by simpa using hb) e) f0 f1 f3 f4 f5
  refine⟨_,rfl,wr7 (s:={s with heap:=h',toks:=tk}) (n := "range_iterator") st' rfl rfl (by decide) ⟨.int (lo+i),H,I1,⟨t,?_⟩,⟨rfl,rfl⟩,st',fun b hb=>(hf b hb).1⟩⟩
  rw[Int.mul_one]
 done:=by
  intro X hP hw hK hc i pins s σ H E I hf st hg
  subst hP hw hK
  obtain⟨f0,f1,f2,f3,f4,f5⟩:=hf it (by simp)
  exact wpAny_pyNext_range_end (I.ok.hd hc) st (by have:n<=i:=hg;omega) fun h' eb=>⟨rfl,I.turned (t':=s.toks) (fun b o hb e=>eb b o hb e) f0 f1 f3 f4 f5⟩
 self:=fun _ _ _ _ _ st h=>wpAny_pyIter_rangeiter st h
variable{R:It->Hp->Prop}{ta:TA}{iter:Expr}
section
variable{tg:Expr}
theorem xj7{lo hi:Int}{t u v:Tok}{tk:Nat}(I:Inv X pins σ H s)(h1:-(2 ^ 62)<=lo)(h2:lo<2 ^ 62)(h3:-(2 ^ 62)<=hi)(h4:hi<2 ^ 62)(q:R (Itr lo (hi-lo).toNat) H)(ht:autoParam (0<tk) zAt):wpAny (model X.prog X.w) X.A (pyIter (.ref s.heap.objs.size)) (PIE X pins σ tg R) E {s with heap:=s.heap.push {cls:=.type "range",data:=.fields #[.int lo t,.int hi u,.int 1 v]},toks:=tk}:=by
 refine wpAny_pyIter_range (IsRange.new ..) (small_one h1 h2 h3 h4) ?_
 have I1:Inv X pins σ H {s with heap:=s.heap.push {cls:=.type "range",data:=.fields #[.int lo t,.int hi u,.int 1 v]},toks:=tk}:=I.kept fun b o e=>Heap.get?_push_of_some _ e
 refine⟨(s.heap.push {cls:=.type "range",data:=.fields #[.int lo t,.int hi u,.int 1 v]}).objs.size,[(s.heap.push {cls:=.type "range",data:=.fields #[.int lo t,.int hi u,.int 1 v]}).objs.size],_,_,H,rfl,
  I1.kept (t':=tk) fun b o e=>Heap.get?_push_of_some _ e,xq2 _ lo (hi-lo).toNat,?_,fun b hb=>?_,q⟩
 ·have e1:lo+((0:Nat):Int)*1=lo:=by simp
  have e2:(((hi-lo).toNat:Nat):Int)-((0:Nat):Int)=Builtin.Range.rangeSize lo hi 1:=by rw[rangeSize_one];split <;> omega
  show IsRangeIter _ _ (lo+((0:Nat):Int)*1) ((((hi-lo).toNat:Nat):Int)-((0:Nat):Int)) 1
  rw[e1,e2]
  exact Heap.get?_push_size _ rfl
 ·have e:b=(s.heap.push {cls:=.type "range",data:=.fields #[.int lo t,.int hi u,.int 1 v]}).objs.size:=by simpa using hb
  subst e
  exact I1.fpOk (Nat.le_refl _) (I1.hok.fresh (Nat.le_refl _))
def xj8(ta:TA):TI:=fun σ H R=>ta σ H fun vs H1=>∃ j:Int,vs=[.int j]/\-(2 ^ 62)<=j/\j<2 ^ 62/\R (Itr 0 j.toNat) H1
def yh1(ta:TA):TI:=fun σ H R=>ta σ H fun vs H1=>∃ i j:Int,vs=[.int i,.int j]/\(-(2 ^ 62)<=i/\i<2 ^ 62/\-(2 ^ 62)<=j/\j<2 ^ 62)/\R (Itr i (j-i).toNat) H1
theorem wk2{a:Expr}{p:Pos}(hg:Gl X "range")(hm:X.mg "range"=none)(ha:PA X [a] ta)(hs:autoParam (starEach [a] X.env=[(false,eval a X.env)]) zAr):PI X tg (.Call (.Name "range" p) [a] [] pos) (xj8 ta):=by
 intro pins s σ H R I h
 refine Call_ (qi4 I hg hm boot_range (PyProof.Rows.callWith_type1 (thn (ha pos pins s σ H _ I h) fun us s1 zq=>?_) hs rfl))
 obtain⟨vs,H1,I1,r1,q1⟩:=zq
 obtain⟨j,e,q1,q2,q⟩:=q1
 subst e
 cases r1 with
 | cons r rr =>
   cases rr
   obtain⟨t,rfl⟩:=r
   exact call_range_1 (xj7 I1 (by omega) (by omega) q1 q2 (by simpa using q))
theorem yb9{a b:Expr}{p:Pos}(hg:Gl X "range")(hm:X.mg "range"=none)(ha:PA X [a,b] ta)(hs:autoParam (starEach [a,b] X.env=[(false,eval a X.env),(false,eval b X.env)]) zAr)(hs2:autoParam (starEach [b] X.env=[(false,eval b X.env)]) zAr) :
 PI X tg (.Call (.Name "range" p) [a,b] [] pos) (yh1 ta):=by
 intro pins s σ H R I h
 refine Call_ (qi4 I hg hm boot_range (PyProof.Rows.callWith_type1 (thn (ha pos pins s σ H _ I h) fun us s1 zq=>?_) (by rw[hs,hs2]) (by rw[hs2];rfl)))
 obtain⟨vs,H1,I1,r1,q1⟩:=zq
 obtain⟨i,j,e,⟨q1,q2,q3,q4⟩,q⟩:=q1
 subst e
 cases r1 with
 | cons r rr =>
   cases rr with
   | cons r' rr =>
     cases rr
     obtain⟨t,rfl⟩:=r
     obtain⟨t',rfl⟩:=r'
     exact call_range_2 (xj7 I1 q1 q2 q3 q4 q)
def qg5(wi:TI)(g:TG)(tb:TS):TS:=fun D σ H=>wi σ H fun J H1=>∃ W:Nat->Nat->St->Hp->Prop,(∃ m,W 0 m σ H1)/\∀ i m σ H,W i m σ H ->
 (J.stop i H/\D.nx σ H)\/(J.go i H/\∃ N:St->Hp->Prop,(∀ σ' H',N σ' H'->∃ m',m'<m/\W (i+1) m' σ' H')/\∀ x H',J.yld i H x H'->g x σ H' fun σ2 H2=>tb {D with nx:=N,ct:=N,bk:=D.nx} σ2 H2)
def wr8(fp:List Addr)(h:Heap):List (Addr×Obj):=fp.filterMap fun b=>(h.get? b).map fun o=>(b,o)
theorem qq9{fp:List Addr}{o:Obj}(hb:b∈fp)(e:h.get? b=some o):(b,o)∈wr8 fp h:=List.mem_filterMap.mpr ⟨b,hb,by rw[e];rfl⟩
theorem yc0{fp:List Addr}{p:Addr×Obj}(hp:p∈wr8 fp h):p.1∈fp/\h.get? p.1=some p.2:=by
 obtain⟨b,hb,e⟩:=List.mem_filterMap.mp hp
 cases q:h.get? b with
 | none=>rw[q] at e;cases e
 | some o =>
   rw[q] at e
   have e':(b,o)=p:=Option.some.inj e
   subst e'
   exact⟨hb,q⟩
theorem Inv.pinned{fp:List Addr}(I:Inv X pins σ H s)(hf:∀ b∈fp,wy0 X pins H b)(ho:∀ b∈fp,∃ o,s.heap.get? b=some o/\∀ v,o.data≠.cell v):Inv X (pins++wr8 fp s.heap) σ H s :=
 I.pins_of fun p hp=>(List.mem_append.mp hp).elim (fun z=>I.pin p (List.mem_append_right _ z)) fun z=>by
  obtain⟨hb,e⟩:=yc0 z
  obtain⟨f0,f1,f2,_⟩:=hf p.1 hb
  obtain⟨o,e',d⟩:=ho p.1 hb
  rw[e] at e';cases e'
  exact⟨e,f0,f1,f2,d⟩
theorem Inv.unpinned{pl:List (Addr×Obj)}(I:Inv X (pins++pl) σ H s):Inv X pins σ H s:=I.pins_of fun p hp=>I.pin p (List.mem_append_right _ (List.mem_append_left _ hp))
theorem Q4{wi:TI}(hp:PassesOwn (model X.prog X.w) X.A X.env X.xe)(hc:X.calm=true)(hi:PI X tg iter wi)(hg:PG X tg g)(hb:PSs X body tb)(hs:autoParam (∀ x,foldedSetIterable iter X.env x=pure x) zAi):PS X (.For tg iter body [] pos) (qg5 wi g tb):=by
 intro pins s σ H D I h
 refine wpAny_For (thn (hi pins s σ H _ I h) fun v s1 h1=>thn h1 fun itv s2 h2=>?_) hs
 obtain⟨it,fp,tn,J,H2,e,I2,T,st2,f2,W,⟨m0,w0⟩,turn⟩:=h2
 subst e
 have stat:∀ {H':Hp},(∀ b∈fp,H' b=none)->∀ b∈fp,wy0 X pins H' b:=fun hn b hb=>⟨hn b hb,(f2 b hb).2⟩
 refine codeAny_forLoop_any (fun n s'=>∃ i σ' H',Inv X pins σ' H' s'/\tn i s'.heap/\(∀ b∈fp,H' b=none)/\W i n σ' H') ?_ m0 ⟨0,σ,H2,I2,st2,fun b hb=>(f2 b hb).1,w0⟩
 rintro n s3 ⟨i,σ3,H3,I3,st3,fr3,w3⟩
 rcases turn i n σ3 H3 w3 with⟨stop,qn⟩|⟨go,N,hN,step⟩
 ·refine wpAny_passesOwn hp (thn (T.done X rfl rfl rfl hc i pins s3 σ3 H3 X.xe I3 (stat fr3) st3 stop) fun r s4 zq=>?_)
  obtain⟨hr,I4⟩:=zq
  subst hr
  exact wpAny_execs_nil ⟨σ3,H3,I4,qn⟩
 ·refine wpAny_passesOwn hp (thn (T.item X rfl rfl rfl hc i pins s3 σ3 H3 X.xe I3 (stat fr3) st3 go) fun r s4 zq=>?_)
  obtain⟨u,hr,h4⟩:=zq
  subst hr
  refine wpAny_passesOwn hp (thn h4 fun _ s5 zq=>?_)
  obtain⟨x,H5,I5,r5,y5,st5,fr5⟩:=zq
  have I5':=I5.pinned (stat fr5) (T.obj _ _ st5)
  refine wpAny_passesOwn hp (thn (hg _ s5 σ3 H5 x u _ I5' r5 (step x H5 y5)) fun _ s6 zq=>?_)
  obtain⟨σ6,H6,I6,q6⟩:=zq
  refine wpAny_passesOwn hp (thn (hb _ s6 σ6 H6 _ I6 q6) fun f s7 q7=>?_)
  have again:∀ {σ7:St} {H7:Hp},Inv X (pins++wr8 fp s5.heap) σ7 H7 s7->N σ7 H7->∃ m,m<n/\∃ i σ' H',Inv X pins σ' H' s7/\tn i s7.heap/\(∀ b∈fp,H' b=none)/\W i m σ' H':=fun{σ7 H7} I7 n7=>by
   obtain⟨m',hm,w7⟩:=hN σ7 H7 n7
   refine⟨m',hm,i+1,σ7,H7,I7.unpinned,T.keep _ _ _ st5 fun b hb o e=>(I7.pin (b,o) (List.mem_append_right _ (List.mem_append_right _ (qq9 hb e)))).1,fun b hb=>?_,w7⟩
   obtain⟨o,e,d⟩:=T.obj _ _ st5 b hb
   exact(I7.pin (b,o) (List.mem_append_right _ (List.mem_append_right _ (qq9 hb e)))).2.1
  cases f with
  | next=>obtain⟨σ7,H7,I7,n7⟩:=q7;exact again I7 n7
  | cont=>obtain⟨σ7,H7,I7,n7⟩:=q7;exact again I7 n7
  | brk=>obtain⟨σ7,H7,I7,q7⟩:=q7;exact⟨σ7,H7,I7.unpinned,q7⟩
  | ret v=>obtain⟨x7,σ7,H7,I7,r7,q7⟩:=q7;exact⟨x7,σ7,H7,I7.unpinned,r7,q7⟩
end
abbrev PAt{α:Type}(P:Nat->α->Hp->Prop)(i:Nat):α->Hp->Prop:=P i
theorem wr9(Pv:Nat->St->Hp->Prop)(h0:Pv 0 σ H)(hl:∀ i σ H,i<=xs.length->Pv i σ H->SqL K H a xs)(hs:∀ i x σ H,xs[i]?=some x->Pv i σ H->g x σ H fun σ2 H2=>tb {D with nx:=PAt Pv (i+1),ct:=PAt Pv (i+1),bk:=D.nx} σ2 H2)(hd:∀ σ H,Pv xs.length σ H->D.nx σ H) :
 ∃ W:Nat->Nat->St->Hp->Prop,(∃ m,W 0 m σ H)/\∀ i m σ H,W i m σ H ->
  ((Itl K a).stop i H/\D.nx σ H)\/((Itl K a).go i H/\∃ N:St->Hp->Prop,(∀ σ' H',N σ' H'->∃ m',m'<m/\W (i+1) m' σ' H')/\∀ x H',(Itl K a).yld i H x H'->g x σ H' fun σ2 H2=>tb {D with nx:=N,ct:=N,bk:=D.nx} σ2 H2):=by
 refine⟨fun i m σ H=>m=xs.length-i/\i<=xs.length/\Pv i σ H,⟨xs.length,by simp,Nat.zero_le _,h0⟩,?_⟩
 rintro i m σ H ⟨rfl,hi,p⟩
 have q:=hl i σ H hi p
 by_cases hlt:i<xs.length
 ·refine .inr ⟨⟨xs,xs[i],q,by simp[hlt]⟩,Pv (i+1),fun σ' H' p'=>⟨xs.length-(i+1),by omega,rfl,hlt,p'⟩,fun x H' y=>?_⟩
  obtain⟨e,y⟩:=y
  subst e
  exact hs i x σ _ (y xs q) p
 ·have e:i=xs.length:=by omega
  subst e
  exact .inl ⟨⟨xs,q,Nat.le_refl _⟩,hd σ H p⟩
theorem xw1(Pv:Nat->St->Hp->Prop)(h0:Pv 0 σ H)(hl:∀ i σ H,i<=xs.length->Pv i σ H->SqT K H a xs)(hs:∀ i x σ H,xs[i]?=some x->Pv i σ H->g x σ H fun σ2 H2=>tb {D with nx:=PAt Pv (i+1),ct:=PAt Pv (i+1),bk:=D.nx} σ2 H2)(hd:∀ σ H,Pv xs.length σ H->D.nx σ H) :
 ∃ W:Nat->Nat->St->Hp->Prop,(∃ m,W 0 m σ H)/\∀ i m σ H,W i m σ H ->
  ((Itt K a).stop i H/\D.nx σ H)\/((Itt K a).go i H/\∃ N:St->Hp->Prop,(∀ σ' H',N σ' H'->∃ m',m'<m/\W (i+1) m' σ' H')/\∀ x H',(Itt K a).yld i H x H'->g x σ H' fun σ2 H2=>tb {D with nx:=N,ct:=N,bk:=D.nx} σ2 H2):=by
 refine⟨fun i m σ H=>m=xs.length-i/\i<=xs.length/\Pv i σ H,⟨xs.length,by simp,Nat.zero_le _,h0⟩,?_⟩
 rintro i m σ H ⟨rfl,hi,p⟩
 have q:=hl i σ H hi p
 by_cases hlt:i<xs.length
 ·refine .inr ⟨⟨xs,xs[i],q,by simp[hlt]⟩,Pv (i+1),fun σ' H' p'=>⟨xs.length-(i+1),by omega,rfl,hlt,p'⟩,fun x H' y=>?_⟩
  obtain⟨e,y⟩:=y
  subst e
  exact hs i x σ _ (y xs q) p
 ·have e:i=xs.length:=by omega
  subst e
  exact .inl ⟨⟨xs,q,Nat.le_refl _⟩,hd σ H p⟩
theorem xa6{lo:Int}(Pv:Nat->St->Hp->Prop)(h0:Pv 0 σ H)(hs:∀ i σ H,i<n->Pv i σ H->g (.int (lo+i)) σ H fun σ2 H2=>tb {D with nx:=PAt Pv (i+1),ct:=PAt Pv (i+1),bk:=D.nx} σ2 H2)(hd:∀ σ H,Pv n σ H->D.nx σ H) :
 ∃ W:Nat->Nat->St->Hp->Prop,(∃ m,W 0 m σ H)/\∀ i m σ H,W i m σ H ->
  ((Itr lo n).stop i H/\D.nx σ H)\/((Itr lo n).go i H/\∃ N:St->Hp->Prop,(∀ σ' H',N σ' H'->∃ m',m'<m/\W (i+1) m' σ' H')/\∀ x H',(Itr lo n).yld i H x H'->g x σ H' fun σ2 H2=>tb {D with nx:=N,ct:=N,bk:=D.nx} σ2 H2):=by
 refine⟨fun i m σ H=>m=n-i/\i<=n/\Pv i σ H,⟨n,by simp,Nat.zero_le _,h0⟩,?_⟩
 rintro i m σ H ⟨rfl,hi,p⟩
 by_cases hlt:i<n
 ·refine .inr ⟨hlt,Pv (i+1),fun σ' H' p'=>⟨n-(i+1),by omega,rfl,hlt,p'⟩,fun x H' y=>?_⟩
  obtain⟨e,y⟩:=y
  subst e y
  exact hs i σ _ hlt p
 ·have e:i=n:=by omega
  subst e
  exact .inl ⟨Nat.le_refl _,hd σ H p⟩
theorem xj9{c:TT}(Pv:St->Hp->Prop)(μ:St->Hp->Nat)(h0:Pv σ H)(hs:∀ σ H,Pv σ H->c σ H fun b H1=>if b=true then tb {D with nx:=fun σ' H'=>Pv σ' H'/\μ σ' H'<μ σ H,ct:=fun σ' H'=>Pv σ' H'/\μ σ' H'<μ σ H,bk:=D.nx} σ H1 else D.nx σ H1)(mono:∀ σ H Q Q',(∀ b H1,Q b H1->Q' b H1)->c σ H Q->c σ H Q'):qn9 c tb D σ H:=by
 refine⟨fun m σ H=>m=μ σ H/\Pv σ H,⟨_,rfl,h0⟩,?_⟩
 rintro m σ H ⟨rfl,p⟩
 refine mono σ H _ _ (fun b H1 q=>?_) (hs σ H p)
 cases b with
 | true=>exact⟨_,fun σ' H' ⟨p',l⟩=>⟨_,l,rfl,p'⟩,q⟩
 | false=>exact q
abbrev R2:=V->V->Hp->VK->Prop
def OpR(X:Cx)(f:Value->Value->Sem Value)(r:R2):Prop :=
 ∀ (pins:List (Addr×Obj)) (s:Shared) (σ:St) (H:Hp) (x y:V) (v u:Value) (Q:VK),Inv X pins σ H s->E7 x v->E7 y u->r x y H Q ->
  wpAny (model X.prog X.w) X.A (f v u) (EP X pins σ Q) X.xe s
def UnR(X:Cx)(f:Value->Sem Value)(r:V->Hp->VK->Prop):Prop :=
 ∀ (pins:List (Addr×Obj)) (s:Shared) (σ:St) (H:Hp) (x:V) (v:Value) (Q:VK),Inv X pins σ H s->E7 x v->r x H Q ->
  wpAny (model X.prog X.w) X.A (f v) (EP X pins σ Q) X.xe s
def Y9(X:Cx)(f:Value)(r:List V->Hp->VK->Prop):Prop :=
 ∀ (pins:List (Addr×Obj)) (s:Shared) (σ:St) (H:Hp) (xs:List V) (us:List Value) (Q:VK),Inv X pins σ H s->D9 xs us->r xs H Q ->
  wpAny (model X.prog X.w) X.A (call f us) (EP X pins σ Q) X.xe s
def tOp(r:R2)(ta tb:TE):TE:=fun σ H Q=>ta σ H fun x H1=>tb σ H1 fun y H2=>r x y H2 Q
def tUn(r:V->Hp->VK->Prop)(ta:TE):TE:=fun σ H Q=>ta σ H fun x H1=>r x H1 Q
def rI(C:Int->Int->Prop)(g:Int->Int->V):R2:=fun x y H Q=>∃ i j,x=.int i/\y=.int j/\C i j/\Q (g i j) H
def rI0(g:Int->Int->V):R2:=fun x y H Q=>∃ i j,x=.int i/\y=.int j/\Q (g i j) H
def rU(g:Int->V):V->Hp->VK->Prop:=fun x H Q=>∃ i,x=.int i/\Q (g i) H
variable{tc:TE}{f:Value->Value->Sem Value}{i j:Int}
section
variable{a b:Expr}{ta tb:TE}
theorem za5(ha:PE X a ta)(hb:PE X b tb){R:V->V->Hp->Prop}(I:Inv X pins σ H s)(h:ta σ H fun x H1=>tb σ H1 fun y H2=>R x y H2)(hf:∀ v u s2 x y H2,Inv X pins σ H2 s2->E7 x v->E7 y u->R x y H2->wpAny (model X.prog X.w) X.A (f v u) Q X.xe s2) :
 wpAny (model X.prog X.w) X.A (eval a X.env) (fun v s₁=>wpAny (model X.prog X.w) X.A (eval b X.env) (fun u s₂=>wpAny (model X.prog X.w) X.A (f v u) Q X.xe s₂) X.xe s₁) X.xe s:=by
 refine thn (ha pins s σ H _ I h) fun v s1 zq=>?_
 obtain⟨x,H1,I1,r1,q1⟩:=zq
 refine thn (hb pins s1 σ H1 _ I1 q1) fun u s2 zq=>?_
 obtain⟨y,H2,I2,r2,q2⟩:=zq
 exact hf v u s2 x y H2 I2 r1 r2 q2
theorem C0{op:Operator}{r:R2}(ho:OpR X (binaryOp op) r)(ha:PE X a ta)(hb:PE X b tb):PE X (.BinOp a op b pos) (tOp r ta tb):=by
 intro pins s σ H Q I h
 exact wpAny_BinOp (za5 ha hb I h fun v u s2 x y H2 I2 rx ry q=>ho pins s2 σ H2 x y v u Q I2 rx ry q)
theorem qi6{op:UnaryOp}{r:V->Hp->VK->Prop}(ho:UnR X (unaryOp op) r)(ha:PE X a ta):PE X (.UnaryOp op a pos) (tUn r ta):=by
 intro pins s σ H Q I h
 exact UnaryOp_ (thn (ha pins s σ H _ I h) fun v s1 ⟨x,H1,I1,r1,q1⟩=>ho pins s1 σ H1 x v Q I1 r1 q1)
theorem opI{C:Int->Int->Prop}{g:Int->Int->Int}(rule:∀ (i j:Int) (t u:Tok) (s:Shared) (Q:Value->Shared->Prop) (E:Value->Shared->Prop),C i j->Q (.int (g i j) s.toks) {s with toks:=s.toks+1}->wpAny (model X.prog X.w) X.A (f (.int i t) (.int j u)) Q E s) :
 OpR X f (rI C fun i j=>.int (g i j)):=by
 intro pins s σ H x y v u Q I rx ry h
 obtain⟨i,j,rfl,rfl,hc,q⟩:=h
 obtain⟨t,rfl⟩:=rx
 obtain⟨t',rfl⟩:=ry
 exact rule i j t t' s _ _ hc ⟨.int (g i j),H,I.tok _,⟨_,rfl⟩,q⟩
theorem zh4{g:Int->Int->Int}(rule:∀ (i j:Int) (t u:Tok) (s:Shared) (Q:Value->Shared->Prop) (E:Value->Shared->Prop),Q (.int (g i j) s.toks) {s with toks:=s.toks+1}->wpAny (model X.prog X.w) X.A (f (.int i t) (.int j u)) Q E s) :
 OpR X f (rI0 fun i j=>.int (g i j)):=by
 intro pins s σ H x y v u Q I rx ry h
 obtain⟨i,j,rfl,rfl,q⟩:=h
 obtain⟨t,rfl⟩:=rx
 obtain⟨t',rfl⟩:=ry
 exact rule i j t t' s _ _ ⟨.int (g i j),H,I.tok _,⟨_,rfl⟩,q⟩
theorem yr1{g:Int->Int->Bool}(rule:∀ (i j:Int) (t u:Tok) (s:Shared) (Q:Value->Shared->Prop) (E:Value->Shared->Prop),Q (.bool (g i j)) s->wpAny (model X.prog X.w) X.A (f (.int i t) (.int j u)) Q E s) :
 OpR X f (rI0 fun i j=>.bl (g i j)):=by
 intro pins s σ H x y v u Q I rx ry h
 obtain⟨i,j,rfl,rfl,q⟩:=h
 obtain⟨t,rfl⟩:=rx
 obtain⟨t',rfl⟩:=ry
 exact rule i j t t' s _ _ ⟨.bl (g i j),H,I,rfl,q⟩
def xq3(i j:Int):Prop:=0<j/\j<1073741824
def yh2(i j:Int):Prop:=0<=j/\j<=1000000/\i.natAbs<2 ^ 64
def yh3(i j:Int):Prop:=(-(2 ^ 64)<i/\i<2 ^ 64)\/(-(2 ^ 64)<j/\j<2 ^ 64)
theorem yh3.ok(h:yh3 i j):IntMulOk i j:=by
 rcases h with⟨h1,h2⟩|⟨h1,h2⟩
 ·exact .of_left (intBits_le_64 h1 h2)
 ·exact .of_right (intBits_le_64 h1 h2)
theorem xq4(k:Nat):(0:Int)<=2 ^ k:=by
 rw[two_pow_cast]
 exact Int.natCast_nonneg _
theorem za6:OpR X (binaryOp .Add) (rI0 fun i j=>.int (i+j)):=zh4 fun _ _ _ _ _ _ _ q=>add_int q
theorem xd9:OpR X (binaryOp .Sub) (rI0 fun i j=>.int (i-j)):=zh4 fun _ _ _ _ _ _ _ q=>sub_int q
theorem za7:OpR X (binaryOp .Mult) (rI yh3 fun i j=>.int (i*j)):=opI fun _ _ _ _ _ _ _ hc q=>mul_int q hc.ok
theorem wq6:OpR X (binaryOp .FloorDiv) (rI xq3 fun i j=>.int (i / j)):=opI fun i j _ _ _ _ _ hc q=>by
 have h1:(0:Int)<j:=hc.1
 have h2:j<1073741824:=hc.2
 exact floordiv_int (by omega) (by rw[Int.fdiv_eq_ediv_of_nonneg i (by omega)];exact q) (.inl (PyProof.noPylong_small (by omega)))
theorem W2:OpR X (binaryOp .Mod) (rI (fun _ j=>0<j) fun i j=>.int (i % j)):=opI fun i j _ _ _ _ _ hc q=>by
 have h1:(0:Int)<j:=hc
 exact mod_int' (by omega) (by rw[Int.fmod_eq_emod_of_nonneg i (by omega)];exact q)
theorem yh4:OpR X (binaryOp .LShift) (rI yh2 fun i j=>.int (i*2 ^ j.toNat)):=opI fun _ _ _ _ _ _ _ hc q=>lshift_int_small hc.1 hc.2.1 hc.2.2 q
theorem yh5:OpR X (binaryOp .RShift) (rI (fun _ j=>0<=j) fun i j=>.int (i / 2 ^ j.toNat)):=opI fun i j _ _ _ _ _ hc q =>
 rshift_int hc (by rw[Int.fdiv_eq_ediv_of_nonneg i (xq4 _)];exact q)
theorem unI{f:Value->Sem Value}{g:Int->Int}(rule:∀ (i:Int) (t:Tok) (s:Shared) (Q:Value->Shared->Prop) (E:Value->Shared->Prop),Q (.int (g i) s.toks) {s with toks:=s.toks+1}->wpAny (model X.prog X.w) X.A (f (.int i t)) Q E s) :
 UnR X f (rU fun i=>.int (g i)):=by
 intro pins s σ H x v Q I rx h
 obtain⟨i,rfl,q⟩:=h
 obtain⟨t,rfl⟩:=rx
 exact rule i t s _ _ ⟨.int (g i),H,I.tok _,⟨_,rfl⟩,q⟩
theorem Y2:UnR X (unaryOp .USub) (rU fun i=>.int (-i)):=unI fun _ _ _ _ _ q=>neg_int q
end
def yr2:V->V->Bool
 | .non,.non=>true | .non,.int _=>true | .int _,.non=>true | .non,.bl _=>true | .bl _,.non=>true | .non,.str _=>true | .str _,.non=>true
 | .int _,.int _=>true | .bl _,.bl _=>true | .str _,.str _=>true | .byt _,.byt _=>true
 | .int _,.str _=>true | .str _,.int _=>true | .bl _,.str _=>true | .str _,.bl _=>true
 | _,_=>false
def rEq:R2:=fun x y H Q=>yr2 x y=true/\Q (.bl (decide (x=y))) H
def rNe:R2:=fun x y H Q=>yr2 x y=true/\Q (.bl (!decide (x=y))) H
theorem xw2:decide (V.int i=V.int j)=(i == j):=by
 rw[Bool.eq_iff_iff]
 simp
theorem yh6{i j:Bool}:decide (V.bl i=V.bl j)=(i == j):=by
 rw[Bool.eq_iff_iff]
 simp
theorem xw3{i j:Str}:decide (V.str i=V.str j)=(i == j):=by
 rw[Bool.eq_iff_iff]
 simp
theorem xw4{i j:Array UInt8}:decide (V.byt i=V.byt j)=(i.toList == j.toList):=by
 rw[Bool.eq_iff_iff]
 cases i
 cases j
 simp
variable{op:CmpOp}
section
variable{a b:Expr}{ta tb:TE}
theorem G3{Q:VK}{k k':Bool}(I:Inv X pins σ H s)(q:Q (.bl k) H)(e:k=k'):EP X pins σ Q (.bool k') s:=by
 subst e
 exact⟨.bl k,H,I,rfl,q⟩
theorem zh5:OpR X (compareOp .Eq) rEq:=by
 intro pins s σ H x y v u Q I rx ry h
 obtain⟨hs,q⟩:=h
 cases x with
 | non =>
   cases rx
   cases y with
   | non=>cases ry;exact PySem.EqNone.eq_none_none (G3 I q (by simp))
   | bl j=>cases ry;exact PySem.EqNone.eq_none_bool (G3 I q (by simp))
   | int j=>obtain⟨t',rfl⟩:=ry;exact PySem.EqNone.eq_none_int (G3 I q (by simp))
   | str j=>obtain⟨t',rfl⟩:=ry;exact PySem.EqNone.eq_none_str (G3 I q (by simp))
   | _=>exact absurd (show false=true from hs) Bool.false_ne_true
 | bl i =>
   cases rx
   cases y with
   | non=>cases ry;exact PySem.EqNone.eq_bool_none (G3 I q (by simp))
   | bl j=>cases ry;exact eq_bool (G3 I q yh6)
   | str j=>obtain⟨t',rfl⟩:=ry;exact PySem.EqMixed.eq_bool_str (G3 I q (by simp))
   | _=>exact absurd (show false=true from hs) Bool.false_ne_true
 | int i =>
   obtain⟨t,rfl⟩:=rx
   cases y with
   | non=>cases ry;exact PySem.EqNone.eq_int_none (G3 I q (by simp))
   | int j=>obtain⟨t',rfl⟩:=ry;exact eq_int (G3 I q xw2)
   | str j=>obtain⟨t',rfl⟩:=ry;exact PySem.EqMixed.eq_int_str (G3 I q (by simp))
   | _=>exact absurd (show false=true from hs) Bool.false_ne_true
 | str i =>
   obtain⟨t,rfl⟩:=rx
   cases y with
   | non=>cases ry;exact PySem.EqNone.eq_str_none (G3 I q (by simp))
   | bl j=>cases ry;exact PySem.EqMixed.eq_str_bool (G3 I q (by simp))
   | int j=>obtain⟨t',rfl⟩:=ry;exact PySem.EqMixed.eq_str_int (G3 I q (by simp))
   | str j=>obtain⟨t',rfl⟩:=ry;exact eq_str (G3 I q xw3)
   | _=>exact absurd (show false=true from hs) Bool.false_ne_true
 | byt i =>
   obtain⟨t,rfl⟩:=rx
   cases y with
   | byt j=>obtain⟨t',rfl⟩:=ry;exact PySem.W.eq_bytes (G3 I q xw4)
   | _=>exact absurd (show false=true from hs) Bool.false_ne_true
 | _=>cases y <;> exact absurd (show false=true from hs) Bool.false_ne_true
theorem zh6:OpR X (compareOp .NotEq) rNe:=by
 intro pins s σ H x y v u Q I rx ry h
 obtain⟨hs,q⟩:=h
 cases x with
 | non =>
   cases rx
   cases y with
   | non=>cases ry;exact PySem.EqNone.ne_none_none (G3 I q (by simp))
   | bl j=>cases ry;exact PySem.EqNone.ne_none_bool (G3 I q (by simp))
   | int j=>obtain⟨t',rfl⟩:=ry;exact PySem.EqNone.ne_none_int (G3 I q (by simp))
   | str j=>obtain⟨t',rfl⟩:=ry;exact PySem.EqNone.ne_none_str (G3 I q (by simp))
   | _=>exact absurd (show false=true from hs) Bool.false_ne_true
 | bl i =>
   cases rx
   cases y with
   | non=>cases ry;exact PySem.EqNone.ne_bool_none (G3 I q (by simp))
   | bl j=>cases ry;exact ne_bool (G3 I q (congrArg not yh6))
   | str j=>obtain⟨t',rfl⟩:=ry;exact PySem.EqMixed.ne_bool_str (G3 I q (by simp))
   | _=>exact absurd (show false=true from hs) Bool.false_ne_true
 | int i =>
   obtain⟨t,rfl⟩:=rx
   cases y with
   | non=>cases ry;exact PySem.EqNone.ne_int_none (G3 I q (by simp))
   | int j=>obtain⟨t',rfl⟩:=ry;exact ne_int (G3 I q (congrArg not xw2))
   | str j=>obtain⟨t',rfl⟩:=ry;exact PySem.EqMixed.ne_int_str (G3 I q (by simp))
   | _=>exact absurd (show false=true from hs) Bool.false_ne_true
 | str i =>
   obtain⟨t,rfl⟩:=rx
   cases y with
   | non=>cases ry;exact PySem.EqNone.ne_str_none (G3 I q (by simp))
   | bl j=>cases ry;exact PySem.EqMixed.ne_str_bool (G3 I q (by simp))
   | int j=>obtain⟨t',rfl⟩:=ry;exact PySem.EqMixed.ne_str_int (G3 I q (by simp))
   | str j=>obtain⟨t',rfl⟩:=ry;exact ne_str (G3 I q (congrArg not xw3))
   | _=>exact absurd (show false=true from hs) Bool.false_ne_true
 | byt i =>
   obtain⟨t,rfl⟩:=rx
   cases y with
   | byt j=>obtain⟨t',rfl⟩:=ry;exact PySem.W.ne_bytes (G3 I q (congrArg not xw4))
   | _=>exact absurd (show false=true from hs) Bool.false_ne_true
 | _=>cases y <;> exact absurd (show false=true from hs) Bool.false_ne_true
theorem zh7:OpR X (compareOp .Lt) (rI0 fun i j=>.bl (decide (i<j))):=yr1 fun _ _ _ _ _ _ _ q=>lt_int q
theorem zh8:OpR X (compareOp .LtE) (rI0 fun i j=>.bl (decide (i<=j))):=yr1 fun _ _ _ _ _ _ _ q=>le_int q
theorem zh9:OpR X (compareOp .Gt) (rI0 fun i j=>.bl (decide (j<i))):=yr1 fun _ _ _ _ _ _ _ q=>gt_int q
theorem zi0:OpR X (compareOp .GtE) (rI0 fun i j=>.bl (decide (j<=i))):=yr1 fun _ _ _ _ _ _ _ q=>ge_int q
theorem yc1:OpR X (compareOp .Lt) (fun x y H Q=>∃ i j,x=.str i/\y=.str j/\Q (.bl (decide (i.cps.toList<j.cps.toList))) H):=by
 intro pins s σ H x y v u Q I rx ry h
 obtain⟨i,j,rfl,rfl,q⟩:=h
 obtain⟨t,rfl⟩:=rx
 obtain⟨t',rfl⟩:=ry
 exact lt_str (G3 I q rfl)
theorem yc2:OpR X (compareOp .In) (fun x y H Q=>∃ i j,x=.str i/\y=.str j/\Q (.bl (!(Builtin.Str.occurrences j i 0 j.length 1).isEmpty)) H):=by
 intro pins s σ H x y v u Q I rx ry h
 obtain⟨i,j,rfl,rfl,q⟩:=h
 obtain⟨t,rfl⟩:=rx
 obtain⟨t',rfl⟩:=ry
 exact in_str (G3 I q rfl)
theorem za8:OpR X (compareOp .Is) (fun x y H Q=>y=.non/\Q (.bl (decide (x=.non))) H):=by
 intro pins s σ H x y v u Q I rx ry h
 obtain⟨rfl,q⟩:=h
 cases ry
 refine is_none_gen (G3 I q ?_)
 cases x <;> first
  | (cases rx;rfl)
  | (obtain⟨t,rfl⟩:=rx;rfl)
theorem yr3:OpR X (compareOp .IsNot) (fun x y H Q=>y=.non/\Q (.bl (!decide (x=.non))) H):=by
 intro pins s σ H x y v u Q I rx ry h
 obtain⟨rfl,q⟩:=h
 cases ry
 refine isnot_none_gen (G3 I q ?_)
 cases x <;> first
  | (cases rx;rfl)
  | (obtain⟨t,rfl⟩:=rx;rfl)
theorem OpR.or{r r':R2}(h:OpR X f r)(h':OpR X f r'):OpR X f (fun x y H Q=>r x y H Q\/r' x y H Q):=by
 intro pins s σ H x y v u Q I rx ry q
 rcases q with q|q
 ·exact h pins s σ H x y v u Q I rx ry q
 ·exact h' pins s σ H x y v u Q I rx ry q
theorem D4(b:Expr)(h:autoParam (op≠.In) zAd)(h2:autoParam (op≠.NotIn) zAd):behindInMarks op b=false:=by
 have e1:(op == CmpOp.In)=false:=by cases op <;> first|rfl|exact absurd rfl h
 have e2:(op == CmpOp.NotIn)=false:=by cases op <;> first|rfl|exact absurd rfl h2
 cases b <;> simp[behindInMarks,e1,e2]
theorem qz6{r:R2}(ho:OpR X (compareOp op) r)(ha:PE X a ta)(hb:PE X b tb)(hm:behindInMarks op b=false):PE X (.Compare a [op] [b] pos) (tOp r ta tb):=by
 intro pins s σ H Q I h
 exact wpAny_Compare1 (za5 ha hb I h fun v u s2 x y H2 I2 rx ry q=>ho pins s2 σ H2 x y v u Q I2 rx ry q) hm
def E3(t:TE):TT:=fun σ H Q=>t σ H fun x H'=>∃ k,x=.bl k/\Q k H'
theorem C2{r:R2}(ho:OpR X (compareOp op) r)(ha:PE X a ta)(hb:PE X b tb)(hm:behindInMarks op b=false):PT X (.Compare a [op] [b] pos) (E3 (tOp r ta tb)):=by
 intro pins s σ H Q I h
 refine wpAny_isTrue_Compare1 (thn (ha pins s σ H _ I h) fun v s1 ⟨x,H1,I1,r1,q1⟩=>thn (hb pins s1 σ H1 _ I1 q1) fun u s2 ⟨y,H2,I2,r2,q2⟩ =>
  thn (ho pins s2 σ H2 x y v u _ I2 r1 r2 q2) fun c s3 ⟨z,H3,I3,r3,k,e,q3⟩=>?_) hm
 subst e
 cases r3
 exact wpAny_truthy_bool ⟨H3,I3,q3⟩
def xe0(r r':R2)(ta tb tc:TE):TE:=fun σ H Q=>ta σ H fun x H1=>tb σ H1 fun y H2=>r x y H2 fun z H3=>∃ k,z=.bl k /\
 (if k=true then tc σ H3 fun w' H4=>r' y w' H4 Q else Q (.bl false) H3)
theorem xk0{op':CmpOp}{r r':R2}(ho:OpR X (compareOp op) r)(ho':OpR X (compareOp op') r')(ha:PE X a ta)(hb:PE X b tb)(hc:PE X c tc)(hm:lastMarks [op,op'] [b,c]=false:=by with_unfolding_all rfl):PE X (.Compare a [op,op'] [b,c] pos) (xe0 r r' ta tb tc):=by
 intro pins s σ H Q I h
 refine Compare_chain (thn (ha pins s σ H _ I h) fun v s1 ⟨x,H1,I1,r1,q1⟩=>chain_link (thn (hb pins s1 σ H1 _ I1 q1) fun u s2 ⟨y,H2,I2,r2,q2⟩ =>
  thn (ho pins s2 σ H2 x y v u _ I2 r1 r2 q2) fun d s3 ⟨z,H3,I3,r3,k,e,q3⟩=>?_)) hm
 subst e
 cases r3
 refine wpAny_truthy_bool ?_
 cases k with
 | false=>exact ite_ff ⟨.bl false,H3,I3,rfl,q3⟩
 | true=>exact ite_tt (chain_last (thn (hc pins s3 σ H3 _ I3 q3) fun w' s4 ⟨z',H4,I4,r4,q4⟩=>ho' pins s4 σ H4 y z' u w' Q I4 r2 r4 q4))
theorem wk3:(sizeLine:Nat)<2 ^ 63:=by rw[sizeLine_eq];decide
theorem xq5:OpR X (binaryOp .Add) (fun x y H Q=>∃ i j,x=.str i/\y=.str j/\i.length+j.length<=sizeLine/\Q (.str (i++j)) H):=by
 intro pins s σ H x y v u Q I rx ry h
 obtain⟨i,j,rfl,rfl,hz,q⟩:=h
 obtain⟨t,rfl⟩:=rx
 obtain⟨t',rfl⟩:=ry
 exact wpAny_with_toks (n:=1) I.tk (add_str (fun t' tk ht=>⟨.str (i++j),H,I.tok _ ht,⟨_,rfl⟩,q⟩) hz)
theorem qi7{x:V}(r:D9 [x] us):∃ u,us=[u]/\E7 x u:=by
 cases r with
 | cons r1 r2=>cases r2;exact⟨_,rfl,r1⟩
theorem xa7{x:V}(r:D9 [x,y] us):∃ u w',us=[u,w']/\E7 x u/\E7 y w':=by
 cases r with
 | cons r1 r2 =>
   cases r2 with
   | cons r3 r4=>cases r4;exact⟨_,_,rfl,r1,r3⟩
theorem yc3:Y9 X (.type "int") (fun xs H Q=>(∃ i,xs=[.int i]/\Q (.int i) H)\/∃ k,xs=[.bl k]/\Q (.int (if k then 1 else 0)) H):=by
 intro pins s σ H xs us Q I r h
 rcases h with⟨i,rfl,q⟩|⟨k,rfl,q⟩
 ·obtain⟨u,rfl,t,rfl⟩:=qi7 r
  exact call_int_int ⟨.int i,H,I,⟨_,rfl⟩,q⟩
 ·obtain⟨u,rfl,r1⟩:=qi7 r
  cases r1
  exact call_int_bool ⟨.int (if k then 1 else 0),H,I.tok _,⟨_,rfl⟩,q⟩
theorem xe1:Y9 X (.type "str") (fun xs H Q=>∃ i,xs=[.int i]/\i.natAbs.log2<1920/\Q (.str (toString i)) H):=by
 intro pins s σ H xs us Q I r h
 obtain⟨i,rfl,hz,q⟩:=h
 obtain⟨u,rfl,t,rfl⟩:=qi7 r
 exact PySem.P.str_of_int hz ⟨.str _,H,I.tok _,⟨_,rfl⟩,q⟩
end
structure xq6(h:Heap)(x dx C:Addr)(mA:Str->Option Value):Prop where
 obj:h.get? x=some (PySem.W.instObj C dx)
 ns:h.Ns1 dx mA
 ne:dx≠x
variable{dx:Addr}{mA:Str->Option Value}
theorem yc4(n:h.Ns1 dx mA):∃ od,h.get? dx=some od/\∀ name,PySem.W.lookIn name od=some (mA name):=by
 obtain⟨o,es,ep,ho,hd,hk,_,hm⟩:=n
 refine⟨o,ho,fun name=>?_⟩
 have e:=hm name
 unfold nsFind findBy at e
 rw[<-Array.find?_toList] at e
 unfold PySem.W.lookIn
 rw[hd]
 dsimp only
 split
 ·rename_i y q
  rw[q] at e
  exact congrArg some e
 ·rename_i q
  rw[q] at e
  have a:es.toList.any (·.refKey)=false:=by
   rw[List.any_eq_false]
   intro y hy
   obtain⟨z,t,hkey⟩:=hk y (Array.mem_toList_iff.mp hy)
   simp[DictEntry.refKey,hkey]
  have a':¬es.toList.any (·.refKey)=true:=by rw[a];exact Bool.false_ne_true
  rw[if_neg a']
  exact congrArg some e
variable{C:Addr}
theorem xq6.look{x:Addr}(I:xq6 h x dx C mA):∃ od,PySem.W.InstAt h x (PySem.W.instObj C dx) C (some od)/\∀ name,PySem.W.lookIn name od=some (mA name) :=
 let ⟨od,ho,hl⟩:=yc4 I.ns
 ⟨od,⟨I.obj,rfl,rfl,ho⟩,hl⟩
variable{name:Str}{prog:Program}{pl:Sem Bool}{kw:List (Str×Value)}
section
variable{x f:Addr}{v:Value}
theorem yr4{expr:Bool}(X:K.In s.heap)(I:xq6 s.heap x dx C mA)(hg:PySem.W.plainGet K C name=true)(hh:PySem.W.hasDictIn K C=true)(ha:PySem.W.findIn K (.ref C) name=some none)(hv:mA name=some v)(hv':PySem.W.handedIn v=true)(h:Q v {s with toks:=s.toks+1}) :
 wpAny (model prog w) A (getAttr (.ref x) name expr) Q E s:=by
 obtain⟨od,J,hl⟩:=I.look
 exact PySem.W.get_value X J (PySem.W.plainGet_of hg).1 (PySem.W.findObj_own hh ha rfl (by rw[hl,hv])) hv' h
theorem yh7{Q:Value×List Value->Shared->Prop}(X:K.In s.heap)(I:xq6 s.heap x dx C mA)(hg:PySem.W.plainGet K C name=true)(hf:PySem.W.findIn K (.ref C) name=some (some (.ref f)))(ht:PySem.W.isFn K (.ref f)=true)(hv:mA name=none)(h:Q (.ref f,[.ref x]) s) :
 wpAny (model prog w) A (getMethod (.ref x) name pl) Q E s:=by
 obtain⟨od,J,hl⟩:=I.look
 exact PySem.W.method_fn X J (PySem.W.plainGet_of hg).1 (PySem.W.plainGet_of hg).2 hf (beq_iff_eq.mp ht) (by show(PySem.W.lookIn name od).map (·.isSome)=some false;rw[hl,hv];rfl) h
theorem yr5{ns:List Str}{Q:Unit->Shared->Prop}(X:K.In s.heap)(I:xq6 s.heap x dx C mA)(hs:PySem.W.findIn K (.ref C) "__setattr__"=some (some (.builtin "object.__setattr__")))(hp:PySem.W.plainOver K C=true)(ht:PySem.W.takerIn K C name=some none)(hh:PySem.W.hasDictIn K C=true)(hw:PySem.Within mA ns)(hsz:ns.length<=sizeLine)(h:∀ h',xq6 h' x dx C (fun y=>if y=name then some v else mA y)->Heap.SameBut dx s.heap h'->Q () {s with heap:=h',toks:=s.toks+2}) :
 wpAny (model prog w) A (setAttr (.ref x) name v) Q E s:=by
 obtain⟨od,J,hl⟩:=I.look
 refine PySem.W.set_plain X J hs (PySem.W.osa_open (s:={s with toks:=s.toks+1}) (r:=none) X J hp ht fun b=>?_)
 obtain⟨cd,hc,hd'⟩:=PySem.W.any_some hh
 have hx:s.heap.get? x=some ⟨.ref C,some dx,.plain,#[]⟩:=I.obj
 refine wpAny_bind (wpAny_pure (wpAny_bind (wpAny_bind (wpAny_loadPart hx (wpAny_bind (PySem.W.Looks.here (s:={s with toks:=s.toks+1}) (PySem.W.looks_clsIn X hc) ?_))))))
 rw[hd']
 refine wpAny_pure (a:=some dx) (wpAny_bind (wpAny_pure (wpAny_bind ?_)))
 refine wpAny_nsSet1 (s:={s with toks:=s.toks+1}) I.ns fun h' hn2 hs2=>?_
 obtain⟨oD,esD,epD,hoD,hdD,hcD⟩:=hn2.count (PySem.Within.cons name v hw)
 refine wpAny_bind (wpAny_lookBehind hoD (by rw[hdD];exact pastItsLine_dict (Nat.le_trans hcD (by rw[List.length_cons];omega))) ?_)
 exact wpAny_pure (h _ ⟨(hs2.2 _ (Ne.symm I.ne)).trans I.obj,hn2,I.ne⟩ hs2)
theorem yh8{R:Result->Shared->Prop}{vs:List Value}(X:K.In s.heap)(hm:PySem.W.makesIn K C=true)(hi:PySem.W.findIn K (.ref C) "__init__"=some (some (.ref f)))(hf:PySem.W.typeIn K (.ref f)=some (.type "function")) (h:codeAny (model prog w) (A.under (.builtin "type.__call__" ⟨.ref C::vs,kw⟩)) (.call (.ref f) ⟨.ref (s.heap.objs.size+1)::vs,kw⟩) (PySem.W.InitBack (s.heap.objs.size+1) R)
  {s with heap:=(s.heap.push PySem.W.emptyDict).push (PySem.W.instObj C s.heap.objs.size)}) :
 codeAny (model prog w) A (.call (.ref C) ⟨vs,kw⟩) R s:=by
 obtain⟨hh,g,d,t,os⟩:=s
 exact PySem.W.make_core (PySem.W.makes_of X hm) (PySem.W.looks_findIn X hi) (fun self=>PySem.W.bind_fn X self hf) (.inl rfl) h
end
def qe3(f:Str)(v:V):List (Str×V)->List (Str×V)
 | []=>[(f,v)]
 | (g,x)::r=>if g=f then(g,v)::r else(g,x)::qe3 f v r
theorem wo2(f g:Str)(v:V):∀ fs:List (Str×V),(qe3 f v fs).lookup g=if g=f then some v else fs.lookup g
 | []=>by
   show List.lookup g [(f,v)]=_
   by_cases h:g=f
   ·have hb:(g == f)=true:=beq_iff_eq.mpr h
    simp only[List.lookup,hb,if_pos h]
   ·have hb:(g == f)=false:=beq_eq_false_iff_ne.mpr h
    simp only[List.lookup,hb,if_neg h]
 | (k,x)::r=>by
   have ih:=wo2 f g v r
   rw[show qe3 f v ((k,x)::r)=(if k=f then(k,v)::r else(k,x)::qe3 f v r) from rfl]
   by_cases hk:k=f
   ·rw[if_pos hk]
    by_cases h:g=k
    ·have hb:(g == k)=true:=beq_iff_eq.mpr h
     simp only[List.lookup,hb,if_pos (h.trans hk)]
    ·have hb:(g == k)=false:=beq_eq_false_iff_ne.mpr h
     simp only[List.lookup,hb,if_neg (fun e:g=f=>h (e.trans hk.symm))]
   ·rw[if_neg hk]
    by_cases h:g=k
    ·have hb:(g == k)=true:=beq_iff_eq.mpr h
     simp only[List.lookup,hb,if_neg (fun e:g=f=>hk (h.symm.trans e))]
    ·have hb:(g == k)=false:=beq_eq_false_iff_ne.mpr h
     simp only[List.lookup,hb]
     exact ih
theorem wk4(f:Str)(v:V):∀ fs:List (Str×V),f∈(qe3 f v fs).map (·.1)/\∀ g,g∈fs.map (·.1)->g∈(qe3 f v fs).map (·.1)
 | []=>⟨by simp[qe3],fun g h=>by simp at h⟩
 | (k,x)::r=>by
   obtain⟨i1,i2⟩:=wk4 f v r
   rw[show qe3 f v ((k,x)::r)=(if k=f then(k,v)::r else(k,x)::qe3 f v r) from rfl]
   by_cases hk:k=f
   ·rw[if_pos hk]
    subst hk
    exact⟨by simp,fun g h=>by simpa using h⟩
   ·rw[if_neg hk]
    refine⟨?_,fun g h=>?_⟩
    ·rw[List.map_cons]
     exact List.mem_cons_of_mem _ i1
    ·rw[List.map_cons] at h ⊢
     rcases List.mem_cons.mp h with e|e
     ·exact List.mem_cons.mpr (.inl e)
     ·exact List.mem_cons_of_mem _ (i2 g e)
theorem wo3(f:Str)(v:V):∀ fs:List (Str×V),(qe3 f v fs).length<=fs.length+1
 | []=>by simp[qe3]
 | (k,x)::r=>by
   have ih:=wo3 f v r
   rw[show qe3 f v ((k,x)::r)=(if k=f then(k,v)::r else(k,x)::qe3 f v r) from rfl]
   by_cases hk:k=f
   ·rw[if_pos hk,List.length_cons,List.length_cons];omega
   ·rw[if_neg hk,List.length_cons,List.length_cons];omega
theorem wf4.some_of{o:Option Value}(r:wf4 (some v) o):∃ u,o=some u/\E7 v u:=by
 cases o with
 | none=>exact(show False from r).elim
 | some u=>exact⟨u,rfl,r⟩
theorem wf4.none_of{o:Option Value}(r:wf4 none o):o=none:=by
 cases o with
 | none=>rfl
 | some u=>exact(show False from r).elim
theorem yc5(r:E7 v u):PySem.W.handedIn u=true:=by
 cases v with
 | non=>cases (show u=Value.none from r);rfl
 | bl b=>cases (show u=Value.bool b from r);rfl
 | int i=>obtain⟨t,e⟩:=(show ∃ t,u=Value.int i t from r);cases e;rfl
 | str x=>obtain⟨t,e⟩:=(show ∃ t,u=Value.str x t from r);cases e;rfl
 | byt b=>obtain⟨t,e⟩:=(show ∃ t,u=Value.bytes b t from r);cases e;rfl
 | flt b=>obtain⟨t,e⟩:=(show ∃ t,u=Value.float b t from r);cases e;rfl
 | ref a=>cases (show u=Value.ref a from r);rfl
 | ty n=>cases (show u=Value.type n from r);rfl
section
variable{fs fs':List (Str×V)}
theorem wq7(hok:HOk P w H h)(e:H a=some (.ins C dx fs)):∃ mA,xq6 h a dx C mA/\(∀ f,wf4 (fs.lookup f) (mA f))/\PySem.Within mA (fs.map (·.1))/\fs.length<=1000/\H dx=some (.own a):=by
 obtain⟨d,z,ne,ob,mA,n,r,q⟩:=(show R3 P w H h a (.ins C dx fs) from hok a _ e)
 exact⟨mA,⟨ob,n,ne⟩,r,q,z,d⟩
end
structure Cls(K:Fg)(C:Addr):Prop where
 pg:PySem.W.plainGet K C Str.empty=true
 hd:PySem.W.hasDictIn K C=true
 po:PySem.W.plainOver K C=true
 sa:PySem.W.findIn K (.ref C) "__setattr__"=some (some (.builtin "object.__setattr__"))
theorem Cls.get(c:Cls K C)(f:Str):PySem.W.plainGet K C f=true:=c.pg
def qw1(K:Fg)(C:Addr)(f:Str):Prop:=PySem.W.findIn K (.ref C) f=some none
theorem qw1.taker{f:Str}(n:qw1 K C f):PySem.W.takerIn K C f=some none:=by
 unfold PySem.W.takerIn
 rw[show PySem.W.findIn K (.ref C) f=some none from n]
 rfl
structure qr0(K:Fg)(C:Addr)(m:Str)(f:Addr):Prop where
 at_:PySem.W.findIn K (.ref C) m=some (some (.ref f))
 fn:PySem.W.isFn K (.ref f)=true
 kp:PySem.W.keepIn K (.ref f)=true
variable{m:Str}{env:Env}
section
variable{fs:List (Str×V)}{f:Str}
theorem xq7{b:Bool}(I:Inv X pins σ H s)(e:H a=some (.ins C dx fs))(c:Cls X.K C)(n:qw1 X.K C f)(l:fs.lookup f=some v)(h:∀ u s',Inv X pins σ H s'->E7 v u->Q u s'):wpAny (model X.prog X.w) A (getAttr (.ref a) f b) Q E s:=by
 obtain⟨mA,O,r,_,_,_⟩:=wq7 I.hok e
 obtain⟨u,hu,ru⟩:=wf4.some_of (v:=v) (o:=mA f) (by rw[<-l];exact r f)
 exact yr4 I.kIn O (c.get f) c.hd n hu (yc5 ru) (h u _ (I.tok _) ru)
theorem ws0{g:Addr}{Q:Value×List Value->Shared->Prop}(I:Inv X pins σ H s)(e:H a=some (.ins C dx fs))(c:Cls X.K C)(k:qr0 X.K C m g)(l:fs.lookup m=none)(h:Q (.ref g,[.ref a]) s):wpAny (model X.prog X.w) A (getMethod (.ref a) m pl) Q E s:=by
 obtain⟨mA,O,r,_,_,_⟩:=wq7 I.hok e
 have hn:mA m=none:=wf4.none_of (by rw[<-l];exact r m)
 exact yh7 I.kIn O (c.get m) k.at_ k.fn hn h
theorem xq8{Q:Unit->Shared->Prop}(I:Inv X pins σ H s)(e:H a=some (.ins C dx fs))(c:Cls X.K C)(n:qw1 X.K C f)(hl:fs.length<1000)(ry:E7 y u)(h:∀ s',Inv X pins σ (upd H a (.ins C dx (qe3 f y fs))) s'->Q () s'):wpAny (model X.prog X.w) A (setAttr (.ref a) f u) Q E s:=by
 obtain⟨mA,O,r,wi,_,ho⟩:=wq7 I.hok e
 have hz:(fs.map (·.1)).length<=sizeLine:=by rw[List.length_map,sizeLine_eq];omega
 refine yr5 I.kIn O c.sa c.po n.taker c.hd wi hz fun h' O' sb=>h _ ?_
 have hd:∃ o,h'.get? dx=some o:=let ⟨o,_,_,e',_⟩:=O'.ns;⟨o,e'⟩
 refine I.write (x:=a) (e:=dx) (by rw[e];exact True.intro) (.inr ho) (fun b q hb z=>(sb.2 b hb).trans z) hd ?_
 refine⟨by rw[B2 O.ne];exact ho,?_,O.ne,O'.obj,_,O'.ns,fun g=>?_,fun g hg=>?_⟩
 ·have:=wo3 f y fs;omega
 ·show wf4 ((qe3 f y fs).lookup g) (if g=f then some u else mA g)
  rw[wo2]
  by_cases q:g=f
  ·rw[if_pos q,if_pos q];exact ry
  ·rw[if_neg q,if_neg q];exact r g
 ·by_cases q:g=f
  ·rw[q];exact(wk4 f y fs).1
  ·refine(wk4 f y fs).2 g (wi g fun z=>hg ?_)
   show(if g=f then some u else mA g)=none
   rw[if_neg q];exact z
theorem Inv.made(I:Inv X pins σ H s):Inv X pins σ (upd (upd H s.heap.objs.size (.own (s.heap.objs.size+1))) (s.heap.objs.size+1) (.ins C s.heap.objs.size []))
 {s with heap:=(s.heap.push PySem.W.emptyDict).push (PySem.W.instObj C s.heap.objs.size)}:=by
 have e1:(s.heap.push PySem.W.emptyDict).get? s.heap.objs.size=some PySem.W.emptyDict:=Heap.get?_push_size s.heap rfl
 have e2:((s.heap.push PySem.W.emptyDict).push (PySem.W.instObj C s.heap.objs.size)).get? (s.heap.objs.size+1)=some (PySem.W.instObj C s.heap.objs.size):=by
  have:=Heap.get?_push_size (s.heap.push PySem.W.emptyDict) (o:=PySem.W.instObj C s.heap.objs.size) rfl
  rwa [Heap.size_push] at this
 have e3:(s.heap.push PySem.W.emptyDict).Ns s.heap.objs.size (fun _=>none):=⟨PySem.W.emptyDict,#[],_,e1,rfl,(fun e he=>absurd he (by simp)),fun _=>rfl⟩
 have I1:=I.laid (a:=s.heap.objs.size) (o:=.own (s.heap.objs.size+1)) (h':=s.heap.push PySem.W.emptyDict) (t':=s.toks) (fun b u q=>Heap.get?_push_of_some _ q) (Nat.le_refl _) ⟨_,e1⟩
 refine I1.laid (a:=s.heap.objs.size+1) (o:=.ins C s.heap.objs.size []) (t':=s.toks) (fun b u q=>Heap.get?_push_of_some _ q) (Nat.le_of_eq (Heap.size_push _ _)) ?_
 have ne:s.heap.objs.size≠s.heap.objs.size+1:=Nat.ne_of_lt (Nat.lt_succ_self _)
 refine⟨by rw[B2 ne,A4],Nat.zero_le _,ne,e2,fun _=>none,(Heap.Ns1.of_empty e3).at fun o q=>Heap.get?_push_of_some _ q,fun _=>True.intro,fun y hy=>absurd rfl hy⟩
theorem yr6{f:Str}(hb:attributeBase e f env (eval e env)=eval e env)(h:wpAny (model prog w) A (eval e env) (fun o s₁=>wpAny (model prog w) A (getAttr o f true) Q E s₁) E s):wpAny (model prog w) A (eval (.Attribute e f pos) env) Q E s :=
 Attribute_any_ h (by rw[arm_eval_Attribute,hb])
end
def Q5(K:Fg)(ta:TE)(f:Str):TE:=fun σ H Q=>ta σ H fun x H1=>∃ a C dx fs v,x=.ref a/\H1 a=some (.ins C dx fs)/\Cls K C/\qw1 K C f/\fs.lookup f=some v/\Q v H1
def wb4(K:Fg)(ta tv:TE)(f:Str):TS:=fun D σ H=>tv σ H fun y H1=>ta σ H1 fun x H2=>∃ a C dx fs,x=.ref a/\H2 a=some (.ins C dx fs)/\Cls K C/\qw1 K C f/\fs.length<1000 /\
 D.nx σ (upd H2 a (.ins C dx (qe3 f y fs)))
variable{tpos:Pos}{tv:TE}
section
variable{o value:Expr}{f:Str}{ta:TE}
theorem E2(he:PE X e ta)(hb:attributeBase e f X.env (eval e X.env)=eval e X.env):PE X (.Attribute e f pos) (Q5 X.K ta f):=by
 intro pins s σ H Q I h
 refine yr6 hb (thn (he pins s σ H _ I h) fun u s1 zq=>?_)
 obtain⟨x,H1,I1,rx,a,C,dx,fs,v,ex,ea,c,n,l,q⟩:=zq
 subst ex
 obtain rfl:u=Value.ref a:=rx
 exact xq7 I1 ea c n l fun u' s2 I2 ru=>⟨v,H1,I2,ru,q⟩
theorem qr1(ha:PE X o ta)(hv:PE X value tv)(hs:swapsWith value (some (.Attribute o f pos')) pos.line X.env=pure false):PS X (.Assign [.Attribute o f pos'] value pos) (wb4 X.K ta tv f):=by
 intro pins s σ H D I h
 refine plainObj_wpAny_Assign_Attribute (thn (hv pins s σ H _ I h) fun u s1 ⟨y,H1,I1,ry,q⟩=>thn (ha pins s1 σ H1 _ I1 q) fun ov s2 zq=>?_) hs
 obtain⟨x,H2,I2,rx,a,C,dx,fs,ex,ea,c,n,l,q2⟩:=zq
 subst ex
 obtain rfl:ov=Value.ref a:=rx
 exact xq8 I2 ea c n l ry fun s3 I3=>⟨σ,_,I3,q2⟩
end
section
variable{c:Value}{b:Bool}
inductive wf5(K:Fg)(H:Hp):V->Value->Prop where
 | non:wf5 K H .non (.type "NoneType")
 | bl (x:Bool):wf5 K H (.bl x) (.type "bool")
 | int (i:Int):wf5 K H (.int i) (.type "int")
 | str (x:Str):wf5 K H (.str x) (.type "str")
 | flt (x:UInt64):wf5 K H (.flt x) (.type "float")
 | lst {a:Addr} {xs:List V} (e:H a=some (.lst xs)):wf5 K H (.ref a) (.type "list")
 | frz {a:Addr} {o:Obj} {xs:List V} (e:H a=some (.frz o (.lst xs))):wf5 K H (.ref a) (.type "list")
 | tup {a:Addr} {xs:List V} (e:H a=some (.tup xs)):wf5 K H (.ref a) (.type "tuple")
 | dK {a:Addr} {kvs:List (Key×V)} (e:H a=some (.dK kvs)):wf5 K H (.ref a) (.type "dict")
 | dT {a:Addr} {kvs:List (List Key×V)} (e:H a=some (.dT kvs)):wf5 K H (.ref a) (.type "dict")
 | ins {a C dx:Addr} {fs:List (Str×V)} (e:H a=some (.ins C dx fs)) (cl:Cls K C) (ha:PySem.W.findIn K (.ref C) "__class__"=some (some (.builtin "object.__class__")))
  (hn:PySem.W.specialIn K (.builtin "object.__class__") "__get__"=some (some (.builtin "getset_descriptor.__get__"))) (htk:PySem.W.takesIn K (.builtin "object.__class__")=some true)
  (hm:PySem.W.mroIn K C (.type "object")=some true):wf5 K H (.ref a) (.ref C)
theorem yc6{x:V}{t:Value}(I:Inv X pins σ H s)(rx:E7 x u)(ty:wf5 X.K H x t)(e:PySem.W.kitOne X.K t c=some b)(h:∀ tk,Q (.bool b) {s with toks:=tk}) :
 wpAny (model X.prog X.w) A (call (.builtin "isinstance") [u,c]) Q E s:=by
 cases ty with
 | non=>cases (show u=Value.none from rx);exact PySem.W.kia_one PySem.W.kitx_none I.kIn True.intro e (fun z=>nomatch z) h
 | bl y=>cases (show u=Value.bool y from rx);exact PySem.W.kia_one PySem.W.kitx_bool I.kIn True.intro e (fun z=>nomatch z) h
 | int i=>obtain⟨t,q⟩:=(show ∃ t,u=Value.int i t from rx);cases q;exact PySem.W.kia_one PySem.W.kitx_int I.kIn True.intro e (fun z=>nomatch z) h
 | str y=>obtain⟨t,q⟩:=(show ∃ t,u=Value.str y t from rx);cases q;exact PySem.W.kia_one PySem.W.kitx_str I.kIn True.intro e (fun z=>nomatch z) h
 | flt y=>obtain⟨t,q⟩:=(show ∃ t,u=Value.float y t from rx);cases q;exact PySem.W.kia_one PySem.W.kitx_float I.kIn True.intro e (fun z=>nomatch z) h
 | @lst a xs ea =>
   cases (show u=Value.ref a from rx)
   obtain⟨_,_,n,_,h1⟩:=(show R3 X.prog X.w H s.heap a (.lst xs) from I.hok a _ ea)
   exact PySem.W.kia_one PySem.W.kitx_list I.kIn ⟨_,h1,rfl⟩ e (fun z=>nomatch z) h
 | @frz a ob xs ea =>
   cases (show u=Value.ref a from rx)
   obtain⟨_,_,_,n,_,h1⟩:=(show R3 X.prog X.w H s.heap a (.frz ob (.lst xs)) from I.hok a _ ea)
   exact PySem.W.kia_one PySem.W.kitx_list I.kIn ⟨_,h1,rfl⟩ e (fun z=>nomatch z) h
 | @tup a xs ea =>
   cases (show u=Value.ref a from rx)
   obtain⟨_,_,_,p⟩:=(show R3 X.prog X.w H s.heap a (.tup xs) from I.hok a _ ea)
   obtain⟨o,h1,h2,_⟩:=p
   exact PySem.W.kia_one PySem.W.kitx_tuple I.kIn ⟨o,h1,h2⟩ e (fun z=>nomatch z) h
 | @dK a kvs ea =>
   cases (show u=Value.ref a from rx)
   obtain⟨_,_,vs,_,p⟩:=(show R3 X.prog X.w H s.heap a (.dK kvs) from I.hok a _ ea)
   obtain⟨o,es,ep,h1,h2,_⟩:=p
   exact PySem.W.kia_one PySem.W.kitx_dict I.kIn ⟨o,h1,h2.1⟩ e (fun z=>nomatch z) h
 | @dT a kvs ea =>
   cases (show u=Value.ref a from rx)
   obtain⟨_,_,xs,_,o,es,ep,h1,h2,_⟩:=(show R3 X.prog X.w H s.heap a (.dT kvs) from I.hok a _ ea)
   exact PySem.W.kia_one PySem.W.kitx_dict I.kIn ⟨o,h1,h2.1⟩ e (fun z=>nomatch z) h
 | @ins a C dx fs ea cl ha hn htk hm =>
   cases (show u=Value.ref a from rx)
   obtain⟨mA,O,_⟩:=wq7 I.hok ea
   obtain⟨od,J,_⟩:=O.look
   exact PySem.W.kia_one (PySem.W.kitx_own (cl.get _) cl.hd ha hn htk hm) I.kIn J e (fun z=>nomatch z) h
end
structure qc6(k:Nat)(A:Around):Prop where
 hd:A.handled=none
 dp:A.depth+3*k+5<recursionLimit
 un:A.units+16*k+200<cLine
 gd:A.guards=some []
theorem qc6.mono{j:Nat}(r:qc6 k A)(h:j<=k):qc6 j A:=⟨r.hd,by have:=r.dp;omega,by have:=r.un;omega,r.gd⟩
theorem qc6.deeper(r:qc6 (k+1) A)(env:Env):qc6 k (A.deeper env) :=
 ⟨r.hd,by have:=r.dp;show A.depth+1+3*k+5<_;omega,by have:=r.un;show A.units+3+16*k+200<_;omega,r.gd⟩
theorem xq9:(A.under (.builtin "type.__call__" ⟨.ref C::us,kw⟩)).depth=A.depth+1:=by
 first|rfl|simp[Around.under,Code.weight,Code.isCreation,Code.isGuard,Code.isCaller,Code.frames,Code.isFrame,guardIds]
theorem xr0:(A.under (.builtin "type.__call__" ⟨.ref C::us,kw⟩)).units=A.units+1:=by
 first|rfl|simp[Around.under,Code.cUnits,Code.frames,Code.isFrame]
theorem xk1:(A.under (.builtin "type.__call__" ⟨.ref C::us,kw⟩)).guards=pushGuards [] A.guards:=by
 first|rfl|simp[Around.under,Code.guards,Code.isGuard,guardIds]
theorem qc6.make(r:qc6 (k+1) A)(C:Addr)(us:List Value)(kw:List (Str×Value)):qc6 k (A.under (.builtin "type.__call__" ⟨.ref C::us,kw⟩)) :=
 ⟨r.hd,by have:=r.dp;rw[xq9];omega,by have:=r.un;rw[xr0];omega,by rw[xk1,r.gd];rfl⟩
theorem qc6.depth(r:qc6 k A):A.depth<recursionLimit:=by have:=r.dp;omega
theorem qc6.units(r:qc6 k A):A.units+64<cLine:=by have:=r.un;omega
def A8:TA:=fun _ H Q=>Q [] H
def A1(ta:TE)(tr:TA):TA:=fun σ H Q=>ta σ H fun x H1=>tr σ H1 fun xs H2=>Q (x::xs) H2
variable{t:TA}
theorem A3:PA X [] A8:=fun _ _ _ _ H Q I h=>Calls.spliced_nil ⟨[],H,I,.nil,h⟩
theorem A0(ha:PE X e te)(hr:PA X es t)(hs:autoParam (starEach (e::es) X.env=(false,eval e X.env)::starEach es X.env) zAr):PA X (e::es) (A1 te t):=by
 intro pos pins s σ H Q I h
 rw[hs]
 show wpAny _ _ (spliced ((false,eval e X.env)::backTo pos (starEach es X.env))) _ _ s
 refine Calls.spliced_cons (thn (ha pins s σ H _ I h) fun u s1 zq=>?_)
 obtain⟨x,H1,I1,r1,q1⟩:=zq
 exact thn (hr pos pins s1 σ H1 _ I1 q1) fun us s2 ⟨xs,H2,I2,r2,q2⟩=>⟨x::xs,H2,I2,.cons r1 r2,q2⟩
def W3(t:TA):TE:=fun σ H Q=>t σ H fun xs H1=>xs.length<=sizeLine/\∀ p,H1 p=none->Q (.ref p) (upd H1 p (.tup xs))
def T7(t:TA):TE:=fun σ H Q=>t σ H fun xs H1=>xs.length<=sizeLine/\∀ p,H1 p=none->Q (.ref p) (upd H1 p (.lst xs))
theorem G2{x1}(h:PA X es t):PE X (.Tuple es x1 pos) (W3 t):=by
 intro pins s σ H Q I hq
 refine wpAny_Tuple_spliced (thn (h pos pins s σ H _ I hq) fun us s1 ⟨xs,H1,I1,r,z,q⟩=>⟨by rw[<-r.length];exact z,?_⟩)
 have hf:H1 s1.heap.objs.size=none:=I1.hok.fresh (Nat.le_refl _)
 refine⟨.ref s1.heap.objs.size,upd H1 s1.heap.objs.size (.tup xs),I1.laid (t':=s1.toks) (fun b u e=>Heap.get?_push_of_some _ e) (Nat.le_refl _) ?_,rfl,q _ hf⟩
 exact⟨z,us,r,⟨_,Heap.get?_push_size _ rfl,rfl,_,rfl⟩⟩
theorem L3(h:PA X es t):PE X (.List es pos) (T7 t):=by
 intro pins s σ H Q I hq
 refine wpAny_List_spliced (thn (h pos pins s σ H _ I hq) fun us s1 ⟨xs,H1,I1,r,z,q⟩=>⟨by rw[<-r.length];exact z,?_⟩)
 have hf:H1 s1.heap.objs.size=none:=I1.hok.fresh (Nat.le_refl _)
 refine⟨.ref s1.heap.objs.size,upd H1 s1.heap.objs.size (.lst xs),I1.laid (t':=s1.toks) (fun b u e=>Heap.get?_push_of_some _ e) (Nat.le_refl _) ?_,rfl,q _ hf⟩
 exact⟨z,us,0,r,Heap.get?_push_size _ rfl⟩
abbrev Sp:=List V->Hp->VK->XK->Prop
abbrev CXT:=List Env->Hp->Shared->XK->Value->Shared->Prop
structure xr1(P:Program)(w:World)(K:Fg)(mg:Str->Option Value)(base:Heap)(A:Around)(outer:List Env)(s:Shared)(H:Hp):Prop where
 frames:A.frames=some outer
 mod:Mod K mg base
 bs:∀ b o,base.get? b=some o->s.heap.get? b=some o/\H b=none
 bsz:base.objs.size<=s.heap.objs.size
 funs:s.heap.FunFrames base outer
 frf:∀ b∈frs outer,H b=none
 hok:HOk P w H s.heap
 bare:AllBare s.gens
 tk:0<s.toks
def CE(outer:List Env)(P:Program)(w:World)(H:Hp)(s:Shared)(Q:VK)(u:Value)(s':Shared):Prop :=
 ∃ v H',0<s'.toks/\s'.os=s.os/\AllBare s'.gens/\Un (frs outer) [] H H' s.heap s'.heap/\HOk P w H' s'.heap/\E7 v u/\Q v H'
def CR(CX:CXT)(outer:List Env)(P:Program)(w:World)(H:Hp)(s:Shared)(Q:VK)(E:XK)(r:Result)(s':Shared):Prop :=
 match r with
 | .ok (.ret u)=>CE outer P w H s Q u s'
 | .ok _=>False
 | .error e=>CX outer H s E e s'
structure E9(P:Program)(w:World)(K:Fg)(mg:Str->Option Value)(base:Heap)(CX:CXT)(k:Nat)(f:Addr)(fd:FuncData)(ps:List Str)(sp:Sp):Prop where
 len:∀ vs H Q E,sp vs H Q E->vs.length=ps.length
 run:∀ (A:Around) (outer:List Env) (s:Shared) (H:Hp) (args:Args) (us:List Value) (vs:List V) (Q:VK) (E:XK),qc6 k A->xr1 P w K mg base A outer s H->BindsTo s fd args (ps.zip us)->D9 vs us->sp vs H Q E ->
  codeAny (model P w) A (.call (.ref f) args) (CR CX outer P w H s Q E) s
variable{base:Heap}{mg:Str->Option Value}{outer:List Env}
theorem xr1.make(e:xr1 P w K mg base A outer s H)(C:Addr)(us:List Value)(kw:List (Str×Value)) :
 xr1 P w K mg base (A.under (.builtin "type.__call__" ⟨.ref C::us,kw⟩)) outer s H:=⟨by first|exact e.frames|(simpa [Around.under,Code.envs,Code.isFrame,pushEnvs] using e.frames),e.mod,e.bs,e.bsz,e.funs,e.frf,e.hok,e.bare,e.tk⟩
theorem Inv.env0(I:Inv X pins σ H s):xr1 X.prog X.w X.K X.mg X.base X.A X.stack s H :=
 ⟨I.ok.frames,I.ok.mod,I.bs,Nat.le_trans I.ok.bsz I.sz,I.stack,I.stkFree,I.hok,I.bare,I.tk⟩
theorem Inv.after{Q:VK}(I:Inv X pins σ H s)(h:CE X.stack X.prog X.w H s Q u s'):EP X pins σ Q u s':=by
 obtain⟨v,H',ht,os,bare,un,hok,r,q⟩:=h
 obtain⟨hh,g,d,t,os'⟩:=s'
 obtain rfl:os'=s.os:=os
 exact⟨v,H',I.call (h':=hh) (g':=g) (d':=d) (t':=t) (ch:=[]) un hok bare (fun b z=>absurd z (by simp)) ht,r,q⟩
def C7(sp:Sp)(dvs:List V)(E:XK)(t:TA):TE:=fun σ H Q=>t σ H fun vs H1=>sp (vs++dvs) H1 Q E
def N1(C:Addr)(m:Str)(sp:Sp)(dvs:List V)(E:XK)(ta:TE)(t:TA):TE:=fun σ H Q=>ta σ H fun x H1=>∃ a dx fs,x=.ref a/\H1 a=some (.ins C dx fs)/\fs.lookup m=none /\
 t σ H1 fun vs H2=>sp (x::(vs++dvs)) H2 Q E
def xk2(C:Addr)(sp:Sp)(dvs:List V)(E:XK)(t:TA):TE:=fun σ H Q=>t σ H fun vs H1=>∀ x dx,H1 x=none->H1 dx=none->dx≠x ->
 sp (.ref x::(vs++dvs)) (upd (upd H1 dx (.own x)) x (.ins C dx [])) (fun v H2=>v=.non/\Q (.ref x) H2) E
def P7(K:Fg)(fd:FuncData)(ps:List Str)(ds:List Value):Prop :=
 ∀ (s:Shared) (us:List Value),K.In s.heap->(us++ds).length=ps.length->BindsTo s fd ⟨us,[]⟩ (ps.zip (us++ds))
variable{fd:FuncData}{ps:List Str}
theorem P7.all(h:∀ us:List Value,us.length=ps.length->bindArgs fd ⟨us,[]⟩=pure (ps.zip us)):P7 K fd ps []:=fun s us _ hl=>by
 rw[List.append_nil] at hl ⊢
 exact .of_eq (h us hl)
def qw2(CX:CXT)(X:Cx)(E:XK):Prop:=∀ (pins:List (Addr×Obj)) (σ:St) (H:Hp) (s:Shared) (e:Value) (s':Shared),Inv X pins σ H s->CX X.stack H s E e s'->X.xe e s'
variable{CX:CXT}{apos:Pos}{dvs vs:List V}{sp:Sp}
section
variable{f:Addr}{ds:List Value}{E:XK}{p:Pos}{o:Expr}{ta:TE}
theorem xr2{Q:VK}(F:E9 X.prog X.w X.K X.mg X.base CX k f fd ps sp)(hr:qc6 k X.A)(hb:P7 X.K fd ps ds)(hd:D9 dvs ds)(hx:qw2 CX X E)(I:Inv X pins σ H s)(r:D9 vs us)(h:sp (vs++dvs) H Q E):wpAny (model X.prog X.w) X.A (call (.ref f) us) (EP X pins σ Q) X.xe s:=by
 have r2:D9 (vs++dvs) (us++ds):=r.append hd
 have hl:(us++ds).length=ps.length:=by rw[<-r2.length];exact F.len _ _ _ _ h
 refine wpAny_call (codeAny_mono (F.run X.A X.stack s H ⟨us,[]⟩ (us++ds) (vs++dvs) Q E hr I.env0 (hb s us I.kIn hl) r2 h) fun r s' hq=>?_)
 cases r with
 | error e=>exact hx pins σ H s e s' I hq
 | ok fl =>
   cases fl with
   | ret u=>exact I.after hq
   | next=>exact False.elim hq
   | brk=>exact False.elim hq
   | cont=>exact False.elim hq
theorem yr7(F:E9 X.prog X.w X.K X.mg X.base CX k f fd ps sp)(hr:qc6 k X.A)(hg:Gl X x)(hm:X.mg x=some (.ref f))(hk:PySem.W.keepIn X.K (.ref f)=true)(hb:P7 X.K fd ps ds)(hd:D9 dvs ds)(hx:qw2 CX X E)(ha:PA X (e::es) t)(hdb:autoParam ((x == ("__debug__":Str))=false) zAd)(he:autoParam (starEach (e::es) X.env=(false,eval e X.env)::starEach es X.env) zAr)(hpl:autoParam ((backTo pos (starEach es X.env)).any (·.1)=false) zAr) :
 PE X (.Call (.Name x p) (e::es) [] pos) (C7 sp dvs E t):=by
 intro pins s σ H Q I h
 refine wpAny_Call_Name_kw (xd8 I hg hm ?_ hdb)
 refine PySem.W.callWith_K (h₀:=X.base) I.ok.mod.kin hk (thn (ha pos pins s σ H _ I h) fun us s1 ⟨vs,H1,I1,r,q⟩=>⟨I1.kIn,?_⟩) he hpl
 exact xr2 F hr hb hd hx I1 r q
theorem N8(he:PE X o ta)(c:Cls X.K C)(hm:qr0 X.K C m f)(F:E9 X.prog X.w X.K X.mg X.base CX k f fd ps sp)(hr:qc6 k X.A)(hb:P7 X.K fd ps ds)(hd:D9 dvs ds)(hx:qw2 CX X E)(ha:PA X (e::es) t)(hst:autoParam (starEach (e::es) X.env=(false,eval e X.env)::starEach es X.env) zAr)(hpl:autoParam ((backTo pos (starEach es X.env)).any (·.1)=false) zAr) (ht:eval (.Call (.Attribute o m apos) (e::es) [] pos) X.env=(do
  let ov<-eval o X.env
  standAt apos.atName
  let (f,first)<-holding [ov] (getMethod ov m pl)
  callWith pos f first (backTo pos (starEach (e::es) X.env)) (backToKw pos (keywordEach [] X.env))):=by rfl) :
 PE X (.Call (.Attribute o m apos) (e::es) [] pos) (N1 C m sp dvs E ta t):=by
 intro pins s σ H Q I h
 refine PySem.W.methodCall_KW (pl:=pl) (thn (he pins s σ H _ I h) fun u s1 zq=>?_) ht
 obtain⟨x,H1,I1,rx,a,dx,fs,ex,ea,l,q⟩:=zq
 subst ex
 obtain rfl:u=Value.ref a:=rx
 refine ws0 I1 ea c hm l ?_
 refine PySem.W.callWith_K (first:=[.ref a]) (h₀:=X.base) I.ok.mod.kin hm.kp (thn (ha pos pins s1 σ H1 _ I1 q) fun us s2 ⟨vs,H2,I2,r,q2⟩=>⟨I2.kIn,?_⟩) hst hpl
 exact xr2 (us:=.ref a::us) (vs:=.ref a::vs) F hr hb hd hx I2 (.cons rfl r) q2
theorem T8(he:PE X o ta)(c:Cls X.K C)(hm:qr0 X.K C m f)(F:E9 X.prog X.w X.K X.mg X.base CX k f fd ps sp)(hr:qc6 k X.A)(hb:P7 X.K fd ps ds)(hd:D9 dvs ds)(hx:qw2 CX X E) (ht:eval (.Call (.Attribute o m apos) [] [] pos) X.env=(do
  let ov<-eval o X.env
  standAt apos.atName
  let (f,first)<-holding [ov] (getMethod ov m pl)
  callWith pos f first (backTo pos (starEach [] X.env)) (backToKw pos (keywordEach [] X.env))):=by rfl) :
 PE X (.Call (.Attribute o m apos) [] [] pos) (N1 C m sp dvs E ta A8):=by
 intro pins s σ H Q I h
 refine PySem.W.methodCall_KW (pl:=pl) (thn (he pins s σ H _ I h) fun u s1 zq=>?_) ht
 obtain⟨x,H1,I1,rx,a,dx,fs,ex,ea,l,q⟩:=zq
 subst ex
 obtain rfl:u=Value.ref a:=rx
 refine ws0 I1 ea c hm l ?_
 exact PySem.W.callWith_K0 (first:=[.ref a]) I1.kIn hm.kp (xr2 (us:=[.ref a]) (vs:=[.ref a]) F hr hb hd hx I1 (.cons rfl .nil) q)
structure Mk(K:Fg)(C f:Addr):Prop where
 makes:PySem.W.makesIn K C=true
 init:PySem.W.findIn K (.ref C) "__init__"=some (some (.ref f))
 fn:PySem.W.isFn K (.ref f)=true
 kp:PySem.W.keepIn K (.ref C)=true
theorem yh9{Q:VK}(M:Mk X.K C f)(F:E9 X.prog X.w X.K X.mg X.base CX k f fd ps sp)(hr:qc6 (k+1) X.A)(hb:P7 X.K fd ps ds)(hd:D9 dvs ds)(hx:qw2 CX X E)(I:Inv X pins σ H s)(r:D9 vs us)(h:∀ x dx,H x=none->H dx=none->dx≠x->sp (.ref x::(vs++dvs)) (upd (upd H dx (.own x)) x (.ins C dx [])) (fun v H2=>v=.non/\Q (.ref x) H2) E) :
 wpAny (model X.prog X.w) X.A (call (.ref C) us) (EP X pins σ Q) X.xe s:=by
 have hq:=h (s.heap.objs.size+1) s.heap.objs.size (I.hok.fresh (Nat.le_succ _)) (I.hok.fresh (Nat.le_refl _)) (Nat.ne_of_lt (Nat.lt_succ_self _))
 have I2:=Inv.made (C:=C) I
 have r2:D9 (V.ref (s.heap.objs.size+1)::(vs++dvs)) (Value.ref (s.heap.objs.size+1)::(us++ds)):=.cons rfl (r.append hd)
 have hl:(Value.ref (s.heap.objs.size+1)::us++ds).length=ps.length:=by
  have e:=r2.length
  rw[F.len _ _ _ _ hq] at e
  exact e.symm
 refine wpAny_call (yh8 (f:=f) I.kIn M.makes M.init (beq_iff_eq.mp M.fn) (codeAny_mono (F.run _ X.stack _ _ ⟨Value.ref (s.heap.objs.size+1)::us,[]⟩ (Value.ref (s.heap.objs.size+1)::(us++ds)) _ _ E (hr.make C us [])
  (I2.env0.make C us []) (hb _ (Value.ref (s.heap.objs.size+1)::us) I2.kIn hl) r2 hq) fun r s' hq'=>?_))
 cases r with
 | error e=>exact hx pins σ _ _ e s' I2 hq'
 | ok fl =>
   cases fl with
   | ret u =>
     obtain⟨v,H',I3,rv,ev,q3⟩:=I2.after hq'
     subst ev
     exact⟨rv,⟨V.ref (s.heap.objs.size+1),H',I3,rfl,q3⟩⟩
   | next=>exact False.elim hq'
   | brk=>exact False.elim hq'
   | cont=>exact False.elim hq'
theorem xe2(M:Mk X.K C f)(F:E9 X.prog X.w X.K X.mg X.base CX k f fd ps sp)(hr:qc6 (k+1) X.A)(hg:Gl X x)(hm:X.mg x=some (.ref C))(hb:P7 X.K fd ps ds)(hd:D9 dvs ds)(hx:qw2 CX X E)(ha:PA X (e::es) t)(hdb:autoParam ((x == ("__debug__":Str))=false) zAd)(he:autoParam (starEach (e::es) X.env=(false,eval e X.env)::starEach es X.env) zAr)(hpl:autoParam ((backTo pos (starEach es X.env)).any (·.1)=false) zAr) :
 PE X (.Call (.Name x p) (e::es) [] pos) (xk2 C sp dvs E t):=by
 intro pins s σ H Q I h
 refine wpAny_Call_Name_kw (xd8 I hg hm ?_ hdb)
 refine PySem.W.callWith_K (h₀:=X.base) I.ok.mod.kin M.kp (thn (ha pos pins s σ H _ I h) fun us s1 ⟨vs,H1,I1,r,q⟩=>⟨I1.kIn,?_⟩) he hpl
 exact yh9 M F hr hb hd hx I1 r q
end
section
variable{f:Addr}{ks:List Str}{E:XK}{p kpos:Pos}{o:Expr}{kws:List Keyword}{ta:TE}{tk:TA}{nm:Option Str}
variable{g:List Value->List Value->List Value}{gV:List V->List V->List V}
end
structure B4(N P:List Str)(sc:Scope):Prop where
 kind:sc.kind=.function
 co:sc.isCoroutine=false
 gen:sc.isGenerator=false
 nd:N.Nodup
 pre:N.take P.length=P
 par:∀ x∈P,sc.names.lookup x=some .local\/sc.names.lookup x=some .cell
 nofree:∀ y∈sc.names,y.2≠.free
theorem xa8{kindOf:Str->Option NameKind}{x:Str}:∀ {binds:List (Str×Value)} {m:Str->Option Value},(∀ v,(x,v)∉binds)->bindL kindOf binds m x=m x
 | [],_,_=>rfl
 | (n,v)::r,m,h=>by
   unfold bindL
   rw[xa8 fun w hw=>h w (List.mem_cons_of_mem _ hw)]
   split
   ·have:x≠n:=by rintro rfl;exact h v List.mem_cons_self
    simp[this]
   ·rfl
theorem xa9{kindOf:Str->Option NameKind}{x:Str}:∀ {binds:List (Str×Value)} {m:Str->Option Value},(∀ v,(x,v)∉binds)->bindC kindOf binds m x=m x
 | [],_,_=>rfl
 | (n,v)::r,m,h=>by
   unfold bindC
   rw[xa9 fun w hw=>h w (List.mem_cons_of_mem _ hw)]
   split
   ·rfl
   ·have:x≠n:=by rintro rfl;exact h v List.mem_cons_self
    simp[this]
theorem xb0{kindOf:Str->Option NameKind}{x:Str}{v:Value}:∀ {P:List Str} {vs:List Value} {i:Nat} {m:Str->Option Value},P.Nodup->P[i]?=some x->vs[i]?=some v->kindOf x=some .local ->
 bindL kindOf (P.zip vs) m x=some v
 | [],_,_,_,_,h,_,_=>by simp at h
 | _::_,[],_,_,_,_,h,_=>by simp at h
 | p::P,w::vs,0,m,nd,h1,h2,hk=>by
   simp at h1 h2;subst h1;subst h2
   show bindL kindOf ((p,w)::P.zip vs) m p=_
   unfold bindL
   rw[xa8 fun v hv=>(List.nodup_cons.mp nd).1 (List.of_mem_zip hv).1,if_pos hk]
   simp
 | p::P,w::vs,i+1,m,nd,h1,h2,hk=>by
   show bindL kindOf ((p,w)::P.zip vs) m x=_
   unfold bindL
   exact xb0 (i:=i) (List.nodup_cons.mp nd).2 (by simpa using h1) (by simpa using h2) hk
theorem xb1{kindOf:Str->Option NameKind}{x:Str}{v:Value}:∀ {P:List Str} {vs:List Value} {i:Nat} {m:Str->Option Value},P.Nodup->P[i]?=some x->vs[i]?=some v->kindOf x≠some .local ->
 bindC kindOf (P.zip vs) m x=some v
 | [],_,_,_,_,h,_,_=>by simp at h
 | _::_,[],_,_,_,_,h,_=>by simp at h
 | p::P,w::vs,0,m,nd,h1,h2,hk=>by
   simp at h1 h2;subst h1;subst h2
   show bindC kindOf ((p,w)::P.zip vs) m p=_
   unfold bindC
   rw[xa9 fun v hv=>(List.nodup_cons.mp nd).1 (List.of_mem_zip hv).1,if_neg hk]
   simp
 | p::P,w::vs,i+1,m,nd,h1,h2,hk=>by
   show bindC kindOf ((p,w)::P.zip vs) m x=_
   unfold bindC
   exact xb1 (i:=i) (List.nodup_cons.mp nd).2 (by simpa using h1) (by simpa using h2) hk
def C9(N:List Str)(vs:List V):St:=vs.map some++List.replicate (N.length-vs.length) none
def yc7(CX:CXT)(P:Program)(w:World)(K:Fg)(mg:Str->Option Value)(base:Heap)(N:List Str)(qual:Str)(scope:Scope)(f:Addr)(cd:Value)(A:Around)(outer:List Env)(s:Shared)(H:Hp)(E:XK):Cx where
 prog:=P
 w:=w
 K:=K
 mg:=mg
 base:=base
 A:=A.deeper (envOfC qual scope s.heap.objs.size f cd)
 N:=N
 s₀:=s
 H₀:=H
 env:=envOfC qual scope s.heap.objs.size f cd
 outer:=outer
 stack:=envOfC qual scope s.heap.objs.size f cd::outer
 ex:=[]
 calm:=true
 fn:=fun _=>true
 pn:=[]
 xe:=fun e s'=>wpAny (model P w) (A.deeper (envOfC qual scope s.heap.objs.size f cd)) (leaving (envOfC qual scope s.heap.objs.size f cd) e) (fun _ s''=>CX outer H s E e s'') (fun e' s''=>CX outer H s E e' s'') s'
theorem xk3{sc:Scope}(h:sc.names.lookup x=some .cell):∃ c,(cellsFrom n sc.names []).lookup x=some c:=by
 have q:=PySem.W.cellsFrom_some sc.names n [] (.inl h)
 exact Option.isSome_iff_exists.mp q
variable{qual:Str}{scope:Scope}
theorem yc8{f:Addr}{cd:Value}{s1:Shared}{E:XK}(S:B4 N ps scope)(hd:A.handled=none)(e0:xr1 P w K mg base A outer s H)(hl:vs.length=ps.length)(r:D9 vs us)(x:InCallC s s.heap.objs.size (bindL (envOfC qual scope s.heap.objs.size f cd).kindOf (ps.zip us) fun _=>none) (cellsFrom (s.heap.objs.size+1) scope.names []) (bindC (envOfC qual scope s.heap.objs.size f cd).kindOf (ps.zip us) fun _=>none) s1)(ht:0<s1.toks) :
 Inv (yc7 CX P w K mg base N qual scope f cd A outer s H E) [] (C9 N vs) H s1:=by
 have hpl:ps.length<=N.length:=by have:=congrArg List.length S.pre;rw[List.length_take] at this;omega
 obtain⟨h1,tk,rfl,hk⟩:=x.done
 have noA:∀ b:Addr,b∉(yc7 CX P w K mg base N qual scope f cd A outer s H E).ex:=fun b z=>absurd (show b∈([]:List Addr) from z) (by simp)
 refine⟨⟨e0.mod,S.kind,rfl,rfl,Nat.le_refl _,fun y z c h1 h2=>?_,fun y hy=>?_,fun y c _ h=>?_,fun _=>hd,Around.frames_deeper e0.frames,.inr ⟨rfl,rfl⟩,fun b z=>absurd z (noA b),e0.bs,e0.bsz,fun b _ _=>noA b,fun b z=>absurd z (noA b),e0.funs,e0.frf⟩,
  rfl,e0.bare,Un.kept hk,⟨_,x.toInCall.ns,fun i y v h1 h2 h3=>?_⟩,fun y c h=>⟨_,x.cell y c h⟩,e0.hok.fresh (Nat.le_refl _),fun y c h=>?_,fun p hp=>absurd (show p∈([]:List (Addr×Obj)) from hp) (by simp),e0.hok.kept hk,?_,ht⟩
 ·exact name_of_addr x.apart (PySem.mem_of_lookup h1) (PySem.mem_of_lookup h2)
 ·have hy:scope.names.lookup y=some .cell\/scope.names.lookup y=some .free:=hy
  rcases hy with hy|hy
  ·exact xk3 hy
  ·exact absurd rfl (S.nofree _ (PySem.mem_of_lookup hy))
 ·exact Nat.le_of_lt (x.above y c (PySem.mem_of_lookup h))
 ·have hi:i<vs.length:=by
   unfold C9 at h2
   by_cases hi:i<vs.length
   ·exact hi
   ·rw[List.getElem?_append_right (by simpa using hi)] at h2
    rw[List.getElem?_replicate] at h2
    split at h2 <;> cases h2
  have ha:vs[i]?=some v:=by
   unfold C9 at h2
   rw[List.getElem?_append_left (by simpa using hi),List.getElem?_map] at h2
   cases e:vs[i]? with
   | none=>rw[e] at h2;cases h2
   | some a=>rw[e] at h2;cases h2;rfl
  obtain⟨u,hu,rv⟩:=r.get ha
  have hp:ps[i]?=some y:=by
   rw[<-S.pre,List.getElem?_take_of_lt (by omega)];exact h1
  have ndP:ps.Nodup:=by rw[<-S.pre];exact S.nd.sublist (List.take_sublist _ _)
  refine⟨u,rv,?_⟩
  rcases S.par y (List.mem_of_getElem? hp) with k|k
  ·exact .inl ⟨k,xb0 ndP hp hu k⟩
  ·obtain⟨c,e⟩:=xk3 (n:=s.heap.objs.size+1) k
   refine .inr ⟨.inl k,c,e,?_⟩
   have q:=x.cell y c e
   rw[xb1 ndP hp hu (by show scope.names.lookup y≠_;rw[k];decide)] at q
   exact q
 ·exact e0.hok.fresh (Nat.le_of_lt (x.above y c (PySem.mem_of_lookup h)))
 ·unfold C9
  show _=N.length
  rw[List.length_append,List.length_map,List.length_replicate]
  omega
variable{an od:Option Addr}{cdv ct doc oc pm:Value}{osl:Array (Option Value)}
theorem zi1{f:Addr}{params:Arguments}{dV kV:Value}(lk:K.lookup f=some ⟨oc,od,.func (PySem.W.fnOf name qual params body scope dV kV doc pm an cdv ct),osl⟩)(hcd:PySem.W.codeIn K cdv qual=true)(S:B4 N ps scope)(len:∀ vs H Q E,sp vs H Q E->vs.length=ps.length) (hbody:∀ (A:Around) (outer:List Env) (s:Shared) (H:Hp) (vs:List V) (Q:VK) (E:XK),qc6 k (A.deeper (envOfC qual scope s.heap.objs.size f cdv))->sp vs H Q E ->
  ∃ t,PSs (yc7 CX P w K mg base N qual scope f cdv A outer s H E) body t/\t {nx:=fun _ H'=>Q .non H',rt:=Q} (C9 N vs) H) :
 E9 P w K mg base CX (k+1) f (PySem.W.fnOf name qual params body scope dV kV doc pm an cdv ct) ps sp:=by
 refine⟨len,fun A outer s H args us vs Q E hr e0 hb r hsp=>?_⟩
 have hl:=len _ _ _ _ hsp
 have KX:K.In s.heap:=e0.mod.kin.keeps fun b o e=>(e0.bs b o e).1
 have lim:s.heap.NoLimit:=e0.mod.nolimit.keeps fun b o e=>(e0.bs b o e).1
 have hkind:∀ y∈ps.zip us,scope.names.lookup y.1=some .local\/(scope.names.lookup y.1=some .cell/\((cellsFrom (s.heap.objs.size+1) scope.names []).lookup y.1).isSome=true):=fun⟨n,v⟩ hy=>by
  rcases S.par n (List.of_mem_zip hy).1 with q|q
  ·exact .inl q
  ·exact .inr ⟨q,PySem.W.cellsFrom_some _ _ _ (.inl q)⟩
 refine codeAny_call_function hr.depth (KX _ _ lk) rfl S.co S.gen rfl (PySem.W.codeRec_of KX hcd) (hb _ _ _ _ ?_)
 refine wpAny_with_toks (n:=1) e0.tk (wpAny_newFunctionEnv_cells S.kind hkind fun env he s1 x htk=>?_)
 subst he
 refine⟨lim.keeps x.toInCall.keep,codeAny_func ?_⟩
 obtain⟨t,ht,hq⟩:=hbody A outer s H vs Q E (hr.deeper _) hsp
 have I:Inv (yc7 CX P w K mg base N qual scope f cdv A outer s H E) [] (C9 N vs) H s1:=yc8 S hr.hd e0 hl r x htk
 refine wpAny_mono (ht [] s1 (C9 N vs) H _ I hq) (fun fl s' hs=>?_) fun e s' hs=>hs
 have fin:∀ {σ':St} {H':Hp} {v:V} {u:Value},Inv (yc7 CX P w K mg base N qual scope f cdv A outer s H E) [] σ' H' s'->E7 v u->Q v H'->CE outer P w H s Q u s' :=
  fun{σ' H' v u} J rv q=>⟨v,H',J.tk,J.os,J.bare,J.base,J.hok,rv,q⟩
 cases fl with
 | ret u =>
   obtain⟨v,σ',H',J,rv,q⟩:=hs
   exact fin J rv q
 | next =>
   obtain⟨σ',H',J,q⟩:=hs
   exact fin (v:=V.non) (u:=Value.none) J rfl q
 | brk =>
   obtain⟨_,_,_,q⟩:=hs
   exact False.elim q
 | cont =>
   obtain⟨_,_,_,q⟩:=hs
   exact False.elim q
variable{T:String}
section
variable{p:Pos}{id:String}{r:List V->Hp->VK->Prop}
def tCB(r:List V->Hp->VK->Prop)(t:TA):TE:=fun σ H Q=>t σ H fun vs H1=>r vs H1 Q
theorem D0(hc:Y9 X (.builtin id) r)(hg:Gl X x)(hm:X.mg x=none)(hv:bootBuiltins x=some (.builtin id))(ha:PA X (e::es) t)(hn:autoParam (x ≠ "__name__") zAd)(hdb:autoParam ((x == ("__debug__":Str))=false) zAd)(he:autoParam (starEach (e::es) X.env=(false,eval e X.env)::starEach es X.env) zAr)(hpl:autoParam ((backTo pos (starEach es X.env)).any (·.1)=false) zAr):PE X (.Call (.Name x p) (e::es) [] pos) (tCB r t):=by
 intro pins s σ H Q I h
 refine wpAny_Call_Name_kw (qi4 I hg hm hv ?_ hn hdb)
 exact PyProof.Rows.callWith_builtin1 (thn (ha pos pins s σ H _ I h) fun us s1 ⟨vs,H1,I1,r1,q1⟩=>hc pins s1 σ H1 vs us Q I1 r1 q1) he hpl
theorem N3(hc:Y9 X (.type T) r)(hg:Gl X x)(hm:X.mg x=none)(hv:bootBuiltins x=some (.type T))(ha:PA X (e::es) t)(hn:autoParam (x ≠ "__name__") zAd)(hdb:autoParam ((x == ("__debug__":Str))=false) zAd)(he:autoParam (starEach (e::es) X.env=(false,eval e X.env)::starEach es X.env) zAr)(hpl:autoParam ((backTo pos (starEach es X.env)).any (·.1)=false) zAr):PE X (.Call (.Name x p) (e::es) [] pos) (tCB r t):=by
 intro pins s σ H Q I h
 refine wpAny_Call_Name_kw (qi4 I hg hm hv ?_ hn hdb)
 exact PyProof.Rows.callWith_type1 (thn (ha pos pins s σ H _ I h) fun us s1 ⟨vs,H1,I1,r1,q1⟩=>hc pins s1 σ H1 vs us Q I1 r1 q1) he hpl
end
namespace HT
open PySem PyProof.Rows
section
open PySem.SeqAt
open PySem.AutoSeq1 (wpAny_loadPart')
open PySem.MeetsSeq PySem.MeetsSeq2 PySem.MeetsSeq3
end
section
variable{prog:Program}{w:World}{A:Around}{E:Value->Shared->Prop}{s:Shared}
theorem yr8{t b:Addr}{vs ws:List Value}{Q:Value->Shared->Prop}(ht:IsTup s.heap t vs.toArray)(hb:IsTup s.heap b ws.toArray)(hv:vs≠[])
 (h1:ws=[]->Q (.ref t) s) (h2:ws≠[]->Q (.ref s.heap.objs.size) {s with heap:=s.heap.push {cls:=.type "tuple",data:=.seq (vs++ws).toArray}})
 (hsz:vs.length+ws.length<=sizeLine):wpAny (model prog w) A (binaryOp .Add (.ref t) (.ref b)) Q E s:=by
 obtain⟨⟨cls,dd,data,sl⟩,ho,hc,n,hd⟩:=id ht
 obtain⟨⟨cls2,dd2,data2,sl2⟩,ho2,hc2,n2,hd2⟩:=id hb
 simp only at hc hd hc2 hd2
 subst hc hd hc2 hd2
 have e:vs.toArray++ws.toArray=(vs++ws).toArray:=by simp
 by_cases hw:ws=[]
 ·exact concat_meets ⟨_,ho,rfl⟩ ⟨_,ho2,rfl⟩ noFill_tuple_add seq_tuple_add PySem.F.slot_tuple_add PySem.F.entry_tuple_add (PySem.F.args_tuple_add_2 _ _)
   (tuple_addW1 t b vs.toArray ws.toArray n n2 dd dd2 sl sl2 (by simpa using hv) (by simp[hw])) ⟨ho,ho2,h1 hw⟩
 ·refine concat_meets ⟨_,ho,rfl⟩ ⟨_,ho2,rfl⟩ noFill_tuple_add seq_tuple_add PySem.F.slot_tuple_add PySem.F.entry_tuple_add (PySem.F.args_tuple_add_2 _ _)
   (tuple_addW2 t b vs.toArray ws.toArray n n2 dd dd2 sl sl2 (by simpa using hv) (by simpa using hw) (by rw[List.size_toArray,List.size_toArray];exact hsz)) ⟨ho,ho2,?_⟩
  rw[e]
  exact h2 hw
def sIx(n d:Nat):Option Int->Nat
 | none=>d
 | some v=>if v<0 then(v+(n:Int)).toNat else min v.toNat n
theorem qr2(n d k:Nat):sIx n d (some (k:Int))=min k n:=by
 show(if(k:Int)<0 then((k:Int)+(n:Int)).toNat else min (k:Int).toNat n)=min k n
 rw[if_neg (by omega),Int.toNat_natCast]
theorem xr3(n d:Nat)(hd:d<=n)(o:Option Int):sIx n d o<=n:=by
 cases o with
 | none=>exact hd
 | some v =>
   show(if v<0 then(v+(n:Int)).toNat else min v.toNat n)<=n
   by_cases hv:v<0
   ·rw[if_pos hv];omega
   ·rw[if_neg hv];exact Nat.min_le_right _ _
theorem xw5(v:Int)(n d:Nat):(if v<0 then max (v+(n:Int)) 0 else min v (n:Int))=((sIx n d (some v):Nat):Int):=by
 show(if v<0 then max (v+(n:Int)) 0 else min v (n:Int))=(((if v<0 then(v+(n:Int)).toNat else min v.toNat n):Nat):Int)
 by_cases hv:v<0
 ·simp only[if_pos hv];omega
 ·simp only[if_neg hv];omega
theorem xr4(lo hi:Option Int)(n:Nat):Builtin.Slice.sliceAdjust lo hi 1 (n:Int)=(((sIx n 0 lo:Nat):Int),((sIx n n hi:Nat):Int)):=by
 have h1:¬((1:Int)<0):=by omega
 unfold Builtin.Slice.sliceAdjust
 simp only[h1,if_false]
 refine Prod.ext ?_ ?_
 ·cases lo with
  | none=>rfl
  | some v=>exact xw5 v n 0
 ·cases hi with
  | none=>rfl
  | some v=>exact xw5 v n n
theorem xr5(i j:Nat):Builtin.Slice.slicePlaces (i:Int) (j:Int) 1=j-i:=by
 unfold Builtin.Slice.slicePlaces
 have h1:(1:Int) > 0:=by omega
 simp only[h1,if_true,Int.ediv_one]
 split <;> omega
theorem ws1{v:Value}{o:Option Int}{Q:Option Int->Shared->Prop}(p:IsPart v o)(h:Q o s):wpAny (model prog w) A (Builtin.Slice.slicePartIndex v) Q E s:=by
 cases p with
 | none=>exact slicePart_none h
 | int i t=>exact slicePart_int h
theorem qp0{sl:Addr}{vl vu:Value}{lo hi:Option Int}{n:Nat}{Q:Int×Int×Nat->Shared->Prop}(hs:s.heap.IsSliceOf sl vl vu .none)(pl:IsPart vl lo)(pu:IsPart vu hi)
 (h:Q (((sIx n 0 lo:Nat):Int),1,sIx n n hi-sIx n 0 lo) s):wpAny (model prog w) A (Builtin.Slice.sliceApplied (.ref sl) (pure (n:Int))) Q E s:=by
 obtain⟨os,hos,hcs,hds⟩:=id hs
 unfold Builtin.Slice.sliceApplied Builtin.Slice.sliceFields
 refine wpAny_bind (wpAny_bind (wpAny_field hos hds (x:=vl) rfl (wpAny_bind (wpAny_field hos hds (x:=vu) rfl (wpAny_bind (wpAny_field hos hds (x:=.none) rfl (wpAny_pure ?_)))))))
 refine wpAny_bind (slicePart_none ?_)
 show wpAny _ _ (if((1:Int) == 0)=true then _ else _) _ _ s
 rw[if_neg (by decide)]
 refine wpAny_bind (ws1 pl (wpAny_bind (ws1 pu (wpAny_bind (wpAny_pure ?_)))))
 show wpAny _ _ (match Builtin.Slice.sliceAdjust lo hi 1 (n:Int) with|(lo,hi)=>pure (lo,(1:Int),Builtin.Slice.slicePlaces lo hi 1)) _ _ s
 rw[xr4 lo hi n]
 show wpAny _ _ (pure (((sIx n 0 lo:Nat):Int),(1:Int),Builtin.Slice.slicePlaces ((sIx n 0 lo:Nat):Int) ((sIx n n hi:Nat):Int) 1)) _ _ s
 rw[xr5]
 exact wpAny_pure h
theorem yi0(xs:Array Value)(i k:Nat):((List.range k).filterMap fun(m:Nat)=>xs[((i:Int)+(m:Int)*1).toNat]?).toArray=((xs.toList.drop i).take k).toArray:=by
 have e:(fun(m:Nat)=>xs[((i:Int)+(m:Int)*1).toNat]?)=fun m=>xs[i+m]?:=by
  funext m
  have:((i:Int)+(m:Int)*1).toNat=i+m:=by omega
  rw[this]
 rw[e]
 have:=pick_run xs i k
 rw[List.filterMap_map] at this
 have e2:((fun x=>xs[x]?)∘fun x=>i+x)=fun m=>xs[i+m]?:=rfl
 rw[e2] at this
 rw[this]
theorem wf6{t sl:Addr}{items:Array Value}{vl vu:Value}{lo hi:Option Int}{Q:Value->Shared->Prop}(ht:IsTup s.heap t items)(hs:s.heap.IsSliceOf sl vl vu .none)(pl:IsPart vl lo)(pu:IsPart vu hi)
 (hw:¬(sIx items.size 0 lo=0/\sIx items.size items.size hi=items.size))
 (h:Q (.ref s.heap.objs.size) {s with heap:=s.heap.push {cls:=.type "tuple",data:=.seq ((items.toList.drop (sIx items.size 0 lo)).take (sIx items.size items.size hi-sIx items.size 0 lo)).toArray}})
 (hsz:items.size<=sizeLine):wpAny (model prog w) A (getItem (.ref t) (.ref sl)) Q E s:=by
 have htake:sizeOk (.seq ((items.toList.drop (sIx items.size 0 lo)).take (sIx items.size items.size hi-sIx items.size 0 lo)).toArray):=by
  show((items.toList.drop (sIx items.size 0 lo)).take (sIx items.size items.size hi-sIx items.size 0 lo)).toArray.size<=sizeLine
  rw[List.size_toArray,List.length_take,List.length_drop,Array.length_toList]
  omega
 have hj:sIx items.size items.size hi<=items.size:=xr3 _ _ (Nat.le_refl _) hi
 obtain⟨os,hos,hcs,hds⟩:=id hs
 have hTs:s.TypeIs (.ref sl) "slice":=⟨os,hos,hcs⟩
 unfold getItem
 try with_reducible refine wpAny_holding ?_
 first|refine wpAny_bind (wpAny_pure ?_)|skip
 refine wpAny_bind (wpAny_sequenceKey ht.typeIs (by decide) ?_)
 refine wpAny_bind (wpAny_callSpecial?_slot (name:=Str.ofString "__getitem__") ht.typeIs PyProof.Rows.slot_tuple_getitem
  (wpAny_call_entry PyProof.Rows.slot_tuple_getitem ht.typeIs entry_tuple_getitem ?_ (args_tuple_getitem _ _)))
 show wpAny _ _ (Builtin.Tuple.tupleItemsOf (.ref t) >>= _) _ _ s
 refine wpAny_bind (tupleItemsOf_ ht ?_)
 refine wpAny_bind (wpAny_typeOf hTs ?_)
 rw[if_pos (by decide)]
 refine wpAny_bind (qp0 hs pl pu ?_)
 have hno:¬((((sIx items.size 0 lo:Nat):Int) == 0 && (1:Int) == 1 && (sIx items.size items.size hi-sIx items.size 0 lo) == items.size)=true):=by
  intro q
  rw[Bool.and_eq_true,Bool.and_eq_true] at q
  have q1:((sIx items.size 0 lo:Nat):Int)=0:=eq_of_beq q.1.1
  have q2:sIx items.size items.size hi-sIx items.size 0 lo=items.size:=eq_of_beq q.2
  exact hw ⟨by omega,by omega⟩
 show wpAny _ _ (if(((sIx items.size 0 lo:Nat):Int) == 0 && (1:Int) == 1 && (sIx items.size items.size hi-sIx items.size 0 lo) == items.size)=true then _ else _) _ _ s
 rw[if_neg hno,yi0]
 first
  | exact wpAny_bind (m:=Builtin.Tuple.tupleExact _) (wpAny_newObj_type (wpAny_pure ⟨_,rfl,wpAny_pure h⟩) htake)
  | exact wpAny_bind (m:=Builtin.Tuple.tupleExact _) (wpAny_newObj_type (wpAny_bind (wpAny_pure (wpAny_pure ⟨_,rfl,wpAny_pure h⟩))) htake)
  | exact wpAny_bind (wpAny_bind (m:=Builtin.Tuple.tupleExact _) (wpAny_newObj_type (wpAny_pure (wpAny_pure ⟨_,rfl,wpAny_pure h⟩)) htake))
  | exact wpAny_bind (wpAny_bind (m:=Builtin.Tuple.tupleExact _) (wpAny_newObj_type (wpAny_pure ⟨_,rfl,wpAny_pure h⟩) htake))
end
end HT
abbrev TO:=St->Hp->(Option Int->Hp->Prop)->Prop
def PO(X:Cx)(e:Option Expr)(t:TO):Prop :=
 ∀ (pins:List (Addr×Obj)) (s:Shared) (σ:St) (H:Hp) (Q:Option Int->Hp->Prop),Inv X pins σ H s->t σ H Q ->
  wpAny (model X.prog X.w) X.A (evalPart e X.env) (fun u s'=>∃ o H',Inv X pins σ H' s'/\IsPart u o/\Q o H') X.xe s
def qg6:TO:=fun _ H Q=>Q none H
def S3(t:TE):TO:=fun σ H Q=>t σ H fun x H1=>∃ i,x=.int i/\Q (some i) H1
variable{p2:Pos}{r:V->Option Int->Option Int->Hp->VK->Prop}
section
variable{lo hi:Option Expr}{tl th:TO}
theorem qr3:PO X none qg6:=by
 intro pins s σ H Q I h
 rw[evalPart_none]
 exact wpAny_pure ⟨none,H,I,.none,h⟩
theorem J6(h:PE X e te):PO X (some e) (S3 te):=by
 intro pins s σ H Q I hw
 rw[evalPart_some]
 refine thn (h pins s σ H _ I hw) fun u s1 zq=>?_
 obtain⟨x,H1,I1,r1,q1⟩:=zq
 obtain⟨i,rfl,q⟩:=q1
 obtain⟨t,rfl⟩:=r1
 exact⟨some i,H1,I1,.int i t,q⟩
def SlR(X:Cx)(r:V->Option Int->Option Int->Hp->VK->Prop):Prop :=
 ∀ (pins:List (Addr×Obj)) (s:Shared) (σ:St) (H:Hp) (x:V) (v vl vu:Value) (lo hi:Option Int) (sl:Addr) (Q:VK),Inv X pins σ H s->E7 x v->s.heap.IsSliceOf sl vl vu .none->IsPart vl lo->IsPart vu hi->r x lo hi H Q ->
  ∃ T id,typeLookup (.type T) "__getitem__"=pure (some (.builtin id))/\s.TypeIs v T/\wpAny (model X.prog X.w) X.A (getItem v (.ref sl)) (EP X pins σ Q) X.xe s
theorem SlR.or{r':V->Option Int->Option Int->Hp->VK->Prop}(h:SlR X r)(h':SlR X r'):SlR X (fun x lo hi H Q=>r x lo hi H Q\/r' x lo hi H Q):=by
 intro pins s σ H x v vl vu lo hi sl Q I rx hs pl pu q
 rcases q with q|q
 ·exact h pins s σ H x v vl vu lo hi sl Q I rx hs pl pu q
 ·exact h' pins s σ H x v vl vu lo hi sl Q I rx hs pl pu q
def tSl(r:V->Option Int->Option Int->Hp->VK->Prop)(te:TE)(tl th:TO):TE:=fun σ H Q=>te σ H fun x H1=>tl σ H1 fun l H2=>th σ H2 fun u H3=>r x l u H3 Q
theorem N4(hr:SlR X r)(he:PE X e te)(hl:PO X lo tl)(hu:PO X hi th):PE X (.Subscript e (.Slice lo hi none p2) pos) (tSl r te tl th):=by
 intro pins s σ H Q I h
 refine Subscript_ (thn (he pins s σ H _ I h) fun v s1 zq=>?_)
 obtain⟨x,H1,I1,r1,q1⟩:=zq
 refine wpAny_Slice (thn (hl pins s1 σ H1 _ I1 q1) fun vl s2 ⟨l,H2,I2,pl,q2⟩=>thn (hu pins s2 σ H2 _ I2 q2) fun vu s3 zq=>?_)
 obtain⟨u,H3,I3,pu,q3⟩:=zq
 rw[evalPart_none]
 refine wpAny_pure ?_
 have I4:Inv X pins σ H3 {s3 with heap:=s3.heap.push {cls:=.type "slice",data:=.fields #[vl,vu,.none]}}:=I3.kept (t':=s3.toks) fun b ob q=>Heap.get?_push_of_some _ q
 obtain⟨T,id,hT,ht,hg⟩:=hr pins {s3 with heap:=s3.heap.push {cls:=.type "slice",data:=.fields #[vl,vu,.none]}} σ H3 x v vl vu l u s3.heap.objs.size Q I4 r1 (Heap.IsSliceOf.new ..) pl pu q3
 show wpAny (model X.prog X.w) X.A (subscriptTail e (.Slice lo hi none p2) v (.ref s3.heap.objs.size)) (EP X pins σ Q) X.xe {s3 with heap:=s3.heap.push {cls:=.type "slice",data:=.fields #[vl,vu,.none]}}
 exact tail_any (ops:=[.ref s3.heap.objs.size,v]) ht hT hg (by with_unfolding_all rfl)
def qf2(xs:List V)(lo hi:Option Int):List V:=(xs.drop (HT.sIx xs.length 0 lo)).take (HT.sIx xs.length xs.length hi-HT.sIx xs.length 0 lo)
theorem wo4(xs:List V)(lo hi:Option Int):(qf2 xs lo hi).length<=xs.length:=by
 unfold qf2
 rw[List.length_take,List.length_drop]
 omega
def zi2(K:Fg):V->Option Int->Option Int->Hp->VK->Prop:=fun x lo hi H Q=>∃ a xs,x=.ref a/\SqT K H a xs /\
 ¬(HT.sIx xs.length 0 lo=0/\HT.sIx xs.length xs.length hi=xs.length)/\∀ p,H p=none->Q (.ref p) (upd H p (.tup (qf2 xs lo hi)))
theorem za9:SlR X (zi2 X.K):=by
 intro pins s σ H x v vl vu lo hi sl Q I rx hs pl pu h
 obtain⟨a,xs,rfl,hx,hw,q⟩:=h
 cases rx
 obtain⟨its,r,ht,hz⟩:=I.tuple hx
 have hlen:its.toArray.size=xs.length:=by rw[List.size_toArray];exact r.length.symm
 refine⟨"tuple",_,PyProof.Rows.slot_tuple_getitem.lookup,ht.typeIs,?_⟩
 refine HT.wf6 ht hs pl pu (by rw[hlen];exact hw) ?_ (by rw[hlen];exact hz)
 rw[hlen]
 refine⟨.ref s.heap.objs.size,_,I.laid (t':=s.toks) (o:=.tup (qf2 xs lo hi)) (fun b ob q=>Heap.get?_push_of_some _ q) (Nat.le_refl _) ?_,rfl,q _ (I.hok.fresh (Nat.le_refl _))⟩
 exact⟨Nat.le_trans (wo4 xs lo hi) hz,_,(r.drop (HT.sIx xs.length 0 lo)).take (HT.sIx xs.length xs.length hi-HT.sIx xs.length 0 lo),IsTup.new _ _⟩
def yx4(K:Fg):R2:=fun x y H Q=>∃ a b xs ys,x=.ref a/\y=.ref b/\SqT K H a xs/\SqT K H b ys/\xs≠[]/\xs.length+ys.length<=sizeLine /\
 (ys=[]->Q (.ref a) H)/\(ys≠[]->∀ p,H p=none->Q (.ref p) (upd H p (.tup (xs++ys))))
theorem D9.nil_iff(r:D9 xs us):us=[]↔xs=[]:=by
 cases r with
 | nil=>simp
 | cons _ _=>simp
theorem yr9:OpR X (binaryOp .Add) (yx4 X.K):=by
 intro pins s σ H x y v u Q I rx ry h
 obtain⟨a,b,xs,ys,rfl,rfl,ha,hb,hx,hz,q1,q2⟩:=h
 cases rx
 cases ry
 obtain⟨its,r1,p1,_⟩:=I.tuple ha
 obtain⟨its2,r2,p2,_⟩:=I.tuple hb
 refine HT.yr8 p1 p2 (fun z=>hx (r1.nil_iff.mp z)) (fun z=>⟨.ref a,H,I,rfl,q1 (r2.nil_iff.mp z)⟩) (fun z=>?_) (by rw[<-r1.length,<-r2.length];exact hz)
 refine⟨.ref s.heap.objs.size,_,I.laid (t':=s.toks) (o:=.tup (xs++ys)) (fun b ob q=>Heap.get?_push_of_some _ q) (Nat.le_refl _) ?_,rfl,q2 (fun w=>z (r2.nil_iff.mpr w)) _ (I.hok.fresh (Nat.le_refl _))⟩
 exact⟨by rw[List.length_append];exact hz,_,r1.append r2,IsTup.new _ _⟩
end
def ixN(n:Nat)(i:Int):Option Nat:=if 0<=i then(if i<n then some i.toNat else none) else if -(n:Int)<=i then some (i+n).toNat else none
def atI{α:Type}(xs:List α)(i:Int):Option α:=(ixN xs.length i).bind fun j=>xs[j]?
theorem xw6{j:Nat}(h:ixN n i=some j):seqIndex? i n=some j/\j<n/\-(n:Int)<=i/\i<n:=by
 unfold ixN at h
 by_cases h0:0<=i
 ·rw[if_pos h0] at h
  by_cases h1:i<n
  ·rw[if_pos h1] at h
   have e:i.toNat=j:=Option.some.inj h
   exact⟨by rw[seqIndex_of h0 h1,e],by omega,by omega,h1⟩
  ·rw[if_neg h1] at h;cases h
 ·rw[if_neg h0] at h
  by_cases h1:-(n:Int)<=i
  ·rw[if_pos h1] at h
   have e:(i+n).toNat=j:=Option.some.inj h
   exact⟨by rw[seqIndex_neg (by omega) h1,e],by omega,h1,by omega⟩
  ·rw[if_neg h1] at h;cases h
theorem xe3{xs:List α}{v:α}(h:atI xs i=some v):∃ j,seqIndex? i xs.length=some j/\xs[j]?=some v/\j<xs.length/\-(xs.length:Int)<=i/\i<xs.length:=by
 unfold atI at h
 cases e:ixN xs.length i with
 | none=>rw[e] at h;cases h
 | some j =>
   rw[e] at h
   obtain⟨h1,h2,h3,h4⟩:=xw6 e
   exact⟨j,h1,h,h2,h3,h4⟩
theorem Z4{xs:List α}{j:Nat}{v:α}(h:xs[j]?=some v):atI xs (j:Int)=some v:=by
 have hj:j<xs.length:=(List.getElem?_eq_some_iff.mp h).1
 have e:ixN xs.length (j:Int)=some j:=by
  unfold ixN
  rw[if_pos (by omega),if_pos (by omega)];simp
 unfold atI;rw[e];exact h
theorem yi1(xs:List α)(v:α):atI (xs++[v]) (-1)=some v:=by
 have hl:(xs++[v]).length=xs.length+1:=by simp
 have e:ixN (xs++[v]).length (-1)=some xs.length:=by
  unfold ixN
  rw[hl,if_neg (by decide),if_pos (by omega)]
  congr 1
  omega
 unfold atI
 rw[e]
 show(xs++[v])[xs.length]?=some v
 simp
def ys0(b:Expr):Prop:=∀ o i,subscripted b false o i=operate [o,i] (getItem o i)
def IxR(X:Cx)(r:R2):Prop :=
 ∀ (value slice:Expr) (pins:List (Addr×Obj)) (s:Shared) (σ:St) (H:Hp) (x y:V) (v u:Value) (Q:VK),Inv X pins σ H s->E7 x v->E7 y u->r x y H Q ->
  subscripted slice false v u=operate [v,u] (getItem v u)->wpAny (model X.prog X.w) X.A (subscriptTail value slice v u) (EP X pins σ Q) X.xe s
def MtR(X:Cx)(id:String)(r:V->List V->Hp->VK->Prop):Prop :=
 ∀ (pins:List (Addr×Obj)) (s:Shared) (σ:St) (H:Hp) (x:V) (xs:List V) (v:Value) (us:List Value) (Q:VK),Inv X pins σ H s->E7 x v->D9 xs us->r x xs H Q ->
  wpAny (model X.prog X.w) X.A (call (.builtin id) (v::us)) (EP X pins σ Q) X.xe s
variable{its its':List Value}{p:Addr}{cpos:Pos}
section
variable{a b:Expr}{ta tb:TE}
theorem IxR.or{r r':R2}(h:IxR X r)(h':IxR X r'):IxR X (fun x y H Q=>r x y H Q\/r' x y H Q):=by
 intro value slice pins s σ H x y v u Q I rx ry q hs
 rcases q with q|q
 ·exact h value slice pins s σ H x y v u Q I rx ry q hs
 ·exact h' value slice pins s σ H x y v u Q I rx ry q hs
theorem E4{r:R2}(hr:IxR X r)(ha:PE X a ta)(hb:PE X b tb)(hs:ys0 b):PE X (.Subscript a b pos) (tOp r ta tb):=by
 intro pins s σ H Q I h
 exact Subscript_ (za5 ha hb I h fun v u s2 x y H2 I2 rx ry q=>hr a b pins s2 σ H2 x y v u Q I2 rx ry q (hs _ _))
def zi3(K:Fg):R2:=fun x y H Q=>∃ p xs i v,x=.ref p/\y=.int i/\SqL K H p xs/\atI xs i=some v/\Q v H
def zi4(K:Fg):R2:=fun x y H Q=>∃ p xs i v,x=.ref p/\y=.int i/\SqT K H p xs/\atI xs i=some v/\Q v H
def zi5:R2:=fun x y H Q=>∃ z i c,x=.str z/\y=.int i/\z.length<=sizeLine/\atI z.cps.toList i=some c/\Q (.str ⟨#[c]⟩) H
theorem ys1:IxR X (zi3 X.K):=by
 intro value slice pins s σ H x y v u Q I rx ry h hs
 obtain⟨p,xs,i,z,rfl,rfl,hq,he,q⟩:=h
 cases rx
 obtain⟨t,rfl⟩:=ry
 obtain⟨its,r,pl,hz⟩:=I.list hq
 obtain⟨j,h1,h2,h3,h4,h5⟩:=xe3 he
 obtain⟨w,ew,rw'⟩:=r.get h2
 have hl:=r.length
 have hn:=wk3
 have fin:EP X pins σ Q w s:=⟨z,H,I,rw',q⟩
 by_cases h0:0<=i
 ·have hj:i.toNat=j:=by
   rw[seqIndex_of h0 h5] at h1
   exact Option.some.inj h1
  exact item_listR pl.isList h0 (by omega) (by rw[hj];simpa using ew) fin hs
 ·have hj:(i+(its.toArray.size:Int)).toNat=j:=by
   rw[seqIndex_neg (by omega) h4] at h1
   rw[List.size_toArray,<-hl]
   exact Option.some.inj h1
  exact subscriptTail_builtinR (x:=w) pl.isList.typeIs slot_list_getitem.lookup
   (wpAny_getItem_list_neg (Q:=fun r s'=>r=w/\EP X pins σ Q r s') pl.isList (by omega) (by rw[List.size_toArray] <;> omega) (by omega) (by rw[hj];simpa using ew) ⟨rfl,fin⟩) hs
theorem zb0:IxR X (zi4 X.K):=by
 intro value slice pins s σ H x y v u Q I rx ry h hs
 obtain⟨p,xs,i,z,rfl,rfl,hq,he,q⟩:=h
 cases rx
 obtain⟨t,rfl⟩:=ry
 obtain⟨its,r,pl,hz⟩:=I.tuple hq
 obtain⟨j,h1,h2,h3,h4,h5⟩:=xe3 he
 obtain⟨w,ew,rw'⟩:=r.get h2
 have hl:=r.length
 have hn:=wk3
 have fin:EP X pins σ Q w s:=⟨z,H,I,rw',q⟩
 exact subscriptTail_builtinR (x:=w) pl.typeIs slot_tuple_getitem.lookup
  (getItem_tuple (j:=j) (Q:=fun r s'=>r=w/\EP X pins σ Q r s') pl (by omega) (by omega) (by rw[List.size_toArray,<-hl];exact h1) (by simpa using ew) ⟨rfl,fin⟩) hs
theorem zb1:IxR X zi5:=by
 intro value slice pins s σ H x y v u Q I rx ry h hs
 obtain⟨z,i,c,rfl,rfl,hz,he,q⟩:=h
 obtain⟨t,rfl⟩:=rx
 obtain⟨t',rfl⟩:=ry
 obtain⟨j,h1,h2,h3,h4,h5⟩:=xe3 he
 have hl:z.cps.toList.length=z.length:=by simp[Str.length]
 rw[hl] at h1 h4 h5
 have hn:=wk3
 exact tail_any (typeIs_str s z t) slot_str_getitem.lookup (getItem_str (c:=c) (by
  have e1:decide (i < -(2 ^ 63:Int))=false:=decide_eq_false (by omega)
  have e2:decide (i>=2 ^ 63)=false:=decide_eq_false (by omega)
  rw[e1,e2,Bool.or_false]) (by rw[h1];simpa using h2) ⟨.str ⟨#[c]⟩,H,I.tok _,⟨_,rfl⟩,q⟩) hs
def rIx(K:Fg):R2:=fun x y H Q=>zi3 K x y H Q\/zi4 K x y H Q\/zi5 x y H Q
theorem zb2:IxR X (rIx X.K):=ys1.or (zb0.or zb1)
theorem xr6(its:List Value)(n j:Nat)(u:Value):Obj.mapSeq (·.setIfInBounds j u) {cls:=.type "list",data:=.seq its.toArray n}={cls:=.type "list",data:=.seq (its.set j u).toArray n}:=by
 simp[Obj.mapSeq]
theorem Inv.lst{pins:List (Addr×Obj)}{σ:St}{H:Hp}{s:Shared}{p:Addr}{xs:List V}(I:Inv X pins σ H s)(h:H p=some (.lst xs)) :
 ∃ (its:List Value) (n:Nat),D9 xs its/\s.heap.get? p=some {cls:=.type "list",data:=.seq its.toArray n}/\xs.length<=sizeLine:=by
 obtain⟨z,its,n,r,e⟩:=I.hok p _ h
 exact⟨its,n,r,e,z⟩
theorem Inv.lstUpd{n':Nat}{f:Obj->Obj}(I:Inv X pins σ H s)(h:H p=some (.lst xs))(ho:s.heap.get? p=some {cls:=.type "list",data:=.seq its.toArray n})(hf:f {cls:=.type "list",data:=.seq its.toArray n}={cls:=.type "list",data:=.seq its'.toArray n'})(r:D9 ys its')(hz:ys.length<=sizeLine)(t':Nat)(ht:autoParam (0<t') zAt) :
 Inv X pins σ (upd H p (.lst ys)) {s with heap:=s.heap.update p f,toks:=t'}:=by
 have e:(s.heap.update p f).get? p=some {cls:=.type "list",data:=.seq its'.toArray n'}:=by
  rw[Heap.get?_update_self f ho (by rw[hf] <;> rfl),hf]
 refine I.write (x:=p) (e:=p) (by rw[h];trivial) (.inl rfl) (fun b u hb q=>(Heap.get?_update_other _ _ (Ne.symm hb)).trans q) ⟨_,e⟩ ?_
 exact⟨hz,its',n',r,e⟩
def yi2:V->V->V->Hp->(Hp->Prop)->Prop:=fun o i v H Q=>∃ p xs k j,o=.ref p/\i=.int k/\H p=some (.lst xs)/\ixN xs.length k=some j/\Q (upd H p (.lst (xs.set j v)))
theorem yi3:za4 X yi2:=by
 intro pins s σ H o i v ov iv u Q I ro ri rv h
 obtain⟨p,xs,k,j,rfl,rfl,hp,hj,q⟩:=h
 cases ro
 obtain⟨t,rfl⟩:=ri
 obtain⟨its,n,r,ho,hz⟩:=I.lst hp
 obtain⟨h1,h2,h3,h4⟩:=xw6 hj
 have hl:=r.length
 have hn:=wk3
 have I':Inv X pins σ (upd H p (.lst (xs.set j v))) {s with heap:=s.heap.update p (Obj.mapSeq (·.setIfInBounds j u))} :=
  I.lstUpd hp ho (xr6 its n j u) (r.set rv j) (by rw[List.length_set];exact hz) s.toks
 by_cases h0:0<=k
 ·have hk:k.toNat=j:=by
   rw[seqIndex_of h0 h4] at h1
   exact Option.some.inj h1
  exact PySem.W.ki_setAt ho h0 (by omega) (by rw[List.size_toArray,<-hl];exact h4) (by rw[hk];exact⟨_,I',q⟩)
 ·have hk:(k+(its.toArray.size:Int)).toNat=j:=by
   rw[seqIndex_neg (by omega) h3] at h1
   rw[List.size_toArray,<-hl]
   exact Option.some.inj h1
  exact PySem.W.ki_setBack ho (by omega) (by rw[List.size_toArray,<-hl];exact h3) (by omega) (by rw[hk];exact⟨_,I',q⟩)
theorem qr4(lo hi:Option Int)(n:Nat):(sliceBounds lo hi none n).1=((HT.sIx n 0 lo:Nat):Int)/\(sliceBounds lo hi none n).2.1=((HT.sIx n n hi:Nat):Int)/\(sliceBounds lo hi none n).2.2=1:=by
 refine⟨?_,?_,rfl⟩
 ·cases lo with
  | none=>simp[sliceBounds,HT.sIx]
  | some i =>
    simp only[sliceBounds,HT.sIx,Option.getD_none,show(1:Int) > 0 by decide,if_true]
    by_cases h:i<0
    ·simp only[h,if_true] <;> omega
    ·simp only[h,if_false] <;> omega
 ·cases hi with
  | none=>simp[sliceBounds,HT.sIx]
  | some i =>
    simp only[sliceBounds,HT.sIx,Option.getD_none,show(1:Int) > 0 by decide,if_true]
    by_cases h:i<0
    ·simp only[h,if_true] <;> omega
    ·simp only[h,if_false] <;> omega
theorem wy1(its:List Value)(lo hi:Option Int):slicePick its.toArray lo hi none=((its.drop (HT.sIx its.length 0 lo)).take (HT.sIx its.length its.length hi-HT.sIx its.length 0 lo)).toArray:=by
 obtain⟨h1,h2,h3⟩:=qr4 lo hi its.toArray.size
 unfold slicePick
 rw[h1,h2,h3]
 simp only[sliceRange_one,pick_run,List.size_toArray] <;> rfl
def zi6(K:Fg):V->Option Int->Option Int->Hp->VK->Prop:=fun x lo hi H Q=>∃ a xs,x=.ref a/\SqL K H a xs/\∀ p,H p=none->Q (.ref p) (upd H p (.lst (qf2 xs lo hi)))
theorem ys3:SlR X (zi6 X.K):=by
 intro pins s σ H x v vl vu lo hi sl Q I rx hs pl pu h
 obtain⟨a,xs,rfl,hx,q⟩:=h
 cases rx
 obtain⟨its,r,ht,hz⟩:=I.list hx
 have hlen:=r.length
 refine⟨"list",_,slot_list_getitem.lookup,ht.isList.typeIs,?_⟩
 refine wpAny_getItem_list_slice ht.isList hs pl pu .none (by simp) ?_ (by rw[List.size_toArray] <;> omega)
 rw[wy1,<-hlen]
 refine⟨.ref s.heap.objs.size,_,I.laid (t':=s.toks) (o:=.lst (qf2 xs lo hi)) (fun b ob q=>Heap.get?_push_of_some _ q) (Nat.le_refl _) ?_,rfl,q _ (I.hok.fresh (Nat.le_refl _))⟩
 exact⟨Nat.le_trans (wo4 xs lo hi) hz,_,0,(r.drop (HT.sIx xs.length 0 lo)).take (HT.sIx xs.length xs.length hi-HT.sIx xs.length 0 lo),Heap.get?_push_size _ rfl⟩
def qp1:V->Bool
 | .non=>true
 | .bl _=>true
 | .int _=>true
 | .str _=>true
 | _=>false
def eqV:V->V->Bool
 | .non,.non=>true
 | .bl a,.bl b=>a == b
 | .bl a,.int b=>(if a then 1 else 0) == b
 | .int a,.bl b=>a == (if b then 1 else 0)
 | .int a,.int b=>a == b
 | .str a,.str b=>a == b
 | _,_=>false
theorem zb3{x:V}{v:Value}(ry:E7 y u)(rx:E7 x v)(fy:qp1 y=true)(fx:qp1 x=true):SeqAt.EqAt A s u v (eqV y x):=by
 cases y with
 | non =>
   cases ry
   cases x with
   | non=>cases rx;exact SeqAt.EqAt.same _
   | bl b=>cases rx;exact SeqAt.EqAt.none_bool b
   | int b=>obtain⟨t,rfl⟩:=rx;exact SeqAt.EqAt.none_int b t
   | str b=>obtain⟨t,rfl⟩:=rx;exact SeqAt.EqAt.none_str b t
   | _=>exact absurd (show false=true from fx) Bool.false_ne_true
 | bl a =>
   cases ry
   cases x with
   | non=>cases rx;exact SeqAt.EqAt.bool_none a
   | bl b=>cases rx;exact SeqAt.EqAt.bool_bool a b
   | int b=>obtain⟨t,rfl⟩:=rx;exact SeqAt.EqAt.bool_int a b t
   | str b=>obtain⟨t,rfl⟩:=rx;exact SeqAt.EqAt.bool_str a b t
   | _=>exact absurd (show false=true from fx) Bool.false_ne_true
 | int a =>
   obtain⟨t',rfl⟩:=ry
   cases x with
   | non=>cases rx;exact SeqAt.EqAt.int_none a t'
   | bl b=>cases rx;exact SeqAt.EqAt.int_bool a t' b
   | int b=>obtain⟨t,rfl⟩:=rx;exact SeqAt.EqAt.int_int a t' b t
   | str b=>obtain⟨t,rfl⟩:=rx;exact SeqAt.EqAt.int_str a t' b t
   | _=>exact absurd (show false=true from fx) Bool.false_ne_true
 | str a =>
   obtain⟨t',rfl⟩:=ry
   cases x with
   | non=>cases rx;exact SeqAt.EqAt.str_none a t'
   | bl b=>cases rx;exact SeqAt.EqAt.str_bool a t' b
   | int b=>obtain⟨t,rfl⟩:=rx;exact SeqAt.EqAt.str_int a t' b t
   | str b=>obtain⟨t,rfl⟩:=rx;exact SeqAt.EqAt.str_str a t' b t
   | _=>exact absurd (show false=true from fx) Bool.false_ne_true
 | _=>exact absurd (show false=true from fy) Bool.false_ne_true
def eqU(x:V)(u:Value):Bool:=match u with
 | .none=>eqV .non x
 | .bool b=>eqV (.bl b) x
 | .int i _=>eqV (.int i) x
 | .str z _=>eqV (.str z) x
 | _=>false
theorem yi4{x:V}(r:E7 y u)(f:qp1 y=true):eqU x u=eqV y x:=by
 cases y with
 | non=>cases r;rfl
 | bl b=>cases r;rfl
 | int i=>obtain⟨t,rfl⟩:=r;rfl
 | str z=>obtain⟨t,rfl⟩:=r;rfl
 | _=>exact absurd (show false=true from f) Bool.false_ne_true
theorem wf7{x:V}:∀ {xs:List V} {us:List Value},D9 xs us->xs.all qp1=true->us.any (eqU x)=xs.any fun y=>eqV y x
 | _,_,.nil,_=>rfl
 | y::xs,u::us,.cons r t,f=>by
   rw[List.all_cons,Bool.and_eq_true] at f
   rw[List.any_cons,List.any_cons,yi4 r f.1,wf7 t f.2]
theorem qw3{A:Around}{s:Shared}{x:V}{v:Value}(rx:E7 x v)(fx:qp1 x=true):∀ {xs:List V} {us:List Value},D9 xs us->xs.all qp1=true->∀ u∈us,SeqAt.EqAt A s u v (eqU x u)
 | _,_,.nil,_=>fun u hu=>by cases hu
 | y::xs,u::us,.cons r t,f=>fun u' hu=>by
   rw[List.all_cons,Bool.and_eq_true] at f
   rcases List.mem_cons.mp hu with rfl|hu
   ·rw[yi4 r f.1];exact zb3 r rx f.1 fx
   ·exact qw3 rx fx t f.2 u' hu
def inV(x:V)(xs:List V):Bool:=xs.any fun y=>eqV y x
def rIn(K:Fg)(neg:Bool):R2:=fun x y H Q=>∃ p xs,y=.ref p/\(SqL K H p xs\/SqT K H p xs)/\qp1 x=true/\xs.all qp1=true/\Q (.bl (if neg then !inV x xs else inV x xs)) H
theorem yc9:OpR X (compareOp .In) (rIn X.K false):=by
 intro pins s σ H x y v u Q I rx ry h
 obtain⟨p,xs,rfl,hq,fx,fs,q⟩:=h
 cases ry
 rcases hq with hq|hq
 ·obtain⟨its,r,pl,hz⟩:=I.list hq
  refine SeqAt.in_listAt (eqU x) pl.isList (fun w hw=>qw3 rx fx r fs w (by simpa using hw)) ⟨.bl _,H,I,rfl,?_⟩
  rw[show its.toArray.any (eqU x)=its.any (eqU x) by simp,wf7 r fs]
  exact q
 ·obtain⟨its,r,pl,hz⟩:=I.tuple hq
  refine SeqAt.in_tupleAt (eqU x) pl (fun w hw=>qw3 rx fx r fs w (by simpa using hw)) ⟨.bl _,H,I,rfl,?_⟩
  rw[show its.toArray.any (eqU x)=its.any (eqU x) by simp,wf7 r fs]
  exact q
theorem xe4:OpR X (compareOp .NotIn) (rIn X.K true):=by
 intro pins s σ H x y v u Q I rx ry h
 obtain⟨p,xs,rfl,hq,fx,fs,q⟩:=h
 cases ry
 rcases hq with hq|hq
 ·obtain⟨its,r,pl,hz⟩:=I.list hq
  refine SeqAt.notIn_listAt (eqU x) pl.isList (fun w hw=>qw3 rx fx r fs w (by simpa using hw)) ⟨.bl _,H,I,rfl,?_⟩
  rw[show its.toArray.any (eqU x)=its.any (eqU x) by simp,wf7 r fs]
  exact q
 ·obtain⟨its,r,pl,hz⟩:=I.tuple hq
  refine SeqAt.notIn_tupleAt (eqU x) pl (fun w hw=>qw3 rx fx r fs w (by simpa using hw)) ⟨.bl _,H,I,rfl,?_⟩
  rw[show its.toArray.any (eqU x)=its.any (eqU x) by simp,wf7 r fs]
  exact q
theorem xe5:OpR X (compareOp .NotIn) (fun x y H Q=>∃ i j,x=.str i/\y=.str j/\Q (.bl (!(!(Builtin.Str.occurrences j i 0 j.length 1).isEmpty))) H):=by
 intro pins s σ H x y v u Q I rx ry h
 obtain⟨i,j,rfl,rfl,q⟩:=h
 obtain⟨t,rfl⟩:=rx
 obtain⟨t',rfl⟩:=ry
 exact notIn_str ⟨.bl _,H,I,rfl,q⟩
theorem xe6:Y9 X (.builtin "len") (fun xs H Q=>∃ p ys,xs=[.ref p]/\(SqL X.K H p ys\/SqT X.K H p ys)/\Q (.int ys.length) H):=by
 intro pins s σ H xs us Q I r h
 obtain⟨p,ys,rfl,hq,q⟩:=h
 obtain⟨u,rfl,rx⟩:=qi7 r
 cases rx
 have hn:=wk3
 rcases hq with hq|hq
 ·obtain⟨its,r',pl,hz⟩:=I.list hq
  have hlen:=r'.length
  exact Calls.call_len_list pl.isList (by simp only[List.size_toArray] <;> omega) ⟨.int ys.length,H,I.tok _,⟨s.toks+1,by rw[List.size_toArray,hlen]⟩,q⟩
 ·obtain⟨its,r',pl,hz⟩:=I.tuple hq
  have hlen:=r'.length
  exact len_tuple pl (by simp only[List.size_toArray] <;> omega) ⟨.int ys.length,H,I.tok _,⟨s.toks+1,by rw[List.size_toArray,hlen]⟩,q⟩
theorem xe7:Y9 X (.builtin "len") (fun xs H Q=>∃ z,xs=[.str z]/\z.length<=sizeLine/\Q (.int z.length) H):=by
 intro pins s σ H xs us Q I r h
 obtain⟨z,rfl,hz,q⟩:=h
 obtain⟨u,rfl,t,rfl⟩:=qi7 r
 have hn:=wk3
 exact len_str (by omega) ⟨.int z.length,H,I.tok _,⟨_,rfl⟩,q⟩
theorem Y9.or{f:Value}{r r':List V->Hp->VK->Prop}(h:Y9 X f r)(h':Y9 X f r'):Y9 X f (fun xs H Q=>r xs H Q\/r' xs H Q):=by
 intro pins s σ H xs us Q I rs q
 rcases q with q|q
 ·exact h pins s σ H xs us Q I rs q
 ·exact h' pins s σ H xs us Q I rs q
theorem wy2:Y9 X (.type "tuple") (fun xs H Q=>∃ p ys,xs=[.ref p]/\((SqL X.K H p ys/\∀ l,H l=none->Q (.ref l) (upd H l (.tup ys)))\/(SqT X.K H p ys/\Q (.ref p) H))):=by
 intro pins s σ H xs us Q I r h
 obtain⟨p,ys,rfl,h⟩:=h
 obtain⟨u,rfl,rx⟩:=qi7 r
 cases rx
 rcases h with⟨hq,q⟩|⟨hq,q⟩
 ·obtain⟨its,r',pl,hz⟩:=I.list hq
  have hlen:=r'.length
  refine call_tuple_list pl.isList (fun h' kp=>?_) (by simp only[List.size_toArray] <;> omega)
  have I1:Inv X pins σ H {s with heap:=h'}:=I.kept (t':=s.toks) kp
  have I2:Inv X pins σ (upd H h'.objs.size (.tup ys)) {s with heap:=h'.push {cls:=.type "tuple",data:=.seq its.toArray}} :=
   I1.laid (t':=s.toks) (fun b o e=>Heap.get?_push_of_some _ e) (Nat.le_refl _) (show R3 X.prog X.w _ _ _ (.tup ys) from ⟨hz,its,r',IsTup.new _ _⟩)
  exact⟨.ref h'.objs.size,_,I2,rfl,q _ (I1.hok.fresh (Nat.le_refl _))⟩
 ·obtain⟨its,r',pl,hz⟩:=I.tuple hq
  exact call_tuple_same pl ⟨.ref p,H,I,rfl,q⟩
def tyV(K:Fg)(T:String)(x:V)(H:Hp):Prop:=match x with
 | .str _=>T = "str"
 | .int _=>T = "int"
 | .ref p=>(T = "list"/\∃ xs,SqL K H p xs)\/(T = "tuple"/\∃ o,K.lookup p=some o/\o.cls=.type "tuple"/\o.dict=none) \/
  (T = "dict"/\((∃ kvs,H p=some (.dK kvs))\/∃ kvs,H p=some (.dT kvs)))\/(T = "set"/\∃ S n,H p=some (.set S n))
 | _=>False
theorem xr7{x:V}{v:Value}(I:Inv X pins σ H s)(r:E7 x v)(ty:tyV X.K T x H) :
 s.TypeIs v T/\∀ a,v=.ref a->∃ ob,s.heap.get? a=some ob/\ob.dict=none:=by
 cases x with
 | str z =>
   obtain⟨t,rfl⟩:=r
   cases (show T = "str" from ty)
   exact⟨typeIs_str s z t,fun _ e=>nomatch e⟩
 | int i =>
   obtain⟨t,rfl⟩:=r
   cases (show T = "int" from ty)
   exact⟨typeIs_int s i t,fun _ e=>nomatch e⟩
 | ref p =>
   cases r
   rcases ty with⟨rfl,xs,hq⟩|⟨rfl,o,hk,hc,hd⟩|⟨rfl,hk⟩|⟨rfl,S,n,hk⟩
   ·obtain⟨its,_,pl,_⟩:=I.list hq
    refine⟨pl.isList.typeIs,fun a e=>?_⟩
    cases e
    obtain⟨o,n,e,c,hd,_⟩:=pl
    exact⟨o,e,hd⟩
   ·refine⟨⟨o,I.kIn p o hk,hc⟩,fun a e=>?_⟩
    cases e
    exact⟨o,I.kIn _ o hk,hd⟩
   ·have z:∃ o,s.heap.get? p=some o/\o.ExactDict:=by
     rcases hk with⟨kvs,hk⟩|⟨kvs,hk⟩
     ·obtain⟨_,_,_,_,o,_,_,e,ex,_⟩:=I.hok p _ hk
      exact⟨o,e,ex⟩
     ·obtain⟨_,_,_,_,o,_,_,e,ex,_⟩:=I.hok p _ hk
      exact⟨o,e,ex⟩
    obtain⟨o,e,ex⟩:=z
    refine⟨⟨o,e,ex.1⟩,fun a e2=>?_⟩
    cases e2
    exact⟨o,e,ex.2.1⟩
   ·obtain⟨o,_,_,_,e,ex,_⟩:=I.hok p _ hk
    refine⟨⟨o,e,ex.1⟩,fun a e2=>?_⟩
    cases e2
    exact⟨o,e,ex.2.1⟩
 | _=>exact False.elim ty
def xk4(K:Fg)(T:String)(r:V->List V->Hp->VK->Prop)(to:TE):TE:=fun σ H Q=>to σ H fun x H1=>tyV K T x H1/\r x [] H1 Q
def tBM(K:Fg)(T:String)(r:V->List V->Hp->VK->Prop)(to:TE)(t:TA):TE:=fun σ H Q=>to σ H fun x H1=>tyV K T x H1/\t σ H1 fun xs H2=>r x xs H2 Q
variable{o:Expr}{id:String}{r:V->List V->Hp->VK->Prop}
theorem ws3(pa:PlainAttrs T)(slot:Slot T name id)(hty:typeOf (.builtin id)=pure (.type "method_descriptor"))(hm:MtR X id r)(ho:PE X o to)(hbase:autoParam (attributeBase o name X.env (eval o X.env)=eval o X.env) zAr)(hline:autoParam ((apos.endLine == cpos.line)=true) zAr):PE X (.Call (.Attribute o name apos) [] [] cpos) (xk4 X.K T r to):=by
 intro pins s σ H Q I h
 refine wpAny_Call_method0_late hbase hline (thn (ho pins s σ H _ I h) fun v s1 zq=>?_)
 obtain⟨x,H1,I1,r1,ty,q1⟩:=zq
 obtain⟨h1,h2⟩:=xr7 I1 r1 ty
 exact⟨T,id,pa,slot,hty,h1,h2,Calls.callWith_builtin rfl (PySem.evalArgs_none (hm pins s1 σ H1 x [] v [] Q I1 r1 .nil q1))⟩
theorem O4(pa:PlainAttrs T)(slot:Slot T name id)(hty:typeOf (.builtin id)=pure (.type "method_descriptor"))(hm:MtR X id r)(ho:PE X o to)(ha:PA X (e::es) t)(hbase:autoParam (attributeBase o name X.env (eval o X.env)=eval o X.env) zAr) (hfew:((backTo cpos (starEach (e::es) X.env)).all (fun x=>!x.1) && (backToKw cpos (keywordEach [] X.env)).all (fun x=>x.1.isSome)
  && decide ((e::es).length+([]:List Keyword).length+(if([]:List Keyword).isEmpty then 0 else 1)<30))=true:=by rfl) (hline:autoParam ((apos.endLine == cpos.line)=true) zAr) (hs:autoParam (starEach (e::es) X.env=(false,eval e X.env)::starEach es X.env) zAr) (hplain:autoParam ((backTo cpos (starEach es X.env)).any (·.1)=false) zAr) :
 PE X (.Call (.Attribute o name apos) (e::es) [] cpos) (tBM X.K T r to t):=by
 intro pins s σ H Q I h
 refine wpAny_Call_method_late hbase hfew hline rfl (thn (ho pins s σ H _ I h) fun v s1 zq=>?_)
 obtain⟨x,H1,I1,r1,ty,q1⟩:=zq
 obtain⟨h1,h2⟩:=xr7 I1 r1 ty
 refine⟨T,id,pa,slot,hty,h1,h2,?_⟩
 have hA:=ha cpos pins s1 σ H1 _ I1 q1
 rw[hs] at hA ⊢
 refine Calls.callWith_builtin (by show(false || (backTo cpos (starEach es X.env)).any (·.1))=false;rw[hplain] <;> rfl) (Calls.evalArgs_plain ?_)
 exact thn hA fun us s2 ⟨vs,H2,I2,r2,q2⟩=>hm pins s2 σ H2 x vs v us Q I2 r1 r2 q2
end
def MtM(X:Cx)(id:String)(r:V->List V->Hp->VK->Prop):Prop :=
 ∀ (pins:List (Addr×Obj)) (s:Shared) (σ:St) (H:Hp) (x:V) (xs:List V) (v:Value) (us:List Value) (Q:VK),Inv X pins σ H s->E7 x v->D9 xs us->r x xs H Q ->
  wpAny (model X.prog X.w) X.A (call (.builtin id) (v::us)) (EP X pins σ Q) X.xe s
theorem D9.one{x:V}(r:D9 [x] us):∃ u,us=[u]/\E7 x u:=qi7 r
theorem D9.zero:∀ {us:List Value},D9 [] us->us=[]
 | _,.nil=>rfl
theorem D9.dropLast(h:D9 xs us):D9 xs.dropLast us.dropLast:=by
 induction h with
 | nil=>exact .nil
 | cons r t ih =>
   cases t with
   | nil=>exact .nil
   | cons q t'=>exact .cons r ih
theorem D9.rep{xs:List V}{us:List Value}(h:D9 xs us):∀ k:Nat,D9 (List.replicate k xs).flatten (List.replicate k us).flatten
 | 0=>.nil
 | k+1=>by
   rw[List.replicate_succ,List.replicate_succ,List.flatten_cons,List.flatten_cons]
   exact D9.append h (D9.rep h k)
theorem xr8(l:List α):l.eraseIdx (l.length-1)=l.dropLast:=by
 induction l with
 | nil=>rfl
 | cons a r ih =>
   cases r with
   | nil=>rfl
   | cons b r =>
     have e:(a::b::r).length-1=((b::r).length-1)+1:=by
      have h1:(a::b::r).length=r.length+2:=rfl
      have h2:(b::r).length=r.length+1:=rfl
      omega
     rw[e,List.eraseIdx_cons_succ,ih]
     all_goals rfl
theorem xb2(its:List Value):∀ (k:Nat) (acc:List Value),
 List.foldl (fun x1 x2=>x1++x2) acc.toArray (List.replicate k its.toArray)=(acc++(List.replicate k its).flatten).toArray
 | 0,acc=>by simp
 | k+1,acc=>by
   have e:acc.toArray++its.toArray=(acc++its).toArray:=by simp
   have e2:(acc++its)++(List.replicate k its).flatten=acc++(List.replicate (k+1) its).flatten:=by
    rw[List.replicate_succ,List.flatten_cons,List.append_assoc]
   rw[<-e2,<-xb2 its k (acc++its),<-e,List.replicate_succ,List.foldl_cons]
variable{l:Addr}{zs:List V}
theorem Inv.lset{f:Array Value->Array Value}(I:Inv X pins σ H s)(hH:H l=some (.lst xs))(e:s.heap.get? l=some {cls:=.type "list",data:=.seq its.toArray n})(hf:f its.toArray=its'.toArray)(hv:D9 ys its')(hz:ys.length<=sizeLine)(ht:autoParam (0<t') zAt) :
 Inv X pins σ (upd H l (.lst ys)) {s with heap:=s.heap.update l (Obj.mapSeq f),toks:=t'}:=by
 have q:=PySem.IsL.update e f
 rw[hf] at q
 refine I.write (x:=l) (e:=l) (by rw[hH];exact trivial) (.inl rfl) (fun b' u hb hu=>(Heap.get?_update_other s.heap (Obj.mapSeq f) (Ne.symm hb)).trans hu) ⟨_,q⟩ ?_
 exact⟨hz,its',_,hv,q⟩
theorem Inv.lnew(I:Inv X pins σ H s)(hv:D9 ys its)(hz:ys.length<=sizeLine)(ht:autoParam (0<t') zAt) :
 Inv X pins σ (upd H s.heap.objs.size (.lst ys)) {s with heap:=s.heap.push {cls:=.type "list",data:=.seq its.toArray},toks:=t'} :=
 I.laid (fun _ _ q=>Heap.get?_push_of_some _ q) (Nat.le_refl _) ⟨hz,its,0,hv,Heap.get?_push_size _ rfl⟩
theorem Inv.fresh(I:Inv X pins σ H s):H s.heap.objs.size=none:=I.hok.fresh (Nat.le_refl _)
theorem Inv.lstM(I:Inv X pins σ H s)(hH:H l=some (.lst xs)):xs.length<=sizeLine/\∃ (its:List Value) (n:Nat),D9 xs its/\xs.length=its.length/\s.heap.get? l=some {cls:=.type "list",data:=.seq its.toArray n}:=by
 obtain⟨z,its,n,r,e⟩:=I.hok l _ hH
 exact⟨z,its,n,r,r.length,e⟩
theorem xk5(h:n<=sizeLine):Builtin.List.listTooLong n=false:=by
 unfold Builtin.List.listTooLong
 exact decide_eq_false (by omega)
def G6:V->List V->Hp->VK->Prop:=fun x vs H Q=>∃ l xs y,x=.ref l/\vs=[y]/\H l=some (.lst xs)/\xs.length<sizeLine/\Q .non (upd H l (.lst (xs++[y])))
theorem E8:MtM X "list.append" G6:=by
 intro pins s σ H x vs v us Q I rx rv h
 obtain⟨l,xs,y,rfl,rfl,hH,hz,q⟩:=h
 cases rx
 obtain⟨u,rfl,ru⟩:=rv.one
 obtain⟨z,its,n,r,hl,e⟩:=I.lstM hH
 refine call_meets F.slot_list_append ⟨_,e,rfl⟩ F.entry_list_append (F.args_list_append_2 _ _) (PySem.list_append l its.toArray n u (by rw[List.size_toArray];omega)) ⟨e,?_⟩
 refine⟨.non,_,I.lset (its':=its++[u]) hH e (by simp) (r.append (.cons ru .nil)) ?_,rfl,q⟩
 rw[List.length_append,List.length_singleton]
 omega
def wq8:V->List V->Hp->VK->Prop:=fun x vs H Q=>∃ l b xs zs,x=.ref l/\vs=[.ref b]/\H l=some (.lst xs)/\H b=some (.lst zs)/\xs.length+zs.length<=sizeLine/\Q .non (upd H l (.lst (xs++zs)))
theorem xb3:MtM X "list.extend" wq8:=by
 intro pins s σ H x vs v us Q I rx rv h
 obtain⟨l,b,xs,zs,rfl,rfl,hH,hB,hz,q⟩:=h
 cases rx
 obtain⟨u,rfl,ru⟩:=rv.one
 cases ru
 obtain⟨z,its,n,r,hl,e⟩:=I.lstM hH
 obtain⟨z2,its2,n2,r2,hl2,e2⟩:=I.lstM hB
 have hsz:its.toArray.size+its2.toArray.size<=sizeLine:=by rw[List.size_toArray,List.size_toArray];omega
 have hlong:¬(!its.toArray.isEmpty && Builtin.List.listTooLong (its.toArray.size+its2.toArray.size))=true:=by
  rw[xk5 hsz,Bool.and_false]
  exact Bool.false_ne_true
 refine call_meets F.slot_list_extend ⟨_,e,rfl⟩ F.entry_list_extend (F.args_list_extend_2 _ _)
  (AutoSeq1.list_extend_list_list_0 l its.toArray n b its2.toArray n2 hlong (by rw[List.size_toArray];omega) (by omega)) ⟨e,e2,?_⟩
 refine⟨.non,_,I.lset (its':=its++its2) hH e (by simp) (r.append r2) ?_,rfl,q⟩
 rw[List.length_append]
 omega
def xk6:V->List V->Hp->VK->Prop:=fun x vs H Q=>∃ l xs y,x=.ref l/\vs=[]/\H l=some (.lst xs)/\xs[xs.length-1]?=some y/\Q y (upd H l (.lst xs.dropLast))
theorem ws4:MtM X "list.pop" xk6:=by
 intro pins s σ H x vs v us Q I rx rv h
 obtain⟨l,xs,y,rfl,rfl,hH,hy,q⟩:=h
 cases rx
 have hus:=rv.zero
 subst hus
 obtain⟨z,its,n,r,hl,e⟩:=I.lstM hH
 obtain⟨u,hu,ru⟩:=r.get hy
 have hy':its.toArray[its.toArray.size-1]?=some u:=by
  show its.toArray[its.length-1]?=some u
  rw[<-Array.getElem?_toList,<-hl]
  exact hu
 refine call_meets F.slot_list_pop ⟨_,e,rfl⟩ F.entry_list_pop (F.args_list_pop_1 _) (MeetsSeq.list_pop_last l its.toArray n u hy' (by rw[List.size_toArray];omega)) ⟨e,?_⟩
 refine⟨y,_,I.lset (its':=its.dropLast) hH e ?_ r.dropLast ?_,ru,q⟩
 ·show its.toArray.eraseIdxIfInBounds (its.toArray.size-1)=its.dropLast.toArray
  rw[List.size_toArray,List.eraseIdxIfInBounds_toArray,xr8]
 ·rw[List.length_dropLast]
  omega
def zi7:R2:=fun x y H Q=>∃ l b xs zs,x=.ref l/\y=.ref b/\H l=some (.lst xs)/\H b=some (.lst zs)/\xs.length+zs.length<=sizeLine/\∀ p,H p=none->Q (.ref p) (upd H p (.lst (xs++zs)))
theorem zb4:OpR X (binaryOp .Add) zi7:=by
 intro pins s σ H x y v u Q I rx ry h
 obtain⟨l,b,xs,zs,rfl,rfl,hH,hB,hz,q⟩:=h
 cases rx
 cases ry
 obtain⟨z,its,n,r,hl,e⟩:=I.lstM hH
 obtain⟨z2,its2,n2,r2,hl2,e2⟩:=I.lstM hB
 refine PySem.P.add_list e e2 ?_ (by rw[List.size_toArray,List.size_toArray];omega)
 have ea:its.toArray++its2.toArray=(its++its2).toArray:=by simp
 rw[ea]
 exact⟨.ref _,_,I.lnew (t':=s.toks) (r.append r2) (by rw[List.length_append];omega),rfl,q _ I.fresh⟩
def zi8:R2:=fun x y H Q=>∃ l k xs,x=.ref l/\y=.int k/\H l=some (.lst xs)/\-(2 ^ 63)<=k/\k<2 ^ 63/\xs.length*k.toNat<=sizeLine /\
 ∀ p,H p=none->Q (.ref p) (upd H p (.lst (List.replicate k.toNat xs).flatten))
theorem ys4(xs:List α)(k:Nat):(List.replicate k xs).flatten.length=k*xs.length:=by
 induction k with
 | zero=>simp
 | succ k ih=>rw[List.replicate_succ,List.flatten_cons,List.length_append,ih,Nat.succ_mul,Nat.add_comm]
theorem zb5:OpR X (binaryOp .Mult) zi8:=by
 intro pins s σ H x y v u Q I rx ry h
 obtain⟨l,k,xs,rfl,rfl,hH,h1,h2,hz,q⟩:=h
 cases rx
 obtain⟨t,rfl⟩:=ry
 obtain⟨z,its,n,r,hl,e⟩:=I.lstM hH
 have hlen:its.toArray.size*k.toNat<=sizeLine:=by rw[List.size_toArray,<-hl];exact hz
 have hcap:¬its.toArray.size*k.toNat > (2 ^ 63-1) / 8:=by
  have:(sizeLine:Nat)<=(2 ^ 63-1) / 8:=by decide
  omega
 have hfit:¬(!Builtin.List.listFitsIndex k)=true:=by
  rw[fitsIndex_both h1 h2]
  exact Bool.false_ne_true
 have hlong:¬Builtin.List.listTooLong (its.toArray.size*k.toNat)=true:=by
  rw[xk5 hlen]
  exact Bool.false_ne_true
 have hnew:List.foldl (fun x1 x2=>x1++x2) #[] (List.replicate (if its.toArray.isEmpty=true then 0 else k.toNat) its.toArray)=(List.replicate k.toNat its).flatten.toArray:=by
  have f0:∀ m:Nat,List.foldl (fun x1 x2=>x1++x2) #[] (List.replicate m its.toArray)=(List.replicate m its).flatten.toArray:=fun m=>by
   have:=xb2 its m []
   rw[List.nil_append] at this
   exact this
  rw[f0]
  cases its with
  | nil=>simp
  | cons a r'=>rw[if_neg (by simp)]
 refine wpAny_binaryOp_repeat_ref (T := "list") (U := "int") (by decide) ⟨_,e,rfl⟩ (fun s'=>typeIs_int s' k t) noFill_list_mul F.fills_int_mul F.slot_int_rmul repeat_list F.slot_int_index.lookup
  (call_meets F.slot_int_rmul (typeIs_int s k t) F.entry_int_rmul (F.args_int_rmul_2 _ _) (int___rmul___int_list k t l its.toArray n)
   ⟨e,rfl,⟨_,e,rfl⟩,call_meets F.slot_list_mul ⟨_,e,rfl⟩ F.entry_list_mul (F.args_list_mul_2 _ _) (AutoListH.list___mul___list_int_3 l its.toArray n k t hfit hcap hlong) ⟨e,?_⟩⟩)
 rw[hnew]
 exact⟨.ref _,_,I.lnew (t':=s.toks) (r.rep k.toNat) (by rw[ys4,Nat.mul_comm];exact hz),rfl,q _ I.fresh⟩
variable{κ:Type}
section
variable[DecidableEq κ]
def ws5(kvs:List (κ×V))(k:κ):Option V:=(kvs.find? fun kv=>decide (kv.1=k)).map (·.2)
def wy3(kvs:List (κ×V))(k:κ)(v:V):List (κ×V) :=
 if(kvs.any fun kv=>decide (kv.1=k))=true then kvs.map (fun kv=>if kv.1=k then(kv.1,v) else kv) else kvs++[(k,v)]
theorem zi9{k:κ}:ws5 ([]:List (κ×V)) k=none:=rfl
theorem ws6{p:κ×V}{r:List (κ×V)}{k:κ}(e:p.1=k):ws5 (p::r) k=some p.2:=by simp[ws5,List.find?_cons,e]
theorem ws7{p:κ×V}{r:List (κ×V)}{k:κ}(e:¬p.1=k):ws5 (p::r) k=ws5 r k:=by simp[ws5,List.find?_cons,e]
theorem xk7(k:κ):∀ kvs:List (κ×V),(kvs.any fun kv=>decide (kv.1=k))=(ws5 kvs k).isSome
 | []=>rfl
 | p::r=>by
   rw[List.any_cons]
   by_cases e:p.1=k
   ·simp only[ws6 e,decide_eq_true e,Bool.true_or,Option.isSome_some]
   ·rw[ws7 e,decide_eq_false e,Bool.false_or];exact xk7 k r
theorem wo5(kvs:List (κ×V))(k:κ)(v:V):(wy3 kvs k v).length<=kvs.length+1:=by
 unfold wy3
 split
 ·rw[List.length_map];omega
 ·rw[List.length_append,List.length_cons,List.length_nil];omega
theorem wf4.isSome_eq{o:Option V}{u:Option Value}(r:wf4 o u):o.isSome=u.isSome:=by
 cases o with
 | none=>cases u with
   | none=>rfl
   | some _=>exact(show False from r).elim
 | some _=>cases u with
   | none=>exact(show False from r).elim
   | some _=>rfl
theorem KV.val{kvs:List (κ×V)}{vs:List (κ×Value)}(r:KV kvs vs)(k:κ):wf4 (ws5 kvs k) (valueAt vs k):=by
 unfold KV at r
 induction r with
 | nil=>exact True.intro
 | @cons p q ps qs h t ih =>
   obtain⟨h1,h2⟩:=h
   by_cases e:p.1=k
   ·have e':q.1=k:=h1.symm.trans e
    have b:valueAt (q::qs) k=some q.2:=by simp[valueAt,List.find?_cons,e']
    rw[ws6 e,b];exact h2
   ·have e':¬q.1=k:=fun z=>e (h1.trans z)
    have b:valueAt (q::qs) k=valueAt qs k:=by simp[valueAt,List.find?_cons,e']
    rw[ws7 e,b];exact ih
theorem KV.any{kvs:List (κ×V)}{vs:List (κ×Value)}(r:KV kvs vs)(k:κ):(kvs.any fun kv=>decide (kv.1=k))=vs.any fun kv=>decide (kv.1=k):=by
 unfold KV at r
 induction r with
 | nil=>rfl
 | cons h t ih=>rw[List.any_cons,List.any_cons,ih,h.1]
theorem KV.repl{kvs:List (κ×V)}{vs:List (κ×Value)}(r:KV kvs vs)(k:κ)(ry:E7 y u) :
 KV (kvs.map fun kv=>if kv.1=k then(kv.1,y) else kv) (vs.map fun kv=>if kv.1=k then(kv.1,u) else kv):=by
 unfold KV at r ⊢
 induction r with
 | nil=>exact .nil
 | @cons p q ps qs h t ih =>
   rw[List.map_cons,List.map_cons]
   refine .cons ?_ ih
   obtain⟨h1,h2⟩:=h
   by_cases e:p.1=k
   ·rw[if_pos e,if_pos (h1.symm.trans e)];exact⟨h1,ry⟩
   ·rw[if_neg e,if_neg (fun z=>e (h1.trans z))];exact⟨h1,h2⟩
theorem KV.put{kvs:List (κ×V)}{vs:List (κ×Value)}(r:KV kvs vs)(k:κ)(ry:E7 y u):KV (wy3 kvs k y) (stored vs k u):=by
 unfold wy3 stored
 rw[r.any k]
 by_cases e:(vs.any fun kv=>decide (kv.1=k))=true
 ·rw[if_pos e,if_pos e];exact r.repl k ry
 ·rw[if_neg e,if_neg e];exact Paired.snoc r ⟨rfl,ry⟩
theorem KV.length{kvs:List (κ×V)}{vs:List (κ×Value)}(r:KV kvs vs):kvs.length=vs.length:=Paired.length r
end
theorem xw7{k:Key}(r:E7 (kV k) u):(U2 P w).is k u=true:=by
 cases k with
 | inl i=>obtain⟨t,e⟩:=(show ∃ t,u=Value.int i t from r);subst e;exact xj1 P w i t
 | inr x=>obtain⟨t,e⟩:=(show ∃ t,u=Value.str x t from r);subst e;exact xj2 P w x t
theorem xb4{P:Program}{w:World}:∀ {ks:List Key} {us:List Value},D9 (ks.map kV) us->ItemsAre (U2 P w) ks us
 | [],_,r=>by rw[List.map_nil] at r;cases r;exact .nil
 | k::ks,_,r=>by
   rw[List.map_cons] at r
   cases r with
   | cons h t=>exact .cons (xw7 h) (xb4 t)
abbrev KT(H:Hp):List (List Key×V)->List (List Key×Addr×Value)->Prop:=Paired fun p q=>p.1=q.1/\H q.2.1=some (.tup (p.1.map kV))/\E7 p.2 q.2.2
variable{kvs:List (List Key×V)}
theorem KT.val{xs:List (List Key×Addr×Value)}(r:KT H kvs xs)(k:List Key):wf4 (ws5 kvs k) ((atKey xs k).map (·.2)):=by
 induction r with
 | nil=>exact True.intro
 | @cons p q ps qs h t ih =>
   obtain⟨h1,_,h2⟩:=h
   by_cases e:p.1=k
   ·have e':q.1=k:=h1.symm.trans e
    have b:atKey (q::qs) k=some q.2:=by simp[atKey,List.find?_cons,e']
    rw[ws6 e,b];exact h2
   ·have e':¬q.1=k:=fun z=>e (h1.trans z)
    have b:atKey (q::qs) k=atKey qs k:=by simp[atKey,List.find?_cons,e']
    rw[ws7 e,b];exact ih
theorem KT.repl{xs:List (List Key×Addr×Value)}(r:KT H kvs xs)(k:List Key)(ry:E7 y u) :
 KT H (kvs.map fun kv=>if kv.1=k then(kv.1,y) else kv) (xs.map (putAt k u)):=by
 induction r with
 | nil=>exact .nil
 | @cons p q ps qs h t ih =>
   rw[List.map_cons,List.map_cons]
   refine .cons ?_ ih
   obtain⟨h1,h2,h3⟩:=h
   unfold putAt
   by_cases e:p.1=k
   ·rw[if_pos e,if_pos (h1.symm.trans e)];exact⟨h1,h2,ry⟩
   ·rw[if_neg e,if_neg (fun z=>e (h1.trans z))];exact⟨h1,h2,h3⟩
theorem KT.put{xs:List (List Key×Addr×Value)}(r:KT H kvs xs)(k:List Key)(hb:H b=some (.tup (k.map kV)))(ry:E7 y u) :
 KT H (wy3 kvs k y) (storedH xs k b u):=by
 have e:(kvs.any fun kv=>decide (kv.1=k))=(atKey xs k).isSome:=by
  rw[xk7,(r.val k).isSome_eq,Option.isSome_map]
 unfold wy3 storedH
 rw[e]
 by_cases q:(atKey xs k).isSome=true
 ·rw[if_pos q,if_pos q];exact r.repl k ry
 ·rw[if_neg q,if_neg q];exact Paired.snoc r ⟨rfl,hb,ry⟩
theorem KT.keeps{xs:List (List Key×Addr×Value)}(r:KT H kvs xs)(ht:∀ b ys,H b=some (.tup ys)->H' b=some (.tup ys)):KT H' kvs xs :=
 Paired.mapP r fun _ _ z=>⟨z.1,ht _ _ z.2.1,z.2.2⟩
theorem yx5{u:HO}(ok:HOk P w H h)(e:Rd H a u):R3 P w H h a u:=e.ok ok
theorem xw8{kvs:List (Key×V)}(ok:HOk P w H h)(e:Rd H a (.dK kvs)):kvs.length<=sizeLine/\(a == sysModules)=false/\∃ vs,KV kvs vs/\h.DictOf (U2 P w) a vs :=
 show R3 P w H h a (.dK kvs) from yx5 ok e
theorem zj0{kvs:List (Key×V)}(ok:HOk P w H h)(e:H a=some (.dK kvs)):kvs.length<=sizeLine/\(a == sysModules)=false/\∃ vs,KV kvs vs/\h.DictOf (U2 P w) a vs:=xw8 ok (.inl e)
theorem xe8{ks:List Key}(ok:HOk P w H h)(e:H a=some (.tup (ks.map kV))):(tupleKind (U2 P w)).is h ks a:=by
 obtain⟨_,its,r,o,h1,h2,n,h3⟩:=(show R3 P w H h a (.tup (ks.map kV)) from ok a _ e)
 exact⟨o,its.toArray,n,h1,h2,h3,by simpa using xb4 r⟩
theorem yi5(ok:HOk P w H h)(e:Rd H a (.dT kvs)):kvs.length<=sizeLine/\(a == sysModules)=false /\
 ∃ xs,KT H kvs xs/\h.DictOfH (tupleKind (U2 P w)) a xs:=by
 obtain⟨z,y,xs,r,o,es,ep,h1,h2,h3,h4,h5⟩:=(show R3 P w H h a (.dT kvs) from yx5 ok e)
 refine⟨z,y,xs,r,o,es,ep,h1,h2,h3,h4,fun x hx=>?_,h5⟩
 have all:∀ {l:List (List Key×V)} {m:List (List Key×Addr×Value)},KT H l m->∀ x∈m,(tupleKind (U2 P w)).is h x.1 x.2.1:=by
  intro l m q
  induction q with
  | nil=>intro x hx;exact nomatch hx
  | @cons p q ps qs hq t ih =>
    intro x hx
    rcases List.mem_cons.mp hx with e|hx
    ·subst e
     exact xe8 ok (by rw[<-hq.1];exact hq.2.1)
    ·exact ih x hx
 exact all r x hx
theorem zj1(ok:HOk P w H h)(e:H a=some (.dT kvs)):kvs.length<=sizeLine/\(a == sysModules)=false /\
 ∃ xs,KT H kvs xs/\h.DictOfH (tupleKind (U2 P w)) a xs:=yi5 ok (.inl e)
def zb6(H:Hp)(a:Addr)(y:V)(r:Option V):Prop :=
 (∃ kvs k,Rd H a (.dK kvs)/\y=kV k/\r=ws5 kvs k)\/∃ kvs k b,Rd H a (.dT kvs)/\y=.ref b/\H b=some (.tup (k.map kV))/\r=ws5 kvs k
def zj2(H:Hp)(a:Addr)(y v:V)(H':Hp):Prop :=
 (∃ kvs k,H a=some (.dK kvs)/\y=kV k/\kvs.length<sizeLine/\H'=upd H a (.dK (wy3 kvs k v))) \/
 ∃ kvs k b,H a=some (.dT kvs)/\y=.ref b/\H b=some (.tup (k.map kV))/\kvs.length<sizeLine/\H'=upd H a (.dT (wy3 kvs k v))
section
variable{r:Value}{o:Option V}
theorem zn3(hu:A.units+1<cLine)(I:Inv X pins σ H s)(g:zb6 H a y o)(ry:E7 y u)(h:∀ s',Inv X pins σ H s'->Q (.bool o.isSome) s') :
 wpAny (model X.prog X.w) A (compareOp .In u (.ref a)) Q E s:=by
 rcases g with⟨kvs,k,e,ey,l⟩|⟨kvs,k,b,e,ey,eb,l⟩
 ·subst ey
  obtain⟨z,hd,vs,rel,dd⟩:=xw8 I.hok e
  refine wpAny_in_of (xw7 ry) hd dd.mapOf ?_
  rw[<-(rel.val k).isSome_eq,<-l]
  exact h _ (I.tok _)
 ·subst ey
  cases (show u=Value.ref b from ry)
  obtain⟨z,hd,xs,rel,dd⟩:=yi5 I.hok e
  refine wpAny_in_heap (tupleKind_room_in1 hu) (xe8 I.hok eb) hd dd ?_
  have q:=(rel.val k).isSome_eq
  rw[Option.isSome_map] at q
  rw[<-q,<-l]
  exact h _ (I.tok _)
theorem ys5(hu:A.units+1<cLine)(I:Inv X pins σ H s)(g:zb6 H a y o)(ry:E7 y u)(h:∀ s',Inv X pins σ H s'->Q (.bool (!o.isSome)) s') :
 wpAny (model X.prog X.w) A (compareOp .NotIn u (.ref a)) Q E s:=by
 rcases g with⟨kvs,k,e,ey,l⟩|⟨kvs,k,b,e,ey,eb,l⟩
 ·subst ey
  obtain⟨z,hd,vs,rel,dd⟩:=xw8 I.hok e
  refine wpAny_notIn_of (xw7 ry) hd dd.mapOf ?_
  rw[<-(rel.val k).isSome_eq,<-l]
  exact h _ (I.tok _)
 ·subst ey
  cases (show u=Value.ref b from ry)
  obtain⟨z,hd,xs,rel,dd⟩:=yi5 I.hok e
  refine wpAny_notIn_heap (tupleKind_room_in1 hu) (xe8 I.hok eb) hd dd ?_
  have q:=(rel.val k).isSome_eq
  rw[Option.isSome_map] at q
  rw[<-q,<-l]
  exact h _ (I.tok _)
theorem xw9{ob:HO}(I:Inv X pins σ H s)(mu:Mut (H a))(hs:Heap.SameBut a s.heap h')(he:∃ q,h'.get? a=some q)(new:R3 X.prog X.w (upd H a ob) h' a ob)(ht:autoParam (0<t') zAt) :
 Inv X pins σ (upd H a ob) {s with heap:=h',toks:=t'} :=
 I.write (x:=a) (e:=a) mu (.inl rfl) (fun b q hb z=>(hs.2 b hb).trans z) he new
theorem zb7{kvs:List (Key×V)}{vs:List (Key×Value)}(z:kvs.length<=sizeLine)(hd:(a == sysModules)=false)(rel:KV kvs vs)(dd:h'.DictOf (U2 P w) a vs) :
 R3 P w H' h' a (.dK kvs):=⟨z,hd,vs,rel,dd⟩
theorem yd0{Q:Unit->Shared->Prop}(hu:A.units+1<cLine)(I:Inv X pins σ H s)(g:zj2 H a y v H')(ry:E7 y u)(rv:E7 v r)(h:∀ s',Inv X pins σ H' s'->Q () s') :
 wpAny (model X.prog X.w) A (setItem (.ref a) u r) Q E s:=by
 rcases g with⟨kvs,k,e,ey,l,eH⟩|⟨kvs,k,b,e,ey,eb,l,eH⟩
 ·subst ey eH
  obtain⟨z,hd,vs,rel,dd⟩:=zj0 I.hok e
  have hz:vs.length<=sizeLine:=by rw[<-rel.length];exact z
  have hl:(wy3 kvs k v).length<=sizeLine:=by have:=wo5 kvs k v;omega
  refine wpAny_setItem_pairs (hsz:=hz) (xw7 ry) dd fun h' dd' hs=>h _ ?_
  have he:∃ q,h'.get? a=some q:=let ⟨q,_,_,hq,_⟩:=dd';⟨q,hq⟩
  exact xw9 I (by rw[e];exact True.intro) hs he (zb7 hl hd (rel.put k rv) dd')
 ·subst ey eH
  cases (show u=Value.ref b from ry)
  obtain⟨z,hd,xs,rel,dd⟩:=zj1 I.hok e
  have hz:xs.length<=sizeLine:=by rw[<-Paired.length rel];exact z
  have hl:(wy3 kvs k v).length<=sizeLine:=by have:=wo5 kvs k v;omega
  refine wpAny_setItem_heap (hsz:=hz) (tupleKind_room_in1 hu) (xe8 I.hok eb) dd fun h' dd' hs=>h _ ?_
  obtain⟨q,es,ep,hq,h2,h3,h4,_,h5⟩:=dd'
  refine xw9 I (by rw[e];exact True.intro) hs ⟨q,hq⟩ ⟨hl,hd,_,(rel.put k eb rv).keeps fun c ys ec=>?_,q,es,ep,hq,h2,h3,h4,h5⟩
  rw[B2 (zh3 ec e (fun z=>nomatch z))]
  exact ec
end
section
variable{kvs:List (Key×V)}{k:Key}
theorem zj3(I:Inv X pins σ H s)(e:Rd H a (.dK kvs))(h:∀ t s',Inv X pins σ H s'->Q (.int kvs.length t) s'):wpAny (model X.prog X.w) A (call (.builtin "len") [.ref a]) Q E s:=by
 obtain⟨z,hd,vs,rel,dd⟩:=xw8 I.hok e
 refine call_len_dict hd dd (by rw[<-rel.length];rw[sizeLine_eq] at z;omega) ?_
 rw[<-rel.length]
 exact h _ _ (I.tok _)
end
namespace Att
open PySem PySem.W PySem.Calls PyProof.Rows
theorem wp2{P:Params}{h:Heap}:∀ (ns:List Int) (vs:List Value),WellAll P h vs (ns.map WData.int)->IntsAre vs ns:=by
 intro ns
 induction ns with
 | nil =>
   intro vs w
   rw[List.map_nil] at w
   cases w
   exact .nil
 | cons n ns ih =>
   intro vs w
   rw[List.map_cons] at w
   cases w with
   | cons a b =>
     cases a
     exact .cons _ _ (ih _ b)
theorem script_of{l:OpenLaw}{n:Nat}(hn:l.most=some n){P:Params}{h:Heap}{args:List WData}{vals:List Value}
 (hpre:l.row.toRowW.claim.pre args=true) (hwl:WellAll P h vals args) :
 ∃ a vs ns,vals=[Value.ref a]/\args=[WData.list (ns.map WData.int)]/\h.get? a=some {cls:=.type "list",data:=.seq vs.toArray}/\IntsAre vs ns/\ns.length<=n:=by
 have hsh:WShape.hasAll [] args [.list .int]=true:=(pre_splitW hpre).1
 have hc:l.pre.holds [] {args:=args}=true:=(pre_splitW hpre).2
 obtain⟨d,r,rfl,h1,h2⟩:=hasAllW_cons hsh
 obtain rfl:=hasAllW_nil h2
 obtain⟨xs,rfl,h3⟩:=hasW_list h1
 obtain⟨ns,rfl⟩:=items_int h3
 have hlen:ns.length<=n:=by
  unfold OpenLaw.pre at hc
  have h4:(WTm.not (.lt (.lit (.int (n:Int))) (.len (.arg 0)))).holds [] {args:=[.list (ns.map .int)]}=true:=by
   have h4:=(holds_andW hc).1
   rw[hn] at h4
   exact h4
  have h5:=condW_of h4 (w_not (w_lt w_lit (w_len_list (w_arg rfl))))
  rw[List.length_map] at h5
  refine Nat.le_of_not_lt fun q=>?_
  have q':(n:Int)<((ns.length:Nat):Int):=by omega
  first
   | (rw[decide_eq_true q'] at h5;exact absurd h5 (by decide))
   | (simp at h5;omega)
 cases hwl with
 | cons w1 w2 =>
   cases w2
   cases w1 with
   | list ho hall=>exact⟨_,_,ns,rfl,rfl,ho,wp2 ns _ hall,hlen⟩
theorem post_true(l:OpenLaw)(args:List WData):l.row.toRowW.claim.post args (.bool true) args=true :=
 postW_of (r:=l.row.toRowW) (X:=(true == true))
  (show WShape.has [] (.bool true) .bool=true by first|rfl|decide|simp[WShape.has,WShape.arms,WShape.armsAll])
  (show(WTm.eq .res (.lit (.bool true))).value [] {args:=args,res:=some (.bool true),after:=args}=some (.bool (true == true)) from w_eq_bool (w_res rfl) w_lit) rfl
end Att
theorem xb5:∀ {vs:List Value} {ns:List Int},IntsAre vs ns->D9 (ns.map V.int) vs
 | _,_,.nil=>.nil
 | _,_,.cons n t h=>.cons ⟨t,rfl⟩ (xb5 h)
def zb8(H:Hp):Prop:=∀ b,H b=none\/∃ o xs,H b=some (.frz o (.lst xs))
theorem yi6 {mb:Str->Option Value} {fa:Addr} {s₁:Shared} {vs:List Value} {ns:List Int} (KX:K.In s₁.heap) (hns:s₁.heap.Ns mainGlobals mg) (hb:s₁.heap.Ns builtinsNs mb) (hbb:∀ x:Str,x ≠ "__name__"->mb x=bootBuiltins x) (hlim:s₁.heap.NoLimit) (hg:s₁.gens=#[]) (htk:0<s₁.toks) (ha:s₁.heap.get? a=some {cls:=.type "list",data:=.seq vs.toArray}) (hi:IntsAre vs ns) (hl:ns.length<=sizeLine) (hr:qc6 k callerA) (F:∀ base:Heap,K.In base->base.Ns mainGlobals mg->E9 P w K mg base CX k fa fd [x] sp) (hbind:∀ (s:Shared) (u:Value),BindsTo s fd ⟨[u],[]⟩ [(x,u)]) (hsp:∀ H:Hp,zb8 H->SqL K H a (ns.map V.int)->sp [.ref a] H (fun v _=>v=.bl true) fun _ _ _=>False) (hCX:∀ H e s',CX [] H s₁ (fun _ _ _=>False) e s'->False) :
 codeAny (model P w) callerA (.call (.ref fa) ⟨[.ref a],[]⟩) (fun r s'=>r=.ok (.ret (.bool true))/\OldK s₁.heap s'.heap/\s'.os=s₁.os/\AllBare s'.gens) s₁:=by
 have rv:=xb5 hi
 have lenV:=hi.length
 have core:∀ H:Hp,zb8 H->SqL K H a (ns.map V.int)->HOk P w H s₁.heap->(∀ b,H b≠none->b=a)->(H a≠none->K.lookup a=none) ->
  codeAny (model P w) callerA (.call (.ref fa) ⟨[.ref a],[]⟩) (fun r s'=>r=.ok (.ret (.bool true))/\OldK s₁.heap s'.heap/\s'.os=s₁.os/\AllBare s'.gens) s₁:=by
  intro H hO hS hok hA hK
  have base_of:∀ {b:Addr} {o:Obj},s₁.heap.get? b=some o->H b=none->(xd7 s₁.heap H).get? b=some o:=fun e n=>yg2 e n
  have noA:∀ {b:Addr} {o:Obj} {es:Array DictEntry} {ep:Nat},s₁.heap.get? b=some o->o.data=.dict es ep->H b=none:=fun{b o es ep} e d=>by
   cases q:H b with
   | none=>rfl
   | some u =>
     have e':b=a:=hA b (by rw[q];simp)
     subst e'
     rw[ha] at e;cases e
     have d':Data.seq vs.toArray _=Data.dict es ep:=d
     cases d'
  have nsK:∀ {b:Addr} {m:Str->Option Value},s₁.heap.Ns b m->(xd7 s₁.heap H).Ns b m:=fun{b m} ⟨o,es,ep,e,d,r⟩=>⟨o,es,ep,base_of e (noA e d),d,r⟩
  have hKb:K.In (xd7 s₁.heap H):=fun b o e=>base_of (KX b o e) (by
   cases q:H b with
   | none=>rfl
   | some u =>
     have e':b=a:=hA b (by rw[q];simp)
     subst e'
     rw[hK (by rw[q];simp)] at e;cases e)
  have hM:Mod K mg (xd7 s₁.heap H):=⟨hKb,nsK hns,⟨mb,nsK hb,hbb⟩,let ⟨mc,h1,h2⟩:=hlim;⟨mc,nsK h1,h2⟩⟩
  have e0:xr1 P w K mg (xd7 s₁.heap H) callerA [] s₁ H:=⟨rfl,hM,fun b o e=>yq7 e,Nat.le_of_eq (yb7 _ _),trivial,fun b hb=>absurd (show b∈([]:List Addr) from hb) (by simp),hok,.of_eq hg,htk⟩
  refine codeAny_mono ((F _ hKb (nsK hns)).run callerA [] s₁ H ⟨[.ref a],[]⟩ [.ref a] [.ref a] _ _ hr e0 (hbind s₁ (.ref a)) (.cons rfl .nil) (hsp H hO hS)) fun r s' h=>?_
  cases r with
  | error e=>exact(hCX H e s' h).elim
  | ok fl =>
    cases fl with
    | next=>exact False.elim h
    | brk=>exact False.elim h
    | cont=>exact False.elim h
    | ret u =>
      obtain⟨v,H',_,os,bare,un,hok',r',q⟩:=h
      have q':v=.bl true:=q
      subst q'
      obtain rfl:u=Value.bool true:=r'
      refine⟨rfl,OldK.of_keep fun b o e=>?_,os,bare⟩
      cases q:H b with
      | none=>exact un.keep b o e q (by intro z;exact absurd (show b∈([]:List Addr) from z) (by simp)) (by simp)
      | some u =>
        rcases hO b with z|⟨ob,xs,z⟩
        ·rw[q] at z;cases z
        ·have z2:=un.frzs b ob _ z
         obtain⟨e1,_⟩:=hok b _ z
         obtain⟨e2,_⟩:=hok' b _ z2
         rw[e] at e1;cases e1
         exact e2
 cases hk:K.lookup a with
 | some o =>
   have e:=KX a o hk
   rw[ha] at e
   cases e
   refine core (fun _=>none) (fun _=>.inl rfl) (.inr ⟨_,vs.toArray,_,hk,rfl,rfl,rfl,by rw[List.size_toArray,lenV];exact hl,by simpa using rv⟩) (fun b u z=>by have z':(none:Option HO)=some u:=z;cases z') (fun b z=>absurd rfl z) fun z=>absurd rfl z
 | none =>
   refine core (fun b=>if b=a then some (.frz {cls:=.type "list",data:=.seq vs.toArray} (.lst (ns.map V.int))) else none) (fun b=>?_) (.inl (.inr ⟨{cls:=.type "list",data:=.seq vs.toArray},if_pos rfl⟩)) (fun b u z=>?_) (fun b z=>?_) fun _=>hk
   ·by_cases hb:b=a
    ·exact .inr ⟨_,_,if_pos hb⟩
    ·exact .inl (if_neg hb)
   ·by_cases hb:b=a
    ·have z':=(if_pos hb).symm.trans z
     cases z'
     subst hb
     exact⟨ha,by rw[List.length_map];exact hl,vs,_,rv,ha⟩
    ·have z':=(if_neg hb).symm.trans z
     cases z'
   ·by_cases hb:b=a
    ·exact hb
    ·exact absurd (if_neg hb) z
theorem ws8:∀ ns:List Int,PySem.W.ofPys (ns.map PyData.int)=ns.map PySem.W.WData.int
 | []=>by simp[PySem.W.ofPys]
 | n::ns=>by simp only[List.map_cons,PySem.W.ofPys,PySem.W.ofPy];rw[ws8 ns]
variable{as:List Addr}{q:Program}
theorem ys6{l:PySem.W.OpenLaw}{loose:List Str}{XP:(Str->Option Value)->Heap->Prop}{z t:Nat}{d:DefRec}{K:Params->Fg}{CX:World->CXT}{sp:World->Sp}(hn:l.most=some n)(hn2:n<=sizeLine)(hdf:d.params.defaults=[])(hr:qc6 k callerA)(hk:∀ P,as=(K P).map (·.1))(h0:0<t) (F:∀ (w:World) (mg:Str->Option Value) (fa:Addr) (h:Heap),(K w.params).In h->h.Ns mainGlobals mg->mg d.name=some (.ref fa) ->
  ∃ fd:FuncData,(∀ (s:Shared) (u:Value),BindsTo s fd ⟨[u],[]⟩ [(x,u)]) /\
   ∀ base:Heap,(K w.params).In base->base.Ns mainGlobals mg->E9 l.prog w (K w.params) mg base (CX w) k fa fd [x] (sp w)) (hsp:∀ (w:World) (H:Hp) (a:Addr) (ns:List Int),ns.length<=n->zb8 H->SqL (K w.params) H a (ns.map V.int)->sp w [.ref a] H (fun v _=>v=.bl true) fun _ _ _=>False) (hCX:∀ (w:World) (H:Hp) (s:Shared) (e:Value) (s':Shared),CX w [] H s (fun _ _ _=>False) e s'->False) :
 PySem.W.WalkX q loose XP (PySem.W.X.obsZ as) (PySem.W.X.valZ K z t) l.row.toRowW d [] (fun f vs=>PySem.call f vs):=by
 intro w s₀ s₁ mg mb G y fa o pm cd doc dV kV ho hd hcd hD hmg hg args vals aa L hpre hlay hrd hwl hlo
 obtain rfl:dV=.none:=PySem.W.Dflts.none hD hdf
 obtain rfl:kV=.none:=PySem.W.Dflts.noKw hD
 obtain⟨a,vs,ns,rfl,rfl,hobj,hints,hlen⟩:=Att.script_of hn hpre hwl
 obtain⟨_,KI,_,htk⟩:=PySem.W.X.z_facts hk y
 have KX:=PySem.W.InK.keeps w _ _ KI L.keeps
 have tk:0<s₁.toks:=Nat.lt_of_lt_of_le h0 (PySem.W.X.script_toks (ns:=ns) (a:=a) (by rw[PySem.W.ofPy,ws8];exact L) htk)
 obtain⟨fd,hb,hF⟩:=F w mg fa _ KX G.T.g hmg
 refine PySem.W.enter_call (codeAny_mono (yi6 KX G.T.g G.T.b G.T.builtins G.T.nolimit hg tk hobj hints (Nat.le_trans hlen hn2) hr hF hb (fun H hO hS=>hsp w H a ns hlen hO hS) fun H e s'=>hCX w H s₁ e s') fun r s' hq=>?_)
 obtain⟨rfl,h2,h3,h4⟩:=hq
 exact⟨.inl ⟨.bool true,.bool true,[],rfl,fun _=>rfl,.bool true,Att.post_true l _,fun _=>⟨List.Pairwise.nil,fun _ hm=>(nomatch hm)⟩⟩,h2,h3,h4⟩
def wf8(s:Stmt):Arguments:=match s with
 | .FunctionDef _ a _ _ _ _ _ _ _ _=>a
 | _=>{posonlyargs:=[],args:=[],vararg:=none,kwonlyargs:=[],kw_defaults:=[],kwarg:=none,defaults:=[]}
def qz7(s:Stmt):List Stmt:=match s with
 | .FunctionDef _ _ b _ _ _ _ _ _ _=>b
 | _=>[]
def A9(s:Stmt):Scope:=match s with
 | .FunctionDef _ _ _ _ _ _ sc _ _ _=>sc
 | _=>{kind:=.function,names:=[],isGenerator:=false,isCoroutine:=false}
abbrev CX0:CXT:=fun _ _ _ _ _ _=>False
abbrev E0:XK:=fun _ _ _=>False
theorem B5:qw2 CX0 X E0:=fun _ _ _ _ _ _ _ h=>h.elim
structure Fun(K:Fg)(x qual:Str)(st:Stmt)(f:Addr)(fd:FuncData):Prop where
 ex:∃ (oc:Value) (od:Option Addr) (kV doc pm:Value) (an:Option Addr) (cdv ct:Value) (osl:Array (Option Value)),
  fd=PySem.W.fnOf x qual (wf8 st) (qz7 st) (A9 st) .none kV doc pm an cdv ct/\K.lookup f=some ⟨oc,od,.func fd,osl⟩/\PySem.W.codeIn K cdv qual=true
 kp:PySem.W.keepIn K (.ref f)=true
theorem Fun.ok{f:Addr}(F:Fun K x qual st f fd)(S:B4 N ps (A9 st))(len:∀ vs H Q E,sp vs H Q E->vs.length=ps.length) (hbody:∀ (cdv:Value) (A:Around) (outer:List Env) (s:Shared) (H:Hp) (vs:List V) (Q:VK) (E:XK),qc6 k (A.deeper (envOfC qual (A9 st) s.heap.objs.size f cdv))->sp vs H Q E ->
  ∃ t,PSs (yc7 CX0 P w K mg base N qual (A9 st) f cdv A outer s H E).nox (qz7 st) t/\t {nx:=fun _ H'=>Q .non H',rt:=Q} (C9 N vs) H):E9 P w K mg base CX0 (k+1) f fd ps sp:=by
 obtain⟨oc,od,kV,doc,pm,an,cdv,ct,osl,rfl,lk,hcd⟩:=F.ex
 refine zi1 lk hcd S len fun A outer s H vs Q E hr hsp=>?_
 obtain⟨t,h,q⟩:=hbody cdv A outer s H vs Q E hr hsp
 exact⟨t,h.nox,q⟩
theorem Fun.binds{f:Addr}(F:Fun K x qual st f fd)(h:∀ (kV doc pm:Value) (an:Option Addr) (cdv ct:Value) (us:List Value),us.length=ps.length->bindArgs (PySem.W.fnOf x qual (wf8 st) (qz7 st) (A9 st) .none kV doc pm an cdv ct) ⟨us,[]⟩=pure (ps.zip us)):P7 K fd ps []:=by
 obtain⟨oc,od,kV,doc,pm,an,cdv,ct,osl,rfl,lk,hcd⟩:=F.ex
 exact .all (h kV doc pm an cdv ct)
theorem zb9{f:Addr}{kV:Value}(l:K.lookup f=some ⟨oc,od,.func (PySem.W.fnOf x qual (wf8 st) (qz7 st) (A9 st) .none kV doc pm an cdv ct),osl⟩)(c:PySem.W.codeIn K cdv qual=true)(k:PySem.W.keepIn K (.ref f)=true):Fun K x qual st f (PySem.W.fnOf x qual (wf8 st) (qz7 st) (A9 st) .none kV doc pm an cdv ct):=⟨⟨oc,od,kV,doc,pm,an,cdv,ct,osl,rfl,l,c⟩,k⟩
theorem D5(hr:qc6 k A):A.units+1<cLine:=Nat.lt_of_le_of_lt (Nat.add_le_add_left (by decide:1<=64) _) hr.units
theorem pv(i:Nat)(hN:autoParam (X.N[i]?=some x) zAr)(hv:Vis X.env.scope x:=by first|exact Or.inl rfl|exact Or.inr (Or.inl rfl)|exact Or.inr (Or.inr rfl))(hd:autoParam ((x == ("__debug__":Str))=false) zAd)(hcd:autoParam ((x == ("__classdict__":Str))=false) zAd):PE X (.Name x pos) (A2 i):=za1 hN hv hd hcd
variable{B:Prop}
theorem qf3{A:Prop}(h:B):if false=true then A else B:=by
 rw[if_neg Bool.false_ne_true]
 exact h
theorem qk8{A:Prop}(h:A):if true=true then A else B:=by
 rw[if_pos rfl]
 exact h
def A6(H H':Hp):Prop:=∀ b o,H b=some o->H' b=some o
theorem A6.refl(H:Hp):A6 H H:=fun _ _ h=>h
theorem A6.free(e:A6 H H')(h:H' l=Option.none):H l=Option.none:=by
 cases q:H l with
 | none=>rfl
 | some o =>
   rw[e l o q] at h
   cases h
theorem A6.seq(e:A6 H H')(h:SqL K H a xs):SqL K H' a xs:=by
 rcases h with(h|⟨o,h⟩)|h
 ·exact .inl (.inl (e _ _ h))
 ·exact .inl (.inr ⟨o,e _ _ h⟩)
 ·exact .inr h
theorem yd1:Y9 X (.builtin "len") (fun xs H Q=>∃ a kvs,xs=[V.ref a]/\H a=some (.dK kvs)/\Q (.int kvs.length) H):=by
 intro pins s σ H xs us Q I r h
 obtain⟨a,kvs,rfl,ha,q⟩:=h
 obtain⟨u,rfl,ru⟩:=qi7 r
 cases ru
 exact zj3 I (.inl ha) fun t s' I'=>⟨.int kvs.length,H,I',⟨t,rfl⟩,q⟩
theorem noE{t:Sem α}{Q:α->Shared->Prop}(h:wpAny M A t Q (fun _ _=>False) s):wpAny M A t Q E s :=
 wpAny_mono h (fun _ _ q=>q) fun _ _ z=>False.elim z
theorem wd8{env:Env}:∀ (names:List (Str×NameKind)) (acc:List (Str×Addr)),(∀ y∈names,y.2=.free->∃ c,env.cells.lookup y.1=some c)->(∀ x c,acc.lookup x=some c->env.cells.lookup x=some c) ->
 ∃ cl,(forIn names acc fun(x:Str×NameKind) (r:List (Str×Addr)) =>
  (if(x.2 == .free)=true then(do let a<-cellOf env x.1;pure (ForInStep.yield ((x.1,a)::r))) else pure (ForInStep.yield r):Sem (ForInStep (List (Str×Addr)))))=(pure cl:Sem (List (Str×Addr))) /\
  (∀ x c,cl.lookup x=some c->env.cells.lookup x=some c)/\(∀ x,(∃ c,acc.lookup x=some c)->∃ c,cl.lookup x=some c)/\∀ y∈names,y.2=.free->∃ c,cl.lookup y.1=some c
 | [],acc,_,h2=>⟨acc,by rw[List.forIn_nil],h2,fun _ h=>h,fun _ h=>by cases h⟩
 | (n,k)::r,acc,h1,h2=>by
   by_cases hk:k=.free
   ·subst hk
    obtain⟨c,hc⟩:=h1 (n,.free) List.mem_cons_self rfl
    obtain⟨cl,e,q1,q2,q3⟩:=wd8 r ((n,c)::acc) (fun y hy=>h1 y (List.mem_cons_of_mem _ hy)) (fun x d hd=>by
     rw[List.lookup_cons] at hd
     cases hx:x == n with
     | true=>rw[hx] at hd;cases hd;rw[beq_iff_eq.mp hx];exact hc
     | false=>rw[hx] at hd;exact h2 x d hd)
    refine⟨cl,?_,q1,fun x hx=>q2 x ?_,fun y hy hf=>?_⟩
    ·rw[List.forIn_cons]
     have e0:cellOf env n=pure c:=by unfold cellOf;rw[hc]
     simp only[beq_self_eq_true,if_true,e0]
     exact e
    ·rw[List.lookup_cons]
     cases x == n with
     | true=>exact⟨c,rfl⟩
     | false=>exact hx
    ·rcases List.mem_cons.mp hy with rfl|hy
     ·exact q2 n ⟨c,by rw[List.lookup_cons];simp⟩
     ·exact q3 y hy hf
   ·obtain⟨cl,e,q1,q2,q3⟩:=wd8 r acc (fun y hy=>h1 y (List.mem_cons_of_mem _ hy)) h2
    refine⟨cl,?_,q1,q2,fun y hy hf=>?_⟩
    ·rw[List.forIn_cons]
     have hb:(k == NameKind.free)=false:=by simpa using hk
     simp only[hb,Bool.false_eq_true,if_false]
     exact e
    ·rcases List.mem_cons.mp hy with rfl|hy
     ·exact absurd hf hk
     ·exact q3 y hy hf
theorem wc3(h:∀ y∈scope.names,y.2=.free->∃ c,env.cells.lookup y.1=some c) :
 ∃ cl,closureFor scope env=pure cl/\(∀ x c,cl.lookup x=some c->env.cells.lookup x=some c)/\∀ y∈scope.names,y.2=.free->∃ c,cl.lookup y.1=some c:=by
 obtain⟨cl,e,q1,_,q3⟩:=wd8 (env:=env) scope.names [] h (fun x c hc=>by simp at hc)
 refine⟨cl,?_,q1,q3⟩
 unfold closureFor
 simp only[]
 rw[show(forIn scope.names ([]:List (Str×Addr)) fun(x:Str×NameKind) (r:List (Str×Addr)) =>
  (match x with|(name,kind)=>if(kind == .free)=true then(do let a<-cellOf env name;pure (ForInStep.yield ((name,a)::r))) else pure (ForInStep.yield r):Sem (ForInStep (List (Str×Addr)))))=(pure cl:Sem (List (Str×Addr))) from e]
 rfl
theorem qg3{env:Env}:∀ {names:List (Str×NameKind)} {x:Str},names.lookup x=some .free ->
 (names.map fun(n,k)=>if(k == NameKind.free && env.scope.kind == .function && env.kindOf n == some .cell) then(n,NameKind.cell) else(n,k)).lookup x=some .cell \/
 (names.map fun(n,k)=>if(k == NameKind.free && env.scope.kind == .function && env.kindOf n == some .cell) then(n,NameKind.cell) else(n,k)).lookup x=some .free
 | [],_,h=>by simp at h
 | (n,k)::r,x,h=>by
   have ih:=@qg3 env r x
   show List.lookup x ((if(k == NameKind.free && env.scope.kind == .function && env.kindOf n == some .cell)=true then(n,NameKind.cell) else(n,k))::_)=_\/List.lookup x ((if(k == NameKind.free && env.scope.kind == .function && env.kindOf n == some .cell)=true then(n,NameKind.cell) else(n,k))::_)=_
   cases hx:x == n with
   | true =>
     simp only[List.lookup_cons,hx] at h
     cases h
     by_cases hc:(NameKind.free == NameKind.free && env.scope.kind == .function && env.kindOf n == some .cell)=true
     ·rw[if_pos hc];exact .inl (by simp only[List.lookup_cons,hx])
     ·rw[if_neg hc];exact .inr (by simp only[List.lookup_cons,hx])
   | false =>
     simp only[List.lookup_cons,hx] at h
     by_cases hc:(k == NameKind.free && env.scope.kind == .function && env.kindOf n == some .cell)=true
     ·rw[if_pos hc];simp only[List.lookup_cons,hx];exact ih h
     ·rw[if_neg hc];simp only[List.lookup_cons,hx];exact ih h
theorem W4{env:Env}:∀ {names:List (Str×NameKind)} {x:Str} {k:NameKind},
 (names.map fun(n,k)=>if(k == NameKind.free && env.scope.kind == .function && env.kindOf n == some .cell) then(n,NameKind.cell) else(n,k)).lookup x=some k ->
 names.lookup x=some k\/(k=.cell/\names.lookup x=some .free)
 | [],_,_,h=>by simp at h
 | (n, j)::r,x,k,h=>by
   have ih:=@W4 env r x k
   have h:List.lookup x ((if(j == NameKind.free && env.scope.kind == .function && env.kindOf n == some .cell)=true then(n,NameKind.cell) else(n,j))::_)=some k:=h
   by_cases hc:(j == NameKind.free && env.scope.kind == .function && env.kindOf n == some .cell)=true
   ·rw [if_pos hc] at h
    cases hx:x == n with
    | true =>
      simp only[List.lookup_cons,hx] at h ⊢
      cases h
      have:j=.free:=by
       cases j <;> simp at hc ⊢
      exact .inr ⟨rfl,by rw[this]⟩
    | false=>simp only[List.lookup_cons,hx] at h ⊢;exact ih h
   ·rw[if_neg hc] at h
    cases hx:x == n with
    | true=>simp only[List.lookup_cons,hx] at h ⊢;exact .inl h
    | false=>simp only[List.lookup_cons,hx] at h ⊢;exact ih h
variable{elt:Expr}{ifs:List Expr}
theorem qw4{R:Result->Shared->Prop}{target:Expr}{it acc:Value}(I:Nat->Shared->Prop) (turn:∀ n s,I n s->wpAny (model prog w) A (pyNext it) (fun r s₁=>match r with
  | none=>R (.ok .next) s₁
  | some v=>wpAny (model prog w) A (letOwnedTupleGo target it v) (fun _ s₁'=>wpAny (model prog w) A (assign target env v) (fun _ s₂ =>
   wpAny (model prog w) A (forIn ifs true fun c r=>if r=true then do let ok<-isTrue c env (eval c env);pure (ForInStep.yield ok) else pure (ForInStep.yield r)) (fun ok s₃ =>
    if ok=true then wpAny (model prog w) A (eval elt env) (fun x s₄ =>
     wpAny (model prog w) A (call (.builtin "list.append") [acc,x]) (fun _ s₅=>∃ m,m<n/\I m s₅) (notedBy (model prog w) A env fun e s'=>R (.error e) s') s₄) (notedBy (model prog w) A env fun e s'=>R (.error e) s') s₃
    else ∃ m,m<n/\I m s₃) (notedBy (model prog w) A env fun e s'=>R (.error e) s') s₂) (notedBy (model prog w) A env fun e s'=>R (.error e) s') s₁') (notedBy (model prog w) A env fun e s'=>R (.error e) s') s₁)
  (notedBy (model prog w) A env fun e s'=>R (.error e) s') s) (n:Nat) (h:I n s) :
 codeAny (model prog w) A (.compLoop (.ListComp elt [⟨target,iter,ifs,0⟩] scope pos) 0 it acc env) R s:=by
 refine codeAny_loop rfl I (fun n s hI=>?_) n h
 show wpAny _ A ((compTurn (.ListComp elt [⟨target,iter,ifs,0⟩] scope pos) 0 it acc env).onRaise (fun x=>do noteFrame x env;theTreesLotGoes x)) _ _ s
 refine wpAny_noted ?_
 rw[compTurn_list]
 refine wpAny_bind (wpAny_standAt (wpAny_bind (wpAny_mono (turn n s hI) (fun r s₁ h₁=>?_) fun _ _ h'=>h')))
 cases r with
 | none=>exact wpAny_pure h₁
 | some v =>
   refine wpAny_bind (wpAny_mono h₁ (fun _ s₁' h₁'=>?_) fun _ _ h'=>h')
   refine wpAny_bind (wpAny_mono h₁' (fun _ s₂ h₂=>wpAny_bind (wpAny_mono h₂ (fun ok s₃ h₃=>?_) fun _ _ h'=>h')) fun _ _ h'=>h')
   cases ok with
   | false=>exact wpAny_pure ⟨rfl,h₃⟩
   | true =>
     exact wpAny_bind (wpAny_bind (wpAny_mono h₃ (fun x s₄ h₄=>wpAny_bind (wpAny_mono h₄ (fun _ s₅ h₅=>wpAny_pure (wpAny_pure ⟨rfl,h₅⟩)) fun _ _ h'=>h')) fun _ _ h'=>h'))
def blk(X:Cx)(N:List Str)(scope:Scope)(cl:List (Str×Addr))(C:Addr)(s₂:Shared)(H₂:Hp)(fp:List Addr)(pn:List (Addr×Obj)):Cx :=
 {X with N:=N,s₀:=s₂,H₀:=H₂,env:=compEnvC scope cl C X.env,outer:=X.stack,stack:=X.stack,ex:=fp,fn:=fun _=>false,pn:=pn,xe:=fun _ _=>False}
def qw5(fr:List (Option Nat))(σ:St):St:=fr.map fun o=>match o with|some i=>(σ[i]?).join|none=>none
variable{fr:List (Option Nat)}
theorem xk8{j:Nat}(h:(qw5 fr σ)[j]?=some (some v)):∃ i,fr[j]?=some (some i)/\σ[i]?=some (some v):=by
 unfold qw5 at h
 rw[List.getElem?_map] at h
 cases e:fr[j]? with
 | none=>rw[e] at h;cases h
 | some o =>
   rw[e] at h
   cases o with
   | none=>cases h
   | some i =>
     refine⟨i,rfl,?_⟩
     have h':(σ[i]?).join=some v:=Option.some.inj h
     cases e2:σ[i]? with
     | none=>rw[e2] at h';cases h'
     | some x=>rw[e2] at h';cases x with
       | none=>cases h'
       | some y=>cases h';rfl
def yi7(fr:List (Option Nat))(g:TG):Prop:=∀ (x:V) (σ:St) (H:Hp) (Q:St->Hp->Prop),g x σ H Q->g x σ H fun σ2 H2=>Q σ2 H2/\∀ (j i:Nat),fr[j]?=some (some i)->σ2[j]?=σ[j]?
def xx0(fr:List (Option Nat))(g:TGs):Prop:=∀ (xs:List V) (σ:St) (H:Hp) (Q:St->Hp->Prop),g xs σ H Q->g xs σ H fun σ2 H2=>Q σ2 H2/\∀ (j i:Nat),fr[j]?=some (some i)->σ2[j]?=σ[j]?
theorem ql5{i:Nat}(h:autoParam (fr[i]?=some none) zAr):yi7 fr (B1 i):=fun x σ H Q q=>⟨q,fun j k hj=>by
 have:i≠j:=by rintro rfl;rw[h] at hj;cases hj
 rw[List.getElem?_set_ne this]⟩
theorem zc0:xx0 fr xj5:=fun xs σ H Q ⟨e,q⟩=>⟨e,q,fun _ _ _=>rfl⟩
theorem xx1{i:Nat}{u:TGs}(h:fr[i]?=some none)(hu:xx0 fr u):xx0 fr (qg2 (B1 i) u):=fun xs σ H Q ⟨v,r,e,q⟩=>by
 refine⟨v,r,e,?_⟩
 have q:u r (σ.set i (some v)) H Q:=q
 have e2:=hu _ _ _ _ q
 have k:∀ j k,fr[j]?=some (some k)->(σ.set i (some v))[j]?=σ[j]?:=fun j k hj=>by
  have:i≠j:=by rintro rfl;rw[h] at hj;cases hj
  rw[List.getElem?_set_ne this]
 have e3:(fun(σ2:St) (H2:Hp)=>Q σ2 H2/\∀ (j k:Nat),fr[j]?=some (some k)->σ2[j]?=σ[j]?)=(fun(σ2:St) (H2:Hp)=>Q σ2 H2/\∀ (j k:Nat),fr[j]?=some (some k)->σ2[j]?=(σ.set i (some v))[j]?):=by
  funext σ2 H2
  refine propext ⟨fun⟨a,b⟩=>⟨a,fun j m hj=>(b j m hj).trans (k j m hj).symm⟩,fun⟨a,b⟩=>⟨a,fun j m hj=>(b j m hj).trans (k j m hj)⟩⟩
 show u r (σ.set i (some v)) H _
 rw[e3]
 exact e2
theorem zc1{u:TGs}(hu:xx0 fr u):yi7 fr (xj6 K n u):=fun x σ H Q ⟨a,xs,e1,e2,e3,q⟩=>⟨a,xs,e1,e2,e3,hu _ _ _ _ q⟩
def PTs(X:Cx)(ifs:List Expr)(t:TT):Prop :=
 ∀ (pins:List (Addr×Obj)) (s:Shared) (σ:St) (H:Hp) (Q:Bool->Hp->Prop),Inv X pins σ H s->t σ H Q ->
  wpAny (model X.prog X.w) X.A (forIn ifs true fun c r=>if r=true then do let ok<-isTrue c X.env (eval c X.env);pure (ForInStep.yield ok) else pure (ForInStep.yield r)) (TP X pins σ Q) X.xe s
def tTT:TT:=fun _ H Q=>Q true H
theorem qz8:PTs X [] tTT:=fun _ _ _ H _ I h=>wpAny_tests_nil ⟨H,I,h⟩
theorem xe9{t:TT}(h:PT X c t):PTs X [c] t:=fun pins s σ H Q I hq=>wpAny_tests_one (h pins s σ H Q I hq)
structure qz9(X:Cx)(scope:Scope)(N:List Str)(fr:List (Option Nat)):Prop where
 kind:scope.kind=.function
 nocell:∀ y∈scope.names,y.2≠.cell
 names:∀ y∈scope.names,y.2=.local->scope.names.lookup y.1=some .local
 free:∀ y∈scope.names,y.2=.free->X.env.scope.names.lookup y.1=some .cell\/X.env.scope.names.lookup y.1=some .free
 len:N.length=fr.length
 at_:∀ (j i:Nat) (x:Str),fr[j]?=some (some i)->N[j]?=some x->X.N[i]?=some x/\scope.names.lookup x=some .free
def xx2(osc:Scope)(ON:List Str)(scope:Scope)(N:List Str)(fr:List (Option Nat)):Bool :=
 decide (scope.kind=.function) && scope.names.all (fun y=>decide (y.2≠.cell)) && scope.names.all (fun y=>decide (y.2≠.local) || decide (scope.names.lookup y.1=some .local)) &&
 scope.names.all (fun y=>decide (y.2≠.free) || decide (osc.names.lookup y.1=some .cell) || decide (osc.names.lookup y.1=some .free)) && decide (N.length=fr.length) &&
 (fr.zip N).all (fun p=>match p.1 with|some i=>decide (ON[i]?=some p.2) && decide (scope.names.lookup p.2=some .free)|none=>true)
theorem R6{osc:Scope}{ON:List Str}(h:xx2 osc ON scope N fr=true)(e1:X.env.scope=osc)(e2:X.N=ON):qz9 X scope N fr:=by
 subst e1 e2
 unfold xx2 at h
 simp only[Bool.and_eq_true,List.all_eq_true,Bool.or_eq_true,decide_eq_true_eq] at h
 obtain⟨⟨⟨⟨⟨h1,h2⟩,h3⟩,h4⟩,h5⟩,h6⟩:=h
 refine⟨h1,h2,fun y hy e=>(h3 y hy).resolve_left fun z=>z e,fun y hy e=>?_,h5,fun j i x e1 e2=>?_⟩
 ·rcases h4 y hy with(z|z)|z
  ·exact absurd e z
  ·exact .inl z
  ·exact .inr z
 ·have hm:(some i,x)∈fr.zip N:=by
   apply List.mem_of_getElem? (i:=j)
   rw[List.getElem?_zip_eq_some]
   exact⟨e1,e2⟩
  have:=h6 _ hm
  simpa using this
def qt3 (fr:List (Option Nat)) (wi:TI) (g:TG) (tt:TT) (te:TE):TE:=fun σ H Q=>wi σ H fun J H1 =>
 ∃ W:Nat->Nat->List V->Hp->Prop,(∃ m,W 0 m [] H1)/\∀ i m ys H,W i m ys H->ys.length<=sizeLine /\
  ((J.stop i H/\∀ p,H p=none->Q (.ref p) (upd H p (.lst ys))) \/
   (J.go i H/\∃ NN:List V->Hp->Prop,(∀ ys' H',NN ys' H'->∃ m',m'<m/\W (i+1) m' ys' H')/\∀ x H',J.yld i H x H'->g x (qw5 fr σ) H' fun σ2 H2=>tt σ2 H2 fun b H3 =>
    if b=true then te σ2 H3 fun y H4=>NN (ys++[y]) H4 else NN ys H3))
structure zc2(X:Cx)(pins:List (Addr×Obj))(σ:St)(Q:VK)(C D:Addr)(s':Shared):Prop where
 ex:∃ (ys:List V) (H:Hp),H D=none/\(∃ m,s'.heap.Ns C m)/\D≠C/\C≠X.env.locals/\(∀ x c,X.env.cells.lookup x=some c->c≠C)/\(∀ p∈X.pn++pins,p.1≠C)/\X.s₀.heap.objs.size<=C/\C∉X.fs /\
  (upd H D (.lst ys)) C=none /\
  (∀ h',Heap.SameBut C s'.heap h'->Inv X pins σ (upd H D (.lst ys)) {s' with heap:=h'})/\Q (.ref D) (upd H D (.lst ys))
variable{J:It}{tt:TT}
theorem ws9 {tg:Expr} {cl:List (Str×Addr)} (hcalm:X.calm=true) (S:qz9 X scope N fr) (hclS:∀ x c,cl.lookup x=some c->X.env.cells.lookup x=some c) (hclH:∀ y∈scope.names,y.2=.free->∃ c,cl.lookup y.1=some c) (hg:∀ C s₂ H₂ fp pn,PG (blk X N scope cl C s₂ H₂ fp pn) tg g) (hgo:yi7 fr g) (ht:∀ C s₂ H₂ fp pn,PTs (blk X N scope cl C s₂ H₂ fp pn) ifs tt) (he:∀ C s₂ H₂ fp pn,PE (blk X N scope cl C s₂ H₂ fp pn) elt te) {s2:Shared} {Q:VK} {fp:List Addr} {tn:Nat->Heap->Prop} (I2:Inv X pins σ H2 s2) (T:wk1 X.prog X.w X.K tg J fp it tn) (st2:tn 0 s2.heap) (f2:∀ b∈fp,wy0 X pins H2 b) (W:Nat->Nat->List V->Hp->Prop) (w0:∃ m,W 0 m [] H2) (turn:∀ i m ys H,W i m ys H->ys.length<=sizeLine /\
 ((J.stop i H/\∀ p,H p=none->Q (.ref p) (upd H p (.lst ys))) \/
  (J.go i H/\∃ NN:List V->Hp->Prop,(∀ ys' H',NN ys' H'->∃ m',m'<m/\W (i+1) m' ys' H')/\∀ x H',J.yld i H x H'->g x (qw5 fr σ) H' fun σ2 H2=>tt σ2 H2 fun b H3 =>
   if b=true then te σ2 H3 fun y H4=>NN (ys++[y]) H4 else NN ys H3))) {RR:Value->Addr->Result->Shared->Prop} (hRR:∀ C D s',zc2 X pins σ Q C D s'->RR (.ref D) C (.ok .next) s') :
 wpAny (model X.prog X.w) X.A (newList []) (fun acc s₃=>wpAny (model X.prog X.w) X.A (newFunctionEnv scope X.env.globals cl [] X.env.qual none .none (some X.env)) (fun cenv s₄ =>
  codeAny (model X.prog X.w) X.A (.compStart (.ListComp elt [⟨tg,iter,ifs,0⟩] scope pos) 0 (.ref it) acc {cenv with scope:=relabel scope X.env}) (RR acc cenv.locals) s₄) E s₃) E s2:=by
 obtain⟨m0,w0⟩:=w0
 refine wpAny_newObj_type (wpAny_newFunctionEnv S.nocell (by intro y hy;simp at hy) (fun h₁ hns₁ hsb₁=>?_) S.kind)
 dsimp only at hns₁ hsb₁ ⊢
 generalize hHH:s2.heap.push {cls:=.type "list",dict:=none,data:=.seq ([]:List Value).toArray}=HH at hns₁ hsb₁ ⊢
 have hC:HH.objs.size=s2.heap.objs.size+1:=by rw[<-hHH,Heap.size_push]
 generalize hDD:s2.heap.objs.size=D at *
 generalize hCC:HH.objs.size=C at *
 have hDlt:Nat.lt D C:=by show D<C;rw[hC];exact Nat.lt_succ_self _
 have hDC:D≠C:=Nat.ne_of_lt hDlt
 have neD:∀ {b:Addr},Nat.lt b D->b≠D:=fun h=>Nat.ne_of_lt h
 have neC:∀ {b:Addr},Nat.lt b D->b≠C:=fun h=>Nat.ne_of_lt (Nat.lt_trans h hDlt)
 have below:∀ (b:Addr) (o:Obj),s2.heap.get? b=some o->Nat.lt b D:=fun b o e=>by rw[<-hDD];exact Heap.lt_size e
 have old:∀ b o,s2.heap.get? b=some o->h₁.get? b=some o:=fun b o e=>hsb₁.extBut b o (neC (below b o e)) (Heap.get?_push_of_some _ (hHH▸Heap.get?_push_of_some _ e))
 have hacc:h₁.get? D=some {cls:=.type "list",data:=.seq ([]:List Value).toArray}:=hsb₁.extBut _ _ hDC (Heap.get?_push_of_some _ (by rw[<-hHH,<-hDD];exact Heap.get?_push_size _ rfl))
 have Lt:Nat.lt X.env.locals D:=by rw[<-hDD];exact I2.lt
 have cellLt:∀ x c,X.env.cells.lookup x=some c->Nat.lt c D:=fun x c e=>by
  obtain⟨v,q⟩:=I2.cell x c e
  rw[<-hDD];exact q.lt
 have pinLt:∀ p∈X.pn++pins,Nat.lt p.1 D:=fun p hp=>below p.1 p.2 (I2.pin p hp).1
 have freshH:∀ b:Addr,Nat.le D b->H2 b=none:=fun b hb=>I2.hok.fresh (by rw[hDD];exact hb)
 let X':Cx:=blk X N scope cl C s2 H2 fp (X.pn++pins)
 have okX:X'.Ok:=by
  refine⟨I2.ok.mod,S.kind,I2.ok.glob,I2.ok.blt,by show s2.heap.objs.size<=C;rw[hDD];exact Nat.le_of_lt hDlt,fun x y c e1 e2=>I2.ok.inj x y c (hclS _ _ e1) (hclS _ _ e2),fun x hx=>?_,fun x c hf _=>(by cases hf),I2.ok.hd,I2.ok.frames,.inl rfl,fun b hb=>⟨?_,fun x c e=>(f2 b hb).2.2.2.2.1 x c (hclS _ _ e)⟩,I2.bs,Nat.le_trans I2.ok.bsz I2.sz,fun b o e hb=>?_,fun b hb hm=>?_,I2.stack,I2.stkFree⟩
  ·have hx:(relabel scope X.env).names.lookup x=some .cell\/(relabel scope X.env).names.lookup x=some .free:=hx
   have hf:scope.names.lookup x=some .free:=by
    rcases hx with hx|hx
    ·rcases W4 hx with h|⟨_,h⟩
     ·exact absurd rfl (S.nocell _ (PySem.mem_of_lookup h))
     ·exact h
    ·rcases W4 hx with h|⟨h,_⟩
     ·exact h
     ·cases h
   exact hclH _ (PySem.mem_of_lookup hf) rfl
  ·obtain⟨o,e,_⟩:=T.obj 0 _ st2 b hb
   exact neC (below b o e)
  ·obtain⟨_,_,_,h,_⟩:=f2 b hb
   rcases h with h|h
   ·exact I2.ok.noex b o e h
   ·have:=Heap.lt_size (I2.ok.bs b o e).1
    exact absurd (Nat.lt_of_lt_of_le this h) (Nat.lt_irrefl _)
  ·rcases List.mem_cons.mp (I2.stkSub b hm) with h|h
   ·exact(f2 b hb).2.1 h
   ·exact(f2 b hb).2.2.1 h
 have I4:∀ tk,0<tk->Inv X' [(D,{cls:=.type "list",data:=.seq ([]:List Value).toArray})] (qw5 fr σ) H2 {s2 with heap:=h₁,toks:=tk}:=fun tk htk=>by
  refine⟨okX,rfl,I2.bare,Un.kept old,⟨_,hns₁,fun j x v e1 e2 e3=>?_⟩,fun x c e=>?_,freshH C (Nat.le_of_lt hDlt),fun x c e=>I2.freeC x c (hclS _ _ e),fun p hp=>?_,I2.hok.kept old,?_,htk⟩
  ·obtain⟨i,q1,q2⟩:=xk8 e2
   obtain⟨a1,a2⟩:=S.at_ j i x q1 e1
   obtain⟨m,hn,hl⟩:=I2.loc
   have vis:Vis X.env.scope x:=by
    rcases S.free _ (PySem.mem_of_lookup a2) rfl with h|h
    ·exact .inr (.inl h)
    ·exact .inr (.inr h)
   obtain⟨u,r,l⟩:=hl i x v a1 q2 vis
   refine⟨u,r,.inr ⟨?_,?_⟩⟩
   ·exact qg3 (env:=X.env) a2
   ·rcases l with⟨hk,_⟩|⟨_,c,hc,hcell⟩
    ·have hk:X.env.scope.names.lookup x=some .local:=hk
     rcases S.free _ (PySem.mem_of_lookup a2) rfl with h|h
     ·have h:X.env.scope.names.lookup x=some .cell:=h
      rw[hk] at h;cases h
     ·have h:X.env.scope.names.lookup x=some .free:=h
      rw[hk] at h;cases h
    ·obtain⟨c',hc'⟩:=hclH _ (PySem.mem_of_lookup a2) rfl
     have:c=c':=by
      have:=hclS _ _ hc'
      rw[hc] at this
      exact Option.some.inj this
     subst this
     obtain⟨o,ho,hd⟩:=hcell
     exact⟨c,hc',o,old c o ho,hd⟩
  ·obtain⟨v,o,ho,hd⟩:=I2.cell x c (hclS _ _ e)
   exact⟨v,o,old c o ho,hd⟩
  ·rcases List.mem_append.mp hp with hp|hp
   ·obtain⟨e,n,ne,nf,d⟩:=I2.pin p hp
    refine⟨old _ _ e,n,?_,fun hm=>?_,d⟩
    ·exact neC (pinLt p hp)
    ·rcases List.mem_cons.mp (I2.stkSub _ hm) with h|h
     ·exact ne h
     ·exact nf h
   ·have hp:p=(D,{cls:=.type "list",data:=.seq ([]:List Value).toArray}):=by simpa using hp
    subst hp
    refine⟨hacc,freshH D (Nat.le_refl _),hDC,fun hm=>?_,fun v z=>by cases z⟩
    rcases List.mem_cons.mp (I2.stkSub _ hm) with h|h
    ·exact neD Lt h.symm
    ·exact I2.nofs (by rw[hDD];exact Nat.le_refl _) h
  ·show(qw5 fr σ).length=N.length
   unfold qw5
   rw[List.length_map,S.len]
 have fpLt:∀ b∈fp,Nat.lt b D:=fun b hb=>by
  obtain⟨o,e,_⟩:=T.obj 0 _ st2 b hb
  exact below b o e
 have fpk:∀ {H:Hp} {oD:Obj},(∀ b∈fp,H b=none)->∀ b∈fp,wy0 X' [(D,oD)] H b:=fun{H oD} hn b hb=>by
  refine⟨hn b hb,?_,fun hm=>?_,.inl hb,fun x c e=>(f2 b hb).2.2.2.2.1 x c (hclS _ _ e),fun p hp=>?_⟩
  ·exact neC (fpLt b hb)
  ·rcases List.mem_cons.mp (I2.stkSub b hm) with h|h
   ·exact(f2 b hb).2.1 h
   ·exact(f2 b hb).2.2.1 h
  ·rcases List.mem_append.mp hp with hp|hp
   ·exact(f2 b hb).2.2.2.2.2 p hp
   ·have hp:p=(D,oD):=by simpa using hp
    subst hp
    exact(neD (fpLt b hb)).symm
 have loop:∀ s₃:Shared,s₃={s2 with heap:=h₁,toks:=s2.toks+([]:List (Str×Value)).length} ->
  codeAny (model X.prog X.w) X.A (.compLoop (.ListComp elt [⟨tg,iter,ifs,0⟩] scope pos) 0 (.ref it) (.ref D) (compEnvC scope cl C X.env)) (RR (.ref D) C) s₃:=by
  rintro s₃ rfl
  refine qw4 (fun n s'=>∃ i ys its k H',Inv X' [(D,({cls:=.type "list",data:=.seq its k}:Obj))] (qw5 fr σ) H' s'/\tn i s'.heap/\(∀ b∈fp,H' b=none)/\D9 ys its.toList/\W i n ys H') ?_ m0
   ⟨0,[],#[],_,H2,I4 _ (by first|exact I2.tk|exact Nat.succ_pos _),T.keep 0 _ _ st2 (fun b _ o e=>old b o e),fun b hb=>(f2 b hb).1,.nil,w0⟩
  rintro n s3 ⟨i,ys,its,k,H3,I3,st3,fr3,vy,w3⟩
  obtain⟨hsz,h⟩:=turn i n ys H3 w3
  rcases h with⟨stop,qn⟩|⟨go,NN,hNN,step⟩
  ·refine noE (thn (T.done X' rfl rfl rfl hcalm i [(D,_)] s3 (qw5 fr σ) H3 _ I3 (fpk fr3) st3 stop) fun r s4 zq=>?_)
   obtain⟨hr,I4⟩:=zq
   subst hr
   refine hRR C D s4 ⟨ys,H3,?_⟩
   obtain⟨pD,nD,_,_,_⟩:=I4.pin (D,_) (List.mem_append_right _ (List.mem_singleton.mpr rfl))
   have pD:s4.heap.get? D=some {cls:=.type "list",data:=.seq its k}:=pD
   have nD:H3 D=none:=nD
   have nC:H3 C=none:=I4.free
   obtain⟨mC,hnC,_⟩:=I4.loc
   refine⟨nD,⟨mC,hnC⟩,hDC,(neC Lt).symm,fun x c e z=>?_,fun p hp z=>?_,?_,fun hm=>?_,?_,fun h' hsb=>?_,qn D nD⟩
   ·exact neC (cellLt x c e) z
   ·exact neC (pinLt p hp) z
   ·have:=I2.sz;rw[hDD] at this;exact Nat.le_trans this (Nat.le_of_lt hDlt)
   ·exact I2.nofs (by rw[hDD];exact Nat.le_of_lt hDlt) hm
   ·rw[B2 (Ne.symm hDC)];exact nC
   ·have un:Un (frs X.stack) fp H2 (upd H3 D (.lst ys)) s2.heap h':=by
     have u:=I4.base
     have neC:∀ (b:Addr) (o:Obj),s2.heap.get? b=some o->b≠C:=fun b o e=>neC (below b o e)
     have neD:∀ (b:Addr) (o:Obj),s2.heap.get? b=some o->b≠D:=fun b o e=>neD (below b o e)
     have trkNe:∀ b (o:HO),H3 b=some o->b≠D:=fun b o e z=>by rw[z,nD] at e;cases e
     refine⟨fun b o e n hb hx=>hsb.extBut b o (neC b o e) (u.keep b o e n hb hx),fun b o e n hb hx=>?_,fun b o e n hx=>by rw[B2 (neD b o e)];exact u.free b o e n hx,fun b o e hx=>?_,fun b xs e=>?_,fun b o xs e=>?_,fun b ps e=>?_⟩
     ·obtain⟨sl,q⟩:=u.slot b o e n hb hx
      exact⟨sl,hsb.extBut b _ (neC b o e) q⟩
     ·obtain⟨o',q⟩:=u.there b o e hx
      exact⟨o',hsb.extBut b _ (neC b o e) q⟩
     ·have q:=u.tups b xs e
      rw[B2 (trkNe b _ q)];exact q
     ·have q:=u.frzs b o xs e
      rw[B2 (trkNe b _ q)];exact q
     ·obtain⟨more,q⟩:=u.tbls b ps e
      exact⟨more,by rw[B2 (trkNe b _ q)];exact q⟩
    have hok:HOk X.prog X.w (upd H3 D (.lst ys)) h':=fun b u e=>by
     by_cases hb:b=D
     ·rw[hb,A4] at e
      cases e
      rw[hb]
      exact⟨hsz,its.toList,k,vy,by simpa using hsb.extBut D _ hDC pD⟩
     ·rw[B2 hb] at e
      refine(I4.hok b u e).stay (fun c v hc q=>hsb.extBut c v ?_ q) (fun c q=>?_) fun c xs q=>?_
      ·rcases hc with rfl|hc
       ·rintro rfl;rw[nC] at e;cases e
       ·rintro rfl;rw[nC] at hc;cases hc
      ·rw[B2 (R4 q nD)];exact q
      ·rw[B2 (R4 q nD)];exact q
    obtain⟨hh,gg,dd,tt',os'⟩:=s4
    obtain rfl:os'=s2.os:=I4.os
    refine(show Inv X pins σ (upd H3 D (.lst ys)) {s2 with heap:=h',gens:=gg,drawn:=dd,toks:=tt'} from I2.call (h':=h') (g':=gg) (d':=dd) (t':=tt') (ch:=fp) un hok I4.bare fun b hb=>?_)
    obtain⟨_,f1,_,f3,f4,f5⟩:=f2 b hb
    exact⟨f3,f1,f4,f5⟩
  ·refine noE (thn (T.item X' rfl rfl rfl hcalm i [(D,_)] s3 (qw5 fr σ) H3 _ I3 (fpk fr3) st3 go) fun r s4 zq=>?_)
   obtain⟨u,hr,h4⟩:=zq
   subst hr
   refine noE (thn h4 fun _ s5 zq=>?_)
   obtain⟨x,H5,I5,r5,y5,st5,fr5⟩:=zq
   have I5':=I5.pinned (fpk fr5) (T.obj _ _ st5)
   refine noE (thn (hg C s2 H2 fp (X.pn++pins) _ s5 (qw5 fr σ) H5 x u _ I5' r5 (hgo _ _ _ _ (step x H5 y5))) fun _ s6 zq=>?_)
   obtain⟨σ6,H6,I6,q6,k6⟩:=zq
   refine noE (thn (ht C s2 H2 fp (X.pn++pins) _ s6 σ6 H6 _ I6 q6) fun b s7 zq=>?_)
   obtain⟨H7,I7,q7⟩:=zq
   have back:∀ {s8:Shared} {H8:Hp},Inv X' ([(D,({cls:=.type "list",data:=.seq its k}:Obj))]++wr8 fp s5.heap) σ6 H8 s8->Inv X' [(D,({cls:=.type "list",data:=.seq its k}:Obj))] (qw5 fr σ) H8 s8/\tn (i+1) s8.heap/\∀ b∈fp,H8 b=none:=fun{s8 H8} I8=>by
    refine⟨(I8.unpinned).weak ?_ fun j v e=>?_,T.keep _ _ _ st5 fun b hb o e=>(I8.pin (b,o) (List.mem_append_right _ (List.mem_append_right _ (qq9 hb e)))).1,fun b hb=>?_⟩
    ·rw[I8.len];show(qw5 fr σ).length=N.length;unfold qw5;rw[List.length_map,S.len]
    ·obtain⟨i',q1,_⟩:=xk8 e
     rw[k6 j i' q1];exact e
    ·obtain⟨o,e,d⟩:=T.obj _ _ st5 b hb
     exact(I8.pin (b,o) (List.mem_append_right _ (List.mem_append_right _ (qq9 hb e)))).2.1
   cases b with
   | false =>
     rw[if_neg Bool.false_ne_true] at q7 ⊢
     obtain⟨m',hm,w7⟩:=hNN _ _ q7
     obtain⟨J1,J2,J3⟩:=back I7
     exact⟨m',hm,i+1,ys,its,k,H7,J1,J2,J3,vy,w7⟩
   | true =>
     rw[if_pos rfl] at q7 ⊢
     refine noE (thn (he C s2 H2 fp (X.pn++pins) _ s7 σ6 H7 _ I7 q7) fun y s8 zq=>?_)
     obtain⟨yv,H8,I8,r8,n8⟩:=zq
     obtain⟨m',hm,w8⟩:=hNN _ _ n8
     obtain⟨J1,J2,J3⟩:=back I8
     obtain⟨pD,nD,_,_,_⟩:=J1.pin (D,_) (List.mem_append_right _ (List.mem_singleton.mpr rfl))
     have pD:s8.heap.get? D=some {cls:=.type "list",data:=.seq its k}:=pD
     have nD:H8 D=none:=nD
     have hz':its.size<=sizeLine:=by
      have e1:its.size=ys.length:=by rw[vy.length];simp
      rw[e1];exact hsz
     refine wpAny_list_append_plain (hsz:=hz') ⟨k,pD⟩ fun h' ⟨k',hl'⟩ hsb=>?_
     ·refine⟨m',hm,i+1,ys++[yv],its.push y,k',H8,?_,T.keep _ _ _ J2 fun b hb o e=>?_,J3,?_,w8⟩
      ·have K0:Inv X' [] (qw5 fr σ) H8 s8:=J1.pins_of fun p hp=>by cases hp
       have K1:Inv X' [] (qw5 fr σ) H8 {s8 with heap:=h'}:=by
        refine K0.turned (it:=D) (t':=s8.toks) (fun b o hb e=>hsb.extBut b o hb e) nD hDC (.inr (by show s2.heap.objs.size<=D;rw[hDD];exact Nat.le_refl _)) (fun x c e z=>?_) fun p hp z=>?_
        ·exact neD (cellLt x c (hclS _ _ e)) z
        ·have hp:p∈X.pn++pins:=by
          rcases List.mem_append.mp hp with hp|hp
          ·exact hp
          ·cases hp
         exact neD (pinLt p hp) z
       refine K1.pins_of fun p hp=>?_
       have hp:p=(D,({cls:=.type "list",data:=.seq (its.push y) k'}:Obj)):=by simpa using hp
       subst hp
       refine⟨hl',nD,hDC,fun hm=>?_,fun v z=>by cases z⟩
       rcases List.mem_cons.mp (I2.stkSub _ hm) with h|h
       ·exact neD Lt h.symm
       ·exact I2.nofs (by rw[hDD];exact Nat.le_refl _) h
      ·exact hsb.extBut b o (neD (fpLt b hb)) e
      ·rw[Array.toList_push]
       exact D9.append vy (.cons r8 .nil)
 exact codeAny_compStart_list (loop _ rfl) (T.self _ 0 _ _ _ (T.keep 0 _ _ st2 fun b _ o e=>old b o e) (loop _ rfl))
theorem wf9{tg:Expr}{wi:TI}(hcalm:X.calm=true)(S:qz9 X scope N fr)(hi:PI X tg iter wi)(hg:∀ cl C s₂ H₂ fp pn,PG (blk X N scope cl C s₂ H₂ fp pn) tg g)(hgo:yi7 fr g)(ht:∀ cl C s₂ H₂ fp pn,PTs (blk X N scope cl C s₂ H₂ fp pn) ifs tt)(he:∀ cl C s₂ H₂ fp pn,PE (blk X N scope cl C s₂ H₂ fp pn) elt te)(hs:autoParam (∀ x,foldedSetIterable iter X.env x=pure x) zAi):PE X (.ListComp elt [⟨tg,iter,ifs,0⟩] scope pos) (qt3 fr wi g tt te):=by
 intro pins s σ H Q I h
 obtain⟨cl,hclos,hclS,hclH⟩:=wc3 (env:=X.env) (scope:=scope) fun y hy hf=>I.ok.has y.1 (S.free y hy hf)
 rw[eval_ListComp]
 refine wpAny_comprehension_free (use:=none) rfl hs hclos S.kind S.names (thn (hi pins s σ H _ I h) fun v s1 h1=>thn h1 fun itv s2 h2=>?_)
 obtain⟨it,fp,tn,J,H2,e,I2,T,st2,f2,W,w0,turn⟩:=h2
 subst e
 refine ws9 (RR:=fun acc C=>compPost (model X.prog X.w) X.A X.xe none (EP X pins σ Q) acc C) hcalm S hclS hclH (hg cl) hgo (ht cl) (he cl) I2 T st2 f2 W w0 turn fun C D s' B=>?_
 obtain⟨ys,H',nD,hC,_,_,_,_,_,_,_,hI,q⟩:=B.ex
 obtain⟨m,hn⟩:=hC
 exact⟨m,hn,fun h' hs'=>⟨.ref D,_,hI h' hs',rfl,q⟩⟩
theorem wq9{tg:Expr}{spos py:Pos}{wi:TI}{i:Nat}{y:Str}(hN:X.N.Nodup)(hy:X.N[i]?=some y)(hly:X.env.scope.names.lookup y=some .local)(hcalm:X.calm=true)(S:qz9 X scope N fr)(hi:PI X tg iter wi)(hg:∀ cl C s₂ H₂ fp pn,PG (blk X N scope cl C s₂ H₂ fp pn) tg g)(hgo:yi7 fr g)(ht:∀ cl C s₂ H₂ fp pn,PTs (blk X N scope cl C s₂ H₂ fp pn) ifs tt)(he:∀ cl C s₂ H₂ fp pn,PE (blk X N scope cl C s₂ H₂ fp pn) elt te)(hsw:autoParam (swapsWith (.ListComp elt [⟨tg,iter,ifs,0⟩] scope pos) (some (.Name y py)) spos.line X.env=pure true) zAr)(hs:autoParam (∀ x,foldedSetIterable iter X.env x=pure x) zAi):PS X (.Assign [.Name y py] (.ListComp elt [⟨tg,iter,ifs,0⟩] scope pos) spos) (E1 (qt3 fr wi g tt te) (B1 i)):=by
 intro pins s σ H D I h
 obtain⟨cl,hclos,hclS,hclH⟩:=wc3 (env:=X.env) (scope:=scope) fun y hy hf=>I.ok.has y.1 (S.free y hy hf)
 rw[exec_Assign_Name_used _ _ _ _ hsw]
 refine wpAny_bind (wpAny_standAt (wpAny_bind ?_))
 show wpAny _ X.A (do let _<-comprehension (.ListComp elt [⟨tg,iter,ifs,0⟩] scope pos) scope X.env _ (newList []) false (eval iter X.env) (some (assign (.Name y py) X.env))) _ _ s
 refine wpAny_bind (wpAny_mono (wpAny_comprehension_free (use:=some (assign (.Name y py) X.env)) (Q:=fun _ s'=>SP X pins D .next s') rfl hs hclos S.kind S.names
  (thn (hi pins s σ H _ I h) fun v s1 h1=>thn h1 fun itv s2 h2=>?_)) (fun _ s' hq=>wpAny_pure (wpAny_pure hq)) fun _ _ e=>e)
 obtain⟨it,fp,tn,J,H2,e,I2,T,st2,f2,W,w0,turn⟩:=h2
 subst e
 refine ws9 (Q:=fun x H1=>B1 i x σ H1 D.nx) (RR:=fun acc C=>compPost (model X.prog X.w) X.A X.xe (some (assign (.Name y py) X.env)) (fun _ s'=>SP X pins D .next s') acc C) hcalm S hclS hclH (hg cl) hgo (ht cl) (he cl) I2 T st2 f2 W w0 turn fun C D' s' B=>?_
 obtain⟨ys,H',nD,hC,hDC,hCL,hCc,hCp,hCs,hCf,hCn,hI,q⟩:=B.ex
 obtain⟨m,hn⟩:=hC
 have I1:Inv X pins σ (upd H' D' (.lst ys)) s':=by
  have:=hI s'.heap (.refl ..)
  obtain⟨hh,gg,dd,tt',os'⟩:=s'
  exact this
 show wpAny _ X.A (assign (.Name y py) X.env (.ref D')) _ _ _
 refine wpAny_assign_Name (xa5 I1 hN hy (.inl hly) (v:=.ref D') rfl (fun s2 I3 zq=>?_) (.inr hly))
 obtain⟨a,sb,ha⟩:=zq
 have hCa:C≠a:=by
  rcases ha with rfl|ha
  ·exact hCL
  ·exact fun z=>hCc y a ha z.symm
 refine⟨m,hn.sameBut sb hCa,fun h3 hs3=>?_⟩
 exact⟨_,_,I3.turned (it:=C) (t':=s2.toks) (fun b o hb e=>hs3.extBut b o hb e) hCn hCL (.inr hCs) hCc hCp,q⟩
mutual
def Dv(K:Fg)(H:Hp):PyData->V->Prop
 | .none,v=>v=.non
 | .bool b,v=>v=.bl b
 | .int i,v=>v=.int i
 | .str x,v=>v=.str x
 | .list ds,v=>∃ a vs,v=.ref a/\SqL K H a vs/\Dvs K H ds vs
 | .tuple ds,v=>∃ a vs,v=.ref a/\SqT K H a vs/\Dvs K H ds vs
 | .dict _,_=>False
def Dvs(K:Fg)(H:Hp):List PyData->List V->Prop
 | [],vs=>vs=[]
 | d::ds,vs=>∃ v r,vs=v::r/\Dv K H d v/\Dvs K H ds r
end
theorem Dvs.length:∀ {ds:List PyData} {vs:List V},Dvs K H ds vs->vs.length=ds.length
 | [],_,h=>by rw[Dvs] at h;subst h;rfl
 | d::ds,_,h=>by
   rw[Dvs] at h
   obtain⟨v,r,rfl,_,h⟩:=h
   rw[List.length_cons,List.length_cons,Dvs.length h]
theorem Dvs.get:∀ {ds:List PyData} {vs:List V} {i:Nat} {d:PyData},Dvs K H ds vs->ds[i]?=some d->∃ v,vs[i]?=some v/\Dv K H d v
 | [],_,_,_,_,e=>by simp at e
 | d::ds,_,0,_,h,e=>by
   rw[Dvs] at h
   obtain⟨v,r,rfl,h,_⟩:=h
   cases e
   exact⟨v,rfl,h⟩
 | d::ds,_,i+1,_,h,e=>by
   rw[Dvs] at h
   obtain⟨v,r,rfl,_,h⟩:=h
   exact Dvs.get (i:=i) h (by simpa using e)
theorem Dvs.get':∀ {ds:List PyData} {vs:List V} {i:Nat} {v:V},Dvs K H ds vs->vs[i]?=some v->∃ d,ds[i]?=some d/\Dv K H d v
 | [],_,_,_,h,e=>by rw[Dvs] at h;subst h;simp at e
 | d::ds,_,0,_,h,e=>by
   rw[Dvs] at h
   obtain⟨v,r,rfl,h,_⟩:=h
   cases e
   exact⟨d,rfl,h⟩
 | d::ds,_,i+1,_,h,e=>by
   rw[Dvs] at h
   obtain⟨v,r,rfl,_,h⟩:=h
   exact Dvs.get' (i:=i) h (by simpa using e)
theorem Dvs.append:∀ {ds es:List PyData} {vs ws:List V},Dvs K H ds vs->Dvs K H es ws->Dvs K H (ds++es) (vs++ws)
 | [],_,_,_,h,g=>by rw[Dvs] at h;subst h;exact g
 | d::ds,es,_,_,h,g=>by
   rw[Dvs] at h
   obtain⟨v,r,rfl,h1,h⟩:=h
   show Dvs K H (d::(ds++es)) _
   rw[Dvs]
   exact⟨v,r++_,rfl,h1,Dvs.append h g⟩
theorem G1:Dvs K H [] []:=by rw[Dvs]
variable{d:PyData}{ds:List PyData}
theorem B6(h:Dv K H d v)(t:Dvs K H ds vs):Dvs K H (d::ds) (v::vs):=by rw[Dvs];exact⟨v,vs,rfl,h,t⟩
theorem wg0:Dv K H .none v↔v=.non:=by rw[Dv]
theorem wg1{b:Bool}:Dv K H (.bool b) v↔v=.bl b:=by rw[Dv]
theorem M0:Dv K H (.int i) v↔v=.int i:=by rw[Dv]
theorem E5:Dv K H (.str x) v↔v=.str x:=by rw[Dv]
theorem ql6:Dv K H (.list ds) v↔∃ a vs,v=.ref a/\SqL K H a vs/\Dvs K H ds vs:=by rw[Dv]
theorem C6:Dv K H (.tuple ds) v↔∃ a vs,v=.ref a/\SqT K H a vs/\Dvs K H ds vs:=by rw[Dv]
def sDa(xs:List Str):List PyData:=xs.map .str
def B3(xs:List Str):List V:=xs.map .str
theorem ql7:∀ {xs:List Str} {vs:List V},Dvs K H (sDa xs) vs↔vs=B3 xs
 | [],_=>by show Dvs K H [] _↔_=[];rw[Dvs]
 | x::xs,vs=>by
   show Dvs K H (.str x::sDa xs) vs↔vs=V.str x::B3 xs
   rw[Dvs]
   constructor
   ·rintro⟨v,r,rfl,h1,h2⟩
    rw[E5.mp h1,ql7.mp h2]
   ·rintro rfl
    exact⟨_,_,rfl,E5.mpr rfl,ql7.mpr rfl⟩
def P8(H H':Hp):Prop:=(∀ b xs,H b=some (.tup xs)->H' b=some (.tup xs))/\∀ b o xs,H b=some (.frz o (.tup xs))->H' b=some (.frz o (.tup xs))
theorem A6.tupK(h:A6 H H'):P8 H H':=⟨fun b xs e=>h b _ e,fun b o xs e=>h b _ e⟩
theorem P8.refl(H:Hp):P8 H H:=⟨fun _ _ e=>e,fun _ _ _ e=>e⟩
theorem P8.trans(a:P8 H H1)(b:P8 H1 H2):P8 H H2:=⟨fun c xs e=>b.1 c xs (a.1 c xs e),fun c o xs e=>b.2 c o xs (a.2 c o xs e)⟩
theorem P8.sqT(e:P8 H H')(h:SqT K H a xs):SqT K H' a xs:=by
 rcases h with(h|⟨o,h⟩)|h
 ·exact .inl (.inl (e.1 _ _ h))
 ·exact .inl (.inr ⟨o,e.2 _ _ _ h⟩)
 ·exact .inr h
theorem A6.sqT(e:A6 H H')(h:SqT K H a xs):SqT K H' a xs:=e.tupK.sqT h
theorem A6.sqL(e:A6 H H')(h:SqL K H a xs):SqL K H' a xs:=e.seq h
theorem A6.new(h:H p=none)(o:HO):A6 H (upd H p o):=fun b u q=>by rw[B2 (R4 q h)];exact q
def But(ps:List Addr)(H H':Hp):Prop:=∀ b o,H b=some o->b∉ps->H' b=some o
theorem But.refl(ps:List Addr)(H:Hp):But ps H H:=fun _ _ e _=>e
mutual
/-- data without lists -/
def fix:PyData->Bool
 | .none=>true | .bool _=>true | .int _=>true | .str _=>true
 | .list _=>false
 | .tuple ds=>M7 ds
 | .dict _=>false
def M7:List PyData->Bool
 | []=>true
 | d::ds=>fix d && M7 ds
end
mutual
theorem Dv.tupK{K:Fg}{H H':Hp}(k:P8 H H'):∀ (d:PyData) (v:V),fix d=true->Dv K H d v->Dv K H' d v
 | .none,_,_,h=>wg0.mpr (wg0.mp h)
 | .bool _,_,_,h=>wg1.mpr (wg1.mp h)
 | .int _,_,_,h=>M0.mpr (M0.mp h)
 | .str _,_,_,h=>E5.mpr (E5.mp h)
 | .list _,_,f,_=>by rw[fix] at f;cases f
 | .tuple ds,v,f,h=>by
   rw[fix] at f
   obtain⟨a,vs,rfl,hq,h⟩:=C6.mp h
   exact C6.mpr ⟨a,vs,rfl,k.sqT hq,Dvs.tupK k ds vs f h⟩
 | .dict _,_,f,_=>by rw[fix] at f;cases f
theorem Dvs.tupK{K:Fg}{H H':Hp}(k:P8 H H'):∀ (ds:List PyData) (vs:List V),M7 ds=true->Dvs K H ds vs->Dvs K H' ds vs
 | [],_,_,h=>by rw[Dvs] at h ⊢;exact h
 | d::ds,vs,f,h=>by
   rw[M7,Bool.and_eq_true] at f
   rw[Dvs] at h ⊢
   obtain⟨v,r,e,h1,h2⟩:=h
   exact⟨v,r,e,Dv.tupK k d v f.1 h1,Dvs.tupK k ds r f.2 h2⟩
end
mutual
theorem Dv.same{K:Fg}{H H':Hp}(k:A6 H H'):∀ (d:PyData) (v:V),Dv K H d v->Dv K H' d v
 | .none,_,h=>wg0.mpr (wg0.mp h)
 | .bool _,_,h=>wg1.mpr (wg1.mp h)
 | .int _,_,h=>M0.mpr (M0.mp h)
 | .str _,_,h=>E5.mpr (E5.mp h)
 | .list ds,v,h=>by
   obtain⟨a,vs,rfl,hq,h⟩:=ql6.mp h
   exact ql6.mpr ⟨a,vs,rfl,k.sqL hq,Dvs.same k ds vs h⟩
 | .tuple ds,v,h=>by
   obtain⟨a,vs,rfl,hq,h⟩:=C6.mp h
   exact C6.mpr ⟨a,vs,rfl,k.sqT hq,Dvs.same k ds vs h⟩
 | .dict _,_,h=>by rw[Dv] at h;exact h.elim
theorem Dvs.same{K:Fg}{H H':Hp}(k:A6 H H'):∀ (ds:List PyData) (vs:List V),Dvs K H ds vs->Dvs K H' ds vs
 | [],_,h=>by rw[Dvs] at h ⊢;exact h
 | d::ds,vs,h=>by
   rw[Dvs] at h ⊢
   obtain⟨v,r,e,h1,h2⟩:=h
   exact⟨v,r,e,Dv.same k d v h1,Dvs.same k ds r h2⟩
end
mutual
theorem Dv.reads{X:Cx}{pins:List (Addr×Obj)}{σ:St}{H:Hp}{s:Shared}(I:Inv X pins σ H s):∀ (d:PyData) (v:V) (u:Value),Dv X.K H d v->E7 v u->∃ as,Reads s.heap u d as
 | .none,_,_,h,r=>by rw[wg0.mp h] at r;cases r;exact⟨_,.none⟩
 | .bool b,_,_,h,r=>by rw[wg1.mp h] at r;cases r;exact⟨_,.bool b⟩
 | .int i,_,_,h,r=>by rw[M0.mp h] at r;obtain⟨t,rfl⟩:=r;exact⟨_,.int i t⟩
 | .str x,_,_,h,r=>by rw[E5.mp h] at r;obtain⟨t,rfl⟩:=r;exact⟨_,.str x t⟩
 | .list ds,_,_,h,r=>by
   obtain⟨a,vs,rfl,hq,h⟩:=ql6.mp h
   cases r
   obtain⟨its,rv,pl,_⟩:=I.list hq
   obtain⟨o,e,c,n,d⟩:=pl.isList
   obtain⟨as,ra⟩:=Dvs.reads I ds vs its h rv
   exact⟨_,.list e c d (by simpa using ra)⟩
 | .tuple ds,_,_,h,r=>by
   obtain⟨a,vs,rfl,hq,h⟩:=C6.mp h
   cases r
   obtain⟨its,rv,pl,_⟩:=I.tuple hq
   obtain⟨o,e,c,n,d⟩:=pl
   obtain⟨as,ra⟩:=Dvs.reads I ds vs its h rv
   exact⟨_,.tuple e c d (by simpa using ra)⟩
 | .dict _,_,_,h,_=>by rw[Dv] at h;exact h.elim
theorem Dvs.reads{X:Cx}{pins:List (Addr×Obj)}{σ:St}{H:Hp}{s:Shared}(I:Inv X pins σ H s):∀ (ds:List PyData) (vs:List V) (us:List Value),Dvs X.K H ds vs->D9 vs us->∃ as,ReadsAll s.heap us ds as
 | [],_,_,h,r=>by rw[Dvs] at h;subst h;cases r;exact⟨_,.nil⟩
 | d :: ds,_,_,h,r=>by
   rw[Dvs] at h
   obtain⟨v,r',rfl,h1,h2⟩:=h
   cases r with
   | cons r1 r2 =>
     obtain⟨as,a1⟩:=Dv.reads I d v _ h1 r1
     obtain⟨bs,a2⟩:=Dvs.reads I ds r' _ h2 r2
     exact⟨_,.cons a1 a2⟩
end
open PySem.SeqAt
mutual
def nd:PyData->Bool
 | .none=>true | .bool _=>true | .int _=>true | .str _=>true
 | .list ds=>nds ds
 | .tuple ds=>nds ds
 | .dict _=>false
def nds:List PyData->Bool
 | []=>true
 | d::ds=>nd d && nds ds
end
mutual
theorem Dv.nd{K:Fg}{H:Hp}:∀ (d:PyData) (v:V),Dv K H d v->nd d=true
 | .none,_,_=>by rw[L2.nd]
 | .bool _,_,_=>by rw[L2.nd]
 | .int _,_,_=>by rw[L2.nd]
 | .str _,_,_=>by rw[L2.nd]
 | .list ds,_,h=>by
   obtain⟨a,vs,_,_,h⟩:=ql6.mp h
   rw[L2.nd];exact Dvs.nd ds vs h
 | .tuple ds,_,h=>by
   obtain⟨a,vs,_,_,h⟩:=C6.mp h
   rw[L2.nd];exact Dvs.nd ds vs h
 | .dict _,_,h=>by rw[Dv] at h;exact h.elim
theorem Dvs.nd{K:Fg}{H:Hp}:∀ (ds:List PyData) (vs:List V),Dvs K H ds vs->nds ds=true
 | [],_,_=>by rw[nds]
 | d::ds,vs,h=>by
   rw[Dvs] at h
   obtain⟨v,r,_,h1,h2⟩:=h
   rw[nds,Dv.nd d v h1,Dvs.nd ds r h2];rfl
end
mutual
theorem wt0{h:Heap}:∀ (d d':PyData) (v:Value) (as as':List Addr),nd d=true->Reads h v d as->Reads h v d' as'->d=d'
 | .none,_,_,_,_,_,r,q=>by cases r;cases q;rfl
 | .bool _,_,_,_,_,_,r,q=>by cases r;cases q;rfl
 | .int _,_,_,_,_,_,r,q=>by cases r;cases q;rfl
 | .str _,_,_,_,_,_,r,q=>by cases r;cases q;rfl
 | .dict _,_,_,_,_,n,_,_=>by rw[L2.nd] at n;cases n
 | .list xs,d',_,_,_,n,r,q=>by
   rw[L2.nd] at n
   cases r with
   | list a1 a2 a3 a4 =>
     cases q with
     | list b1 b2 b3 b4=>rw[a1] at b1;cases b1;rw[a3] at b3;cases b3;rw[wk5 xs _ _ _ _ n a4 b4]
     | tuple b1 b2 b3 b4=>rw[a1] at b1;cases b1;rw[a2] at b2;exact absurd b2 (by simp)
     | dict b1 b2=>rw[a1] at b1;cases b1;rw[a2] at b2;exact absurd b2 (by simp)
 | .tuple xs,d',_,_,_,n,r,q=>by
   rw[L2.nd] at n
   cases r with
   | tuple a1 a2 a3 a4 =>
     cases q with
     | tuple b1 b2 b3 b4=>rw[a1] at b1;cases b1;rw[a3] at b3;cases b3;rw[wk5 xs _ _ _ _ n a4 b4]
     | list b1 b2 b3 b4=>rw[a1] at b1;cases b1;rw[a2] at b2;exact absurd b2 (by simp)
     | dict b1 b2=>rw[a1] at b1;cases b1;rw[a2] at b2;exact absurd b2 (by simp)
theorem wk5{h:Heap}:∀ (xs ys:List PyData) (vs:List Value) (as as':List Addr),nds xs=true->ReadsAll h vs xs as->ReadsAll h vs ys as'->xs=ys
 | [],_,_,_,_,_,r,q=>by cases r;cases q;rfl
 | x :: xs,_,_,_,_,n,r,q=>by
   rw[nds,Bool.and_eq_true] at n
   cases r with
   | cons r1 r2 =>
     cases q with
     | cons q1 q2=>rw[wt0 x _ _ _ _ n.1 r1 q1,wk5 xs _ _ _ _ n.2 r2 q2]
end
mutual
theorem wg2:∀ d:PyData,nd d=true->PyData.eqv d d=true
 | .none,_=>rfl
 | .bool b,_=>by simp[PyData.eqv]
 | .int i,_=>by simp[PyData.eqv]
 | .str x,_=>by simp[PyData.eqv]
 | .list xs,h=>by rw[PyData.eqv];rw[L2.nd] at h;exact wk6 xs h
 | .tuple xs,h=>by rw[PyData.eqv];rw[L2.nd] at h;exact wk6 xs h
 | .dict _,h=>by rw[L2.nd] at h;cases h
theorem wk6:∀ xs:List PyData,nds xs=true->PyData.eqvAll xs xs=true
 | [],_=>rfl
 | x::xs,h=>by
   rw[nds,Bool.and_eq_true] at h
   rw[PyData.eqvAll,wg2 x h.1,wk6 xs h.2];rfl
end
theorem G4{h:Heap}:∀ {xs:List PyData} {vs:List Value} {as:List Addr},ReadsAll h vs xs as->vs.length=xs.length
 | [],_,_,r=>by cases r;rfl
 | _::xs,_,_,r=>by
   cases r with
   | cons _ r'=>rw[List.length_cons,List.length_cons,G4 r']
mutual
theorem yi8:∀ (da db:PyData) (A:Around) (s:Shared) (a b:Value) (as bs:List Addr),Reads s.heap a da as->Reads s.heap b db bs->nd da=true->nd db=true->A.units+min da.depth db.depth<cLine->EqAt A s a b (PyData.eqv da db)
 | .none,db,A,s,_,_,_,_,ra,rb,_,hb,hu=>by
   cases ra
   cases rb with
   | none=>exact EqAt.same _
   | bool y=>exact EqAt.none_bool y
   | int y u=>exact EqAt.none_int y u
   | str y u=>exact EqAt.none_str y u
   | list k1 k2 k3 k4=>exact EqAt.none_list ⟨_,k1,k2,_,k3⟩ (room_here hu)
   | tuple k1 k2 k3 k4=>exact EqAt.none_tuple ⟨_,k1,k2,_,k3⟩ (room_here hu)
   | dict=>rw[L2.nd] at hb;cases hb
 | .bool x,db,A,s,_,_,_,_,ra,rb,_,hb,hu=>by
   cases ra
   cases rb with
   | none=>exact EqAt.bool_none x
   | bool y=>exact EqAt.bool_bool x y
   | int y u=>exact EqAt.bool_int x y u
   | str y u=>exact EqAt.bool_str x y u
   | list k1 k2 k3 k4=>exact EqAt.bool_list x ⟨_,k1,k2,_,k3⟩ (room_here hu)
   | tuple k1 k2 k3 k4=>exact EqAt.bool_tuple x ⟨_,k1,k2,_,k3⟩ (room_here hu)
   | dict=>rw[L2.nd] at hb;cases hb
 | .int x,db,A,s,_,_,_,_,ra,rb,_,hb,hu=>by
   cases ra
   cases rb with
   | none=>exact EqAt.int_none x _
   | bool y=>exact EqAt.int_bool x _ y
   | int y u=>exact EqAt.int_int x _ y u
   | str y u=>exact EqAt.int_str x _ y u
   | list k1 k2 k3 k4=>exact EqAt.int_list x _ ⟨_,k1,k2,_,k3⟩ (room_here hu)
   | tuple k1 k2 k3 k4=>exact EqAt.int_tuple x _ ⟨_,k1,k2,_,k3⟩ (room_here hu)
   | dict=>rw[L2.nd] at hb;cases hb
 | .str x,db,A,s,_,_,_,_,ra,rb,_,hb,hu=>by
   cases ra
   cases rb with
   | none=>exact EqAt.str_none x _
   | bool y=>exact EqAt.str_bool x _ y
   | int y u=>exact EqAt.str_int x _ y u
   | str y u=>exact EqAt.str_str x _ y u
   | list k1 k2 k3 k4=>exact EqAt.str_list x _ ⟨_,k1,k2,_,k3⟩ (room_here hu)
   | tuple k1 k2 k3 k4=>exact EqAt.str_tuple x _ ⟨_,k1,k2,_,k3⟩ (room_here hu)
   | dict=>rw[L2.nd] at hb;cases hb
 | .list xs,db,A,s,_,_,_,_,ra,rb,ha,hb,hu=>by
   have ra0:=ra
   have rb0:=rb
   cases ra with
   | @list l o1 vs1 n1 xs as h1 h2 h3 h4 =>
     cases rb with
     | none=>exact EqAt.list_none ⟨_,h1,h2,_,h3⟩ (room_here hu)
     | bool y=>exact EqAt.list_bool y ⟨_,h1,h2,_,h3⟩ (room_here hu)
     | int y u=>exact EqAt.list_int y u ⟨_,h1,h2,_,h3⟩ (room_here hu)
     | str y u=>exact EqAt.list_str y u ⟨_,h1,h2,_,h3⟩ (room_here hu)
     | tuple k1 k2 k3 k4=>exact EqAt.list_tuple ⟨_,h1,h2,_,h3⟩ ⟨_,k1,k2,_,k3⟩ (room_here hu)
     | @list b o vs2 n2 ys bs k1 k2 k3 k4 =>
       by_cases e:l=b
       ·subst e
        rw[wt0 _ _ _ _ _ ha ra0 rb0,wg2 _ hb]
        exact EqAt.same _
       ·refine EqAt.of_refs e ?_
        have l1:=G4 h4
        have l2:=G4 k4
        rw[L2.nd] at ha hb
        by_cases hz:xs.length=ys.length
        ·have:=RcAt.lists (A:=A) (s:=s) (e:=pairEq xs ys) ⟨_,h1,h2,_,h3⟩ ⟨_,k1,k2,_,k3⟩ (by simp at l1 l2;omega) (room_here hu) (fun j h1 h2=>by have q:=Y3 xs ys A.in1 s _ _ _ _ h4 k4 ha hb (room_in (by rw[PyData.depth,PyData.depth] at hu;exact hu)) j (by simpa using h1) (by simpa using h2);rw[Array.getElem_toList,Array.getElem_toList] at q;exact q)
         rw[show PyData.eqv (.list xs) (.list ys)=PyData.eqvAll xs ys by rw[PyData.eqv],<-eqvAll_same_length hz]
         have e1:vs1.size=xs.length:=by simpa using l1
         rw[e1] at this
         exact this
        ·rw[show PyData.eqv (.list xs) (.list ys)=PyData.eqvAll xs ys by rw[PyData.eqv],eqvAll_other_length hz]
         exact RcAt.lists_lengths ⟨_,h1,h2,_,h3⟩ ⟨_,k1,k2,_,k3⟩ (by simp at l1 l2;simp;omega) (room_here hu)
     | dict=>rw[L2.nd] at hb;cases hb
 | .tuple xs,db,A,s,_,_,_,_,ra,rb,ha,hb,hu=>by
   have ra0:=ra
   have rb0:=rb
   cases ra with
   | @tuple l o1 vs1 n1 xs as h1 h2 h3 h4 =>
     cases rb with
     | none=>exact EqAt.tuple_none ⟨_,h1,h2,_,h3⟩ (room_here hu)
     | bool y=>exact EqAt.tuple_bool y ⟨_,h1,h2,_,h3⟩ (room_here hu)
     | int y u=>exact EqAt.tuple_int y u ⟨_,h1,h2,_,h3⟩ (room_here hu)
     | str y u=>exact EqAt.tuple_str y u ⟨_,h1,h2,_,h3⟩ (room_here hu)
     | list k1 k2 k3 k4=>exact EqAt.tuple_list ⟨_,h1,h2,_,h3⟩ ⟨_,k1,k2,_,k3⟩ (room_here hu)
     | @tuple b o vs2 n2 ys bs k1 k2 k3 k4 =>
       by_cases e:l=b
       ·subst e
        rw[wt0 _ _ _ _ _ ha ra0 rb0,wg2 _ hb]
        exact EqAt.same _
       ·refine EqAt.of_refs e ?_
        have l1:=G4 h4
        have l2:=G4 k4
        rw[L2.nd] at ha hb
        have:=RcAt.tuples (A:=A) (s:=s) (e:=pairEq xs ys) ⟨_,h1,h2,_,h3⟩ ⟨_,k1,k2,_,k3⟩ (room_here hu) (fun j h1 h2=>by have q:=Y3 xs ys A.in1 s _ _ _ _ h4 k4 ha hb (room_in (by rw[PyData.depth,PyData.depth] at hu;exact hu)) j (by simpa using h1) (by simpa using h2);rw[Array.getElem_toList,Array.getElem_toList] at q;exact q)
        rw[show PyData.eqv (.tuple xs) (.tuple ys)=PyData.eqvAll xs ys by rw[PyData.eqv],<-eqvAll_eq xs ys]
        have e1:vs1.size=xs.length:=by simpa using l1
        have e2:vs2.size=ys.length:=by simpa using l2
        rw[e1,e2] at this
        exact this
     | dict=>rw[L2.nd] at hb;cases hb
 | .dict _,_,_,_,_,_,_,_,_,_,ha,_,_=>by rw[L2.nd] at ha;cases ha
theorem Y3:∀ (xs ys:List PyData) (A:Around) (s:Shared) (us ws:List Value) (as bs:List Addr),ReadsAll s.heap us xs as->ReadsAll s.heap ws ys bs->nds xs=true->nds ys=true->A.units+min (PyData.depthAll xs) (PyData.depthAll ys)<cLine ->
 ∀ j (h1:j<us.length) (h2:j<ws.length),EqAt A s us[j] ws[j] (pairEq xs ys j)
 | [],_,_,_,_,_,_,_,r,_,_,_,_=>by cases r;intro j h1;simp at h1
 | x :: xs,ys,A,s,_,ws,_,_,r,q,ha,hb,hu=>by
   cases r with
   | @cons u us d ds as1 as2 r1 r2 =>
     cases q with
     | nil=>intro j h1 h2;simp at h2
     | @cons w ws y ys bs1 bs2 q1 q2 =>
       rw[nds,Bool.and_eq_true] at ha hb
       rw[PyData.depthAll,PyData.depthAll] at hu
       intro j h1 h2
       cases j with
       | zero=>exact yi8 x y A s u w _ _ r1 q1 ha.1 hb.1 (room_head hu)
       | succ j =>
         exact Y3 xs ys A s us ws _ _ r2 q2 ha.2 hb.2 (room_tail hu) j (by simpa using h1) (by simpa using h2)
end
variable{db:PyData}
theorem zc3{da:PyData}{a b:Value}{bs:List Addr}(ra:Reads s.heap a da as)(rb:Reads s.heap b db bs)(ha:nd da=true)(hb:nd db=true)(hu:A.units+min da.depth db.depth<cLine):RcAt A s a b (PyData.eqv da db):=by
 cases ra with
 | none =>
   cases rb with
   | none=>exact RcAt.none_none
   | bool y=>exact RcAt.none_bool y
   | int y u=>exact RcAt.none_int y u
   | str y u=>exact RcAt.none_str y u
   | @list l2 o2 ws n2 ys bs k1 k2 k3 k4=>exact RcAt.none_list ⟨_,k1,k2,_,k3⟩ (room_here hu)
   | @tuple l2 o2 ws n2 ys bs k1 k2 k3 k4=>exact RcAt.none_tuple ⟨_,k1,k2,_,k3⟩ (room_here hu)
   | dict=>rw[L2.nd] at hb;cases hb
 | bool x =>
   cases rb with
   | none=>exact RcAt.bool_none x
   | bool y=>exact RcAt.bool_bool x y
   | int y u=>exact RcAt.bool_int x y u
   | str y u=>exact RcAt.bool_str x y u
   | @list l2 o2 ws n2 ys bs k1 k2 k3 k4=>exact RcAt.bool_list x ⟨_,k1,k2,_,k3⟩ (room_here hu)
   | @tuple l2 o2 ws n2 ys bs k1 k2 k3 k4=>exact RcAt.bool_tuple x ⟨_,k1,k2,_,k3⟩ (room_here hu)
   | dict=>rw[L2.nd] at hb;cases hb
 | int x t =>
   cases rb with
   | none=>exact RcAt.int_none x t
   | bool y=>exact RcAt.int_bool x t y
   | int y u=>exact RcAt.int_int x t y u
   | str y u=>exact RcAt.int_str x t y u
   | @list l2 o2 ws n2 ys bs k1 k2 k3 k4=>exact RcAt.int_list x t ⟨_,k1,k2,_,k3⟩ (room_here hu)
   | @tuple l2 o2 ws n2 ys bs k1 k2 k3 k4=>exact RcAt.int_tuple x t ⟨_,k1,k2,_,k3⟩ (room_here hu)
   | dict=>rw[L2.nd] at hb;cases hb
 | str x t =>
   cases rb with
   | none=>exact RcAt.str_none x t
   | bool y=>exact RcAt.str_bool x t y
   | int y u=>exact RcAt.str_int x t y u
   | str y u=>exact RcAt.str_str x t y u
   | @list l2 o2 ws n2 ys bs k1 k2 k3 k4=>exact RcAt.str_list x t ⟨_,k1,k2,_,k3⟩ (room_here hu)
   | @tuple l2 o2 ws n2 ys bs k1 k2 k3 k4=>exact RcAt.str_tuple x t ⟨_,k1,k2,_,k3⟩ (room_here hu)
   | dict=>rw[L2.nd] at hb;cases hb
 | @list l o vs n xs as h1 h2 h3 h4 =>
   cases rb with
   | none=>exact RcAt.list_none ⟨_,h1,h2,_,h3⟩ (room_here hu)
   | bool y=>exact RcAt.list_bool y ⟨_,h1,h2,_,h3⟩ (room_here hu)
   | int y u=>exact RcAt.list_int y u ⟨_,h1,h2,_,h3⟩ (room_here hu)
   | str y u=>exact RcAt.list_str y u ⟨_,h1,h2,_,h3⟩ (room_here hu)
   | @list l2 o2 ws n2 ys bs k1 k2 k3 k4 =>
     have l1:vs.size=xs.length:=by simpa using G4 h4
     have l2:ws.size=ys.length:=by simpa using G4 k4
     rw[L2.nd] at ha hb
     rw[PyData.depth,PyData.depth] at hu
     have hi:∀ j (h1:j<vs.size) (h2:j<ws.size),EqAt A.in1 s vs[j] ws[j] (pairEq xs ys j):=fun j h1 h2=>by
      have q:=Y3 xs ys A.in1 s _ _ _ _ h4 k4 ha hb (room_in hu) j (by simpa using h1) (by simpa using h2)
      rw[Array.getElem_toList,Array.getElem_toList] at q
      exact q
     have hu':A.units<cLine:=room_here hu
     rw[show PyData.eqv (.list xs) (.list ys)=PyData.eqvAll xs ys by rw[PyData.eqv]]
     by_cases hz:xs.length=ys.length
     ·have q:=RcAt.lists (A:=A) (s:=s) (e:=pairEq xs ys) ⟨_,h1,h2,_,h3⟩ ⟨_,k1,k2,_,k3⟩ (by omega) hu' hi
      rw[l1,eqvAll_same_length hz] at q
      exact q
     ·rw[eqvAll_other_length hz]
      exact RcAt.lists_lengths ⟨_,h1,h2,_,h3⟩ ⟨_,k1,k2,_,k3⟩ (by simp;omega) hu'
   | @tuple l2 o2 ws n2 ys bs k1 k2 k3 k4=>exact RcAt.list_tuple ⟨_,h1,h2,_,h3⟩ ⟨_,k1,k2,_,k3⟩ (room_here hu)
   | dict=>rw[L2.nd] at hb;cases hb
 | @tuple l o vs n xs as h1 h2 h3 h4 =>
   cases rb with
   | none=>exact RcAt.tuple_none ⟨_,h1,h2,_,h3⟩ (room_here hu)
   | bool y=>exact RcAt.tuple_bool y ⟨_,h1,h2,_,h3⟩ (room_here hu)
   | int y u=>exact RcAt.tuple_int y u ⟨_,h1,h2,_,h3⟩ (room_here hu)
   | str y u=>exact RcAt.tuple_str y u ⟨_,h1,h2,_,h3⟩ (room_here hu)
   | @list l2 o2 ws n2 ys bs k1 k2 k3 k4=>exact RcAt.tuple_list ⟨_,h1,h2,_,h3⟩ ⟨_,k1,k2,_,k3⟩ (room_here hu)
   | @tuple l2 o2 ws n2 ys bs k1 k2 k3 k4 =>
     have l1:vs.size=xs.length:=by simpa using G4 h4
     have l2:ws.size=ys.length:=by simpa using G4 k4
     rw[L2.nd] at ha hb
     rw[PyData.depth,PyData.depth] at hu
     have hi:∀ j (h1:j<vs.size) (h2:j<ws.size),EqAt A.in1 s vs[j] ws[j] (pairEq xs ys j):=fun j h1 h2=>by
      have q:=Y3 xs ys A.in1 s _ _ _ _ h4 k4 ha hb (room_in hu) j (by simpa using h1) (by simpa using h2)
      rw[Array.getElem_toList,Array.getElem_toList] at q
      exact q
     have hu':A.units<cLine:=room_here hu
     rw[show PyData.eqv (.tuple xs) (.tuple ys)=PyData.eqvAll xs ys by rw[PyData.eqv]]
     have q:=RcAt.tuples (A:=A) (s:=s) (e:=pairEq xs ys) ⟨_,h1,h2,_,h3⟩ ⟨_,k1,k2,_,k3⟩ hu' hi
     rw[l1,l2,eqvAll_eq xs ys] at q
     exact q
   | dict=>rw[L2.nd] at hb;cases hb
 | dict=>rw[L2.nd] at ha;cases ha
theorem yi9{da:PyData}{a b:Value}{bs:List Addr}(ra:Reads s.heap a da as)(rb:Reads s.heap b db bs)(ha:nd da=true)(hb:nd db=true)(hu:A.units+min da.depth db.depth<cLine):RcNeAt A s a b (!PyData.eqv da db):=by
 cases ra with
 | none =>
   cases rb with
   | none=>exact RcNeAt.none_none
   | bool y=>exact RcNeAt.none_bool y
   | int y u=>exact RcNeAt.none_int y u
   | str y u=>exact RcNeAt.none_str y u
   | @list l2 o2 ws n2 ys bs k1 k2 k3 k4=>exact RcNeAt.none_list ⟨_,k1,k2,_,k3⟩ (room_here hu)
   | @tuple l2 o2 ws n2 ys bs k1 k2 k3 k4=>exact RcNeAt.none_tuple ⟨_,k1,k2,_,k3⟩ (room_here hu)
   | dict=>rw[L2.nd] at hb;cases hb
 | bool x =>
   cases rb with
   | none=>exact RcNeAt.bool_none x
   | bool y=>exact RcNeAt.bool_bool x y
   | int y u=>exact RcNeAt.bool_int x y u
   | str y u=>exact RcNeAt.bool_str x y u
   | @list l2 o2 ws n2 ys bs k1 k2 k3 k4=>exact RcNeAt.bool_list x ⟨_,k1,k2,_,k3⟩ (room_here hu)
   | @tuple l2 o2 ws n2 ys bs k1 k2 k3 k4=>exact RcNeAt.bool_tuple x ⟨_,k1,k2,_,k3⟩ (room_here hu)
   | dict=>rw[L2.nd] at hb;cases hb
 | int x t =>
   cases rb with
   | none=>exact RcNeAt.int_none x t
   | bool y=>exact RcNeAt.int_bool x t y
   | int y u=>exact RcNeAt.int_int x t y u
   | str y u=>exact RcNeAt.int_str x t y u
   | @list l2 o2 ws n2 ys bs k1 k2 k3 k4=>exact RcNeAt.int_list x t ⟨_,k1,k2,_,k3⟩ (room_here hu)
   | @tuple l2 o2 ws n2 ys bs k1 k2 k3 k4=>exact RcNeAt.int_tuple x t ⟨_,k1,k2,_,k3⟩ (room_here hu)
   | dict=>rw[L2.nd] at hb;cases hb
 | str x t =>
   cases rb with
   | none=>exact RcNeAt.str_none x t
   | bool y=>exact RcNeAt.str_bool x t y
   | int y u=>exact RcNeAt.str_int x t y u
   | str y u=>exact RcNeAt.str_str x t y u
   | @list l2 o2 ws n2 ys bs k1 k2 k3 k4=>exact RcNeAt.str_list x t ⟨_,k1,k2,_,k3⟩ (room_here hu)
   | @tuple l2 o2 ws n2 ys bs k1 k2 k3 k4=>exact RcNeAt.str_tuple x t ⟨_,k1,k2,_,k3⟩ (room_here hu)
   | dict=>rw[L2.nd] at hb;cases hb
 | @list l o vs n xs as h1 h2 h3 h4 =>
   cases rb with
   | none=>exact RcNeAt.list_none ⟨_,h1,h2,_,h3⟩ (room_here hu)
   | bool y=>exact RcNeAt.list_bool y ⟨_,h1,h2,_,h3⟩ (room_here hu)
   | int y u=>exact RcNeAt.list_int y u ⟨_,h1,h2,_,h3⟩ (room_here hu)
   | str y u=>exact RcNeAt.list_str y u ⟨_,h1,h2,_,h3⟩ (room_here hu)
   | @list l2 o2 ws n2 ys bs k1 k2 k3 k4 =>
     have l1:vs.size=xs.length:=by simpa using G4 h4
     have l2:ws.size=ys.length:=by simpa using G4 k4
     rw[L2.nd] at ha hb
     rw[PyData.depth,PyData.depth] at hu
     have hi:∀ j (h1:j<vs.size) (h2:j<ws.size),EqAt A.in1 s vs[j] ws[j] (pairEq xs ys j):=fun j h1 h2=>by
      have q:=Y3 xs ys A.in1 s _ _ _ _ h4 k4 ha hb (room_in hu) j (by simpa using h1) (by simpa using h2)
      rw[Array.getElem_toList,Array.getElem_toList] at q
      exact q
     have hu':A.units<cLine:=room_here hu
     rw[show PyData.eqv (.list xs) (.list ys)=PyData.eqvAll xs ys by rw[PyData.eqv]]
     by_cases hz:xs.length=ys.length
     ·have q:=RcNeAt.lists (A:=A) (s:=s) (e:=pairEq xs ys) ⟨_,h1,h2,_,h3⟩ ⟨_,k1,k2,_,k3⟩ (by omega) hu' hi
      rw[l1,eqvAll_same_length hz] at q
      exact q
     ·rw[eqvAll_other_length hz]
      exact RcNeAt.lists_lengths ⟨_,h1,h2,_,h3⟩ ⟨_,k1,k2,_,k3⟩ (by simp;omega) hu'
   | @tuple l2 o2 ws n2 ys bs k1 k2 k3 k4=>exact RcNeAt.list_tuple ⟨_,h1,h2,_,h3⟩ ⟨_,k1,k2,_,k3⟩ (room_here hu)
   | dict=>rw[L2.nd] at hb;cases hb
 | @tuple l o vs n xs as h1 h2 h3 h4 =>
   cases rb with
   | none=>exact RcNeAt.tuple_none ⟨_,h1,h2,_,h3⟩ (room_here hu)
   | bool y=>exact RcNeAt.tuple_bool y ⟨_,h1,h2,_,h3⟩ (room_here hu)
   | int y u=>exact RcNeAt.tuple_int y u ⟨_,h1,h2,_,h3⟩ (room_here hu)
   | str y u=>exact RcNeAt.tuple_str y u ⟨_,h1,h2,_,h3⟩ (room_here hu)
   | @list l2 o2 ws n2 ys bs k1 k2 k3 k4=>exact RcNeAt.tuple_list ⟨_,h1,h2,_,h3⟩ ⟨_,k1,k2,_,k3⟩ (room_here hu)
   | @tuple l2 o2 ws n2 ys bs k1 k2 k3 k4 =>
     have l1:vs.size=xs.length:=by simpa using G4 h4
     have l2:ws.size=ys.length:=by simpa using G4 k4
     rw[L2.nd] at ha hb
     rw[PyData.depth,PyData.depth] at hu
     have hi:∀ j (h1:j<vs.size) (h2:j<ws.size),EqAt A.in1 s vs[j] ws[j] (pairEq xs ys j):=fun j h1 h2=>by
      have q:=Y3 xs ys A.in1 s _ _ _ _ h4 k4 ha hb (room_in hu) j (by simpa using h1) (by simpa using h2)
      rw[Array.getElem_toList,Array.getElem_toList] at q
      exact q
     have hu':A.units<cLine:=room_here hu
     rw[show PyData.eqv (.tuple xs) (.tuple ys)=PyData.eqvAll xs ys by rw[PyData.eqv]]
     have q:=RcNeAt.tuples (A:=A) (s:=s) (e:=pairEq xs ys) ⟨_,h1,h2,_,h3⟩ ⟨_,k1,k2,_,k3⟩ hu' hi
     rw[l1,l2,eqvAll_eq xs ys] at q
     exact q
   | dict=>rw[L2.nd] at hb;cases hb
 | dict=>rw[L2.nd] at ha;cases ha
theorem qo0(r:qc6 k A):A.units+190<cLine:=by have:=r.un;omega
def qb6(K:Fg):R2:=fun x y H Q=>rEq x y H Q\/∃ d e,Dv K H d x/\Dv K H e y/\min d.depth e.depth<=190/\Q (.bl (PyData.eqv d e)) H
def wp3(K:Fg):R2:=fun x y H Q=>rNe x y H Q\/∃ d e,Dv K H d x/\Dv K H e y/\min d.depth e.depth<=190/\Q (.bl (!PyData.eqv d e)) H
theorem S8(hu:X.A.units+190<cLine):OpR X (compareOp .Eq) (qb6 X.K):=by
 refine zh5.or ?_
 intro pins s σ H x y v u Q I rx ry h
 obtain⟨d,e,hx,hy,hz,q⟩:=h
 obtain⟨as,ra⟩:=Dv.reads I d x v hx rx
 obtain⟨bs,rb⟩:=Dv.reads I e y u hy ry
 have hroom:X.A.units+min d.depth e.depth<cLine:=Nat.lt_of_le_of_lt (Nat.add_le_add_left hz _) hu
 exact zc3 ra rb (Dv.nd d x hx) (Dv.nd e y hy) hroom X.prog X.w X.xe _ ⟨.bl _,H,I,rfl,q⟩
theorem xr9(hu:X.A.units+190<cLine):OpR X (compareOp .NotEq) (wp3 X.K):=by
 refine zh6.or ?_
 intro pins s σ H x y v u Q I rx ry h
 obtain⟨d,e,hx,hy,hz,q⟩:=h
 obtain⟨as,ra⟩:=Dv.reads I d x v hx rx
 obtain⟨bs,rb⟩:=Dv.reads I e y u hy ry
 have hroom:X.A.units+min d.depth e.depth<cLine:=Nat.lt_of_le_of_lt (Nat.add_le_add_left hz _) hu
 exact yi9 ra rb (Dv.nd d x hx) (Dv.nd e y hy) hroom X.prog X.w X.xe _ ⟨.bl _,H,I,rfl,q⟩
def I0(K:Fg):R2:=fun x y H Q=>rI0 (fun i j=>.int (i+j)) x y H Q\/(∃ i j,x=.str i/\y=.str j/\i.length+j.length<=sizeLine/\Q (.str (i++j)) H)\/zi7 x y H Q\/yx4 K x y H Q
theorem D3:OpR X (binaryOp .Add) (I0 X.K):=za6.or (xq5.or (zb4.or yr9))
def yx6:R2:=fun x y H Q=>∃ z n,x=.str z/\y=.int n/\0<=n/\n<=1000/\z.length<=1000/\Q (.str (PySem.Txt.mul z n)) H
theorem xs0:OpR X (binaryOp .Mult) yx6:=by
 intro pins s σ H x y v u Q I rx ry h
 obtain⟨z,n,rfl,rfl,h0,h1,h2,q⟩:=h
 obtain⟨t,rfl⟩:=rx
 obtain⟨t',rfl⟩:=ry
 refine wpAny_with_toks (n:=1) I.tk (SB.mul ⟨?_,fun hn _=>?_,fun hn _=>?_⟩ fun t' k ht=>⟨.str _,H,I.tok _ ht,⟨_,rfl⟩,q⟩)
 ·rw[decide_eq_false (by omega),decide_eq_false (by omega)];rfl
 ·have e1:(2 ^ 63-1:Int) / n>=(2 ^ 63-1) / 1000:=by
   have hp:(0:Int)<n:=by omega
   apply Int.le_ediv_of_mul_le hp
   have:(2 ^ 63-1:Int) / 1000*n<=(2 ^ 63-1) / 1000*1000:=Int.mul_le_mul_of_nonneg_left h1 (by decide)
   have e:(2 ^ 63-1:Int) / 1000*1000<=2 ^ 63-1:=by decide
   omega
  have e2:(2 ^ 63-1:Int) / 1000>=1000:=by decide
  omega
 ·have:z.length*n.toNat<=1000*1000:=Nat.mul_le_mul h2 (by omega)
  have hs:sizeLine=16777216:=sizeLine_eq
  unfold Builtin.Str.tooLong
  exact decide_eq_false (by omega)
def qp2:R2:=fun x y H Q=>rI yh3 (fun i j=>.int (i*j)) x y H Q\/yx6 x y H Q\/zi8 x y H Q
theorem qd4:OpR X (binaryOp .Mult) qp2:=za7.or (xs0.or zb5)
def zn4:R2:=fun x y H Q=>∃ i j:Str,x=.str i/\y=.str j/\Q (.bl (decide (i.cps.toList<j.cps.toList))) H
def zj4:R2:=fun x y H Q=>∃ i j:Str,x=.str i/\y=.str j/\Q (.bl (!decide (j.cps.toList<i.cps.toList))) H
def zj5:R2:=fun x y H Q=>∃ i j:Str,x=.str i/\y=.str j/\Q (.bl (decide (j.cps.toList<i.cps.toList))) H
def zj6:R2:=fun x y H Q=>∃ i j:Str,x=.str i/\y=.str j/\Q (.bl (!decide (i.cps.toList<j.cps.toList))) H
theorem yd2:OpR X (compareOp .LtE) zj4:=by
 intro pins s σ H x y v u Q I rx ry h
 obtain⟨i,j,rfl,rfl,q⟩:=h
 obtain⟨t,rfl⟩:=rx
 obtain⟨t',rfl⟩:=ry
 exact PySem.P.le_str ⟨.bl _,H,I,rfl,q⟩
theorem yd3:OpR X (compareOp .Gt) zj5:=by
 intro pins s σ H x y v u Q I rx ry h
 obtain⟨i,j,rfl,rfl,q⟩:=h
 obtain⟨t,rfl⟩:=rx
 obtain⟨t',rfl⟩:=ry
 exact PySem.P.gt_str ⟨.bl _,H,I,rfl,q⟩
theorem yd4:OpR X (compareOp .GtE) zj6:=by
 intro pins s σ H x y v u Q I rx ry h
 obtain⟨i,j,rfl,rfl,q⟩:=h
 obtain⟨t,rfl⟩:=rx
 obtain⟨t',rfl⟩:=ry
 exact PySem.P.ge_str ⟨.bl _,H,I,rfl,q⟩
def ys7:R2:=fun x y H Q=>rI0 (fun i j=>.bl (decide (i<j))) x y H Q\/zn4 x y H Q
def xs1:R2:=fun x y H Q=>rI0 (fun i j=>.bl (decide (i<=j))) x y H Q\/zj4 x y H Q
def wy4:R2:=fun x y H Q=>rI0 (fun i j=>.bl (decide (j<i))) x y H Q\/zj5 x y H Q
def xf0:R2:=fun x y H Q=>rI0 (fun i j=>.bl (decide (j<=i))) x y H Q\/zj6 x y H Q
theorem yj0:OpR X (compareOp .Lt) ys7:=zh7.or yc1
theorem xf1:OpR X (compareOp .LtE) xs1:=zh8.or yd2
theorem qw6:OpR X (compareOp .Gt) wy4:=zh9.or yd3
theorem xf2:OpR X (compareOp .GtE) xf0:=zi0.or yd4
def zn5(neg:Bool):R2:=fun x y H Q=>∃ i j:Str,x=.str i/\y=.str j/\Q (.bl (if neg then !(!(Builtin.Str.occurrences j i 0 j.length 1).isEmpty) else !(Builtin.Str.occurrences j i 0 j.length 1).isEmpty)) H
def yj1(K:Fg)(neg:Bool):R2:=fun x y H Q=>rIn K neg x y H Q\/zn5 neg x y H Q
theorem zc4:OpR X (compareOp .In) (yj1 X.K false):=yc9.or yc2
theorem yd5:OpR X (compareOp .NotIn) (yj1 X.K true):=xe4.or xe5
def xk9:R2:=fun x y H Q=>y=.non/\Q (.bl (decide (x=.non))) H
def wg3:R2:=fun x y H Q=>y=.non/\Q (.bl (!decide (x=.non))) H
theorem wd9:OpR X (compareOp .Is) xk9:=za8
theorem wa0:OpR X (compareOp .IsNot) wg3:=yr3
def N5(K:Fg):List V->Hp->VK->Prop:=fun xs H Q=>(∃ p ys,xs=[.ref p]/\(SqL K H p ys\/SqT K H p ys)/\Q (.int ys.length) H)\/(∃ z,xs=[.str z]/\z.length<=sizeLine/\Q (.int z.length) H) \/
 ∃ a kvs,xs=[V.ref a]/\H a=some (.dK kvs)/\Q (.int kvs.length) H
theorem C8:Y9 X (.builtin "len") (N5 X.K):=xe6.or (xe7.or yd1)
def Z5(K:Fg):List V->Hp->VK->Prop:=fun xs H Q=>∃ p ys,xs=[.ref p]/\((SqL K H p ys/\∀ l,H l=none->Q (.ref l) (upd H l (.tup ys)))\/(SqT K H p ys/\Q (.ref p) H))
theorem N2:Y9 X (.type "tuple") (Z5 X.K):=wy2
def yj2:List V->Hp->VK->Prop:=fun xs H Q=>(∃ i,xs=[.int i]/\Q (.int i) H)\/∃ k,xs=[.bl k]/\Q (.int (if k then 1 else 0)) H
theorem xb6:Y9 X (.type "int") yj2:=yc3
theorem wg4:∀ {xs:List Str} {us:List Value},D9 (B3 xs) us->StrsAre us xs
 | [],_,h=>by cases h;exact .nil
 | x :: xs,_,h=>by
   have h:D9 (V.str x::B3 xs) _:=h
   cases h with
   | cons r t =>
     obtain⟨t',rfl⟩:=r
     exact .cons x t' (wg4 t)
theorem xb7:∀ {xs:List Str} {us:List Value},StrsAre us xs->D9 (B3 xs) us
 | _,_,.nil=>.nil
 | _,_,.cons y t h=>.cons ⟨t,rfl⟩ (xb7 h)
def xl0(K:Fg):List V->Hp->VK->Prop:=fun xs H Q=>∃ p ys,xs=[.ref p]/\SqL K H p (B3 ys)/\ys.length<64 /\
 ∀ l ys',ys'.Perm ys->sortedS ys'=true->H l=none->Q (.ref l) (upd H l (.lst (B3 ys')))
theorem xf3:Y9 X (.builtin "sorted") (xl0 X.K):=by
 intro pins s σ H xs us Q I r h
 obtain⟨p,ys,rfl,hq,hl,q⟩:=h
 obtain⟨u,rfl,rx⟩:=qi7 r
 cases rx
 obtain⟨its,rv,pl,hz⟩:=I.list hq
 have hlen:=rv.length
 have hn:(B3 ys).length=ys.length:=List.length_map _
 refine sorted_strs pl.isList (wg4 rv) (by omega) fun out ss' h1 h2 h3=>?_
 have kp:∀ b o,s.heap.get? b=some o->(sortedAll s.heap its out).get? b=some o:=fun b o e=>sortedAll_old e
 obtain⟨e,he⟩:=sortedAll_at s.heap its out
 have hf:H (s.heap.objs.size+1)=none:=I.hok.fresh (Nat.le_succ _)
 have hz':(B3 ss').length<=sizeLine:=by
  have:=h2.length_eq
  show(ss'.map V.str).length<=_
  rw[List.length_map];rw[hn] at hz;omega
 refine⟨.ref (s.heap.objs.size+1),_,I.laid (t':=s.toks) (o:=.lst (B3 ss')) kp (Nat.le_succ _) ?_,rfl,q _ _ h2 h3 hf⟩
 exact⟨hz',out.toList,e,xb7 h1,by simpa [seqObj] using he⟩
def yx7(K:Fg):V->List V->Hp->VK->Prop:=fun x vs H Q=>∃ z p ys,x=.str z/\vs=[.ref p]/\(SqL K H p (B3 ys)\/SqT K H p (B3 ys))/\(ys.map (·.length)).sum+ys.length*z.length<=16777216/\Q (.str (PySem.Txt.join z ys)) H
theorem ys8:MtR X "str.join" (yx7 X.K):=by
 intro pins s σ H x vs v us Q I rx rv h
 obtain⟨z,p,ys,rfl,rfl,hq,hs,q⟩:=h
 obtain⟨t,rfl⟩:=rx
 obtain⟨u,rfl,ru⟩:=rv.one
 cases ru
 rcases hq with hq|hq
 ·obtain⟨its,r,pl,hz⟩:=I.list hq
  exact wpAny_with_toks (n:=1) I.tk (join_list pl.isList (by simpa using wg4 r) hs fun t' k ht=>⟨.str _,H,I.tok _ ht,⟨_,rfl⟩,q⟩)
 ·obtain⟨its,r,pl,hz⟩:=I.tuple hq
  exact wpAny_with_toks (n:=1) I.tk (join_tuple pl (by simpa using wg4 r) hs fun t' k ht=>⟨.str _,H,I.tok _ ht,⟨_,rfl⟩,q⟩)
def qw7(K:Fg)(tl:TE):TI:=fun σ H R=>tl σ H fun x H1=>∃ a,x=.ref a/\(((∃ xs,SqL K H1 a xs)/\R (Itl K a) H1)\/((∃ xs,SqT K H1 a xs)/\R (Itt K a) H1))
variable{tl:TE}
theorem Y4{tg l:Expr}(hl:PE X l tl):PI X tg l (qw7 X.K tl):=by
 intro pins s σ H R I h
 refine thn (hl pins s σ H _ I h) fun v s1 zq=>?_
 obtain⟨x,H1,I1,r1,q1⟩:=zq
 obtain⟨a,e,q⟩:=q1
 subst e
 cases r1
 rcases q with⟨⟨xs,hq⟩,q⟩|⟨⟨xs,hq⟩,q⟩
 ·obtain⟨its,rv,p,hz⟩:=I1.list hq
  refine wpAny_pyIter_list p.isList ?_
  refine⟨s1.heap.objs.size,[s1.heap.objs.size],_,_,H1,rfl,I1.kept (t':=s1.toks) fun b o e=>Heap.get?_push_of_some _ e,yb8 a _,⟨_,Heap.get?_push_size _ rfl,rfl,rfl⟩,fun b hb=>?_,q⟩
  have e:b=s1.heap.objs.size:=by simpa using hb
  subst e
  exact I1.fpOk (Nat.le_refl _) (I1.hok.fresh (Nat.le_refl _))
 ·obtain⟨its,rv,p,hz⟩:=I1.tuple hq
  refine wpAny_pyIter_tuple (show s1.heap.IsTuple a its.toArray from p) ?_
  refine⟨s1.heap.objs.size,[s1.heap.objs.size],_,_,H1,rfl,I1.kept (t':=s1.toks) fun b o e=>Heap.get?_push_of_some _ e,xq1 a _,⟨_,Heap.get?_push_size _ rfl,rfl,rfl⟩,fun b hb=>?_,q⟩
  have e:b=s1.heap.objs.size:=by simpa using hb
  subst e
  exact I1.fpOk (Nat.le_refl _) (I1.hok.fresh (Nat.le_refl _))
theorem wt1{wi:TI} (h:wi σ H fun J H1=>∃ W:Nat->Nat->St->Hp->Prop,(∃ m,W 0 m σ H1)/\∀ i m σ H,W i m σ H ->
 (J.stop i H/\D.nx σ H)\/(J.go i H/\∃ N:St->Hp->Prop,(∀ σ' H',N σ' H'->∃ m',m'<m/\W (i+1) m' σ' H')/\∀ x H',J.yld i H x H'->g x σ H' fun σ2 H2=>tb {D with nx:=N,ct:=N,bk:=D.nx} σ2 H2)):qg5 wi g tb D σ H:=h
abbrev wg5(g:TG)(tb:TS)(D:Y1)(σ:St)(J:It)(H1:Hp):Prop:=∃ W:Nat->Nat->St->Hp->Prop,(∃ m,W 0 m σ H1)/\∀ i m σ H,W i m σ H ->
 (J.stop i H/\D.nx σ H)\/(J.go i H/\∃ N:St->Hp->Prop,(∀ σ' H',N σ' H'->∃ m',m'<m/\W (i+1) m' σ' H')/\∀ x H',J.yld i H x H'->g x σ H' fun σ2 H2=>tb {D with nx:=N,ct:=N,bk:=D.nx} σ2 H2)
theorem xx3(hq:SqL K H a xs\/SqT K H a xs)(Pv:Nat->St->Hp->Prop)(h0:Pv 0 σ H)(hl:SqL K H a xs->∀ i σ H,i<=xs.length->Pv i σ H->SqL K H a xs)(ht:SqT K H a xs->∀ i σ H,i<=xs.length->Pv i σ H->SqT K H a xs)(hs:∀ i x σ H,xs[i]?=some x->Pv i σ H->g x σ H fun σ2 H2=>tb {D with nx:=PAt Pv (i+1),ct:=PAt Pv (i+1),bk:=D.nx} σ2 H2)(hd:∀ σ H,Pv xs.length σ H->D.nx σ H) :
 ∃ b,V.ref a=.ref b/\(((∃ xs,SqL K H b xs)/\wg5 g tb D σ (Itl K b) H)\/((∃ xs,SqT K H b xs)/\wg5 g tb D σ (Itt K b) H)):=by
 refine⟨a,rfl,?_⟩
 rcases hq with hq|hq
 ·exact .inl ⟨⟨xs,hq⟩,wr9 Pv h0 (hl hq) hs hd⟩
 ·exact .inr ⟨⟨xs,hq⟩,xw1 Pv h0 (ht hq) hs hd⟩
theorem wt2{n:Int}(h0:0<=n)(hn:n<2 ^ 62)(Pv:Nat->St->Hp->Prop)(p0:Pv 0 σ H)(hs:∀ (i:Nat) σ H,(i:Int)<n->Pv i σ H->g (.int i) σ H fun σ2 H2=>tb {D with nx:=PAt Pv (i+1),ct:=PAt Pv (i+1),bk:=D.nx} σ2 H2)(hd:∀ σ H,Pv n.toNat σ H->D.nx σ H) :
 ∃ j:Int,[V.int n]=[.int j]/\-(2 ^ 62)<=j/\j<2 ^ 62/\wg5 g tb D σ (Itr 0 j.toNat) H :=
 ⟨n,rfl,by omega,hn,xa6 (lo:=0) (n:=n.toNat) Pv p0 (fun i σ H hi p=>by rw[Int.zero_add];exact hs i σ H (by omega) p) hd⟩
theorem yj3{lo hi:Int}(h1:-(2 ^ 62)<=lo)(h2:lo<=hi)(h3:hi<2 ^ 62)(Pv:Nat->St->Hp->Prop)(p0:Pv 0 σ H)(hs:∀ (i:Nat) σ H,lo+i<hi->Pv i σ H->g (.int (lo+i)) σ H fun σ2 H2=>tb {D with nx:=PAt Pv (i+1),ct:=PAt Pv (i+1),bk:=D.nx} σ2 H2)(hd:∀ σ H,Pv (hi-lo).toNat σ H->D.nx σ H) :
 ∃ i j:Int,[V.int lo,V.int hi]=[.int i,.int j]/\(-(2 ^ 62)<=i/\i<2 ^ 62/\-(2 ^ 62)<=j/\j<2 ^ 62)/\wg5 g tb D σ (Itr i (j-i).toNat) H :=
 ⟨lo,hi,rfl,⟨h1,by omega,by omega,h3⟩,xa6 (lo:=lo) (n:=(hi-lo).toNat) Pv p0 (fun i σ H hi p=>hs i σ H (by omega) p) hd⟩
abbrev wc4(g:TG)(tt:TT)(te:TE)(σ':St)(Q:VK)(J:It)(H1:Hp):Prop:=∃ W:Nat->Nat->List V->Hp->Prop,(∃ m,W 0 m [] H1)/\∀ i m ys H,W i m ys H->ys.length<=sizeLine /\
 ((J.stop i H/\∀ p,H p=none->Q (.ref p) (upd H p (.lst ys))) \/
  (J.go i H/\∃ NN:List V->Hp->Prop,(∀ ys' H',NN ys' H'->∃ m',m'<m/\W (i+1) m' ys' H')/\∀ x H',J.yld i H x H'->g x σ' H' fun σ2 H2=>tt σ2 H2 fun b H3 =>
   if b=true then te σ2 H3 fun y H4=>NN (ys++[y]) H4 else NN ys H3))
theorem ys9{wi:TI}{Q:VK}(h:wi σ H (wc4 g tt te (qw5 fr σ) Q)):qt3 fr wi g tt te σ H Q:=h
variable{σ':St}
theorem wr0{Q:VK}(item:Nat->V->Prop)(Pv:Nat->List V->Hp->Prop)(h0:Pv 0 [] H)(hlen:∀ i ys H,i<=n->Pv i ys H->ys.length<=sizeLine)(hgo:∀ i ys H,i<n->Pv i ys H->J.go i H)(hy:∀ i ys H x H',i<n->Pv i ys H->J.yld i H x H'->H'=H/\item i x)(hst:∀ ys H,Pv n ys H->J.stop n H)(hs:∀ i x ys H,i<n->item i x->Pv i ys H->g x σ' H fun σ2 H2=>tt σ2 H2 fun b H3=>if b=true then te σ2 H3 fun y H4=>PAt Pv (i+1) (ys++[y]) H4 else PAt Pv (i+1) ys H3)(hd:∀ ys H,Pv n ys H->∀ p,H p=none->Q (.ref p) (upd H p (.lst ys))):wc4 g tt te σ' Q J H:=by
 refine⟨fun i m ys H=>m=n-i/\i<=n/\Pv i ys H,⟨n,by simp,Nat.zero_le _,h0⟩,?_⟩
 rintro i m ys H ⟨rfl,hi,p⟩
 refine⟨hlen i ys H hi p,?_⟩
 by_cases hlt:i<n
 ·refine .inr ⟨hgo i ys H hlt p,Pv (i+1),fun ys' H' q=>⟨n-(i+1),by omega,rfl,hlt,q⟩,fun x H' y=>?_⟩
  obtain⟨rfl,hx⟩:=hy i ys H x H' hlt p y
  exact hs i x ys _ hlt hx p
 ·have e:i=n:=by omega
  subst e
  exact .inl ⟨hst ys H p,hd ys H p⟩
theorem wg6{Q:VK}(hq:SqL K H a xs\/SqT K H a xs)(Pv:Nat->List V->Hp->Prop)(h0:Pv 0 [] H)(hlen:∀ i ys H,i<=xs.length->Pv i ys H->ys.length<=sizeLine)(hl:SqL K H a xs->∀ i ys H,i<=xs.length->Pv i ys H->SqL K H a xs)(ht:SqT K H a xs->∀ i ys H,i<=xs.length->Pv i ys H->SqT K H a xs)(hs:∀ i x ys H,xs[i]?=some x->Pv i ys H->g x σ' H fun σ2 H2=>tt σ2 H2 fun b H3=>if b=true then te σ2 H3 fun y H4=>PAt Pv (i+1) (ys++[y]) H4 else PAt Pv (i+1) ys H3)(hd:∀ ys H,Pv xs.length ys H->∀ p,H p=none->Q (.ref p) (upd H p (.lst ys))) :
 ∃ b,V.ref a=.ref b/\(((∃ xs,SqL K H b xs)/\wc4 g tt te σ' Q (Itl K b) H)\/((∃ xs,SqT K H b xs)/\wc4 g tt te σ' Q (Itt K b) H)):=by
 refine⟨a,rfl,?_⟩
 have get:∀ i,i<xs.length->∃ x,xs[i]?=some x:=fun i hi=>⟨xs[i],by simp[hi]⟩
 rcases hq with hq|hq
 ·refine .inl ⟨⟨xs,hq⟩,wr0 (n:=xs.length) (fun i x=>xs[i]?=some x) Pv h0 hlen (fun i ys H hi p=>?_) (fun i ys H x H' hi p y=>?_) (fun ys H p=>?_) (fun i x ys H _ hx p=>hs i x ys H hx p) hd⟩
  ·obtain⟨x,hx⟩:=get i hi
   exact⟨xs,x,hl hq i ys H (Nat.le_of_lt hi) p,hx⟩
  ·exact⟨y.1,y.2 xs (hl hq i ys H (Nat.le_of_lt hi) p)⟩
  ·exact⟨xs,hl hq _ ys H (Nat.le_refl _) p,Nat.le_refl _⟩
 ·refine .inr ⟨⟨xs,hq⟩,wr0 (n:=xs.length) (fun i x=>xs[i]?=some x) Pv h0 hlen (fun i ys H hi p=>?_) (fun i ys H x H' hi p y=>?_) (fun ys H p=>?_) (fun i x ys H _ hx p=>hs i x ys H hx p) hd⟩
  ·obtain⟨x,hx⟩:=get i hi
   exact⟨xs,x,ht hq i ys H (Nat.le_of_lt hi) p,hx⟩
  ·exact⟨y.1,y.2 xs (ht hq i ys H (Nat.le_of_lt hi) p)⟩
  ·exact⟨xs,ht hq _ ys H (Nat.le_refl _) p,Nat.le_refl _⟩
theorem xb8{Q:VK}(hq:SqL K H a xs)(Pv:Nat->List V->Hp->Prop)(h0:Pv 0 [] H)(hlen:∀ i ys H,i<=xs.length->Pv i ys H->ys.length<=sizeLine)(hl:∀ i ys H,i<=xs.length->Pv i ys H->SqL K H a xs)(hs:∀ i x ys H,xs[i]?=some x->Pv i ys H->g x σ' H fun σ2 H2=>tt σ2 H2 fun b H3=>if b=true then te σ2 H3 fun y H4=>PAt Pv (i+1) (ys++[y]) H4 else PAt Pv (i+1) ys H3)(hd:∀ ys H,Pv xs.length ys H->∀ p,H p=none->Q (.ref p) (upd H p (.lst ys))) :
 ∃ b,V.ref a=.ref b/\(((∃ xs,SqL K H b xs)/\wc4 g tt te σ' Q (Itl K b) H)\/((∃ xs,SqT K H b xs)/\wc4 g tt te σ' Q (Itt K b) H)):=by
 refine⟨a,rfl,.inl ⟨⟨xs,hq⟩,wr0 (n:=xs.length) (fun i x=>xs[i]?=some x) Pv h0 hlen (fun i ys H hi p=>?_) (fun i ys H x H' hi p y=>?_) (fun ys H p=>?_) (fun i x ys H _ hx p=>hs i x ys H hx p) hd⟩⟩
 ·exact⟨xs,xs[i],hl i ys H (Nat.le_of_lt hi) p,by simp[hi]⟩
 ·exact⟨y.1,y.2 xs (hl i ys H (Nat.le_of_lt hi) p)⟩
 ·exact⟨xs,hl _ ys H (Nat.le_refl _) p,Nat.le_refl _⟩
theorem wt3(hq:SqL K H a xs)(Pv:Nat->St->Hp->Prop)(h0:Pv 0 σ H)(hl:∀ i σ H,i<=xs.length->Pv i σ H->SqL K H a xs)(hs:∀ i x σ H,xs[i]?=some x->Pv i σ H->g x σ H fun σ2 H2=>tb {D with nx:=PAt Pv (i+1),ct:=PAt Pv (i+1),bk:=D.nx} σ2 H2)(hd:∀ σ H,Pv xs.length σ H->D.nx σ H) :
 ∃ b,V.ref a=.ref b/\(((∃ xs,SqL K H b xs)/\wg5 g tb D σ (Itl K b) H)\/((∃ xs,SqT K H b xs)/\wg5 g tb D σ (Itt K b) H)) :=
 ⟨a,rfl,.inl ⟨⟨xs,hq⟩,wr9 Pv h0 hl hs hd⟩⟩
section
variable{Q:VK}
theorem Y5{t u:TS}(h:t {D with nx:=u D} σ H):B7 t u D σ H:=h
theorem xx4(h:D.nx σ H):O3 D σ H:=h
theorem zc5(h:te σ H fun x H1=>g x σ H1 D.nx):E1 te g D σ H:=h
theorem J0{i:Nat}{R:St->Hp->Prop}(h:R (σ.set i (some v)) H):B1 i v σ H R:=h
theorem xf4{i:Nat}(e:σ[i]?=some (some v))(h:Q v H):A2 i σ H Q:=⟨v,e,h⟩
theorem zj7(h:Q v H):tC v σ H Q:=h
theorem yj4{r:R2}{ta tb:TE}(h:ta σ H fun x H1=>tb σ H1 fun y H2=>r x y H2 Q):tOp r ta tb σ H Q:=h
theorem zj8{r:V->Hp->VK->Prop}{ta:TE}(h:ta σ H fun x H1=>r x H1 Q):tUn r ta σ H Q:=h
theorem zc6(h:te σ H D.rt):G9 te D σ H:=h
theorem yt0(h:te σ H fun _ H1=>D.nx σ H1):G5 te D σ H:=h
theorem yx8{c:TT}{t u:TS}(h:c σ H fun b H1=>if b=true then t D σ H1 else u D σ H1):T5 c t u D σ H:=h
theorem zc7{c:TT}{ta tb:TE}(h:c σ H fun b H1=>if b=true then ta σ H1 Q else tb σ H1 Q):tIf c ta tb σ H Q:=h
theorem xx5{t:TE}{R:Bool->Hp->Prop}(h:t σ H fun x H'=>∃ k,x=.bl k/\R k H'):E3 t σ H R:=h
theorem zn6{t:TE}{R:Bool->Hp->Prop}(h:t σ H fun x H'=>∃ k,x=.bl k/\R k H'):tB t σ H R:=h
theorem yx9{b:Bool}{R:Bool->Prop}(h:R b):∃ k,V.bl b=.bl k/\R k:=⟨b,rfl,h⟩
theorem xs3{t u:TT}{R:Bool->Hp->Prop}(h:t σ H fun c H1=>if c=true then u σ H1 R else R false H1):wp1 t u σ H R:=h
theorem zj9{t u:TT}{R:Bool->Hp->Prop}(h:t σ H fun c H1=>if c=true then R true H1 else u σ H1 R):tOr t u σ H R:=h
theorem zc8{t:TT}{R:Bool->Hp->Prop}(h:t σ H fun c H1=>R (!c) H1):yq9 t σ H R:=h
theorem yt1{ta tb:TE}(h:ta σ H fun x H1=>∃ c,x=.bl c/\if c=true then tb σ H1 Q else Q (.bl false) H1):yg5 ta tb σ H Q:=h
theorem zc9{R:List V->Hp->Prop}(h:R [] H):A8 σ H R:=h
theorem yt2{ta:TE}{tr:TA}{R:List V->Hp->Prop}(h:ta σ H fun x H1=>tr σ H1 fun xs H2=>R (x::xs) H2):A1 ta tr σ H R:=h
theorem zd0(h:t σ H fun xs H1=>xs.length<=sizeLine/\∀ p,H1 p=none->Q (.ref p) (upd H1 p (.tup xs))):W3 t σ H Q:=h
theorem zd1(h:t σ H fun xs H1=>xs.length<=sizeLine/\∀ p,H1 p=none->Q (.ref p) (upd H1 p (.lst xs))):T7 t σ H Q:=h
theorem yt3{E:XK}(h:t σ H fun vs H1=>sp (vs++dvs) H1 Q E):C7 sp dvs E t σ H Q:=h
theorem zk0{r:List V->Hp->VK->Prop}(h:t σ H fun vs H1=>r vs H1 Q):tCB r t σ H Q:=h
theorem zk1{R:Bool->Hp->Prop}(h:R true H):tTT σ H R:=h
theorem yj5(h:D.bk σ H):xq0 D σ H:=h
theorem yj6(h:tl σ H fun x H1=>∃ a,x=.ref a/\(((∃ xs,SqL K H1 a xs)/\R (Itl K a) H1)\/((∃ xs,SqT K H1 a xs)/\R (Itt K a) H1))):qw7 K tl σ H R:=h
theorem yt4(h:ta σ H fun vs H1=>∃ j:Int,vs=[.int j]/\-(2 ^ 62)<=j/\j<2 ^ 62/\R (Itr 0 j.toNat) H1):xj8 ta σ H R:=h
theorem yt5(h:ta σ H fun vs H1=>∃ i j:Int,vs=[.int i,.int j]/\(-(2 ^ 62)<=i/\i<2 ^ 62/\-(2 ^ 62)<=j/\j<2 ^ 62)/\R (Itr i (j-i).toNat) H1):yh1 ta σ H R:=h
theorem zd2{t:yg8}{R:St->Hp->Prop}(h:to σ H fun o H1=>ti σ H1 fun i H2=>t o i v H2 fun H3=>R σ H3):yr0 to ti t v σ H R:=h
theorem zk2{r:V->List V->Hp->VK->Prop}(h:to σ H fun x H1=>tyV K T x H1/\t σ H1 fun xs H2=>r x xs H2 Q):tBM K T r to t σ H Q:=h
theorem yj7{r r':R2}{ta tb:TE}(h:ta σ H fun x H1=>tb σ H1 fun y H2=>r x y H2 fun z H3=>∃ k,z=.bl k/\(if k=true then tc σ H3 fun w' H4=>r' y w' H4 Q else Q (.bl false) H3)):xe0 r r' ta tb tc σ H Q:=h
end
variable{z:Str}
section
variable{Q:VK}
theorem xf5(h:Q (.int (i+j)) H):I0 K (.int i) (.int j) H Q:=.inl ⟨i,j,rfl,rfl,h⟩
theorem qo1{i j:Str}(hz:i.length+j.length<=sizeLine)(h:Q (.str (i++j)) H):I0 K (.str i) (.str j) H Q:=.inr (.inl ⟨i,j,rfl,rfl,hz,h⟩)
theorem xx6(h1:H a=some (.lst xs))(h2:H b=some (.lst ys))(hz:xs.length+ys.length<=sizeLine)(h:∀ p,H p=none->Q (.ref p) (upd H p (.lst (xs++ys)))):I0 K (.ref a) (.ref b) H Q:=.inr (.inr (.inl ⟨a,b,xs,ys,rfl,rfl,h1,h2,hz,h⟩))
theorem zd3(h:Q (.int (i-j)) H):rI0 (fun i j=>.int (i-j)) (.int i) (.int j) H Q:=⟨i,j,rfl,rfl,h⟩
theorem qw8(c:yh3 i j)(h:Q (.int (i*j)) H):qp2 (.int i) (.int j) H Q:=.inl ⟨i,j,rfl,rfl,c,h⟩
theorem yj8{n:Int}(h0:0<=n)(h1:n<=1000)(h2:z.length<=1000)(h:Q (.str (PySem.Txt.mul z n)) H):qp2 (.str z) (.int n) H Q:=.inr (.inl ⟨z,n,rfl,rfl,h0,h1,h2,h⟩)
theorem zd4(c:xq3 i j)(h:Q (.int (i / j)) H):rI xq3 (fun i j=>.int (i / j)) (.int i) (.int j) H Q:=⟨i,j,rfl,rfl,c,h⟩
theorem yj9(c:0<j)(h:Q (.int (i % j)) H):rI (fun _ j=>0<j) (fun i j=>.int (i % j)) (.int i) (.int j) H Q:=⟨i,j,rfl,rfl,c,h⟩
theorem zk3(h:Q (.bl (decide (i<j))) H):ys7 (.int i) (.int j) H Q:=.inl ⟨i,j,rfl,rfl,h⟩
theorem zk4(h:Q (.bl (decide (i<=j))) H):xs1 (.int i) (.int j) H Q:=.inl ⟨i,j,rfl,rfl,h⟩
theorem zk5(h:Q (.bl (decide (j<i))) H):wy4 (.int i) (.int j) H Q:=.inl ⟨i,j,rfl,rfl,h⟩
theorem yy0(h:Q (.bl (decide (j<=i))) H):xf0 (.int i) (.int j) H Q:=.inl ⟨i,j,rfl,rfl,h⟩
theorem yy1{i j:Str}(h:Q (.bl (!decide (j.cps.toList<i.cps.toList))) H):xs1 (.str i) (.str j) H Q:=.inr ⟨i,j,rfl,rfl,h⟩
theorem xl1{x:V}(c:yr2 x y=true)(h:Q (.bl (decide (x=y))) H):qb6 K x y H Q:=.inl ⟨c,h⟩
theorem zk6{x:V}(c:yr2 x y=true)(h:Q (.bl (!decide (x=y))) H):wp3 K x y H Q:=.inl ⟨c,h⟩
theorem zk7{x:V}{e:PyData}(h1:Dv K H d x)(h2:Dv K H e y)(hz:min d.depth e.depth<=190)(h:Q (.bl (PyData.eqv d e)) H):qb6 K x y H Q:=.inr ⟨d,e,h1,h2,hz,h⟩
theorem zk8{x:V}{e:PyData}(h1:Dv K H d x)(h2:Dv K H e y)(hz:min d.depth e.depth<=190)(h:Q (.bl (!PyData.eqv d e)) H):wp3 K x y H Q:=.inr ⟨d,e,h1,h2,hz,h⟩
theorem zn7{x:V}(h:Q (.bl (decide (x=.non))) H):xk9 x .non H Q:=⟨rfl,h⟩
theorem yt6{x:V}(h:Q (.bl (!decide (x=.non))) H):wg3 x .non H Q:=⟨rfl,h⟩
theorem S4(h1:SqL K H p xs)(e:atI xs i=some v)(h:Q v H):rIx K (.ref p) (.int i) H Q:=.inl ⟨p,xs,i,v,rfl,rfl,h1,e,h⟩
theorem V2(h1:SqT K H p xs)(e:atI xs i=some v)(h:Q v H):rIx K (.ref p) (.int i) H Q:=.inr (.inl ⟨p,xs,i,v,rfl,rfl,h1,e,h⟩)
theorem zk9{c:Nat}(hz:z.length<=sizeLine)(e:atI z.cps.toList i=some c)(h:Q (.str ⟨#[c]⟩) H):rIx K (.str z) (.int i) H Q:=.inr (.inr ⟨z,i,c,rfl,rfl,hz,e,h⟩)
theorem yk0{x:V}(h1:SqL K H p xs\/SqT K H p xs)(fx:qp1 x=true)(fs:xs.all qp1=true)(h:Q (.bl (inV x xs)) H):yj1 K false x (.ref p) H Q:=.inl ⟨p,xs,rfl,h1,fx,fs,h⟩
theorem xx7{x:V}(h1:SqL K H p xs\/SqT K H p xs)(fx:qp1 x=true)(fs:xs.all qp1=true)(h:Q (.bl (!inV x xs)) H):yj1 K true x (.ref p) H Q:=.inl ⟨p,xs,rfl,h1,fx,fs,h⟩
theorem R7(h1:SqL K H p xs\/SqT K H p xs)(h:Q (.int xs.length) H):N5 K [.ref p] H Q:=.inl ⟨p,xs,rfl,h1,h⟩
theorem wk7(hz:z.length<=sizeLine)(h:Q (.int z.length) H):N5 K [.str z] H Q:=.inr (.inl ⟨z,rfl,hz,h⟩)
theorem yk1{k:Int}{j:Nat}{R:Hp->Prop}(h1:H p=some (.lst xs))(e:ixN xs.length k=some j)(h:R (upd H p (.lst (xs.set j v)))):yi2 (.ref p) (.int k) v H R:=⟨p,xs,k,j,rfl,rfl,h1,e,h⟩
theorem I9(h1:H p=some (.lst xs))(hz:xs.length<sizeLine)(h:Q .non (upd H p (.lst (xs++[y])))):G6 (.ref p) [y] H Q:=⟨p,xs,y,rfl,rfl,h1,hz,h⟩
end
def Itv(n:Nat):It:=⟨fun i _=>i<n,fun i H x H'=>H'=H/\x=.int ((n:Int)-1-i),fun i _=>n<=i⟩
theorem yk2{tg:Expr}(it:Addr)(n:Nat):wk1 P w K tg (Itv n) [it] it (fun i h=>IsRangeIter h it ((n:Int)-1+(i:Nat)*(-1)) ((n:Int)-(i:Nat)) (-1)) where
 mem:=by simp
 obj:=fun i h st b hb=>by
  have e:b=it:=by simpa using hb
  subst e
  exact⟨_,st,fun v z=>by
   have z':Data.fields _=Data.cell v:=z
   cases z'⟩
 keep:=fun i h h' st k=>k it (by simp) _ st
 item:=by
  intro X hP hw hK hc i pins s σ H E I hf st hg
  subst hP hw hK
  obtain⟨f0,f1,f2,f3,f4,f5⟩:=hf it (by simp)
  have W:=Walks.range (prog:=X.prog) (w:=X.w) (I.ok.hd hc) it ((n:Int)-1) (-1) n
  refine wpAny_with_toks (n:=1) I.tk (W.item i s _ _ hg st fun v h' tk hv st' kk ht=>?_)
  have ht:0<tk:=ht
  obtain⟨t,rfl⟩:=hv
  have I1:Inv X pins σ H {s with heap:=h',toks:=tk}:=I.turned (fun b o hb e=>kk b o (by simpa using hb) e) f0 f1 f3 f4 f5
  refine⟨_,rfl,wr7 (s:={s with heap:=h',toks:=tk}) (n := "range_iterator") st' rfl rfl (by decide) ⟨.int ((n:Int)-1-i),H,I1,⟨t,?_⟩,⟨rfl,rfl⟩,st',fun b hb=>(hf b hb).1⟩⟩
  have e:(n:Int)-1+(i:Int)*(-1)=(n:Int)-1-i:=by omega
  rw[e]
 done:=by
  intro X hP hw hK hc i pins s σ H E I hf st hg
  subst hP hw hK
  obtain⟨f0,f1,f2,f3,f4,f5⟩:=hf it (by simp)
  exact wpAny_pyNext_range_end (I.ok.hd hc) st (by have:n<=i:=hg;omega) fun h' eb=>⟨rfl,I.turned (t':=s.toks) (fun b o hb e=>eb b o hb e) f0 f1 f3 f4 f5⟩
 self:=fun _ _ _ _ _ st h=>wpAny_pyIter_rangeiter st h
theorem yt7(hn:(n:Int)<2 ^ 62)(Pv:Nat->St->Hp->Prop)(p0:Pv 0 σ H)(hs:∀ (i:Nat) σ H,i<n->Pv i σ H->g (.int ((n:Int)-1-i)) σ H fun σ2 H2=>tb {D with nx:=PAt Pv (i+1),ct:=PAt Pv (i+1),bk:=D.nx} σ2 H2)(hd:∀ σ H,Pv n σ H->D.nx σ H) :
 ∃ m:Nat,[V.int n]=[.int m]/\(m:Int)<2 ^ 62/\wg5 g tb D σ (Itv m) H:=by
 refine⟨n,rfl,hn,fun i m σ H=>m=n-i/\i<=n/\Pv i σ H,⟨n,by simp,Nat.zero_le _,p0⟩,?_⟩
 rintro i m σ H ⟨rfl,hi,p⟩
 by_cases hlt:i<n
 ·refine .inr ⟨hlt,Pv (i+1),fun σ' H' p'=>⟨n-(i+1),by omega,rfl,hlt,p'⟩,fun x H' y=>?_⟩
  obtain⟨e,y⟩:=y
  subst e y
  exact hs i σ _ hlt p
 ·have e:i=n:=by omega
  subst e
  exact .inl ⟨Nat.le_refl _,hd σ H p⟩
def yk3:yg8:=fun o i v H Q=>yi2 o i v H Q\/∃ a H',o=.ref a/\zj2 H a i v H'/\Q H'
theorem xl2(hu:X.A.units+1<cLine):za4 X yk3:=by
 intro pins s σ H o i v ov iv u Q I ro ri rv h
 rcases h with h|⟨a,H',rfl,g,q⟩
 ·exact yi3 pins s σ H o i v ov iv u Q I ro ri rv h
 ·cases ro
  exact yd0 hu I g ri rv fun s' I'=>⟨H',I',q⟩
def L4(K:Fg):R2:=rIx K
theorem B9(hu:X.A.units+1<cLine):IxR X (L4 X.K):=zb2
def zn8(neg:Bool):R2:=fun x y H Q=>∃ a o,y=.ref a/\zb6 H a x o/\Q (.bl (if neg then !o.isSome else o.isSome)) H
def xf6(K:Fg)(neg:Bool):R2:=fun x y H Q=>yj1 K neg x y H Q\/zn8 neg x y H Q
theorem wt4(hu:X.A.units+1<cLine):OpR X (compareOp .In) (xf6 X.K false):=by
 refine zc4.or ?_
 intro pins s σ H x y v u Q I rx ry h
 obtain⟨a,o,rfl,g,q⟩:=h
 cases ry
 exact zn3 hu I g rx fun s' I'=>⟨.bl o.isSome,H,I',rfl,q⟩
theorem xb9(hu:X.A.units+1<cLine):OpR X (compareOp .NotIn) (xf6 X.K true):=by
 refine yd5.or ?_
 intro pins s σ H x y v u Q I rx ry h
 obtain⟨a,o,rfl,g,q⟩:=h
 cases ry
 exact ys5 hu I g rx fun s' I'=>⟨.bl (!o.isSome),H,I',rfl,q⟩
def yk4(K:Fg):List V->Hp->VK->Prop:=fun xs H Q=>(∃ (x:V) (T:String) (t:Value) (b:Bool),xs=[x,.ty T]/\wf5 K H x t/\PySem.W.kitOne K t (.type T)=some b/\Q (.bl b) H) \/
 ∃ (a:Addr) (ys:List V) (T:String) (b:Bool),xs=[.ref a,.ty T]/\SqT K H a ys/\PySem.W.kitOne K (.type "tuple") (.type T)=some b/\Q (.bl b) H
theorem wk8:Y9 X (.builtin "isinstance") (yk4 X.K):=by
 intro pins s σ H xs us Q I r h
 rcases h with⟨x,T,t,b,rfl,ty,e,q⟩|⟨a,ys,T,b,rfl,hq,e,q⟩
 ·obtain⟨u,w',rfl,r1,r2⟩:=xa7 r
  cases r2
  exact wpAny_with_toks (n:=1) I.tk (yc6 I r1 ty e fun tk ht=>⟨.bl b,H,I.tok _ ht,rfl,q⟩)
 ·obtain⟨u,w',rfl,r1,r2⟩:=xa7 r
  cases r2
  cases r1
  obtain⟨its,rv,pl,hz⟩:=I.tuple hq
  obtain⟨o,h1,h2,_⟩:=pl
  exact wpAny_with_toks (n:=1) I.tk (PySem.W.kia_one PySem.W.kitx_tuple I.kIn ⟨o,h1,h2⟩ e (fun z=>nomatch z) fun tk ht=>⟨.bl b,H,I.tok _ ht,rfl,q⟩)
theorem zl0{Q:VK}{x:V}{t:Value}{b:Bool}(ty:wf5 K H x t)(e:PySem.W.kitOne K t (.type T)=some b)(h:Q (.bl b) H):yk4 K [x,.ty T] H Q:=.inl ⟨x,T,t,b,rfl,ty,e,h⟩
theorem zd5{Q:VK}{b:Bool}(hq:SqT K H a ys)(e:PySem.W.kitOne K (.type "tuple") (.type T)=some b)(h:Q (.bl b) H):yk4 K [.ref a,.ty T] H Q:=.inr ⟨a,ys,T,b,rfl,hq,e,h⟩
example (K:Fg):PySem.W.kitOne K (.type "str") (.type "str")=some true:=by rfl
example (K:Fg):PySem.W.kitOne K (.type "bool") (.type "int")=some true:=by rfl
example (K:Fg):PySem.W.kitOne K (.type "int") (.type "bool")=some false:=by rfl
example (K:Fg):PySem.W.kitOne K (.type "list") (.type "list")=some true:=by rfl
section
variable{σ:List (Option V)}
theorem Inv.turnLaid{ch:List Addr}(I:Inv X pins σ H s)(hf:∀ b∈ch,wy0 X pins H b)(k:∀ b u,b∉ch->s.heap.get? b=some u->h'.get? b=some u)(hp:s.heap.objs.size<=a)(new:R3 X.prog X.w (upd H a o) h' a o)(ht:0<t') :
 Inv X pins σ (upd H a o) {s with heap:=h',toks:=t'}:=by
 have hn:H a=none:=I.hok.fresh hp
 have nit:∀ b u,H b=some u->b∉ch:=fun b u e z=>by rw[(hf b z).1] at e;cases e
 have up:∀ {b:Addr} {u:HO},H b=some u->upd H a o b=some u:=fun{b u} e=>by rw[B2 (R4 e hn)];exact e
 have neA:∀ b u,s.heap.get? b=some u->b≠a:=fun b u e=>Nat.ne_of_lt (Nat.lt_of_lt_of_le (Heap.lt_size e) hp)
 refine I.step (g':=s.gens) (d':=s.drawn) (ch:=ch) (fun b hb=>?_) (fun b u _ _ hc e _=>k b u hc e) (fun b u _ _ hc e _=>⟨u.slots,k b u hc e⟩) (fun b u _ e n=>by rw[B2 (neA b u e)];exact n)
  (fun b u hc e=>⟨u,k b u hc e⟩) (fun _ _ e=>up e) (fun _ _ _ e=>up e) (fun b ps e=>⟨#[],by rw[up e];simp⟩) (fun m hm=>?_) (fun b u e=>?_) I.bare ht
 ·obtain⟨f0,f1,f2,f3,f4,f5⟩:=hf b hb
  exact⟨f3,f1,f4,f5⟩
 ·obtain⟨ob,es,ep,ho,r⟩:=hm
  exact⟨ob,es,ep,k _ ob (fun z=>(hf _ z).2.1 rfl) ho,r⟩
 ·by_cases hb:b=a
  ·subst hb;rw[A4] at e;cases e;exact new
  ·rw[B2 hb] at e
   refine(I.hok b u e).stay (fun c v hc q=>k c v ?_ q) (fun _ q=>up q) fun _ _ q=>up q
   rcases hc with z|z
   ·rw[z];exact nit b u e
   ·exact nit c _ z
end
def Itx(n:Nat)(V':Nat->V->Prop):It:=⟨fun i _=>i<n,fun i H x H'=>H'=H/\V' i x,fun i _=>n<=i⟩
theorem xs4{tg:Expr}{Pv:Nat->Value->Prop}{St:Nat->Heap->Prop}{V':Nat->V->Prop}{vs:Nat->Array Value}(W:∀ A:Around,A.handled=none->Walks P w A it [it] [it] n Pv St)(hV:∀ i v,Pv i v->∃ x,E7 x v/\V' i x)(hO:∀ i h,St i h->∃ o,h.get? it=some o/\o.cls=.type T/\o.data=.fields (vs i))(hT:["enumerate","zip","dict_itemiterator","dict_reverseitemiterator","odict_iterator","itertools.zip_longest","itertools.pairwise"].contains T=false)(hS:∀ (A:Around) (i:Nat) (s:Shared) (Q:Value->Shared->Prop) (E:Value->Shared->Prop),St i s.heap->Q (.ref it) s->wpAny (model P w) A (pyIter (.ref it)) Q E s) :
 wk1 P w K tg (Itx n V') [it] it (fun i h=>i<=n/\St i h) where
 mem:=by simp
 obj:=fun i h st b hb=>by
  have e:b=it:=by simpa using hb
  subst e
  obtain⟨o,e,_,d⟩:=hO i h st.2
  exact⟨o,e,fun v z=>by rw[d] at z;cases z⟩
 keep:=fun i h h' st k=>⟨st.1,(W {} rfl).frame i h h' st.2 k⟩
 item:=by
  intro X hP hw hK hc i pins s σ H E I hf st hg
  subst hP hw hK
  obtain⟨f0,f1,f2,f3,f4,f5⟩:=hf it (by simp)
  refine wpAny_with_toks (n:=1) I.tk ((W X.A (I.ok.hd hc)).item i s _ _ hg st.2 fun v h' tk hv st' kk ht=>?_)
  have ht:0<tk:=ht
  obtain⟨x,rx,vx⟩:=hV i v hv
  have I1:Inv X pins σ H {s with heap:=h',toks:=tk}:=I.turned (fun b o hb e=>kk b o (by simpa using hb) e) f0 f1 f3 f4 f5
  obtain⟨o,e,c,d⟩:=hO _ _ st'
  exact⟨v,rfl,wr7 (s:={s with heap:=h',toks:=tk}) e c d hT ⟨x,H,I1,rx,⟨rfl,vx⟩,⟨hg,st'⟩,fun b hb=>(hf b hb).1⟩⟩
 done:=by
  intro X hP hw hK hc i pins s σ H E I hf st hg
  subst hP hw hK
  obtain⟨f0,f1,f2,f3,f4,f5⟩:=hf it (by simp)
  have hi:i=n:=Nat.le_antisymm st.1 hg
  subst hi
  exact wpAny_with_toks (n:=1) I.tk ((W X.A (I.ok.hd hc)).done s _ _ st.2 fun h' tk eb ht=>⟨rfl,I.turned (fun b o hb e=>eb b o (by simpa using hb) e) f0 f1 f3 f4 f5 ht⟩)
 self:=fun A i s Q E st h=>hS A i s Q E st.2 h
section
variable{σ:List (Option V)}
theorem Inv.turnedL{ch:List Addr}(I:Inv X pins σ H s)(hf:∀ b∈ch,wy0 X pins H b)(k:∀ b u,b∉ch->s.heap.get? b=some u->h'.get? b=some u)(ht:0<t') :
 Inv X pins σ H {s with heap:=h',toks:=t'}:=by
 have nit:∀ b u,H b=some u->b∉ch:=fun b u e z=>by rw[(hf b z).1] at e;cases e
 refine I.step (g':=s.gens) (d':=s.drawn) (ch:=ch) (fun b hb=>?_) (fun b u _ _ hc e _=>k b u hc e) (fun b u _ _ hc e _=>⟨u.slots,k b u hc e⟩) (fun _ _ _ _ n=>n)
  (fun b u hc e=>⟨u,k b u hc e⟩) (fun _ _ e=>e) (fun _ _ _ e=>e) (fun b ps e=>⟨#[],by rw[e];simp⟩) (fun m hm=>?_) (fun b u e=>?_) I.bare ht
 ·obtain⟨f0,f1,f2,f3,f4,f5⟩:=hf b hb
  exact⟨f3,f1,f4,f5⟩
 ·obtain⟨ob,es,ep,ho,r⟩:=hm
  exact⟨ob,es,ep,k _ ob (fun z=>(hf _ z).2.1 rfl) ho,r⟩
 ·refine(I.hok b u e).stay (fun c v hc q=>k c v ?_ q) (fun _ q=>q) fun _ _ q=>q
  rcases hc with z|z
  ·rw[z];exact nit b u e
  ·exact nit c _ z
end
def Itp(n:Nat)(V':Nat->List V->Prop):It:=⟨fun i _=>i<n,fun i H x H'=>∃ p xs,x=.ref p/\H p=none/\V' i xs/\H'=upd H p (.tup xs),fun i _=>n<=i⟩
variable{elts:List Expr}
theorem xl3{fp wr:List Addr}{Pt:Nat->Array Value->Prop}{St:Nat->Heap->Prop}{Mid:Nat->Addr->Heap->Prop}{V':Nat->List V->Prop}(W:∀ A:Around,A.handled=none->WalksT P w A it fp wr n Pt St Mid)(hmem:it∈fp)(hV:∀ i vs,Pt i vs->∃ xs,D9 xs vs.toList/\V' i xs/\xs.length<=64)(hO:∀ i h,St i h->∀ b∈fp,∃ o,h.get? b=some o/\∀ v,o.data≠.cell v)(hS:∀ (A:Around) (i:Nat) (s:Shared) (Q:Value->Shared->Prop) (E:Value->Shared->Prop),St i s.heap->Q (.ref it) s->wpAny (model P w) A (pyIter (.ref it)) Q E s) :
 wk1 P w K (.Tuple elts k pos) (Itp n V') fp it (fun i h=>i<=n/\St i h) where
 mem:=hmem
 obj:=fun i h st b hb=>hO i h st.2 b hb
 keep:=fun i h h' st kk=>⟨st.1,(W {} rfl).frame i h h' st.2 kk⟩
 item:=by
  intro X hP hw hK hc i pins s σ H E I hf st hg
  subst hP hw hK
  have W:=W X.A (I.ok.hd hc)
  refine wpAny_with_toks (n:=1) I.tk (W.item i s _ _ hg st.2 fun T vs h' tk hv hT htup hmid kk ht=>?_)
  have ht:0<tk:=ht
  obtain⟨xs,rx,vx,hz⟩:=hV i vs hv
  have hap:=W.apart i T h' hmid
  refine⟨_,rfl,W.go elts k pos i T {s with heap:=h',toks:=tk} _ _ hmid fun h2 st2 k2=>?_⟩
  have htup2:IsTup h2 T vs.toList.toArray:=by
   obtain⟨o,e,c⟩:=htup
   exact⟨o,k2 T o hap e,by simpa using c⟩
  have I1:Inv X pins σ (upd H T (.tup xs)) {s with heap:=h2,toks:=tk}:=I.turnLaid (ch:=wr) (fun b hb=>hf b (W.sub b hb)) (fun b u hb e=>k2 b u hb (kk b u hb e)) hT ⟨by rw[sizeLine_eq];omega,vs.toList,rx,htup2⟩ ht
  refine⟨.ref T,_,I1,rfl,⟨T,xs,rfl,I.hok.fresh hT,vx,rfl⟩,⟨hg,st2⟩,fun b hb=>?_⟩
  obtain⟨o,e,_⟩:=hO i _ st.2 b hb
  rw[B2 (Nat.ne_of_lt (Nat.lt_of_lt_of_le (Heap.lt_size e) hT))]
  exact(hf b hb).1
 done:=by
  intro X hP hw hK hc i pins s σ H E I hf st hg
  subst hP hw hK
  have W:=W X.A (I.ok.hd hc)
  have hi:i=n:=Nat.le_antisymm st.1 hg
  subst hi
  exact wpAny_with_toks (n:=1) I.tk (W.done s _ _ st.2 fun h' tk eb ht=>⟨rfl,I.turnedL (ch:=wr) (fun b hb=>hf b (W.sub b hb)) eb ht⟩)
 self:=fun A i s Q E st h=>hS A i s Q E st.2 h
theorem yd6(hh:A.handled=none)(it:Addr)(x:Str)(t:Tok) :
 Draws P w A it [it] x.cps.size (fun i v=>∃ c u,x.cps[i]?=some c/\v=.str ⟨#[c]⟩ u) (fun i h=>h.IsStrIter it (strIterType x) x t i):=by
 unfold strIterType
 split
 ·exact Draws.strAscii hh it x t
 ·exact Draws.strWide hh it x t
theorem yd7(hh:A.handled=none)(it:Addr)(x:Str)(t:Tok):Walks P w A it [it] [it] x.cps.size (SignAt x) (fun i h=>h.IsStrIter it (strIterType x) x t i):=by
 unfold strIterType
 split
 ·exact Walks.strAscii hh it x t
 ·exact Walks.strWide hh it x t
theorem xl4{t:Tok}{i:Nat}(hit:s.heap.IsStrIter it (strIterType x) x t i)(h:Q (.ref it) s) :
 wpAny (model P w) A (pyIter (.ref it)) Q E s:=by
 unfold strIterType at hit
 split at hit
 ·exact wpAny_pyIter_striter_ascii hit h
 ·exact wpAny_pyIter_striter_wide hit h
def xl5(z:Str)(i:Nat)(x:V):Prop:=∃ c,z.cps.toList[i]?=some c/\x=.str ⟨#[c]⟩
theorem yk5(i:Nat)(v:Value)(h:SignAt z i v):∃ x,E7 x v/\xl5 z i x:=by
 obtain⟨c,u,e,rfl⟩:=h
 exact⟨.str ⟨#[c]⟩,⟨u,rfl⟩,c,by simpa using e,rfl⟩
theorem yk6{tg:Expr}(it:Addr)(z:Str)(t:Tok):wk1 P w K tg (Itx z.cps.size (xl5 z)) [it] it (fun i h=>i<=z.cps.size/\h.IsStrIter it (strIterType z) z t i):=by
 refine xs4 (T:=strIterType z) (vs:=fun i=>#[.str z t,.int i 0]) (fun A hA=>yd7 hA it z t) yk5 (fun i h st=>?_) ?_ (fun A i s Q E st h=>xl4 st h)
 ·obtain⟨o,e,c,d⟩:=st
  exact⟨o,e,c,d⟩
 ·unfold strIterType
  split <;> decide
def yt8(tl:TE):TI:=fun σ H R=>tl σ H fun x H1=>∃ z,x=.str z/\R (Itx z.cps.size (xl5 z)) H1
theorem xx8{tg l:Expr}(hl:PE X l tl):PI X tg l (yt8 tl):=by
 intro pins s σ H R I h
 refine thn (hl pins s σ H _ I h) fun v s1 zq=>?_
 obtain⟨x,H1,I1,r1,q1⟩:=zq
 obtain⟨z,e,q⟩:=q1
 subst e
 obtain⟨t,rfl⟩:=r1
 refine wpAny_pyIter_strU ?_
 refine⟨s1.heap.objs.size,[s1.heap.objs.size],_,_,H1,rfl,I1.kept (t':=s1.toks) fun b o e=>Heap.get?_push_of_some _ e,yk6 _ z t,⟨Nat.zero_le _,_,Heap.get?_push_size _ rfl,rfl,rfl⟩,fun b hb=>?_,q⟩
 have e:b=s1.heap.objs.size:=by simpa using hb
 subst e
 exact I1.fpOk (Nat.le_refl _) (I1.hok.fresh (Nat.le_refl _))
def xs5(ta:TA):TI:=fun σ H R=>ta σ H fun vs H1=>∃ z,vs=[.str z]/\R (Itp z.cps.size fun i xs=>∃ c,z.cps.toList[i]?=some c/\xs=[.int i,.str ⟨#[c]⟩]) H1
theorem yk7{p:Pos}{l:Expr}(hg:Gl X "enumerate")(hm:X.mg "enumerate"=none)(ha:PA X [l] ta)(hs:autoParam (starEach [l] X.env=[(false,eval l X.env)]) zAr) :
 PI X (.Tuple elts k tpos) (.Call (.Name "enumerate" p) [l] [] pos) (xs5 ta):=by
 intro pins s σ H R I h
 refine Call_ (qi4 I hg hm boot_enumerate (PyProof.Rows.callWith_type1 (thn (ha pos pins s σ H _ I h) fun us s1 zq=>?_) hs rfl))
 obtain⟨vs,H1,I1,r1,q1⟩:=zq
 obtain⟨z,e,q⟩:=q1
 subst e
 obtain⟨v,rfl,rv⟩:=qi7 r1
 obtain⟨t,rfl⟩:=rv
 refine call_enumerate_str fun h' he hit hz hk=>?_
 have I2:Inv X pins σ H1 {s1 with heap:=h'}:=I1.kept (t':=s1.toks) hk
 refine wpAny_pyIter_enum he ?_
 have ne:s1.heap.objs.size+1≠s1.heap.objs.size:=by omega
 refine⟨s1.heap.objs.size+1,_,_,_,H1,rfl,I2,xl3 (V':=fun i xs=>∃ c,z.cps.toList[i]?=some c/\xs=[.int i,.str ⟨#[c]⟩]) (fun A hA=>WalksT.enumerateD (yd6 (show A.in1.handled=none from hA) s1.heap.objs.size z t) (s1.heap.objs.size+1) ne (by simpa using ne) (by simp)) (by simp) ?_ ?_ ?_,⟨Nat.zero_le _,⟨_,he⟩,hit⟩,fun b hb=>?_,q⟩
 ·rintro i vs ⟨t1,v,⟨c,u,e,rfl⟩,rfl⟩
  exact⟨[.int i,.str ⟨#[c]⟩],.cons ⟨t1,rfl⟩ (.cons ⟨u,rfl⟩ .nil),⟨c,by simpa using e,rfl⟩,by simp⟩
 ·rintro i h ⟨⟨old,e1⟩,o2,e2,_,d2⟩ b hb
  have hb:b=s1.heap.objs.size+1\/b=s1.heap.objs.size:=by simpa using hb
  rcases hb with rfl|rfl
  ·exact⟨_,e1,fun v z=>by cases (show Data.fields _=Data.cell v from z)⟩
  ·exact⟨_,e2,fun v z=>by rw[d2] at z;cases z⟩
 ·rintro A i s Q E ⟨⟨old,e1⟩,_⟩ h
  exact wpAny_pyIter_enum e1 h
 ·have hb:b=s1.heap.objs.size+1\/b=s1.heap.objs.size:=by simpa using hb
  rcases hb with rfl|rfl
  ·exact I1.fpOk (Nat.le_succ _) (I1.hok.fresh (Nat.le_succ _))
  ·exact I1.fpOk (Nat.le_refl _) (I1.hok.fresh (Nat.le_refl _))
def xc0(te:TE)(y z:Str):TE:=fun σ H Q=>te σ H fun x H1=>∃ a,x=.str a/\a.length<=1048576/\Q (.str (PySem.Txt.replace a y z)) H1
variable{j1 j2:Nat}{p1:Pos}
theorem wr1{o:Expr}{y:Str}(ho:PE X o te)(hz:autoParam (z.length<=14) zAd)(hyz:autoParam ((y == z)=false) zAd)(hbase:autoParam (attributeBase o "replace" X.env (eval o X.env)=eval o X.env) zAr) (hfew:((backTo cpos (starEach [.Constant (.str y) j1 p1,.Constant (.str z) j2 p2] X.env)).all (fun x=>!x.1) && (backToKw cpos (keywordEach [] X.env)).all (fun x=>x.1.isSome)
  && decide (([.Constant (.str y) j1 p1,.Constant (.str z) j2 p2]:List Expr).length+([]:List Keyword).length+(if([]:List Keyword).isEmpty then 0 else 1)<30))=true:=by rfl) (hline:autoParam ((apos.endLine == cpos.line)=true) zAr) (hs:autoParam (starEach [.Constant (.str y) j1 p1,.Constant (.str z) j2 p2] X.env=[(false,eval (.Constant (.str y) j1 p1) X.env),(false,eval (.Constant (.str z) j2 p2) X.env)]) zAr) :
 PE X (.Call (.Attribute o "replace" apos) [.Constant (.str y) j1 p1,.Constant (.str z) j2 p2] [] cpos) (xc0 te y z):=by
 intro pins s σ H Q I h
 refine wpAny_Call_method_late hbase hfew hline rfl (thn (ho pins s σ H _ I h) fun v s1 zq=>?_)
 obtain⟨x,H1,I1,r1,q1⟩:=zq
 obtain⟨a,rfl,hl,q⟩:=q1
 obtain⟨h1,h2⟩:=xr7 (T := "str") I1 r1 (show tyV X.K "str" (.str a) H1 from rfl)
 refine⟨"str","str.replace",PySem.F.plainAttrs_str,PySem.F.slot_str_replace,PySem.F.type_str_replace,h1,h2,?_⟩
 obtain⟨t,rfl⟩:=r1
 rw[hs]
 refine Calls.callWith_builtin rfl (Calls.evalArgs_plain ?_)
 refine Calls.spliced_cons (Calls.Constant_str (k:=j1) (pos:=p1) (Calls.spliced_cons (Calls.Constant_str (k:=j2) (pos:=p2) (Calls.spliced_nil ?_))))
 exact wpAny_with_toks (n:=1) (s:={s1 with toks:=s1.toks+1+1}) (Nat.succ_pos _) (PySem.SC.replaceW (Nat.ne_of_gt I1.tk) (Nat.succ_ne_zero _) (by show s1.toks≠s1.toks+1;omega) hyz hl hz fun t' k ht=>⟨.str _,H1,I1.tok _ ht,⟨_,rfl⟩,q⟩)
def qi8(x:Str)(lo hi:Option Int):Str:=⟨((x.cps.toList.drop (HT.sIx x.cps.toList.length 0 lo)).take (HT.sIx x.cps.toList.length x.cps.toList.length hi-HT.sIx x.cps.toList.length 0 lo)).toArray⟩
def zl1:V->Option Int->Option Int->Hp->VK->Prop:=fun x lo hi H Q=>∃ z,x=.str z/\z.length<=sizeLine/\Q (.str (qi8 z lo hi)) H
theorem yd8(x:Str)(lo hi:Option Int):(⟨((Builtin.Str.strSliceIndices lo hi 1 x.length).filterMap (x.cps[·]?)).toArray⟩:Str)=qi8 x lo hi:=by
 obtain⟨h1,h2,h3⟩:=qr4 lo hi x.length
 have e:Builtin.Str.strSliceIndices lo hi 1 x.length=sliceRange (sliceBounds lo hi none x.length).1 (sliceBounds lo hi none x.length).2.1 (sliceBounds lo hi none x.length).2.2:=rfl
 rw[e,h1,h2,h3]
 unfold qi8
 rw[sliceRange_one,pick_run]
 rfl
theorem xr3(n d:Nat)(o:Option Int)(h:d<=n):HT.sIx n d o<=n:=by
 cases o with
 | none=>exact h
 | some v =>
   show(if v<0 then(v+(n:Int)).toNat else min v.toNat n)<=n
   split <;> omega
theorem zd6:SlR X zl1:=by
 intro pins s σ H x v vl vu lo hi sl Q I rx hs pl pu h
 obtain⟨z,rfl,hz,q⟩:=h
 obtain⟨t,rfl⟩:=rx
 refine⟨"str",_,PySem.F.slot_str_getitem.lookup,typeIs_str _ _ _,?_⟩
 have part:∀ {v:Value} {k:Option Int},IsPart v k->∃ l:Option (Int×Tok),v=partValue l/\l.map (·.1)=k:=fun{v k} h=>by
  cases h with
  | none=>exact⟨none,rfl,rfl⟩
  | int i t=>exact⟨some (i,t),rfl,rfl⟩
 obtain⟨l,rfl,el⟩:=part pl
 obtain⟨u,rfl,eu⟩:=part pu
 refine wpAny_getItem_str_slice (l:=l) (u:=u) (st:=none) hs rfl ?_
 have ep:slicePicked z l u none=Builtin.Str.strSliceIndices lo hi 1 z.length:=by unfold slicePicked;rw[el,eu];rfl
 have ec:=yd8 z lo hi
 unfold sliceMade
 rw[ep]
 split
 ·rename_i hc
  have hlen:(Builtin.Str.strSliceIndices lo hi 1 z.length).length=z.length:=by simpa using hc
  have:qi8 z lo hi=z:=by
   obtain⟨h1,h2,h3⟩:=qr4 lo hi z.length
   have e:Builtin.Str.strSliceIndices lo hi 1 z.length=sliceRange (sliceBounds lo hi none z.length).1 (sliceBounds lo hi none z.length).2.1 (sliceBounds lo hi none z.length).2.2:=rfl
   rw[e,h1,h2,h3,sliceRange_one,List.length_map,List.length_range] at hlen
   have hb:=xr3 z.length z.length hi (Nat.le_refl _)
   have el:z.cps.toList.length=z.length:=Array.length_toList
   obtain⟨⟨l⟩⟩:=z
   unfold qi8
   rw[el,hlen]
   by_cases h0:HT.sIx (Str.length ⟨⟨l⟩⟩) 0 lo=0
   ·rw[h0,List.drop_zero,List.take_of_length_le (Nat.le_of_eq el)]
   ·have:Str.length ⟨⟨l⟩⟩=0:=by omega
    rw[this,List.take_zero]
    have:l=[]:=List.eq_nil_of_length_eq_zero (by rw[<-this];exact el.symm▸rfl)
    rw[this]
  rw[this] at q
  exact⟨.str z,H,I,⟨_,rfl⟩,q⟩
 ·rw[ec]
  refine⟨?_,.str _,H,I.tok _,⟨_,rfl⟩,q⟩
  have:(qi8 z lo hi).length<=z.length:=by
   unfold qi8 Str.length
   simp only[List.size_toArray,List.length_take,List.length_drop,Array.length_toList]
   omega
  omega
def wg7(K:Fg):V->Option Int->Option Int->Hp->VK->Prop:=fun x lo hi H Q=>zl1 x lo hi H Q\/zi2 K x lo hi H Q\/zi6 K x lo hi H Q
theorem qi9:SlR X (wg7 X.K):=zd6.or (za9.or ys3)
variable{hi lo:Option Int}
section
variable{Q:VK}
theorem xc1(hz:z.length<=sizeLine)(h:Q (.str (qi8 z lo hi)) H):wg7 K (.str z) lo hi H Q:=.inl ⟨z,rfl,hz,h⟩
theorem xx9(hx:SqL K H a xs)(h:∀ p,H p=none->Q (.ref p) (upd H p (.lst (qf2 xs lo hi)))):wg7 K (.ref a) lo hi H Q:=.inr (.inr ⟨a,xs,rfl,hx,h⟩)
theorem zl2{tl th:TO}(h:te σ H fun x H1=>tl σ H1 fun l H2=>th σ H2 fun u H3=>r x l u H3 Q):tSl r te tl th σ H Q:=h
theorem yt9{t:TE}{R:Option Int->Hp->Prop}(h:t σ H fun x H1=>∃ i,x=.int i/\R (some i) H1):S3 t σ H R:=h
theorem yd9{R:Option Int->Hp->Prop}(h:R none H):qg6 σ H R:=h
theorem zd7{R:Int->Prop}(h:R i):∃ j,V.int i=.int j/\R j:=⟨i,rfl,h⟩
theorem yu0{y:Str}(h:te σ H fun x H1=>∃ a,x=.str a/\a.length<=1048576/\Q (.str (PySem.Txt.replace a y z)) H1):xc0 te y z σ H Q:=h
theorem yk8(h:ta σ H fun vs H1=>∃ z,vs=[.str z]/\R (Itp z.cps.size fun i xs=>∃ c,z.cps.toList[i]?=some c/\xs=[.int i,.str ⟨#[c]⟩]) H1):xs5 ta σ H R:=h
theorem yu1(h:tl σ H fun x H1=>∃ z,x=.str z/\R (Itx z.cps.size (xl5 z)) H1):yt8 tl σ H R:=h
theorem xs6(Pv:Nat->List V->Hp->Prop)(h0:Pv 0 [] H)(hlen:∀ i ys H,i<=z.cps.size->Pv i ys H->ys.length<=sizeLine)(hs:∀ (i c:Nat) (p:Addr) ys H,z.cps.toList[i]?=some c->H p=none->Pv i ys H->g (.ref p) σ' (upd H p (.tup [.int i,.str ⟨#[c]⟩])) fun σ2 H2=>tt σ2 H2 fun b H3=>if b=true then te σ2 H3 fun y H4=>PAt Pv (i+1) (ys++[y]) H4 else PAt Pv (i+1) ys H3)(hd:∀ ys H,Pv z.cps.size ys H->∀ p,H p=none->Q (.ref p) (upd H p (.lst ys))) :
 ∃ z',[V.str z]=[.str z']/\wc4 g tt te σ' Q (Itp z'.cps.size fun i xs=>∃ c,z'.cps.toList[i]?=some c/\xs=[.int i,.str ⟨#[c]⟩]) H:=by
 refine⟨z,rfl,fun i m ys H=>m=z.cps.size-i/\i<=z.cps.size/\Pv i ys H,⟨z.cps.size,by simp,Nat.zero_le _,h0⟩,?_⟩
 rintro i m ys H ⟨rfl,hi,p⟩
 refine⟨hlen i ys H hi p,?_⟩
 by_cases hlt:i<z.cps.size
 ·refine .inr ⟨hlt,Pv (i+1),fun ys' H' p'=>⟨z.cps.size-(i+1),by omega,rfl,hlt,p'⟩,fun x H' y=>?_⟩
  obtain⟨a,xs,rfl,ha,⟨c,ec,rfl⟩,rfl⟩:=y
  exact hs i c a ys H ec ha p
 ·have e:i=z.cps.size:=by omega
  subst e
  exact .inl ⟨Nat.le_refl _,hd ys H p⟩
theorem xy0{y:Str}(h:Q (.bl (decide (x=y))) H):qb6 K (.str x) (.str y) H Q:=by
 refine xl1 rfl ?_
 have e:(decide ((V.str x)=V.str y))=decide (x=y):=by simp
 rw[e];exact h
theorem yk9{y:Str}(h:Q (.bl (!decide (x=y))) H):wp3 K (.str x) (.str y) H Q:=by
 refine zk6 rfl ?_
 have e:(decide ((V.str x)=V.str y))=decide (x=y):=by simp
 rw[e];exact h
theorem yy2{x y:Int}(h:Q (.bl (decide (x=y))) H):qb6 K (.int x) (.int y) H Q:=by
 refine xl1 rfl ?_
 have e:(decide ((V.int x)=V.int y))=decide (x=y):=by simp
 rw[e];exact h
end
section
open PySem.Builtin PySem.Builtin.Str
def xc2(x y:Str)(i j:Int):Int:=match occurrences x y (fromIndex x.length i) (min (fromIndex x.length j) x.length) 1 with|k::_=>(k:Int) | []=>-1
theorem xl6(x y:Str)(i j:Int)(t u v v':Tok):Gives («str.find» ⟨[.str x t,.str y u,.int i v,.int j v'],[]⟩) (.int (xc2 x y i j)):=by
 unfold xc2
 show Gives (match occurrences x y (fromIndex x.length i) (min (fromIndex x.length j) x.length) 1 with|k::_=>retInt k | []=>(do rule "str.find.not-found";retInt (-1))) _
 cases occurrences x y (fromIndex x.length i) (min (fromIndex x.length j) x.length) 1 with
 | nil=>exact .rule (.of_eq rfl)
 | cons k _=>exact .of_eq rfl
theorem D9.three{x z:V}(r:D9 [x,y,z] us):∃ u v w',us=[u,v,w']/\E7 x u/\E7 y v/\E7 z w':=by
 cases r with
 | cons r1 r2=>obtain⟨v,w',rfl,a,b⟩:=xa7 r2;exact⟨_,_,_,rfl,r1,a,b⟩
def xf7:V->List V->Hp->VK->Prop:=fun x vs H Q=>∃ (z y:Str) (i:Int),x=.str z/\vs=[.str y,.int i]/\Q (.int (PySem.Txt.find3 z y i)) H
theorem wt5:MtR X "str.find" xf7:=by
 intro pins s σ H x vs v us Q I rx rv h
 obtain⟨z,y,i,rfl,rfl,q⟩:=h
 obtain⟨t,rfl⟩:=rx
 obtain⟨u,w',rfl,⟨t1,rfl⟩,⟨t2,rfl⟩⟩:=xa7 rv
 exact SC.find3 ⟨.int _,H,I.tok _,⟨_,rfl⟩,q⟩
def yl0:V->List V->Hp->VK->Prop:=fun x vs H Q=>∃ (z y:Str) (i j:Int),x=.str z/\vs=[.str y,.int i,.int j]/\Q (.int (xc2 z y i j)) H
theorem yl1:MtR X "str.find" yl0:=by
 intro pins s σ H x vs v us Q I rx rv h
 obtain⟨z,y,i,j,rfl,rfl,q⟩:=h
 obtain⟨t,rfl⟩:=rx
 obtain⟨u,w',w2,rfl,⟨t1,rfl⟩,⟨t2,rfl⟩,⟨t3,rfl⟩⟩:=D9.three rv
 exact call_gives F.slot_str_find (typeIs_str _ _ _) F.entry_str_find (F.args_str_find_4 _ _ _ _) (xl6 z y i j t t1 t2 t3) ⟨.int _,H,I.tok _,⟨_,rfl⟩,q⟩
def xy1:V->List V->Hp->VK->Prop:=fun x vs H Q=>∃ (z y:Str) (i:Int),x=.str z/\vs=[.str y,.int i]/\Q (.bl (PySem.Txt.startswith3 z y i)) H
theorem ye0:MtR X "str.startswith" xy1:=by
 intro pins s σ H x vs v us Q I rx rv h
 obtain⟨z,y,i,rfl,rfl,q⟩:=h
 obtain⟨t,rfl⟩:=rx
 obtain⟨u,w',rfl,⟨t1,rfl⟩,⟨t2,rfl⟩⟩:=xa7 rv
 exact SC.startswith3 ⟨.bl _,H,I,rfl,q⟩
theorem xs7:∀ {bs:List Bool} {us:List Value},D9 (bs.map V.bl) us->us=bs.map Value.bool
 | [],_,h=>by cases h;rfl
 | b::bs,_,h=>by
   have h:D9 (V.bl b::bs.map V.bl) _:=h
   cases h with
   | cons r t=>rw[xs7 t];cases (show _=Value.bool b from r);rfl
theorem ye1(bs:List Bool):(List.range bs.length).all (fun i=>(bs[i]?).getD false)=bs.all id:=by
 rw[Bool.eq_iff_iff,List.all_eq_true,List.all_eq_true]
 constructor
 ·intro h b hb
  obtain⟨i,hi,e⟩:=List.getElem_of_mem hb
  have:=h i (List.mem_range.mpr hi)
  rw[List.getElem?_eq_getElem hi,e] at this
  exact this
 ·intro h i hi
  have hi:=List.mem_range.mp hi
  rw[List.getElem?_eq_getElem hi]
  exact h _ (List.getElem_mem hi)
theorem ye2(bs:List Bool):(List.range bs.length).any (fun i=>(bs[i]?).getD false)=bs.any id:=by
 rw[Bool.eq_iff_iff,List.any_eq_true,List.any_eq_true]
 constructor
 ·rintro⟨i,hi,h⟩
  have hi:=List.mem_range.mp hi
  rw[List.getElem?_eq_getElem hi] at h
  exact⟨_,List.getElem_mem hi,h⟩
 ·rintro⟨b,hb,h⟩
  obtain⟨i,hi,e⟩:=List.getElem_of_mem hb
  exact⟨i,List.mem_range.mpr hi,by rw[List.getElem?_eq_getElem hi,e];exact h⟩
def yl2(K:Fg):List V->Hp->VK->Prop:=fun xs H Q=>∃ (p:Addr) (bs:List Bool),xs=[.ref p]/\SqL K H p (bs.map V.bl)/\Q (.bl (bs.all id)) H
def yl3(K:Fg):List V->Hp->VK->Prop:=fun xs H Q=>∃ (p:Addr) (bs:List Bool),xs=[.ref p]/\SqL K H p (bs.map V.bl)/\Q (.bl (bs.any id)) H
theorem ye3(hc:X.calm=true):Y9 X (.builtin "all") (yl2 X.K):=by
 intro pins s σ H xs us Q I r h
 obtain⟨p,bs,rfl,hq,q⟩:=h
 obtain⟨u,rfl,ru⟩:=qi7 r
 cases ru
 obtain⟨its,rv,pl,hz⟩:=I.list hq
 have ei:=xs7 rv
 subst ei
 refine wpAny_with_toks (n:=1) I.tk (call_all_walk (wpAny_pyIter_list pl.isList ?_))
 have ne:p≠s.heap.objs.size:=Nat.ne_of_lt (by obtain⟨o,e,_⟩:=pl.isList;exact Heap.lt_size e)
 refine⟨_,_,_,_,_,_,fun i=>(bs[i]?).getD false,rfl,Walks.list (show X.A.in1.handled=none from I.ok.hd hc) s.heap.objs.size p ne _,⟨⟨_,Heap.get?_push_size _ rfl,rfl,rfl⟩,pl.isList.at fun o e=>Heap.get?_push_of_some _ e⟩,?_,fun h' tk hk ht=>?_⟩
 ·intro i v s Q E hP hQ
  have hP:(bs.map Value.bool)[i]?=some v:=by simpa using hP
  rw[List.getElem?_map] at hP
  obtain⟨b,hb,rfl⟩:=Option.map_eq_some_iff.mp hP
  have hQ:Q ((bs[i]?).getD false) s:=hQ
  rw[hb] at hQ
  exact wpAny_pure hQ
 ·refine⟨.bl (bs.all id),H,I.kept (fun b o e=>hk b o ?_ (Heap.get?_push_of_some _ e)) ht,?_,q⟩
  ·intro z
   have:b=s.heap.objs.size:=by simpa using z
   exact absurd (Heap.lt_size e) (by rw[this];exact Nat.lt_irrefl _)
  ·show Value.bool _=Value.bool _
   rw[<-ye1 bs]
   congr 2
   simp
theorem ye4(hc:X.calm=true):Y9 X (.builtin "any") (yl3 X.K):=by
 intro pins s σ H xs us Q I r h
 obtain⟨p,bs,rfl,hq,q⟩:=h
 obtain⟨u,rfl,ru⟩:=qi7 r
 cases ru
 obtain⟨its,rv,pl,hz⟩:=I.list hq
 have ei:=xs7 rv
 subst ei
 refine wpAny_with_toks (n:=1) I.tk (call_any_walk (wpAny_pyIter_list pl.isList ?_))
 have ne:p≠s.heap.objs.size:=Nat.ne_of_lt (by obtain⟨o,e,_⟩:=pl.isList;exact Heap.lt_size e)
 refine⟨_,_,_,_,_,_,fun i=>(bs[i]?).getD false,rfl,Walks.list (show X.A.in1.handled=none from I.ok.hd hc) s.heap.objs.size p ne _,⟨⟨_,Heap.get?_push_size _ rfl,rfl,rfl⟩,pl.isList.at fun o e=>Heap.get?_push_of_some _ e⟩,?_,fun h' tk hk ht=>?_⟩
 ·intro i v s Q E hP hQ
  have hP:(bs.map Value.bool)[i]?=some v:=by simpa using hP
  rw[List.getElem?_map] at hP
  obtain⟨b,hb,rfl⟩:=Option.map_eq_some_iff.mp hP
  have hQ:Q ((bs[i]?).getD false) s:=hQ
  rw[hb] at hQ
  exact wpAny_pure hQ
 ·refine⟨.bl (bs.any id),H,I.kept (fun b o e=>hk b o ?_ (Heap.get?_push_of_some _ e)) ht,?_,q⟩
  ·intro z
   have:b=s.heap.objs.size:=by simpa using z
   exact absurd (Heap.lt_size e) (by rw[this];exact Nat.lt_irrefl _)
  ·show Value.bool _=Value.bool _
   rw[<-ye2 bs]
   congr 2
   simp
section
variable{Q:VK}
theorem zl3{bs:List Bool}(h:SqL K H p (bs.map V.bl))(q:Q (.bl (bs.all id)) H):yl2 K [.ref p] H Q:=⟨p,bs,rfl,h,q⟩
theorem zl4{bs:List Bool}(h:SqL K H p (bs.map V.bl))(q:Q (.bl (bs.any id)) H):yl3 K [.ref p] H Q:=⟨p,bs,rfl,h,q⟩
theorem xl7(Pv:Nat->List V->Hp->Prop)(h0:Pv 0 [] H)(hlen:∀ i ys H,i<=z.cps.size->Pv i ys H->ys.length<=sizeLine)(hs:∀ (i c:Nat) ys H,z.cps.toList[i]?=some c->Pv i ys H->g (.str ⟨#[c]⟩) σ' H fun σ2 H2=>tt σ2 H2 fun b H3=>if b=true then te σ2 H3 fun y H4=>PAt Pv (i+1) (ys++[y]) H4 else PAt Pv (i+1) ys H3)(hd:∀ ys H,Pv z.cps.size ys H->∀ p,H p=none->Q (.ref p) (upd H p (.lst ys))) :
 ∃ z',V.str z=.str z'/\wc4 g tt te σ' Q (Itx z'.cps.size (xl5 z')) H:=by
 refine⟨z,rfl,fun i m ys H=>m=z.cps.size-i/\i<=z.cps.size/\Pv i ys H,⟨z.cps.size,by simp,Nat.zero_le _,h0⟩,?_⟩
 rintro i m ys H ⟨rfl,hi,p⟩
 refine⟨hlen i ys H hi p,?_⟩
 by_cases hlt:i<z.cps.size
 ·refine .inr ⟨hlt,Pv (i+1),fun ys' H' p'=>⟨z.cps.size-(i+1),by omega,rfl,hlt,p'⟩,fun x H' y=>?_⟩
  obtain⟨rfl,c,ec,rfl⟩:=y
  exact hs i c ys _ ec p
 ·have e:i=z.cps.size:=by omega
  subst e
  exact .inl ⟨Nat.le_refl _,hd ys H p⟩
end
end
section
variable{Q:VK}
theorem zd8{r:V->List V->Hp->VK->Prop}(h:to σ H fun x H1=>tyV K T x H1/\r x [] H1 Q):xk4 K T r to σ H Q:=h
theorem xl8(h1:H p=some (.lst (xs++[y])))(h:Q y (upd H p (.lst xs))):xk6 (.ref p) [] H Q :=
 ⟨p,xs++[y],y,rfl,rfl,h1,by simp,by rw[List.dropLast_concat];exact h⟩
end
variable{items:Array Value}
theorem wb5{t sl:Addr}{vl vu:Value}(ht:IsTup s.heap t items)(hs:s.heap.IsSliceOf sl vl vu .none)(pl:IsPart vl lo)(pu:IsPart vu hi)(hw:HT.sIx items.size 0 lo=0/\HT.sIx items.size items.size hi=items.size)(h:Q (.ref t) s):wpAny (model prog w) A (getItem (.ref t) (.ref sl)) Q E s:=by
 obtain⟨os,hos,hcs,hds⟩:=id hs
 have hTs:s.TypeIs (.ref sl) "slice":=⟨os,hos,hcs⟩
 unfold getItem
 try with_reducible refine wpAny_holding ?_
 first|refine wpAny_bind (wpAny_pure ?_)|skip
 refine wpAny_bind (wpAny_sequenceKey ht.typeIs (by decide) ?_)
 refine wpAny_bind (wpAny_callSpecial?_slot (name:=Str.ofString "__getitem__") ht.typeIs PyProof.Rows.slot_tuple_getitem
  (wpAny_call_entry PyProof.Rows.slot_tuple_getitem ht.typeIs entry_tuple_getitem ?_ (args_tuple_getitem _ _)))
 show wpAny _ _ (Builtin.Tuple.tupleItemsOf (.ref t) >>= _) _ _ s
 refine wpAny_bind (tupleItemsOf_ ht ?_)
 refine wpAny_bind (wpAny_typeOf hTs ?_)
 rw[if_pos (by decide)]
 refine wpAny_bind (HT.qp0 hs pl pu ?_)
 have hyes:((((HT.sIx items.size 0 lo:Nat):Int) == 0 && (1:Int) == 1 && (HT.sIx items.size items.size hi-HT.sIx items.size 0 lo) == items.size)=true):=by
  rw[hw.1,hw.2];simp
 show wpAny _ _ (if(((HT.sIx items.size 0 lo:Nat):Int) == 0 && (1:Int) == 1 && (HT.sIx items.size items.size hi-HT.sIx items.size 0 lo) == items.size)=true then _ else _) _ _ s
 rw[if_pos hyes]
 refine wpAny_bind (m:=Builtin.Tuple.tupleIsExact (.ref t)) ?_
 unfold Builtin.Tuple.tupleIsExact
 refine wpAny_bind (wpAny_typeOf ht.typeIs (wpAny_pure ?_))
 rw[if_pos (by decide)]
 first
  | exact wpAny_bind (wpAny_rule (wpAny_bind (wpAny_pure ⟨_,rfl,wpAny_pure h⟩)))
  | exact wpAny_bind (wpAny_rule (wpAny_pure ⟨_,rfl,wpAny_pure h⟩))
  | exact wpAny_bind (wpAny_rule (wpAny_pure (wpAny_pure ⟨_,rfl,wpAny_pure h⟩)))
def zl5(K:Fg):V->Option Int->Option Int->Hp->VK->Prop:=fun x lo hi H Q=>∃ a xs,x=.ref a/\SqT K H a xs/\(HT.sIx xs.length 0 lo=0/\HT.sIx xs.length xs.length hi=xs.length)/\Q (.ref a) H
theorem yu2:SlR X (zl5 X.K):=by
 intro pins s σ H x v vl vu lo hi sl Q I rx hs pl pu h
 obtain⟨a,xs,rfl,hx,hw,q⟩:=h
 cases rx
 obtain⟨its,r,ht,hz⟩:=I.tuple hx
 have hlen:its.toArray.size=xs.length:=by rw[List.size_toArray];exact r.length.symm
 refine⟨"tuple",_,PyProof.Rows.slot_tuple_getitem.lookup,ht.typeIs,?_⟩
 exact wb5 ht hs pl pu (by rw[hlen];exact hw) ⟨.ref a,H,I,rfl,q⟩
def xs8(K:Fg):V->Option Int->Option Int->Hp->VK->Prop:=fun x lo hi H Q=>wg7 K x lo hi H Q\/zl5 K x lo hi H Q
theorem wg8:SlR X (xs8 X.K):=qi9.or yu2
def yy3(K:Fg):R2:=fun x y H Q=>∃ a b ys,x=.ref a/\y=.ref b/\SqT K H a []/\SqT K H b ys/\Q (.ref b) H
theorem yu3:OpR X (binaryOp .Add) (yy3 X.K):=by
 intro pins s σ H x y v u Q I rx ry h
 obtain⟨a,b,ys,rfl,rfl,ha,hb,q⟩:=h
 cases rx
 cases ry
 obtain⟨its,r1,p1,_⟩:=I.tuple ha
 obtain⟨its2,r2,p2,_⟩:=I.tuple hb
 cases r1
 obtain⟨⟨cls,dd,data,sl⟩,ho,hc,n,hd⟩:=id p1
 obtain⟨⟨cls2,dd2,data2,sl2⟩,ho2,hc2,n2,hd2⟩:=id p2
 simp only at hc hd hc2 hd2
 subst hc hd hc2 hd2
 exact concat_meets ⟨_,ho,rfl⟩ ⟨_,ho2,rfl⟩ noFill_tuple_add seq_tuple_add PySem.F.slot_tuple_add PySem.F.entry_tuple_add (PySem.F.args_tuple_add_2 _ _)
  (tuple_addW0 a b _ its2.toArray n n2 dd dd2 sl sl2 (by simp)) ⟨ho,ho2,⟨.ref b,H,I,rfl,q⟩⟩
def qw9(K:Fg):R2:=fun x y H Q=>I0 K x y H Q\/yy3 K x y H Q
theorem Z6:OpR X (binaryOp .Add) (qw9 X.K):=D3.or yu3
section
variable{Q:VK}
theorem wt6(h1:SqT K H a xs)(h2:SqT K H b ys)(hz:xs.length+ys.length<=sizeLine)(h:∀ p H',A6 H H'->SqT K H' p (xs++ys)->Q (.ref p) H'):qw9 K (.ref a) (.ref b) H Q:=by
 by_cases hx:xs=[]
 ·subst hx
  exact .inr ⟨a,b,ys,rfl,rfl,h1,h2,h b H (fun _ _ e=>e) h2⟩
 ·refine .inl (.inr (.inr (.inr ⟨a,b,xs,ys,rfl,rfl,h1,h2,hx,hz,fun hy=>?_,fun hy p hp=>h p _ (A6.new hp _) (SqT.of A4)⟩)))
  subst hy
  exact h a H (fun _ _ e=>e) (by rw[List.append_nil];exact h1)
theorem xl9(h1:SqT K H a xs)(h:∀ p H',A6 H H'->SqT K H' p (qf2 xs lo hi)->Q (.ref p) H'):xs8 K (.ref a) lo hi H Q:=by
 by_cases hw:HT.sIx xs.length 0 lo=0/\HT.sIx xs.length xs.length hi=xs.length
 ·refine .inr ⟨a,xs,rfl,h1,hw,h a H (fun _ _ e=>e) ?_⟩
  unfold qf2
  rw[hw.1,hw.2,List.drop_zero,Nat.sub_zero,List.take_length];exact h1
 ·exact .inl (.inr (.inl ⟨a,xs,rfl,h1,hw,fun p hp=>h p _ (A6.new hp _) (SqT.of A4)⟩))
theorem yy4(c:0<=j)(h:Q (.int (i / 2 ^ j.toNat)) H):rI (fun _ j=>0<=j) (fun i j=>.int (i / 2 ^ j.toNat)) (.int i) (.int j) H Q:=⟨i,j,rfl,rfl,c,h⟩
theorem yy5(c:yh2 i j)(h:Q (.int (i*2 ^ j.toNat)) H):rI yh2 (fun i j=>.int (i*2 ^ j.toNat)) (.int i) (.int j) H Q:=⟨i,j,rfl,rfl,c,h⟩
end
def yl4(ta:TA):TI:=fun σ H R=>ta σ H fun vs H1=>∃ n:Nat,vs=[.int ((n:Int)-1),.int (-1),.int (-1)]/\(n:Int)<2 ^ 62/\R (Itv n) H1
theorem xc3(n:Nat):Builtin.Range.rangeSize ((n:Int)-1) (-1) (-1)=n:=by
 unfold Builtin.Range.rangeSize
 rw[if_neg (by decide)]
 have e:(- (-1):Int)=1:=by decide
 rw[e,Int.ediv_one]
 split <;> omega
theorem ye5 {tg:Expr} {a b:Expr} {p:Pos} (hg:Gl X "range") (hm:X.mg "range"=none) (ha:PA X [a,b,c] ta) (hs:autoParam (starEach [a,b,c] X.env=(false,eval a X.env)::starEach [b,c] X.env) zAr) (hs2:autoParam (starEach [b,c] X.env=[(false,eval b X.env),(false,eval c X.env)]) zAr) :
 PI X tg (.Call (.Name "range" p) [a,b,c] [] pos) (yl4 ta):=by
 intro pins s σ H R I h
 refine Call_ (qi4 I hg hm boot_range (PyProof.Rows.callWith_type1 (thn (ha pos pins s σ H _ I h) fun us s1 zq=>?_) hs (by rw[hs2];rfl)))
 obtain⟨vs,H1,I1,r1,q1⟩:=zq
 obtain⟨n,e,q1,q⟩:=q1
 subst e
 cases r1 with
 | cons r rr =>
   cases rr with
   | cons r' rr =>
     cases rr with
     | cons r'' rr =>
       cases rr
       obtain⟨t,rfl⟩:=r
       obtain⟨t',rfl⟩:=r'
       obtain⟨t'',rfl⟩:=r''
       refine call_range_3 (by decide) ?_ (Or.inl (PyProof.noPylong_small (by decide)))
       have I2:Inv X pins σ H1 {s1 with heap:=s1.heap.push {cls:=.type "range",data:=.fields #[.int ((n:Int)-1) t,.int (-1) t',.int (-1) t'']},toks:=s1.toks}:=I1.kept (t':=s1.toks) fun b o e=>Heap.get?_push_of_some _ e
       refine wpAny_pyIter_range (IsRange.new ..) ?_ ?_
       ·unfold Builtin.Range.small
        rw[xc3]
        simp only[Builtin.Range.rangeFitsLong,Bool.and_eq_true,Bool.or_eq_true,decide_eq_true_eq,beq_iff_eq,show ¬((-1:Int) > 0) by decide,if_false]
        omega
       refine⟨_,[_],_,_,H1,rfl,I2.kept (t':=s1.toks) fun b o e=>Heap.get?_push_of_some _ e,yk2 _ n,?_,fun b hb=>?_,q⟩
       ·have e1:(n:Int)-1+((0:Nat):Int)*(-1)=(n:Int)-1:=by simp
        have e2:(n:Int)-((0:Nat):Int)=n:=by simp
        rw[e1,e2]
        have:=Heap.get?_push_size (s1.heap.push {cls:=.type "range",data:=.fields #[.int ((n:Int)-1) t,.int (-1) t',.int (-1) t'']}) (o:={cls:=.type "range_iterator",data:=.fields #[rawInt ((n:Int)-1),rawInt (Builtin.Range.rangeSize ((n:Int)-1) (-1) (-1)),rawInt (-1)]}) rfl
        rw[xc3] at this ⊢
        exact this
       ·have e:b=(s1.heap.push {cls:=.type "range",data:=.fields #[.int ((n:Int)-1) t,.int (-1) t',.int (-1) t'']}).objs.size:=by simpa using hb
        subst e
        exact I2.fpOk (Nat.le_refl _) (I2.hok.fresh (Nat.le_refl _))
theorem yu4(h:ta σ H fun vs H1=>∃ n:Nat,vs=[.int ((n:Int)-1),.int (-1),.int (-1)]/\(n:Int)<2 ^ 62/\R (Itv n) H1):yl4 ta σ H R:=h
theorem wg9{i:Nat}{items}{x:Value}(hit:s.heap.IsTupleIter it l i)(hl:s.heap.IsTuple l items)(hx:items[i]?=some x)(hQ:∀ h',h'.IsTupleIter it l (i+1)->Heap.SameBut it s.heap h'->Q x {s with heap:=h'}) :
 wpAny (model prog w) A (Builtin.SmallTypes.nextOf (.ref it)) Q E s:=by
 obtain⟨o,ho,hc,hd⟩:=id hit
 obtain⟨ol,hol,_,nl,hdl⟩:=hl
 unfold Builtin.SmallTypes.nextOf
 refine wpAny_bind (wpAny_callSpecial?_slot (name:=Str.ofString "__next__") hit.typeIs F.slot_tuple_iterator_next
  (wpAny_call_entry F.slot_tuple_iterator_next hit.typeIs F.entry_tuple_iterator_next ?_ (F.args_tuple_iterator_next_1 _)))
 show wpAny _ _ (field (.ref it) 0 >>= _) _ _ s
 refine wpAny_bind (wpAny_field ho hd (x:=.ref l) rfl ?_)
 show wpAny _ _ (if(Value.ref l == Value.none)=true then _ else _) _ _ s
 rw[if_neg (show ¬((Value.ref l == Value.none)=true) from Bool.false_ne_true)]
 show wpAny _ _ (field (.ref it) 1 >>= _) _ _ s
 refine wpAny_bind (wpAny_field ho hd (x:=.int i 0) rfl ?_)
 show wpAny _ _ (seqItems? (.ref l) >>= _) _ _ s
 refine wpAny_bind (wpAny_seqItems hol hdl ?_)
 simp only[Int.toNat_natCast,hx]
 refine wpAny_bind (wpAny_setField ho hd (by simp) (wpAny_pure ⟨x,rfl,wpAny_pure (hQ _ ?_ (Heap.SameBut.update ..))⟩))
 exact⟨_,Heap.get?_update_self _ ho (Obj.isFreed_of_fields (Obj.data_mapFields hd _)),(Obj.cls_mapFields ..).trans hc,by
  rw[Obj.data_mapFields hd];simp[rawInt]⟩
theorem qp3{i:Nat}{items}(hh:A.handled=none)(hit:s.heap.IsTupleIter it l i)(hl:s.heap.IsTuple l items)(hx:items[i]?=none)(hE:∀ h' e,Heap.ExtBut it s.heap h'->(∃ o,h'.get? e=some o/\o.cls=.type "StopIteration")->E (.ref e) {s with heap:=h'}) :
 wpAny (model prog w) A (Builtin.SmallTypes.nextOf (.ref it)) Q E s:=by
 obtain⟨o,ho,hc,hd⟩:=id hit
 obtain⟨ol,hol,_,nl,hdl⟩:=hl
 unfold Builtin.SmallTypes.nextOf
 refine wpAny_bind (wpAny_callSpecial?_slot (name:=Str.ofString "__next__") hit.typeIs F.slot_tuple_iterator_next
  (wpAny_call_entry F.slot_tuple_iterator_next hit.typeIs F.entry_tuple_iterator_next ?_ (F.args_tuple_iterator_next_1 _)))
 show wpAny _ _ (field (.ref it) 0 >>= _) _ _ s
 refine wpAny_bind (wpAny_field ho hd (x:=.ref l) rfl ?_)
 show wpAny _ _ (if(Value.ref l == Value.none)=true then _ else _) _ _ s
 rw[if_neg (show ¬((Value.ref l == Value.none)=true) from Bool.false_ne_true)]
 show wpAny _ _ (field (.ref it) 1 >>= _) _ _ s
 refine wpAny_bind (wpAny_field ho hd (x:=.int i 0) rfl ?_)
 show wpAny _ _ (seqItems? (.ref l) >>= _) _ _ s
 refine wpAny_bind (wpAny_seqItems hol hdl ?_)
 simp only[Int.toNat_natCast,hx]
 refine wpAny_bind (wpAny_rule (wpAny_bind (wpAny_setField ho hd (by simp) ?_)))
 show wpAny _ _ (newExc (.type "StopIteration") [] >>= _) _ _ _
 refine wpAny_bind ?_
 simp only[newExc,newTuple]
 refine wpAny_bind (wpAny_newObj_type ?_ (by size_fits))
 refine wpAny_bind (m:=firstArgMember _ _) (wpAny_of_eq (a:=Value.none) (by first|rfl|(simp only[firstArgMember];rfl)) ?_)
 refine wpAny_newObj_type ?_ (by size_fits)
 simp only[raiseNew]
 refine wpAny_bind (wpAny_handled ?_)
 first|rw[show A.in1.handled=none from hh]|rw[hh]
 refine wpAny_bind (wpAny_pure (wpAny_throw ?_))
 exact hE _ _ (((Heap.SameBut.update ..).extBut.push _).push _) ⟨_,Heap.get?_push_size _ rfl,rfl⟩
theorem xm0(hh:A.handled=none)(it l:Addr)(hne:l≠it)(items:Array Value) :
 Draws prog w A it [it,l] items.size (fun i v=>items[i]?=some v) (fun i h=>h.IsTupleIter it l i/\h.IsTuple l items) where
 live:=fun _ _ st=>let ⟨o,ho,_⟩:=st.1;⟨o,ho⟩
 frame:=fun _ _ _ st hk=>⟨st.1.at fun o e=>hk it (by simp) o e,st.2.at fun o e=>hk l (by simp) o e⟩
 item:=fun i s Q E hi st hQ=>by
  refine wg9 st.1 st.2 (x:=items[i]) (by simp[hi]) fun h' hit' hs'=>?_
  exact hQ _ h' s.toks (by simp[hi]) ⟨hit',st.2.extBut hs'.extBut hne⟩ hs'
 done:=fun s Q E st hE=>qp3 hh st.1 st.2 (by simp) hE
set_option maxHeartbeats 1000000 in
theorem qx0(l:Addr)(items:Array Value)(n:Nat)(dct:Option Addr)(sl:Array (Option Value)) :
 Meets (Builtin.«enumerate.__new__» ⟨[.type "enumerate",.ref l],[]⟩) (fun _ R s=>s.heap.get? l=some {cls:=.type "tuple",dict:=dct,data:=.seq items n,slots:=sl} /\
  R (.ok (.ret (.ref (s.heap.push {cls:=.type "tuple_iterator",data:=.fields #[.ref l,.int 0 0]}).objs.size)))
   {s with heap:=(s.heap.push {cls:=.type "tuple_iterator",data:=.fields #[.ref l,.int 0 0]}).push {cls:=.type "enumerate",data:=.fields #[.none,.bool false,.ref s.heap.objs.size,rawInt 0,.none,.none]}}) :=
 .of_wp fun prog w A R s h=>by
  obtain⟨hp,g,d,tk,os⟩:=s;obtain⟨hl,h⟩:=h
  have hsub:=sub_enumerate
  have hL:Heap.IsTuple (Shared.heap ⟨hp,g,d,tk,os⟩) l items:=⟨_,hl,rfl,n,rfl⟩
  wp_walk using AutoSeq1.wpAny_loadPart' hl
  refine wpAny_stack_any fun st=>wpAny_pure ?_
  split
  ·rename_i c _ _ _ _ _
   cases (c == Value.type "enumerate")
   ·wp_walk using AutoSeq1.wpAny_loadPart' hl,wpAny_pyIter_tuple hL
    exact⟨_,rfl,h⟩
   ·wp_walk using AutoSeq1.wpAny_loadPart' hl,wpAny_pyIter_tuple hL
    exact⟨_,rfl,h⟩
  ·wp_walk using AutoSeq1.wpAny_loadPart' hl,wpAny_pyIter_tuple hL
   exact⟨_,rfl,h⟩
theorem qx1(hL:s.heap.IsTuple l items) (h:∀ h',IsEnum h' (s.heap.objs.size+1) s.heap.objs.size 0 .none->h'.IsTupleIter s.heap.objs.size l 0->h'.objs.size=s.heap.objs.size+2 ->
  (∀ b o,s.heap.get? b=some o->h'.get? b=some o)->Q (.ref (s.heap.objs.size+1)) {s with heap:=h'}) :
 wpAny (model prog w) A (call (.type "enumerate") [.ref l]) Q E s:=by
 obtain⟨⟨c,dct,dt,sl⟩,hl,hc,n,hd⟩:=hL
 replace hc:c=.type "tuple":=hc
 replace hd:dt=.seq items n:=hd
 subst hc hd
 refine callType_new F.called_enumerate (by decide) (F.typeCall_enumerate_1 _) (F.newCall_enumerate_1 _) (fun obj=>F.args_object_init_2 obj _) F.entry_enumerate_new
  (qx0 l items n dct sl) ⟨hl,?_⟩
 have hz:(s.heap.push {cls:=.type "tuple_iterator",data:=.fields #[.ref l,.int 0 0]}).objs.size=s.heap.objs.size+1:=Heap.size_push ..
 show _/\_
 rw[hz]
 have he:IsEnum ((s.heap.push {cls:=.type "tuple_iterator",data:=.fields #[.ref l,.int 0 0]}).push
  {cls:=.type "enumerate",data:=.fields #[.none,.bool false,.ref s.heap.objs.size,rawInt 0,.none,.none]}) (s.heap.objs.size+1) s.heap.objs.size 0 .none:=by
  have:=Heap.get?_push_size (s.heap.push {cls:=.type "tuple_iterator",data:=.fields #[.ref l,.int 0 0]})
   (o:={cls:=.type "enumerate",data:=.fields #[.none,.bool false,.ref s.heap.objs.size,rawInt 0,.none,.none]}) rfl
  rw[hz] at this;exact this
 refine⟨⟨_,he,rfl⟩,h _ he ⟨_,Heap.get?_push_of_some _ (Heap.get?_push_size _ rfl),rfl,rfl⟩ (by rw[Heap.size_push,hz]) fun b o y=>Heap.get?_push_of_some _ (Heap.get?_push_of_some _ y)⟩
def Ite(K:Fg)(a:Addr):It:=⟨fun i H=>∃ xs x,SqT K H a xs/\xs[i]?=some x,fun i H x H'=>∃ p y,x=.ref p/\H p=none/\(∀ xs,SqT K H a xs->xs[i]?=some y)/\H'=upd H p (.tup [.int i,y]),fun i H=>∃ xs,SqT K H a xs/\xs.length<=i⟩
theorem xs9(a e it:Addr)(hei:e≠it) :
 wk1 P w K (.Tuple elts k pos) (Ite K a) [e,it] e (fun i h=>(∃ old,IsEnum h e it i old)/\h.IsTupleIter it a i) where
 mem:=by simp
 obj:=by
  rintro i h ⟨⟨old,e1⟩,o2,e2,_,d2⟩ b hb
  have hb:b=e\/b=it:=by simpa using hb
  rcases hb with rfl|rfl
  ·exact⟨_,e1,fun v z=>by cases (show Data.fields _=Data.cell v from z)⟩
  ·exact⟨_,e2,fun v z=>by rw[d2] at z;cases z⟩
 keep:=fun i h h' st kk=>⟨let ⟨old,e1⟩:=st.1;⟨old,kk e (by simp) _ e1⟩,st.2.at fun o q=>kk it (by simp) o q⟩
 item:=by
  intro X hP hw hK hc i pins s σ H E I hf st hg
  subst hP hw hK
  obtain⟨xs,x,hq,hx⟩:=hg
  obtain⟨its,rv,p,hz⟩:=I.tuple hq
  obtain⟨u,hu,ru⟩:=rv.get hx
  have hil:i<its.toArray.size:=by rw[List.size_toArray];exact(List.getElem?_eq_some_iff.mp hu).1
  have pT:s.heap.IsTuple a its.toArray:=p
  have nea:a≠it:=fun z=>by
   obtain⟨o1,h1,c1,_⟩:=pT
   obtain⟨o2,h2,c2,_⟩:=st.2
   rw[z,h2] at h1
   cases h1
   rw[c1] at c2
   exact absurd c2 (by decide)
  have nee:e≠a:=fun z=>by
   obtain⟨o1,h1,c1,_⟩:=pT
   obtain⟨old,h2⟩:=st.1
   rw[<-z] at h1
   have h2:s.heap.get? e=some _:=h2
   rw[h2] at h1
   cases h1
   exact absurd c1 (show ¬(Value.type "enumerate"=Value.type "tuple") by decide)
  have W:=WalksT.enumerateD (prog:=X.prog) (w:=X.w) (A:=X.A) (xm0 (A:=X.A.in1) (show X.A.in1.handled=none from I.ok.hd hc) it a nea its.toArray) e hei (by simp[hei,nee]) (by simp)
  refine wpAny_with_toks (n:=1) I.tk (W.item i s _ _ hil ⟨st.1,st.2,pT⟩ fun T vs h' tk hv hT htup hmid kk ht=>?_)
  have ht:0<tk:=ht
  obtain⟨tk1,y,hy,rfl⟩:=hv
  have hy:its[i]?=some y:=by simpa using hy
  rw[hu] at hy
  injection hy with hy
  subst hy
  have hap:=W.apart i T h' hmid
  refine⟨_,rfl,W.go elts k pos i T {s with heap:=h',toks:=tk} _ _ hmid fun h2 st2 k2=>?_⟩
  have htup2:IsTup h2 T [Value.int i tk1,u].toArray:=by
   obtain⟨o,e,c⟩:=htup
   exact⟨o,k2 T o hap e,by simpa using c⟩
  have I1:Inv X pins σ (upd H T (.tup [.int i,x])) {s with heap:=h2,toks:=tk}:=I.turnLaid (ch:=[e,it]) (fun b hb=>hf b hb) (fun b u hb e=>k2 b u hb (kk b u hb e)) hT ⟨by rw[sizeLine_eq];simp,[Value.int i tk1,u],.cons ⟨tk1,rfl⟩ (.cons ru .nil),htup2⟩ ht
  refine⟨.ref T,_,I1,rfl,⟨T,x,rfl,I.hok.fresh hT,fun ys hy=>by rw[I.tuple_inj hy hq];exact hx,rfl⟩,⟨st2.1,st2.2.1⟩,fun b hb=>?_⟩
  have hb2:∃ o,s.heap.get? b=some o:=by
   have hb:b=e\/b=it:=by simpa using hb
   rcases hb with rfl|rfl
   ·obtain⟨old,e1⟩:=st.1;exact⟨_,e1⟩
   ·obtain⟨o,e1,_⟩:=st.2;exact⟨_,e1⟩
  obtain⟨o,e⟩:=hb2
  rw[B2 (Nat.ne_of_lt (Nat.lt_of_lt_of_le (Heap.lt_size e) hT))]
  exact(hf b hb).1
 done:=by
  intro X hP hw hK hc i pins s σ H E I hf st hg
  subst hP hw hK
  obtain⟨xs,hq,hx⟩:=hg
  obtain⟨its,rv,p,hz⟩:=I.tuple hq
  have pT:s.heap.IsTuple a its.toArray:=p
  have hno:its.toArray[i]?=none:=by
   have:=rv.length
   simp;omega
  obtain⟨old,he⟩:=st.1
  have D:Draws X.prog X.w X.A.in1 it [it,a] 0 (fun _ _=>True) (fun _ h=>h.IsTupleIter it a i/\h.IsTuple a its.toArray) :=
   { live:=fun _ _ st=>let ⟨o,ho,_⟩:=st.1;⟨o,ho⟩
     frame:=fun _ _ _ st hk=>⟨st.1.at fun o e=>hk it (by simp) o e,st.2.at fun o e=>hk a (by simp) o e⟩
     item:=fun j s Q E hj=>absurd hj (Nat.not_lt_zero _)
     done:=fun s Q E st hE=>qp3 (show X.A.in1.handled=none from I.ok.hd hc) st.1 st.2 hno hE}
  exact wpAny_pyNext_enum_endD D he ⟨st.2,pT⟩ fun h' hx=>⟨rfl,I.turnedL (ch:=[e,it]) (t':=s.toks) (fun b hb=>hf b hb) (fun b o hb y=>hx b o (fun z=>hb (by simp[z])) y) I.tk⟩
 self:=fun A i s Q E st h=>let ⟨old,e1⟩:=st.1;wpAny_pyIter_enum e1 h
def xf8(K:Fg)(ta:TA):TI:=fun σ H R=>ta σ H fun vs H1=>∃ a xs,vs=[.ref a]/\SqT K H1 a xs/\R (Ite K a) H1
theorem xm1{p:Pos}{l:Expr}(hg:Gl X "enumerate")(hm:X.mg "enumerate"=none)(ha:PA X [l] ta)(hs:autoParam (starEach [l] X.env=[(false,eval l X.env)]) zAr) :
 PI X (.Tuple elts k tpos) (.Call (.Name "enumerate" p) [l] [] pos) (xf8 X.K ta):=by
 intro pins s σ H R I h
 refine Call_ (qi4 I hg hm boot_enumerate (PyProof.Rows.callWith_type1 (thn (ha pos pins s σ H _ I h) fun us s1 zq=>?_) hs rfl))
 obtain⟨vs,H1,I1,r1,q1⟩:=zq
 obtain⟨a,xs,e,hq,q⟩:=q1
 subst e
 obtain⟨v,rfl,rv⟩:=qi7 r1
 cases rv
 obtain⟨its,rv,pT,hz⟩:=I1.tuple hq
 refine qx1 (show s1.heap.IsTuple a its.toArray from pT) fun h' he hit hz hk=>?_
 have I2:Inv X pins σ H1 {s1 with heap:=h'}:=I1.kept (t':=s1.toks) hk
 refine wpAny_pyIter_enum he ?_
 have ne:s1.heap.objs.size+1≠s1.heap.objs.size:=by omega
 refine⟨s1.heap.objs.size+1,_,_,_,H1,rfl,I2,xs9 a (s1.heap.objs.size+1) s1.heap.objs.size ne,⟨⟨_,he⟩,hit⟩,fun b hb=>?_,q⟩
 have hb:b=s1.heap.objs.size+1\/b=s1.heap.objs.size:=by simpa using hb
 rcases hb with rfl|rfl
 ·exact I1.fpOk (Nat.le_succ _) (I1.hok.fresh (Nat.le_succ _))
 ·exact I1.fpOk (Nat.le_refl _) (I1.hok.fresh (Nat.le_refl _))
theorem yl5(h:ta σ H fun vs H1=>∃ a xs,vs=[.ref a]/\SqT K H1 a xs/\R (Ite K a) H1):xf8 K ta σ H R:=h
theorem xc4(hq:SqT K H a xs)(Pv:Nat->St->Hp->Prop)(h0:Pv 0 σ H)(hk:∀ i σ H',Pv i σ H'->SqT K H' a xs)(hs:∀ i x σ H p,xs[i]?=some x->Pv i σ H->H p=none->g (.ref p) σ (upd H p (.tup [.int i,x])) fun σ2 H2=>tb {D with nx:=PAt Pv (i+1),ct:=PAt Pv (i+1),bk:=D.nx} σ2 H2)(hd:∀ σ H,Pv xs.length σ H->D.nx σ H) :
 ∃ b ys,[V.ref a]=[.ref b]/\SqT K H b ys/\wg5 g tb D σ (Ite K b) H:=by
 refine⟨a,xs,rfl,hq,fun i m σ H=>m=xs.length-i/\i<=xs.length/\Pv i σ H,⟨xs.length,by simp,Nat.zero_le _,h0⟩,?_⟩
 rintro i m σ H ⟨rfl,hi,p⟩
 have sq:=hk i σ H p
 by_cases hlt:i<xs.length
 ·refine .inr ⟨⟨xs,xs[i],sq,by simp[hlt]⟩,Pv (i+1),fun σ' H' p'=>⟨xs.length-(i+1),by omega,rfl,hlt,p'⟩,fun x H' y=>?_⟩
  obtain⟨t,z,rfl,ht,hz,rfl⟩:=y
  exact hs i z σ H t (hz xs sq) p ht
 ·have e:i=xs.length:=by omega
  subst e
  exact .inl ⟨⟨xs,sq,Nat.le_refl _⟩,hd σ H p⟩
theorem yl6(hn:(n:Int)<2 ^ 62)(Pv:Nat->St->Hp->Prop)(p0:Pv 0 σ H)(hs:∀ (i:Nat) σ H,i<n->Pv i σ H->g (.int ((n:Int)-1-i)) σ H fun σ2 H2=>tb {D with nx:=PAt Pv (i+1),ct:=PAt Pv (i+1),bk:=D.nx} σ2 H2)(hd:∀ σ H,Pv n σ H->D.nx σ H) :
 ∃ m:Nat,[V.int ((n:Int)-1),V.int (-1),V.int (-1)]=[.int ((m:Int)-1),.int (-1),.int (-1)]/\(m:Int)<2 ^ 62/\wg5 g tb D σ (Itv m) H:=by
 obtain⟨m,e,h1,h2⟩:=yt7 hn Pv p0 hs hd
 injection e with e
 injection e with e
 have:n=m:=by omega
 subst this
 exact⟨n,rfl,h1,h2⟩
section
variable{Q:VK}
theorem yl7(h1:H p=some (.lst xs))(h2:H b=some (.lst zs))(hz:xs.length+zs.length<=sizeLine)(h:Q .non (upd H p (.lst (xs++zs)))):wq8 (.ref p) [.ref b] H Q:=⟨p,b,xs,zs,rfl,rfl,h1,h2,hz,h⟩
end
def Itb(K:Fg)(a:Addr)(n:Nat):It :=
 ⟨fun i H=>i<n/\∃ xs x,SqL K H a xs/\xs[n-1-i]?=some x,fun i H x H'=>H'=H/\∀ xs,SqL K H a xs->xs[n-1-i]?=some x,fun i _=>i=n⟩
theorem ye6{tg:Expr}(a it:Addr)(n:Nat):wk1 P w K tg (Itb K a n) [it] it (fun i h=>h.IsRevIter it a ((n:Int)-1-(i:Int))) where
 mem:=by simp
 obj:=fun i h st b hb=>by
  have e:b=it:=by simpa using hb
  subst e
  obtain⟨o,e,c,d⟩:=st
  exact⟨o,e,fun v z=>by rw[d] at z;cases z⟩
 keep:=fun i h h' st k=>st.at fun o e=>k it (by simp) o e
 item:=by
  intro X hP hw hK hc i pins s σ H E I hf st hg
  subst hP hw hK
  obtain⟨hi,xs,x,hq,hx⟩:=hg
  obtain⟨its,rv,p,hz⟩:=I.list hq
  obtain⟨u,hu,ru⟩:=rv.get hx
  obtain⟨f0,f1,f2,f3,f4,f5⟩:=hf it (by simp)
  have e:(n:Int)-1-(i:Int)=((n-1-i:Nat):Int):=by omega
  have st1:=st
  rw[e] at st1
  refine wpAny_pyNext_rev_item st1 p.isList (x:=u) (by simpa using hu) fun h' st' sb=>?_
  have I1:Inv X pins σ H {s with heap:=h'}:=I.turned (t':=s.toks) (fun b o hb e=>(sb.2 b hb).trans e) f0 f1 f3 f4 f5
  obtain⟨o,e',c,d⟩:=id st'
  have e2:((n-1-i:Nat):Int)-1=(n:Int)-1-((i+1:Nat):Int):=by omega
  rw[e2] at st'
  exact⟨u,rfl,wr7 (s:={s with heap:=h'}) e' c d (by decide) ⟨x,H,I1,ru,⟨rfl,fun ys hy=>by rw[I.list_inj hy hq];exact hx⟩,st',fun b hb=>(hf b hb).1⟩⟩
 done:=by
  intro X hP hw hK hc i pins s σ H E I hf st hg
  subst hP hw hK
  have hg:i=n:=hg
  subst hg
  obtain⟨f0,f1,f2,f3,f4,f5⟩:=hf it (by simp)
  have e:(i:Int)-1-(i:Int)=-1:=by omega
  have st1:=st
  rw[e] at st1
  exact wpAny_pyNext_rev_end (I.ok.hd hc) st1 fun h' eb=>⟨rfl,I.turned (t':=s.toks) (fun b o hb e=>eb b o hb e) f0 f1 f3 f4 f5⟩
 self:=fun _ _ _ _ _ st h=>wpAny_pyIter_revIter st h
def xy2(K:Fg)(ta:TA):TI:=fun σ H R=>ta σ H fun vs H1=>∃ a xs,vs=[.ref a]/\SqL K H1 a xs/\R (Itb K a xs.length) H1
theorem yu5{tg:Expr}{l:Expr}{p:Pos}(hg:Gl X "reversed")(hm:X.mg "reversed"=none)(ha:PA X [l] ta)(hs:autoParam (starEach [l] X.env=[(false,eval l X.env)]) zAr) :
 PI X tg (.Call (.Name "reversed" p) [l] [] pos) (xy2 X.K ta):=by
 intro pins s σ H R I h
 refine Call_ (qi4 I hg hm boot_reversed (PyProof.Rows.callWith_type1 (thn (ha pos pins s σ H _ I h) fun us s1 zq=>?_) hs rfl))
 obtain⟨vs,H1,I1,r1,q1⟩:=zq
 obtain⟨a,xs,e,hq,q⟩:=q1
 subst e
 obtain⟨v,rfl,rv⟩:=qi7 r1
 cases rv
 obtain⟨its,rv,p,hz⟩:=I1.list hq
 refine call_reversed_list p.isList ?_
 have e:((its.toArray.size:Nat):Int)-1=(xs.length:Int)-1-((0:Nat):Int):=by rw[rv.length];simp
 rw[e]
 have hit:Heap.IsRevIter (s1.heap.push (revObj a ((xs.length:Int)-1-((0:Nat):Int)))) s1.heap.objs.size a ((xs.length:Int)-1-((0:Nat):Int)):=⟨_,Heap.get?_push_size _ rfl,rfl,rfl⟩
 refine wpAny_pyIter_revIter hit ?_
 refine⟨s1.heap.objs.size,[s1.heap.objs.size],_,_,H1,rfl,I1.kept (t':=s1.toks) fun b o e=>Heap.get?_push_of_some _ e,ye6 a _ xs.length,hit,fun b hb=>?_,q⟩
 have e:b=s1.heap.objs.size:=by simpa using hb
 subst e
 exact I1.fpOk (Nat.le_refl _) (I1.hok.fresh (Nat.le_refl _))
section
variable{Q:VK}
theorem xy3(h:ta σ H fun vs H1=>∃ a xs,vs=[.ref a]/\SqL K H1 a xs/\R (Itb K a xs.length) H1):xy2 K ta σ H R:=h
theorem yl8(hq:SqL K H a xs)(Pv:Nat->St->Hp->Prop)(h0:Pv 0 σ H)(hk:∀ i σ H',Pv i σ H'->SqL K H' a xs)(hs:∀ i x σ H,xs[xs.length-1-i]?=some x->i<xs.length->Pv i σ H->g x σ H fun σ2 H2=>tb {D with nx:=PAt Pv (i+1),ct:=PAt Pv (i+1),bk:=D.nx} σ2 H2)(hd:∀ σ H,Pv xs.length σ H->D.nx σ H) :
 ∃ b ys,[V.ref a]=[.ref b]/\SqL K H b ys/\wg5 g tb D σ (Itb K b ys.length) H:=by
 refine⟨a,xs,rfl,hq,fun i m σ H=>m=xs.length-i/\i<=xs.length/\Pv i σ H,⟨xs.length,by simp,Nat.zero_le _,h0⟩,?_⟩
 rintro i m σ H ⟨rfl,hi,p⟩
 have sq:=hk i σ H p
 by_cases hlt:i<xs.length
 ·refine .inr ⟨⟨hlt,xs,xs[xs.length-1-i],sq,List.getElem?_eq_getElem (by omega)⟩,Pv (i+1),fun σ' H' p'=>⟨xs.length-(i+1),by omega,rfl,hlt,p'⟩,fun x H' y=>?_⟩
  obtain⟨rfl,hz⟩:=y
  exact hs i x σ _ (hz xs sq) hlt p
 ·have e:i=xs.length:=by omega
  subst e
  exact .inl ⟨rfl,hd σ H p⟩
end
section
variable{t:TE}
def tFs(c1 c2:Str)(t:TE):TE:=fun σ H Q=>t σ H fun x H1=>∃ z,x=.str z/\z.length<=4096/\Q (.str (c1++z++c2)) H1
theorem yy6{c1 c2:Str}{p3:Pos}(he:PE X e t)(h1:autoParam (c1.length<=4096) zAd)(h2:autoParam (c2.length<=4096) zAd) :
 PE X (.JoinedStr [.Constant (.str c1) j1 p1,.FormattedValue e (-1) none p2,.Constant (.str c2) j2 p3] pos) (tFs c1 c2 t):=by
 intro pins s σ H Q I h
 have e0:Str.empty++c1=c1:=Str.empty_append c1
 have hs:sizeLine=16777216:=sizeLine_eq
 refine JoinedStr_many (joinParts_cons (Calls.Constant_str ?_))
 refine⟨by rw[e0,hs];omega,?_⟩
 rw[e0]
 refine joinParts_cons (FormattedValue_plain (thn (he pins _ σ H _ (I.tok _) h) fun u s1 zq=>?_))
 obtain⟨x,H1,I1,r1,z,e1,hz,q⟩:=zq
 subst e1
 obtain⟨tk,rfl⟩:=r1
 refine wpAny_with_toks (n:=1) I1.tk (formatField_str (fun t' tk'=>?_) (by rw[hs];omega))
 intro htk
 refine⟨by rw[strLen_append,hs];omega,?_⟩
 refine joinParts_consE (joinParts_cons (Calls.Constant_str ?_))
 refine⟨by rw[strLen_append,strLen_append,hs];omega,joinParts_nilE (joinParts_nil ?_ (by rw[strLen_append,strLen_append,hs];omega))⟩
 exact⟨.str (c1++z++c2),H1,I1.tok _,⟨_,rfl⟩,q⟩
end
theorem xc5:Manifest.owners.lookup (String.ofList ['d','e','s','r','e','v','e','r'].reverse)=some Manifest.sig_reversed:=by kernel_rfl
theorem W7:Slot "reversed" "__next__" "reversed.__next__" :=
 .of (owner := "reversed") (n := "__next__") (by rw[typeLookup_type,builtinLookup_eq_fast];kernel_rfl) (by decide +kernel) (by decide +kernel) (by decide +kernel)
  (by first|exact .inl (by decide +kernel)|exact .inr (by decide +kernel)) (by rw[isSubtype_type];kernel_rfl)
theorem qx2:entryFor table "reversed.__next__"=some Builtin.«reversed.__next__»:=entryFor_of_tree (by kernel_rfl)
theorem qt4(a:Value):argsOk "reversed.__next__" ⟨[a],[]⟩:=by
 unfold argsOk;rw[signature?_of (id := "reversed.__next__") (n:=['_','_','t','x','e','n','_','_']) (o:=['d','e','s','r','e','v','e','r']) (by kernel_rfl) xc5];kernel_rfl
theorem wc5:Slot "reversed" "__iter__" "reversed.__iter__" :=
 .of (owner := "reversed") (n := "__iter__") (by rw[typeLookup_type,builtinLookup_eq_fast];kernel_rfl) (by decide +kernel) (by decide +kernel) (by decide +kernel)
  (by first|exact .inl (by decide +kernel)|exact .inr (by decide +kernel)) (by rw[isSubtype_type];kernel_rfl)
theorem wp4(a:Value):argsOk "reversed.__iter__" ⟨[a],[]⟩:=by
 unfold argsOk;rw[signature?_of (id := "reversed.__iter__") (n:=['_','_','r','e','t','i','_','_']) (o:=['d','e','s','r','e','v','e','r']) (by kernel_rfl) xc5];kernel_rfl
theorem wt7:entryFor table "reversed.__iter__"=some Builtin.«dict_keyiterator.__iter__» :=
 entryFor_alias (id' := "dict_keyiterator.__iter__") (by kernel_rfl) (by first | rfl | decide +kernel | (unfold String.splitOn; simp +decide [String.splitOnAux])) (by decide +kernel) (by kernel_rfl)
theorem wy5:Slot "reversed" "__init__" "object.__init__" :=
 .of (owner := "object") (n := "__init__") (by rw[typeLookup_type,builtinLookup_eq_fast];kernel_rfl) (by decide +kernel) (by decide +kernel) (by decide +kernel)
  (by first|exact .inl (by decide +kernel)|exact .inr (by decide +kernel)) (by rw[isSubtype_type];kernel_rfl)
theorem wp5:TypeCalled "reversed" "reversed.__new__" "object.__init__" :=
 ⟨by decide +kernel,by decide +kernel,⟨_,_,F.mro_reversed⟩,F.made_reversed,by decide +kernel,by rw[isSubtype_type];kernel_rfl,wy5⟩
theorem wp6:typeLookup (.type "tuple") "__reversed__"=pure none:=by rw[typeLookup_type,builtinLookup_eq_fast];kernel_rfl
theorem qx3:typeLookup (.type "tuple") "__getitem__"=pure (some (.builtin "tuple.__getitem__")):=by rw[typeLookup_type,builtinLookup_eq_fast];kernel_rfl
def xt0(l:Addr)(i:Int):Obj:={cls:=.type "reversed",data:=.fields #[.ref l,rawInt i]}
def qx4(h:Heap)(a l:Addr)(i:Int):Prop:=∃ o,h.get? a=some o/\o.cls=.type "reversed"/\o.data=.fields #[.ref l,rawInt i]
theorem qx4.typeIs(x:qx4 s.heap a l i):s.TypeIs (.ref a) "reversed":=let ⟨o,ho,hc,_⟩:=x;⟨o,ho,hc⟩
theorem qx4.at(x:qx4 h a l i)(e:∀ o,h.get? a=some o->h'.get? a=some o):qx4 h' a l i:=let ⟨o,ho,r⟩:=x;⟨o,e _ ho,r⟩
theorem wb6(l:Addr)(items:Array Value)(hz:(items.size:Int)<2 ^ 63) :
 Meets (Builtin.«reversed.__new__» ⟨[.type "reversed",.ref l],[]⟩) (fun _ R s=>IsTup s.heap l items /\
  R (.ok (.ret (.ref s.heap.objs.size))) {s with heap:=s.heap.push (xt0 l ((items.size:Int)-1)),toks:=s.toks+1+1}) :=
 .of_wp fun prog w A R s h=>by
  obtain⟨ht,h⟩:=h
  unfold Builtin.«reversed.__new__»
  refine wpAny_bind (wpAny_of_eq (newClass_reversed _) ?_)
  try dsimp only
  refine wpAny_bind (wpAny_of_eq (a:=()) (by first|rfl|kernel_rfl) ?_)
  refine wpAny_bind (wpAny_of_eq (a:=()) (by first|rfl|kernel_rfl) ?_)
  try dsimp only
  refine wpAny_bind (wpAny_specialOf ht.typeIs wp6 ?_)
  try dsimp only
  refine wpAny_bind ?_
  show wpAny _ _ (isInstance (.ref l) (.type "dict") >>= _) _ _ _
  refine wpAny_bind (wpAny_isInstance ht.typeIs sub_tuple_dict ?_)
  try dsimp only
  rw[if_neg (by decide)]
  refine wpAny_bind (wpAny_specialOf ht.typeIs qx3 ?_)
  try dsimp only
  rw[if_pos (by decide)]
  refine wpAny_pure ?_
  try dsimp only
  rw[if_neg (by decide)]
  refine wpAny_bind (len_tuple ht hz ?_)
  refine wpAny_bind (m:=asInt? _) (wpAny_of_eq (a:=some (items.size:Int)) rfl ?_)
  try dsimp only
  refine wpAny_bind ?_
  show wpAny _ _ (newObj (.type "reversed") (.fields #[.ref l,rawInt ((items.size:Int)-1)]) none) _ _ _
  refine wpAny_newObj_type ?_ (by size_fits)
  exact wpAny_pure ⟨_,rfl,h⟩
theorem wh0(hl:IsTup s.heap l items)(hz:(items.size:Int)<2 ^ 63)(h:Q (.ref s.heap.objs.size) {s with heap:=s.heap.push (xt0 l ((items.size:Int)-1)),toks:=s.toks+1+1}):wpAny (model prog w) A (call (.type "reversed") [.ref l]) Q E s :=
 callType_new wp5 (by decide) (F.typeCall_reversed_1 _) (F.newCall_reversed_1 _) (fun obj=>F.args_object_init_2 obj _) F.entry_reversed_new (wb6 l items hz)
  ⟨hl,⟨_,Heap.get?_push_size _ rfl,rfl⟩,h⟩
theorem wp7{i:Nat}{x:Value}{Q:Option Value->Shared->Prop}(hit:qx4 s.heap it l (i:Int))(hl:IsTup s.heap l items)(hi:(i:Int)<2 ^ 63)(hx:items[i]?=some x)(hQ:∀ h' tk,qx4 h' it l ((i:Int)-1)->Heap.SameBut it s.heap h'->Q (some x) {s with heap:=h',toks:=tk}):wpAny (model prog w) A (pyNext (.ref it)) Q E s:=by
 obtain⟨o,ho,hc,hd⟩:=id hit
 unfold pyNext
 refine wpAny_bind (wpAny_attempt (wpAny_callSpecial?_slot (name:=Str.ofString "__next__") hit.typeIs W7
  (wpAny_call_entry W7 hit.typeIs qx2 ?_ (qt4 _))))
 unfold Builtin.«reversed.__next__»
 refine wpAny_bind (wpAny_of_eq (a:=(Value.ref it,[])) rfl ?_)
 try dsimp only
 refine wpAny_bind (wpAny_field ho hd (x:=.ref l) rfl ?_)
 refine wpAny_bind (wpAny_field ho hd (x:=rawInt (i:Int)) rfl ?_)
 show wpAny _ _ (if(i:Int)<0 then _ else _) _ _ s
 rw[if_neg (by omega)]
 refine wpAny_bind (wpAny_specialOf hl.typeIs qx3 ?_)
 try dsimp only
 rw[if_neg (by decide)]
 have hil:i<items.size:=(Array.getElem?_eq_some_iff.mp hx).1
 refine wpAny_bind (wpAny_mkInt ?_)
 refine wpAny_bind (wpAny_attempt (getItem_tuple (j:=i) hl (by omega) hi (by unfold seqIndex?;simp;omega) hx ?_))
 try dsimp only
 refine wpAny_bind (wpAny_field (s:={s with toks:=s.toks+1}) ho hd (x:=rawInt (i:Int)) rfl ?_)
 show wpAny _ _ (setField (.ref it) 1 (rawInt ((i:Int)-1)) >>= _) _ _ _
 refine wpAny_bind (wpAny_setField (s:={s with toks:=s.toks+1}) ho hd (by simp) ?_)
 refine wpAny_pure ⟨x,rfl,wpAny_pure (hQ _ _ ?_ (Heap.SameBut.update ..))⟩
 exact⟨_,Heap.get?_update_self _ ho (Obj.isFreed_of_fields (Obj.data_mapFields hd _)),(Obj.cls_mapFields ..).trans hc,by
  rw[Obj.data_mapFields hd];simp⟩
theorem wt8{Q:Option Value->Shared->Prop}(hh:A.handled=none)(hit:qx4 s.heap it l (-1))(hQ:∀ h',Heap.ExtBut it s.heap h'->Q none {s with heap:=h'}):wpAny (model prog w) A (pyNext (.ref it)) Q E s:=by
 obtain⟨o,ho,hc,hd⟩:=id hit
 unfold pyNext
 refine wpAny_bind (wpAny_attempt (wpAny_callSpecial?_slot (name:=Str.ofString "__next__") hit.typeIs W7
  (wpAny_call_entry W7 hit.typeIs qx2 ?_ (qt4 _))))
 unfold Builtin.«reversed.__next__»
 refine wpAny_bind (wpAny_of_eq (a:=(Value.ref it,[])) rfl ?_)
 try dsimp only
 refine wpAny_bind (wpAny_field ho hd (x:=.ref l) rfl ?_)
 refine wpAny_bind (wpAny_field ho hd (x:=rawInt (-1)) rfl ?_)
 show wpAny _ _ (if(-1:Int)<0 then _ else _) _ _ s
 rw[if_pos (by decide)]
 refine wpAny_bind (wpAny_rule ?_)
 refine wpAny_bind ?_
 show wpAny _ _ (setField (.ref it) 1 (rawInt (-1)) >>= _) _ _ _
 refine wpAny_bind (wpAny_setField ho hd (by simp) ?_)
 have h1:=Heap.get?_update_self (Obj.mapFields (·.setIfInBounds 1 (rawInt (-1)))) ho (Obj.isFreed_of_fields (Obj.data_mapFields hd _))
 have d1:=Obj.data_mapFields hd (·.setIfInBounds 1 (rawInt (-1)))
 refine wpAny_setField (s:={s with heap:=_}) h1 d1 (by simp) ?_
 have eb:Heap.ExtBut it s.heap ((s.heap.update it (Obj.mapFields (·.setIfInBounds 1 (rawInt (-1))))).update it (Obj.mapFields (·.setIfInBounds 0 Value.none))):=by
  intro b u hb e
  exact((Heap.SameBut.update _ _ _).2 b hb).trans (((Heap.SameBut.update _ _ _).2 b hb).trans e)
 first
 | show wpAny _ _ (newExc (.type "StopIteration") [] >>= _) _ _ _
 | (refine wpAny_bind ?_;show wpAny _ _ (newExc (.type "StopIteration") [] >>= _) _ _ _)
 refine wpAny_bind ?_
 simp only[newExc,newTuple]
 refine wpAny_bind (wpAny_newObj_type ?_ (by size_fits))
 refine wpAny_bind (m:=firstArgMember _ _) (wpAny_of_eq (a:=Value.none) (by first|rfl|(simp only[firstArgMember];rfl)) ?_)
 refine wpAny_newObj_type ?_ (by size_fits)
 simp only[raiseNew]
 refine wpAny_bind (wpAny_handled ?_)
 first|rw[show A.in1.handled=none from hh]|rw[hh]
 refine wpAny_bind (wpAny_pure (wpAny_throw ?_))
 refine wpAny_bind (wpAny_isInstance (T := "StopIteration") (b:=true) ⟨_,Heap.get?_push_size _ rfl,rfl⟩ isSubtype_stop ?_)
 exact wpAny_pure (hQ _ ((eb.push _).push _))
theorem wt9(hit:qx4 s.heap it l i)(h:Q (.ref it) s):wpAny (model prog w) A (pyIter (.ref it)) Q E s:=by
 refine wpAny_pyIter_slot hit.typeIs wc5 (wpAny_call_entry wc5 hit.typeIs wt7 ?_ (wp4 _))
 show wpAny _ _ (ret (.ref it)) _ _ s
 exact wpAny_pure ⟨_,rfl, "reversed",_,hit.typeIs,W7.lookup,h⟩
def yu6(K:Fg)(a:Addr)(n:Nat):It :=
 ⟨fun i H=>i<n/\∃ xs x,SqT K H a xs/\xs[n-1-i]?=some x,fun i H x H'=>H'=H/\∀ xs,SqT K H a xs->xs[n-1-i]?=some x,fun i _=>i=n⟩
theorem ye7{tg:Expr}(a it:Addr)(n:Nat):wk1 P w K tg (yu6 K a n) [it] it (fun i h=>qx4 h it a ((n:Int)-1-(i:Int))) where
 mem:=by simp
 obj:=fun i h st b hb=>by
  have e:b=it:=by simpa using hb
  subst e
  obtain⟨o,e,c,d⟩:=st
  exact⟨o,e,fun v z=>by rw[d] at z;cases z⟩
 keep:=fun i h h' st k=>st.at fun o e=>k it (by simp) o e
 item:=by
  intro X hP hw hK hc i pins s σ H E I hf st hg
  subst hP hw hK
  obtain⟨hi,xs,x,hq,hx⟩:=hg
  obtain⟨its,rv,p,hz⟩:=I.tuple hq
  obtain⟨u,hu,ru⟩:=rv.get hx
  obtain⟨f0,f1,f2,f3,f4,f5⟩:=hf it (by simp)
  have e:(n:Int)-1-(i:Int)=((n-1-i:Nat):Int):=by omega
  have st1:=st
  rw[e] at st1
  have hlt:=(List.getElem?_eq_some_iff.mp hx).1
  have hs:sizeLine=16777216:=sizeLine_eq
  refine wpAny_with_toks (n:=1) I.tk (wp7 st1 p (by omega) (x:=u) (by simpa using hu) fun h' tk st' sb=>?_)
  intro htk
  have I1:Inv X pins σ H {s with heap:=h',toks:=tk}:=I.turned (t':=tk) (fun b o hb e=>(sb.2 b hb).trans e) f0 f1 f3 f4 f5
  obtain⟨o,e',c,d⟩:=id st'
  have e2:((n-1-i:Nat):Int)-1=(n:Int)-1-((i+1:Nat):Int):=by omega
  rw[e2] at st'
  exact⟨u,rfl,wr7 (s:={s with heap:=h',toks:=tk}) e' c d (by decide) ⟨x,H,I1,ru,⟨rfl,fun ys hy=>by rw[I.tuple_inj hy hq];exact hx⟩,st',fun b hb=>(hf b hb).1⟩⟩
 done:=by
  intro X hP hw hK hc i pins s σ H E I hf st hg
  subst hP hw hK
  have hg:i=n:=hg
  subst hg
  obtain⟨f0,f1,f2,f3,f4,f5⟩:=hf it (by simp)
  have e:(i:Int)-1-(i:Int)=-1:=by omega
  have st1:=st
  rw[e] at st1
  exact wt8 (I.ok.hd hc) st1 fun h' eb=>⟨rfl,I.turned (t':=s.toks) (fun b o hb e=>eb b o hb e) f0 f1 f3 f4 f5⟩
 self:=fun _ _ _ _ _ st h=>wt9 st h
def yl9(K:Fg)(ta:TA):TI:=fun σ H R=>ta σ H fun vs H1=>∃ a xs,vs=[.ref a]/\SqT K H1 a xs/\R (yu6 K a xs.length) H1
theorem yu7{tg:Expr}{l:Expr}{p:Pos}(hg:Gl X "reversed")(hm:X.mg "reversed"=none)(ha:PA X [l] ta)(hs:autoParam (starEach [l] X.env=[(false,eval l X.env)]) zAr) :
 PI X tg (.Call (.Name "reversed" p) [l] [] pos) (yl9 X.K ta):=by
 intro pins s σ H R I h
 refine Call_ (qi4 I hg hm boot_reversed (PyProof.Rows.callWith_type1 (thn (ha pos pins s σ H _ I h) fun us s1 zq=>?_) hs rfl))
 obtain⟨vs,H1,I1,r1,q1⟩:=zq
 obtain⟨a,xs,e,hq,q⟩:=q1
 subst e
 obtain⟨v,rfl,rv⟩:=qi7 r1
 cases rv
 obtain⟨its,rv,p,hz⟩:=I1.tuple hq
 have hsz:sizeLine=16777216:=sizeLine_eq
 have hlen:=rv.length
 refine wh0 p (by simp only[List.size_toArray];omega) ?_
 have e:((its.toArray.size:Nat):Int)-1=(xs.length:Int)-1-((0:Nat):Int):=by rw[rv.length];simp
 rw[e]
 have hit:qx4 (s1.heap.push (xt0 a ((xs.length:Int)-1-((0:Nat):Int)))) s1.heap.objs.size a ((xs.length:Int)-1-((0:Nat):Int)):=⟨_,Heap.get?_push_size _ rfl,rfl,rfl⟩
 refine wt9 hit ?_
 refine⟨s1.heap.objs.size,[s1.heap.objs.size],_,_,H1,rfl,I1.kept (t':=s1.toks+1+1) fun b o e=>Heap.get?_push_of_some _ e,ye7 a _ xs.length,hit,fun b hb=>?_,q⟩
 have e:b=s1.heap.objs.size:=by simpa using hb
 subst e
 exact I1.fpOk (Nat.le_refl _) (I1.hok.fresh (Nat.le_refl _))
section
variable{Q:VK}
theorem yu8(h:ta σ H fun vs H1=>∃ a xs,vs=[.ref a]/\SqT K H1 a xs/\R (yu6 K a xs.length) H1):yl9 K ta σ H R:=h
end
section
variable{Q:VK}
theorem ym0(hq:SqT K H a xs)(Pv:Nat->St->Hp->Prop)(h0:Pv 0 σ H)(hk:∀ i σ H',Pv i σ H'->SqT K H' a xs)(hs:∀ i x σ H,xs[xs.length-1-i]?=some x->i<xs.length->Pv i σ H->g x σ H fun σ2 H2=>tb {D with nx:=PAt Pv (i+1),ct:=PAt Pv (i+1),bk:=D.nx} σ2 H2)(hd:∀ σ H,Pv xs.length σ H->D.nx σ H) :
 ∃ b ys,[V.ref a]=[.ref b]/\SqT K H b ys/\wg5 g tb D σ (yu6 K b ys.length) H:=by
 refine⟨a,xs,rfl,hq,fun i m σ H=>m=xs.length-i/\i<=xs.length/\Pv i σ H,⟨xs.length,by simp,Nat.zero_le _,h0⟩,?_⟩
 rintro i m σ H ⟨rfl,hi,p⟩
 have sq:=hk i σ H p
 by_cases hlt:i<xs.length
 ·refine .inr ⟨⟨hlt,xs,xs[xs.length-1-i],sq,List.getElem?_eq_getElem (by omega)⟩,Pv (i+1),fun σ' H' p'=>⟨xs.length-(i+1),by omega,rfl,hlt,p'⟩,fun x H' y=>?_⟩
  obtain⟨rfl,hz⟩:=y
  exact hs i x σ _ (hz xs sq) hlt p
 ·have e:i=xs.length:=by omega
  subst e
  exact .inl ⟨rfl,hd σ H p⟩
end
def xy4:V->List V->Hp->VK->Prop:=fun x xs H Q=>∃ z c:Str,x=.str z/\xs=[.str c]/\z.length<=1000000/\Q (.str (PySem.Txt.stripChars z c)) H
theorem ye8:MtR X "str.strip" xy4:=by
 intro pins s σ H x vs v us Q I rx rv h
 obtain⟨z,c,rfl,rfl,hz,q⟩:=h
 obtain⟨t,rfl⟩:=rx
 obtain⟨u,rfl,ru⟩:=rv.one
 obtain⟨t',rfl⟩:=ru
 refine wpAny_with_toks (n:=1) I.tk (call_gives F.slot_str_strip (typeIs_str _ _ _) F.entry_str_strip (F.args_str_strip_2 _ _) (gives_str_strip_chars z c t t') (post_val_or_made (fun _=>fits_stripped _ _ _ (by rw[sizeLine_eq];omega)) fun t2 k=>?_))
 intro hk
 exact⟨.str (PySem.Txt.stripChars z c),H,I.tok _ hk,⟨_,rfl⟩,q⟩
section
variable{Q:VK}{ta:TE}{f:Str}{E:XK}
theorem G0(h:ta σ H fun x H1=>∃ a C dx fs v,x=.ref a/\H1 a=some (.ins C dx fs)/\Cls K C/\qw1 K C f/\fs.lookup f=some v/\Q v H1):Q5 K ta f σ H Q:=h
theorem qg7(h:tv σ H fun y H1=>ta σ H1 fun x H2=>∃ a C dx fs,x=.ref a/\H2 a=some (.ins C dx fs)/\Cls K C/\qw1 K C f/\fs.length<1000/\D.nx σ (upd H2 a (.ins C dx (qe3 f y fs)))):wb4 K ta tv f D σ H:=h
theorem M8(h:ta σ H fun x H1=>∃ a dx fs,x=.ref a/\H1 a=some (.ins C dx fs)/\fs.lookup m=none/\t σ H1 fun vs H2=>sp (x::(vs++dvs)) H2 Q E):N1 C m sp dvs E ta t σ H Q:=h
theorem xf9(h:t σ H fun vs H1=>∀ x dx,H1 x=none->H1 dx=none->dx≠x->sp (.ref x::(vs++dvs)) (upd (upd H1 dx (.own x)) x (.ins C dx [])) (fun v H2=>v=.non/\Q (.ref x) H2) E):xk2 C sp dvs E t σ H Q:=h
end
def yu9(K:Fg)(a b:Addr):It:=⟨fun i H=>∃ xs ys x y,SqL K H a xs/\SqL K H b ys/\xs[i]?=some x/\ys[i]?=some y,fun i H v H'=>∃ p x y,v=.ref p/\H p=none/\(∀ xs,SqL K H a xs->xs[i]?=some x)/\(∀ ys,SqL K H b ys->ys[i]?=some y)/\H'=upd H p (.tup [x,y]),fun i H=>∃ xs ys,SqL K H a xs/\SqL K H b ys/\(xs.length<=i\/ys.length<=i)⟩
theorem ye9{z TI TO i1 i2:Addr}(hA:ZipApart z TI TO i1 i2 a b) :
 wk1 P w K (.Tuple elts k pos) (yu9 K a b) [z,TI,TO,i1,i2] z (fun i h=>IsZip h z TI TO .none/\IsPair h TI (.ref i1) (.ref i2)/\(∃ u v,IsPair h TO u v)/\h.IsListIter i1 a i/\h.IsListIter i2 b i) where
 mem:=by simp
 obj:=by
  rintro i h ⟨e1,e2,⟨u,v,e3⟩,⟨o4,e4,_,d4⟩,o5,e5,_,d5⟩ c hc
  have hc:c=z\/c=TI\/c=TO\/c=i1\/c=i2:=by simpa using hc
  rcases hc with rfl|rfl|rfl|rfl|rfl
  ·exact⟨_,e1,fun v z=>by cases (show Data.fields _=Data.cell v from z)⟩
  ·exact⟨_,e2,fun v z=>by cases (show Data.seq _ _=Data.cell v from z)⟩
  ·exact⟨_,e3,fun v z=>by cases (show Data.seq _ _=Data.cell v from z)⟩
  ·exact⟨_,e4,fun v z=>by rw[d4] at z;cases z⟩
  ·exact⟨_,e5,fun v z=>by rw[d5] at z;cases z⟩
 keep:=fun i h h' ⟨e1,e2,⟨u,v,e3⟩,e4,e5⟩ kk=>⟨kk z (by simp) _ e1,kk TI (by simp) _ e2,⟨u,v,kk TO (by simp) _ e3⟩,e4.at fun o q=>kk i1 (by simp) o q,e5.at fun o q=>kk i2 (by simp) o q⟩
 item:=by
  intro X hP hw hK hc i pins s σ H E I hf ⟨e1,e2,⟨u,v,e3⟩,e4,e5⟩ hg
  subst hP hw hK
  obtain⟨xs,ys,x,y,hq1,hq2,hx,hy⟩:=hg
  obtain⟨its,rv,p1,hz⟩:=I.list hq1
  obtain⟨jts,rw_,p2,hz2⟩:=I.list hq2
  obtain⟨x',hx',rx⟩:=rv.get hx
  obtain⟨y',hy',ry⟩:=rw_.get hy
  have nT:∀ c,c∈[z,TI,TO,i1,i2]->s.heap.objs.size≠c:=by
   intro c hc e
   have hc:c=z\/c=TI\/c=TO\/c=i1\/c=i2:=by simpa using hc
   have hlt:c<s.heap.objs.size:=by
    rcases hc with rfl|rfl|rfl|rfl|rfl
    ·exact Heap.lt_size e1
    ·exact Heap.lt_size e2
    ·exact Heap.lt_size e3
    ·obtain⟨o,e4,_⟩:=e4;exact Heap.lt_size e4
    ·obtain⟨o,e5,_⟩:=e5;exact Heap.lt_size e5
   rw[e] at hlt
   exact absurd hlt (Nat.lt_irrefl _)
  refine wpAny_pyNext_zip_item hA e1 e2 e3 e4 e5 p1.isList p2.isList (x:=x') (y:=y') (by simpa using hx') (by simpa using hy') fun h' Zz ZTO Zi1 Zi2 hp hsz kk=>⟨_,rfl,wpAny_letOwnedTupleGo_zip Zz fun h2 z2 sb=>?_⟩
  have k2:∀ c,c≠z->h2.get? c=h'.get? c:=fun c n=>sb.2 c n
  have hp2:IsPair h2 s.heap.objs.size x' y':=(k2 _ (nT z (by simp))).trans hp
  have I1:Inv X pins σ (upd H s.heap.objs.size (.tup [x,y])) {s with heap:=h2,toks:=s.toks}:=I.turnLaid (ch:=[z,TI,TO,i1,i2]) (fun b hb=>hf b hb) (fun c o hb e=>by
   have hb:c≠z/\c≠TI/\c≠TO/\c≠i1/\c≠i2:=by simpa using hb
   exact(k2 c hb.1).trans (kk c o hb.1 hb.2.2.1 hb.2.2.2.1 hb.2.2.2.2 e)) (Nat.le_refl _) ⟨by rw[sizeLine_eq];simp,[x',y'],.cons rx (.cons ry .nil),⟨_,hp2,rfl,0,rfl⟩⟩ I.tk
  refine⟨.ref s.heap.objs.size,_,I1,rfl,⟨s.heap.objs.size,x,y,rfl,I.hok.fresh (Nat.le_refl _),fun xs2 h2=>by rw[I.list_inj h2 hq1];exact hx,fun ys2 h2=>by rw[I.list_inj h2 hq2];exact hy,rfl⟩,⟨z2,(k2 _ hA.TIz).trans (kk _ _ hA.TIz hA.TITO hA.TIi1 hA.TIi2 e2),⟨_,_,(k2 _ hA.TOz).trans ZTO⟩,Zi1.at fun o e=>(k2 _ hA.i1z).trans e,Zi2.at fun o e=>(k2 _ hA.i2z).trans e⟩,fun c hc=>?_⟩
  rw[B2 (Ne.symm (nT c hc))]
  exact(hf c hc).1
 done:=by
  intro X hP hw hK hc i pins s σ H E I hf ⟨e1,e2,⟨u,v,e3⟩,e4,e5⟩ hg
  subst hP hw hK
  obtain⟨xs,ys,hq1,hq2,hl⟩:=hg
  obtain⟨its,rv,p1,hz⟩:=I.list hq1
  obtain⟨jts,rw_,p2,hz2⟩:=I.list hq2
  have l1:=rv.length
  have l2:=rw_.length
  exact wpAny_pyNext_zip_end (I.ok.hd hc) hA e1 e2 e3 e4 e5 p1.isList p2.isList (hl.elim (fun hl=>.inl (by simp;omega)) fun hl=>.inr (by simp;omega)) fun h' kk=>⟨rfl,I.turnedL (ch:=[z,TI,TO,i1,i2]) (t':=s.toks) (fun b hb=>hf b hb) (fun c o hb e=>by
   have hb:c≠z/\c≠TI/\c≠TO/\c≠i1/\c≠i2:=by simpa using hb
   exact kk c o hb.1 hb.2.2.1 hb.2.2.2.1 hb.2.2.2.2 e) I.tk⟩
 self:=fun A i s Q E st h=>wpAny_pyIter_zip st.1 h
def xy5(K:Fg)(ta:TA):TI:=fun σ H R=>ta σ H fun vs H1=>∃ a b xs ys,vs=[.ref a,.ref b]/\SqL K H1 a xs/\SqL K H1 b ys/\R (yu9 K a b) H1
theorem xy6{p:Pos}{l m:Expr}(hg:Gl X "zip")(hm:X.mg "zip"=none)(ha:PA X [l,m] ta)(hs:autoParam (starEach [l,m] X.env=(false,eval l X.env)::starEach [m] X.env) zAr)(hs2:autoParam (starEach [m] X.env=[(false,eval m X.env)]) zAr) :
 PI X (.Tuple elts k tpos) (.Call (.Name "zip" p) [l,m] [] pos) (xy5 X.K ta):=by
 intro pins s σ H R I h
 refine Call_ (qi4 I hg hm boot_zip (PyProof.Rows.callWith_type1 (thn (ha pos pins s σ H _ I h) fun us s1 zq=>?_) hs (by rw[hs2];rfl)))
 obtain⟨vs,H1,I1,r1,q1⟩:=zq
 obtain⟨a,b,xs,ys,e,hq1,hq2,q⟩:=q1
 subst e
 obtain⟨v,w,rfl,rv,rw_⟩:=xa7 r1
 cases rv
 cases rw_
 obtain⟨its,rv,pT,hz⟩:=I1.list hq1
 obtain⟨jts,rw_,pU,hz2⟩:=I1.list hq2
 have ha1:a<s1.heap.objs.size:=by obtain⟨o,e,_⟩:=(show s1.heap.IsList a its.toArray from pT.isList);exact Heap.lt_size e
 have hb1:b<s1.heap.objs.size:=by obtain⟨o,e,_⟩:=(show s1.heap.IsList b jts.toArray from pU.isList);exact Heap.lt_size e
 refine call_zip_2 (show s1.heap.IsList a its.toArray from pT.isList) (show s1.heap.IsList b jts.toArray from pU.isList) fun h' Zz ZTI ZTO Zi1 Zi2 _ hk=>?_
 have I2:Inv X pins σ H1 {s1 with heap:=h'}:=I1.kept (t':=s1.toks) hk
 refine wpAny_pyIter_zip Zz ?_
 refine⟨s1.heap.objs.size+4,_,_,_,H1,rfl,I2,ye9 (PyProof.Rows.zipApart_new ha1 hb1),⟨Zz,ZTI,⟨_,_,ZTO⟩,Zi1,Zi2⟩,fun c hc=>?_,q⟩
 have hc:s1.heap.objs.size<=c:=by
  have hc:c=s1.heap.objs.size+4\/c=s1.heap.objs.size+2\/c=s1.heap.objs.size+3\/c=s1.heap.objs.size\/c=s1.heap.objs.size+1:=by simpa using hc
  rcases hc with rfl|rfl|rfl|rfl|rfl
  all_goals first|exact Nat.le_refl _|exact Nat.le_add_right _ _
 exact I1.fpOk hc (I1.hok.fresh hc)
theorem xy7(h:ta σ H fun vs H1=>∃ a b xs ys,vs=[.ref a,.ref b]/\SqL K H1 a xs/\SqL K H1 b ys/\R (yu9 K a b) H1):xy5 K ta σ H R:=h
theorem xm2(hq:SqL K H a xs)(hr:SqL K H b zs)(Pv:Nat->St->Hp->Prop)(h0:Pv 0 σ H)(hk:∀ i σ H,Pv i σ H->SqL K H a xs/\SqL K H b zs)(hs:∀ i x z σ H p,xs[i]?=some x->zs[i]?=some z->Pv i σ H->H p=none->g (.ref p) σ (upd H p (.tup [x,z])) fun σ2 H2=>tb {D with nx:=PAt Pv (i+1),ct:=PAt Pv (i+1),bk:=D.nx} σ2 H2)(hd:∀ σ H,Pv (min xs.length zs.length) σ H->D.nx σ H) :
 ∃ c d xs' ys',[V.ref a,V.ref b]=[.ref c,.ref d]/\SqL K H c xs'/\SqL K H d ys'/\wg5 g tb D σ (yu9 K c d) H:=by
 refine⟨a,b,xs,zs,rfl,hq,hr,fun i m σ H=>m=min xs.length zs.length-i/\i<=min xs.length zs.length/\Pv i σ H,⟨_,rfl,Nat.zero_le _,h0⟩,?_⟩
 rintro i m σ H ⟨rfl,hi,p⟩
 obtain⟨q1,q2⟩:=hk i σ H p
 by_cases hlt:i<min xs.length zs.length
 ·have l1:i<xs.length:=by omega
  have l2:i<zs.length:=by omega
  refine .inr ⟨⟨xs,zs,xs[i],zs[i],q1,q2,by simp[l1],by simp[l2]⟩,Pv (i+1),fun σ' H' p'=>⟨min xs.length zs.length-(i+1),by omega,rfl,hlt,p'⟩,fun v H' y=>?_⟩
  obtain⟨t,x,z,rfl,ht,hx,hz,rfl⟩:=y
  exact hs i x z σ H t (hx xs q1) (hz zs q2) p ht
 ·have e:i=min xs.length zs.length:=by omega
  subst e
  exact .inl ⟨⟨xs,zs,q1,q2,by omega⟩,hd σ H p⟩
def yy7(K:Fg):List V->Hp->VK->Prop:=fun xs H Q=>∃ i,xs=[.int i]/\i.natAbs.log2<1920/\Q (.str (toString i)) H
theorem yf0:Y9 X (.type "str") (yy7 X.K):=xe1
end L2
local macro_rules | `(tactic| lk) => do
 let a <- ("Y5 qk8 qf3 zc5 J0 zj7 yj4 zj8 zc6 yt0 yx8 zc7 xx5 zn6 yx9 xs3 zj9 zc8 yt1 zc9 yt2 zd0 zd1 yt3 zk0 zk1 yj5 xx4 zd2 zk2 yj7 wt1 ys9 yj6 yt4 yt5 zl2 yt9 yd9 zd7 yu0 yk8 yu1 zd8 yu4 yl5 xy3 xf5 zd3 zk3 zk4 zk5 yy0 yy2 xy0 yk9 zn7 yt6".splitOn " ").toArray.mapM fun n => `(Lean.Parser.Tactic.tacticSeq| refine $(Lean.mkIdent (.str `L2 n)) ?_)
 `(tactic| (repeat (first | (with_reducible first $[| $a]*) | ((with_reducible refine' L2.xf4 ?ev ?_); (case ev => exact rfl)) | ((with_reducible refine L2.yj9 ?ec ?_); (case ec => first | decide | omega | assumption)) | ((with_reducible refine L2.zd4 ?ec ?_); (case ec => first | exact ⟨by decide, by decide⟩ | exact ⟨by omega, by omega⟩)))))
local macro_rules | `(tactic| x_go) => `(tactic| refine L2.qk8 ?_)
local macro_rules | `(tactic| k_go) => `(tactic| refine L2.qf3 ?_)
namespace My
open PySem L2
variable{H H':Hp}{K:Fg}{Q:VK}{v:V}{x y:Str}{i:Nat}{α:Type}{E:XK}{vs:List V}
section
open PyProof.Rows
set_option genInjectivity false in
structure Row where
 name:Str
 sort:Str
 host:Str
 shuts:List Str
 bars:List Str
def Row.da(r:Row):PyData:=.tuple [.str r.name,.str r.sort,.str r.host,.tuple (sDa r.shuts),.tuple (sDa r.bars)]
def oV:Option Str->V
 | some s=>.str s
 | none=>.non
theorem qp4{r:Row}(h:Dv K H r.da v):∃ b sv bv,v=.ref b/\SqT K H b [.str r.name,.str r.sort,.str r.host,sv,bv]/\Dv K H (.tuple (sDa r.shuts)) sv/\Dv K H (.tuple (sDa r.bars)) bv:=by
 obtain⟨b,ys,rfl,hb,h⟩:=C6.mp h
 rw[Dvs] at h;obtain⟨v1,r1,rfl,e1,h⟩:=h
 rw[Dvs] at h;obtain⟨v2,r2,rfl,e2,h⟩:=h
 rw[Dvs] at h;obtain⟨v3,r3,rfl,e3,h⟩:=h
 rw[Dvs] at h;obtain⟨v4,r4,rfl,e4,h⟩:=h
 rw[Dvs] at h;obtain⟨v5,r5,rfl,e5,h⟩:=h
 rw[Dvs] at h;subst h
 rw[E5.mp e1,E5.mp e2,E5.mp e3] at hb
 exact⟨b,v4,v5,rfl,hb,e4,e5⟩
def Rws(K:Fg)(H:Hp)(v:V)(rs:List Row):Prop:=∃ a vs,v=.ref a/\(SqL K H a vs\/SqT K H a vs)/\Dvs K H (rs.map Row.da) vs
theorem yy8 {n:Option Str} (h:Q (.bl (decide (some x=n))) H):qb6 K (.str x) (oV n) H Q:=by
 cases n with
 | none => refine xl1 rfl ?_;have e:(decide ((V.str x)=oV none))=decide (some x=none):=by simp[oV]
           rw[e];exact h
 | some y => refine xl1 rfl ?_;have e:(decide ((V.str x)=oV (some y)))=decide (some x=some y):=by simp[oV]
             rw[e];exact h
theorem xy0(h:Q (.bl (decide (x=y))) H):qb6 K (.str x) (.str y) H Q:=by
 refine xl1 rfl ?_
 have e:(decide ((V.str x)=V.str y))=decide (x=y):=by simp
 rw[e];exact h
theorem yk9(h:Q (.bl (!decide (x=y))) H):wp3 K (.str x) (.str y) H Q:=by
 refine zk6 rfl ?_
 have e:(decide ((V.str x)=V.str y))=decide (x=y):=by simp
 rw[e];exact h
theorem yy2{x y:Int}(h:Q (.bl (decide (x=y))) H):qb6 K (.int x) (.int y) H Q:=by
 refine xl1 rfl ?_
 have e:(decide ((V.int x)=V.int y))=decide (x=y):=by simp
 rw[e];exact h
def Z0(rs:List Row)(n:Option Str):Option Row:=rs.find? fun r=>decide (some r.name=n)
def Q6(rs:List Row)(n:Option Str):Option Str:=(Z0 rs n).map (·.sort)
def N6(rs:List Row)(n:Option Str):Option Str:=(Z0 rs n).bind fun r=>if r.sort=("frame":Str) then some r.host else none
def J4(rs:List Row)(n:Option Str):Option Str:=(rs.find? fun r=>decide (r.sort=("frame":Str)) && decide (some r.host=n)).map (·.name)
def qc7(K:Fg):Sp:=fun vs H Q _=>∃ v n rs,vs=[v,oV n]/\Rws K H v rs/\(Z0 rs n=none->Q .non H)/\∀ r u,Z0 rs n=some r->Dv K H r.da u->Q u H
theorem xt1(K:Fg):∀ vs H Q E,qc7 K vs H Q E->vs.length=["rows","name"].length:=by
 rintro vs H Q E ⟨v,n,rs,rfl,_⟩;rfl
def wh1(K:Fg):TS :=
 (B7 (qg5 (qw7 K (A2 0)) (B1 2)
 (T5 (E3 (tOp (qb6 K) (tOp (L4 K) (A2 2) (tC (.int 0))) (A2 1)))
 (G9 (A2 2)) O3))
 (G9 (tC .non)))
theorem qj0{α:Type}{p:α->Bool}:∀ {l:List α} {i:Nat} {x:α},l[i]?=some x->(∀ y∈l.take i,p y=false)->p x=true->l.find? p=some x
 | y::l,0,x,e,_,hp=>by cases e;rw[List.find?_cons,hp]
 | y::l,i+1,x,e,h,hp=>by
   have hy:p y=false:=h y (by simp)
   rw[List.find?_cons,hy]
   exact qj0 (i:=i) (by simpa using e) (fun z hz=>h z (by simp[hz])) hp
theorem wu0{P:α->Prop}{l:List α}{x:α}(e:l[i]?=some x)(h:∀ y∈l.take i,P y)(hx:P x):∀ y∈l.take (i+1),P y:=by
 intro y hy
 rw[List.take_add_one,e] at hy
 rcases List.mem_append.mp hy with z|z
 ·exact h y z
 ·have:y=x:=by simpa using z
  subst this;exact hx
theorem yf1(h:qc7 K vs H Q E):wh1 K {nx:=fun _ H'=>Q .non H',rt:=Q} (C9 ["rows","name","row"] vs) H:=by
 obtain⟨v,n,rs,rfl,⟨a,xs,rfl,hq,hd⟩,h1,h2⟩:=h
 show wh1 K _ [some (.ref a),some (oV n),none] H
 have hlen:xs.length=rs.length:=by have:=hd.length;simpa using this
 unfold wh1
 refine Y5 (wt1 (yj6 (xf4 rfl ?_)))
 refine xx3 hq (fun i σ H'=>H'=H/\(∃ w,σ=[some (.ref a),some (oV n),w])/\∀ r∈rs.take i,decide (some r.name=n)=false) ⟨rfl,⟨_,rfl⟩,by simp⟩ (fun hl i σ H' _ p=>p.1▸hl) (fun ht i σ H' _ p=>p.1▸ht) ?_ ?_
 ·rintro i x σ H' hx ⟨rfl,⟨w,rfl⟩,hn⟩
  obtain⟨d,hd1,hd2⟩:=hd.get' hx
  rw[List.getElem?_map] at hd1
  obtain⟨r,hr,rfl⟩:=Option.map_eq_some_iff.mp hd1
  obtain⟨b,sv,bv,rfl,hb,hsv,hbv⟩:=qp4 hd2
  refine J0 (yx8 (xx5 (yj4 (yj4 (xf4 rfl (zj7 (V2 hb rfl (xf4 rfl (yy8 ⟨_,rfl,?_⟩)))))))))
  by_cases e:some r.name=n
  ·rw[decide_eq_true e,if_pos rfl]
   refine⟨_,rfl,?_⟩
   exact h2 r _ (qj0 hr hn (decide_eq_true e)) hd2
  ·rw[decide_eq_false e,if_neg Bool.false_ne_true]
   exact xx4 ⟨rfl,⟨_,rfl⟩,wu0 hr hn (decide_eq_false e)⟩
 ·rintro σ H' ⟨rfl,⟨w,rfl⟩,hn⟩
  show Q .non H'
  refine h1 ?_
  unfold Z0
  rw[List.find?_eq_none]
  intro r hr
  rw[hlen,List.take_length] at hn
  simp[hn r hr]
end
variable{rk:Str->Nat}{rs:List Row}{k:Nat}
section
open PyProof.Rows
def T9(K:Fg):Sp:=fun vs H Q _=>∃ v n rs,vs=[v,oV n]/\Rws K H v rs/\Q (oV (Q6 rs n)) H
def wk9(K:Fg):TS :=
 (B7 (E1 (C7 (qc7 K) [] E0 (A1 (A2 0) (A1 (A2 1) A8))) (B1 2))
 (G9 (tIf (E3 (tOp xk9 (A2 2) (tC .non))) (tC .non) (tOp (L4 K) (A2 2) (tC (.int 1))))))
theorem xt2(h:T9 K vs H Q E):wk9 K {nx:=fun _ H'=>Q .non H',rt:=Q} (C9 ["book","name","row"] vs) H:=by
 obtain⟨v,n,rs,rfl,hR,q⟩:=h
 show wk9 K _ [some v,some (oV n),none] H
 refine⟨_,rfl,_,rfl,v,n,rs,rfl,hR,fun e=>?_,fun r u e hu=>?_⟩
 ·refine⟨_,rfl,rfl,_,rfl,?_⟩
  show Q .non H
  have:Q6 rs n=none:=by unfold Q6;rw[e];rfl
  rw[this] at q;exact q
 ·obtain⟨b,sv,bv,rfl,hb,_,_⟩:=qp4 hu
  refine⟨_,rfl,rfl,_,rfl,?_⟩
  show(if decide (V.ref b=V.non)=true then _ else _)
  rw[decide_eq_false (by simp)];refine qf3 ?_
  refine⟨_,rfl,V2 hb rfl ?_⟩
  have:Q6 rs n=some r.sort:=by unfold Q6;rw[e];rfl
  rw[this] at q;exact q
def qj1(K:Fg):Sp:=fun vs H Q _=>∃ v n rs,vs=[v,oV n]/\Rws K H v rs/\Q (oV (N6 rs n)) H
def wl0(K:Fg):TS :=
 (B7 (E1 (C7 (qc7 K) [] E0 (A1 (A2 0) (A1 (A2 1) A8))) (B1 2))
 (B7 (T5 (tOr (E3 (tOp xk9 (A2 2) (tC .non))) (E3 (tOp (wp3 K) (tOp (L4 K) (A2 2) (tC (.int 1))) (tC (.str "frame")))))
 (G9 (tC .non)) O3)
 (G9 (tOp (L4 K) (A2 2) (tC (.int 2))))))
theorem xt3(h:qj1 K vs H Q E):wl0 K {nx:=fun _ H'=>Q .non H',rt:=Q} (C9 ["book","name","row"] vs) H:=by
 obtain⟨v,n,rs,rfl,hR,q⟩:=h
 show wl0 K _ [some v,some (oV n),none] H
 refine⟨_,rfl,_,rfl,v,n,rs,rfl,hR,fun e=>?_,fun r u e hu=>?_⟩
 ·refine⟨_,rfl,rfl,_,rfl,?_⟩
  show Q .non H
  have:N6 rs n=none:=by unfold N6;rw[e];rfl
  rw[this] at q;exact q
 ·obtain⟨b,sv,bv,rfl,hb,_,_⟩:=qp4 hu
  refine⟨_,rfl,rfl,_,rfl,?_⟩
  show(if decide (V.ref b=V.non)=true then _ else _)
  rw[decide_eq_false (by simp)];refine qf3 ?_
  refine⟨_,rfl,V2 hb rfl (yk9 ⟨_,rfl,?_⟩)⟩
  by_cases hs:r.sort=("frame":Str)
  ·rw[decide_eq_true hs,Bool.not_true];refine qf3 ?_
   refine⟨_,rfl,V2 hb rfl ?_⟩
   have:N6 rs n=some r.host:=by unfold N6;rw[e];show(if r.sort=("frame":Str) then some r.host else none)=_;rw[if_pos hs]
   rw[this] at q;exact q
  ·rw[decide_eq_false hs,Bool.not_false];refine qk8 ?_
   show Q .non H
   have:N6 rs n=none:=by unfold N6;rw[e];show(if r.sort=("frame":Str) then some r.host else none)=_;rw[if_neg hs]
   rw[this] at q;exact q
def Z1(K:Fg):Sp:=fun vs H Q _=>∃ v n rs,vs=[v,oV n]/\Rws K H v rs/\Q (oV (J4 rs n)) H
def we0(K:Fg):TS :=
 (B7 (qg5 (qw7 K (A2 0)) (B1 2)
 (T5 (wp1 (E3 (tOp (qb6 K) (tOp (L4 K) (A2 2) (tC (.int 1))) (tC (.str "frame")))) (E3 (tOp (qb6 K) (tOp (L4 K) (A2 2) (tC (.int 2))) (A2 1))))
 (G9 (tOp (L4 K) (A2 2) (tC (.int 0)))) O3))
 (G9 (tC .non)))
theorem xm5(h:Z1 K vs H Q E):we0 K {nx:=fun _ H'=>Q .non H',rt:=Q} (C9 ["book","name","row"] vs) H:=by
 obtain⟨v,n,rs,rfl,⟨a,xs,rfl,hq,hd⟩,q⟩:=h
 show we0 K _ [some (.ref a),some (oV n),none] H
 have hlen:xs.length=rs.length:=by have:=hd.length;simpa using this
 refine⟨_,rfl,xx3 hq (fun i σ H'=>H'=H/\(∃ w,σ=[some (.ref a),some (oV n),w])/\∀ r∈rs.take i,(decide (r.sort=("frame":Str)) && decide (some r.host=n))=false) ⟨rfl,⟨_,rfl⟩,by simp⟩ (fun hl i σ H' _ p=>p.1▸hl) (fun ht i σ H' _ p=>p.1▸ht) ?_ ?_⟩
 ·rintro i x σ H' hx ⟨rfl,⟨w,rfl⟩,hn⟩
  obtain⟨d,hd1,hd2⟩:=hd.get' hx
  rw[List.getElem?_map] at hd1
  obtain⟨r,hr,rfl⟩:=Option.map_eq_some_iff.mp hd1
  obtain⟨b,sv,bv,rfl,hb,hsv,hbv⟩:=qp4 hd2
  refine⟨_,rfl,V2 hb rfl (xy0 ⟨_,rfl,?_⟩)⟩
  by_cases hs:r.sort=("frame":Str)
  ·rw[decide_eq_true hs];refine qk8 ?_
   refine⟨_,rfl,V2 hb rfl ⟨_,rfl,yy8 ⟨_,rfl,?_⟩⟩⟩
   by_cases e:some r.host=n
   ·rw[decide_eq_true e];refine qk8 ?_
    refine⟨_,rfl,V2 hb rfl ?_⟩
    have:J4 rs n=some r.name:=by
     unfold J4
     rw[qj0 hr hn (by rw[decide_eq_true hs,decide_eq_true e];rfl)];rfl
    rw[this] at q;exact q
   ·rw[decide_eq_false e];refine qf3 ?_
    exact⟨rfl,⟨_,rfl⟩,wu0 hr hn (by rw[decide_eq_false e,Bool.and_false])⟩
  ·rw[decide_eq_false hs];refine qf3 ?_
   k_go
   exact⟨rfl,⟨_,rfl⟩,wu0 hr hn (by rw[decide_eq_false hs,Bool.false_and])⟩
 ·rintro σ H' ⟨rfl,⟨w,rfl⟩,hn⟩
  show Q .non H'
  have:J4 rs n=none:=by
   unfold J4
   rw[List.find?_eq_none.mpr]
   ·rfl
   ·intro r hr
    rw[hlen,List.take_length] at hn
    rw[hn r hr];exact Bool.false_ne_true
  rw[this] at q;exact q
def ups(rs:List Row):Nat->Option Str->List Str
 | 0,_=>[]
 | k+1,n=>match J4 rs n with
   | none=>[]
   | some y=>y::ups rs k (some y)
def qp5(rs:List Row)(rk:Str->Nat):Prop:=∀ x y,J4 rs (some x)=some y->rk y<rk x
theorem wu1{rs:List Row}{rk:Str->Nat}(f:qp5 rs rk):∀ (k:Nat) (x:Str),rk x<=k->ups rs k (some x)=ups rs (rk x) (some x)
 | 0, x, h => by have:rk x=0:=by omega
                 rw[this]
 | k + 1,x,h=>by
   cases e:J4 rs (some x) with
   | none =>
     have e1:ups rs (k+1) (some x)=[]:=by rw[ups,e]
     rw[e1]
     cases e2:rk x with
     | zero=>rfl
     | succ m=>rw[ups,e]
   | some y =>
     have hy:=f x y e
     have e1:ups rs (k+1) (some x)=y::ups rs k (some y):=by rw[ups,e]
     rw[e1,wu1 f k y (by omega)]
     cases e2:rk x with
     | zero=>omega
     | succ m =>
       have e3:ups rs (m+1) (some x)=y::ups rs m (some y):=by rw[ups,e]
       rw[e3,wu1 f m y (by omega)]
theorem ym1(f:qp5 rs rk)(e:J4 rs (some x)=some y):ups rs (rk x) (some x)=y::ups rs (rk y) (some y):=by
 have hy:=f x y e
 cases e2:rk x with
 | zero=>omega
 | succ m =>
   have e3:ups rs (m+1) (some x)=y::ups rs m (some y):=by rw[ups,e]
   rw[e3,wu1 f m y (by omega)]
theorem yv0{x:Option Str}(e:J4 rs x=none):ups rs k x=[]:=by
 cases k with
 | zero=>rfl
 | succ m=>rw[ups,e]
def qr5(K:Fg):Sp:=fun vs H Q _=>∃ v n g rs rk,vs=[v,.str n,.str g]/\Rws K H v rs/\qp5 rs rk/\Q (.bl (decide (g∈ups rs (rk n) (some n)))) H
def wl1(K:Fg):TS :=
 (B7 (E1 (C7 (Z1 K) [] E0 (A1 (A2 0) (A1 (A2 1) A8))) (B1 3))
 (B7 (qn9 (E3 (tOp wg3 (A2 3) (tC .non)))
 (B7 (T5 (E3 (tOp (qb6 K) (A2 3) (A2 2)))
 (G9 (tC (.bl true))) O3)
 (E1 (C7 (Z1 K) [] E0 (A1 (A2 0) (A1 (A2 3) A8))) (B1 3))))
 (G9 (tC (.bl false)))))
def yv1(rs:List Row)(rk:Str->Nat):Option Str->List Str
 | none=>[]
 | some y=>y::ups rs (rk y) (some y)
theorem xm7(f:qp5 rs rk)(x:Str):ups rs (rk x) (some x)=yv1 rs rk (J4 rs (some x)):=by
 cases e:J4 rs (some x) with
 | none=>rw[yv0 e];rfl
 | some y=>rw[ym1 f e];rfl
theorem xt4(h:qr5 K vs H Q E):wl1 K {nx:=fun _ H'=>Q .non H',rt:=Q} (C9 ["book","name","frame","above"] vs) H:=by
 obtain⟨v,n,g,rs,rk,rfl,hR,f,q⟩:=h
 show wl1 K _ [some v,some (.str n),some (.str g),none] H
 refine⟨_,rfl,_,rfl,v,some n,rs,rfl,hR,?_⟩
 refine xj9 (fun σ H'=>H'=H/\∃ x,σ=[some v,some (.str n),some (.str g),some (oV x)]/\(g∈ups rs (rk n) (some n)↔g∈yv1 rs rk x))
  (fun σ _=>match σ with | [_,_,_,some (.str y)]=>rk y+1|_=>0) ⟨rfl,J4 rs (some n),rfl,by rw[xm7 f]⟩ ?_ ?_
 ·rintro σ H' ⟨rfl,x,rfl,hx⟩
  cases x with
  | none =>
    refine⟨_,rfl,rfl,_,rfl,?_⟩
    show Q (.bl false) H'
    have:¬g∈ups rs (rk n) (some n):=fun z=>by have:=hx.mp z;simp[yv1] at this
    rw[decide_eq_false this] at q;exact q
  | some y =>
    refine⟨_,rfl,rfl,_,rfl,?_⟩
    show(if(!decide (V.str y=V.non))=true then _ else _)
    rw[decide_eq_false (by simp),Bool.not_false];refine qk8 ?_
    refine⟨_,rfl,_,rfl,xy0 ⟨_,rfl,?_⟩⟩
    by_cases e:y=g
    ·rw[decide_eq_true e];refine qk8 ?_
     show Q (.bl true) H'
     have:g∈ups rs (rk n) (some n):=hx.mpr (by subst e;simp[yv1])
     rw[decide_eq_true this] at q;exact q
    ·rw[decide_eq_false e];refine qf3 ?_
     refine⟨_,rfl,_,rfl,v,some y,rs,rfl,hR,?_⟩
     refine⟨⟨rfl,J4 rs (some y),rfl,?_⟩,?_⟩
     ·rw[hx]
      show g∈y::ups rs (rk y) (some y)↔_
      rw[xm7 f,List.mem_cons]
      exact⟨fun z=>z.resolve_left fun z=>e z.symm,Or.inr⟩
     ·show(match [some v,some (V.str n),some (V.str g),some (oV (J4 rs (some y)))] with | [_,_,_,some (.str y)]=>rk y+1|_=>0)<rk y+1
      cases e2:J4 rs (some y) with
      | none=>exact Nat.succ_pos _
      | some z=>have:=f y z e2;show rk z+1<rk y+1;omega
 ·rintro σ H' Q1 Q2 hQ ⟨v1,e1,e2,k,e3,q1⟩
  exact⟨v1,e1,e2,k,e3,hQ _ _ q1⟩
end
variable{c n:Nat}{H1 H2 H0:Hp}{p d a e:Addr}{xs:List V}{o:HO}{ns:List Int}{D:Y1}{tb:TS}{σ:St}{te:TE}{ds:List PyData}
section
variable{K:Fg}{vs:List V}{H:Hp}{Q:VK}{E:XK}
theorem C1(xs:List Str):(B3 xs).length=xs.length:=List.length_map _
def ch(c:Nat):Str:=⟨#[c]⟩
def Lt:Str := "abcdefghijklmnopqrstuvwxyz"
theorem zd9:∀ j:Nat,j<26->Lt.cps.toList[j]?=some (97+j):=by decide +kernel
theorem ze0:Lt.length=26:=by decide +kernel
theorem zl6{i:Int}(h0:0<=i)(h1:i<26):atI Lt.cps.toList i=some (97+i.toNat):=by
 have e:i=((i.toNat:Nat):Int):=by omega
 have q:atI Lt.cps.toList ((i.toNat:Nat):Int)=some (97+i.toNat):=Z4 (zd9 _ (by omega))
 rw[<-e] at q
 exact q
theorem xg1:∀ bs:List Nat,(PySem.Txt.join ("":Str) (bs.map ch)).cps.toList=bs:=by
 intro bs
 have e:PySem.Txt.join ("":Str) (bs.map ch)=Str.join ("":Str) (bs.map ch):=PySem.StrLaws.glued_eq_join _ _
 rw[e]
 induction bs with
 | nil=>rfl
 | cons b r ih =>
   cases r with
   | nil=>rfl
   | cons c r =>
     show((ch b++("":Str)++Str.join ("":Str) ((c::r).map ch)).cps).toList=_
     have ih:=ih (PySem.StrLaws.glued_eq_join _ _)
     show((ch b).cps++("":Str).cps++(Str.join ("":Str) ((c::r).map ch)).cps).toList=_
     rw[Array.toList_append,Array.toList_append,ih]
     rfl
theorem wu2{n:Int}(h:1<=n):(PySem.Txt.mul (ch c) n).cps.toList=List.replicate n.toNat c:=by
 unfold PySem.Txt.mul
 rw[if_neg (by omega)]
 have f:∀ (k:Nat) (acc:Array Nat),((List.replicate k #[c]).foldl (·++·) acc).toList=acc.toList++List.replicate k c:=by
  intro k
  induction k with
  | zero=>intro acc;simp
  | succ k ih=>intro acc;rw[List.replicate_succ,List.foldl_cons,ih];simp[List.replicate_succ]
 by_cases h1:n=1
 ·subst h1;rfl
 ·have e:(n == 1 || (ch c).length == 0)=false:=by
   have:(n == 1)=false:=by simpa using h1
   rw[this];rfl
  rw[e,if_neg Bool.false_ne_true]
  have:=f n.toNat #[]
  show(List.foldl (fun x1 x2=>x1++x2) #[] (List.replicate n.toNat #[c])).toList=_
  simpa using this
theorem D8(h:n<=100000):n<=sizeLine:=by rw[sizeLine_eq];omega
theorem A6.tr(a:A6 H H1)(b:A6 H1 H2):A6 H H2:=fun c o e=>b c o (a c o e)
theorem A6.put(s:A6 H H1)(h:H p=none)(o:HO):A6 H (upd H1 p o):=fun b u e=>by
 have nb:b≠p:=fun z=>by rw[z,h] at e;cases e
 rw[B2 nb];exact s b u e
theorem wu3{ys:List V}(h:H d=some (.lst xs)):P8 H (upd H d (.lst ys)) :=
 ⟨fun b zs e=>by rw[B2 (fun z=>by rw[z,h] at e;cases e)];exact e,fun b o zs e=>by rw[B2 (fun z=>by rw[z,h] at e;cases e)];exact e⟩
theorem qg8{b:Addr}(h:H a=some o)(g:H b=none):a≠b:=fun e=>by rw[e,g] at h;cases h
theorem qc8(xs:List Str):(B3 xs).all qp1=true:=by unfold B3;rw[List.all_map];exact List.all_eq_true.mpr fun _ _=>rfl
theorem qe4(x:Str):∀ xs:List Str,inV (.str x) (B3 xs)=decide (x∈xs)
 | []=>by simp[B3,inV]
 | y::ys=>by
   have ih:=qe4 x ys
   unfold inV at ih ⊢
   show(eqV (.str y) (.str x) || (B3 ys).any fun z=>eqV z (.str x))=_
   rw[ih]
   by_cases e:x=y
   ·subst e;simp[eqV]
   ·have e':¬y=x:=fun z=>e z.symm
    simp[eqV,e,e']
def D7(ns:List Int):List V:=ns.map V.int
theorem M6(ns:List Int):(D7 ns).length=ns.length:=List.length_map _
theorem ym2(ns:List Int)(x:Int):D7 ns++[V.int x]=D7 (ns++[x]):=by simp[D7]
theorem qd5(a b:Str):(a++b).length=a.length+b.length:=PySem.Str.length_append a b
theorem xm8(ns:List Int)(i:Nat)(x:Int):(D7 ns).set i (.int x)=D7 (ns.set i x):=by unfold D7;rw[List.map_set]
theorem xy8(h:i<ns.length):(D7 ns)[i]?=some (.int ns[i]):=by unfold D7;rw[List.getElem?_map,List.getElem?_eq_getElem h];rfl
theorem xm9(h:1<=n):ixN n (-1)=some (n-1):=by
 unfold ixN
 rw[if_neg (by decide),if_pos (by omega)]
 congr 1
 omega
theorem xy9(h:1<=xs.length)(e:xs[xs.length-1]?=some v):atI xs (-1)=some v:=by
 unfold atI
 rw[xm9 h];exact e
theorem zl7(h:1<=n):ixN n 0=some 0:=by
 unfold ixN
 rw[if_pos (by decide),if_pos (by omega)];rfl
theorem wh2{g:TG}(hq:SqL K H0 a xs\/SqT K H0 a xs)(s0:A6 H0 H)(Pv:Nat->St->Hp->Prop)(h0:Pv 0 σ H)(hk:∀ i σ H',Pv i σ H'->A6 H0 H')(hs:∀ i x σ H,xs[i]?=some x->Pv i σ H->g x σ H fun σ2 H2=>tb {D with nx:=Pv (i+1),ct:=Pv (i+1),bk:=D.nx} σ2 H2)(hd:∀ σ H,Pv xs.length σ H->D.nx σ H) :
 ∃ b,V.ref a=.ref b/\(((∃ xs,SqL K H b xs)/\wg5 g tb D σ (Itl K b) H)\/((∃ xs,SqT K H b xs)/\wg5 g tb D σ (Itt K b) H)):=by
 rcases hq with hq|hq
 ·exact⟨a,rfl,.inl ⟨⟨xs,s0.sqL hq⟩,wr9 Pv h0 (fun i σ H' _ p=>(hk i σ H' p).sqL hq) hs hd⟩⟩
 ·exact⟨a,rfl,.inr ⟨⟨xs,s0.sqT hq⟩,xw1 Pv h0 (fun i σ H' _ p=>(hk i σ H' p).sqT hq) hs hd⟩⟩
theorem yf2{g:TG}{tt:TT}{σ':St}(hq:SqL K H0 a xs\/SqT K H0 a xs)(s0:A6 H0 H)(Pv:Nat->List V->Hp->Prop)(h0:Pv 0 [] H)(hlen:∀ i ys H,i<=xs.length->Pv i ys H->ys.length<=sizeLine)(hk:∀ i ys H',Pv i ys H'->A6 H0 H')(hs:∀ i x ys H,xs[i]?=some x->Pv i ys H->g x σ' H fun σ2 H2=>tt σ2 H2 fun b H3=>if b=true then te σ2 H3 fun y H4=>Pv (i+1) (ys++[y]) H4 else Pv (i+1) ys H3)(hd:∀ ys H,Pv xs.length ys H->∀ p,H p=none->Q (.ref p) (upd H p (.lst ys))) :
 ∃ b,V.ref a=.ref b/\(((∃ xs,SqL K H b xs)/\wc4 g tt te σ' Q (Itl K b) H)\/((∃ xs,SqT K H b xs)/\wc4 g tt te σ' Q (Itt K b) H)):=by
 rcases hq with hq|hq
 ·exact xb8 (s0.sqL hq) Pv h0 hlen (fun i ys H' _ p=>(hk i ys H' p).sqL hq) hs hd
 ·refine⟨a,rfl,.inr ⟨⟨xs,s0.sqT hq⟩,wr0 (n:=xs.length) (fun i x=>xs[i]?=some x) Pv h0 hlen (fun i ys H hi p=>?_) (fun i ys H x H' hi p y=>?_) (fun ys H p=>?_) (fun i x ys H _ hx p=>hs i x ys H hx p) hd⟩⟩
  ·exact⟨xs,xs[i],(hk i ys H p).sqT hq,by simp[hi]⟩
  ·exact⟨y.1,y.2 xs ((hk i ys H p).sqT hq)⟩
  ·exact⟨xs,(hk _ ys H p).sqT hq,Nat.le_refl _⟩
theorem qx5{xs:List Str}{x:V}(h:(B3 xs)[i]?=some x):∃ y,xs[i]?=some y/\x=.str y:=by
 unfold B3 at h
 rw[List.getElem?_map] at h
 obtain⟨y,hy,e⟩:=Option.map_eq_some_iff.mp h
 exact⟨y,hy,e.symm⟩
theorem qx6(xs:List Str)(x:Str):B3 xs++[V.str x]=B3 (xs++[x]):=by simp[B3]
theorem Dvs.one{d:PyData}(h:Dv K H d v):Dvs K H [d] [v]:=B6 h G1
def xt5(ns:List Int):List PyData:=ns.map .int
theorem wh3:∀ {ns:List Int} {vs:List V},Dvs K H (xt5 ns) vs↔vs=D7 ns
 | [],_=>by show Dvs K H [] _↔_=[];rw[Dvs]
 | x::xs,vs=>by
   show Dvs K H (.int x::xt5 xs) vs↔vs=V.int x::D7 xs
   rw[Dvs]
   constructor
   ·rintro⟨v,r,rfl,h1,h2⟩
    rw[M0.mp h1,wh3.mp h2]
   ·rintro rfl
    exact⟨_,_,rfl,M0.mpr rfl,wh3.mpr rfl⟩
theorem zl8(h1:Dv K H (.list ds) (.ref p))(h2:H e=some (.lst []))(h:Q (.bl (!ds.isEmpty)) H):wp3 K (.ref p) (.ref e) H Q:=by
 refine zk8 h1 (e:=.list []) (ql6.mpr ⟨e,[],rfl,SqL.of h2,G1⟩) ?_ ?_
 ·exact Nat.le_trans (Nat.min_le_right _ _) (by decide)
 ·cases ds <;> exact h
theorem none_of(s:A6 H H')(h:H' p=none):H p=none:=by
 cases e:H p with
 | none=>rfl
 | some o=>have:=s _ _ e;rw[h] at this;cases this
inductive Tr where
 | tx (s:Str)
 | nd (n:Str) (ps:List Tr)
mutual
def Tr.da:Tr->PyData
 | .tx s=>.str s
 | .nd n ps=>.tuple [.str n,.tuple (Tr.das ps)]
def Tr.das:List Tr->List PyData
 | []=>[]
 | t::ts=>t.da::Tr.das ts
end
theorem Z7:∀ ts:List Tr,Tr.das ts=ts.map Tr.da
 | []=>by rw[Tr.das];rfl
 | t::ts=>by rw[Tr.das,Z7 ts];rfl
mutual
theorem ym3:∀ t:Tr,fix t.da=true
 | .tx s=>by rw[Tr.da,fix]
 | .nd n ps=>by rw[Tr.da,fix,M7,fix,M7,fix,M7,X3 ps];rfl
theorem X3:∀ ts:List Tr,M7 (Tr.das ts)=true
 | []=>by rw[Tr.das,M7]
 | t::ts=>by rw[Tr.das,M7,ym3 t,X3 ts];rfl
end
def Tr.isTx:Tr->Bool
 | .tx _=>true
 | .nd _ _=>false
mutual
def pre(pl:List Int):Tr->List (List Int×Tr)
 | .tx s=>[(pl,.tx s)]
 | .nd n ps=>(pl,.nd n ps)::zl9 pl 0 ps
def zl9(pl:List Int)(k:Nat):List Tr->List (List Int×Tr)
 | []=>[]
 | t::ts=>pre (pl++[(k:Int)]) t++zl9 pl (k+1) ts
end
theorem xn0:∀ ns:List Int,M7 (xt5 ns)=true
 | []=>by show M7 []=true;rw[M7]
 | x::xs=>by show M7 (.int x::xt5 xs)=true;rw[M7,xn0 xs,fix];rfl
theorem N7{α:Type}{f:α->PyData}(h:∀ x,fix (f x)=true):∀ l:List α,M7 (l.map f)=true
 | []=>by show M7 []=true;rw[M7]
 | x::l=>by show M7 (f x::l.map f)=true;rw[M7,h,N7 h l];rfl
theorem ym4{n:Str}{ps:List Tr}(h:Dv K H (Tr.nd n ps).da v):∃ a b us,v=.ref a/\SqT K H a [.str n,.ref b]/\SqT K H b us/\Dvs K H (Tr.das ps) us:=by
 rw[Tr.da] at h
 obtain⟨a,xs,rfl,ha,h⟩:=C6.mp h
 rw[Dvs] at h;obtain⟨v1,r1,rfl,e1,h⟩:=h
 rw[Dvs] at h;obtain⟨v2,r2,rfl,e2,h⟩:=h
 rw[Dvs] at h;subst h
 rw[E5.mp e1] at ha
 obtain⟨b,ys,rfl,hb,h⟩:=C6.mp e2
 exact⟨a,b,ys,rfl,ha,hb,h⟩
theorem zm0{s:Str}(h:Dv K H (Tr.tx s).da v):v=.str s:=by rw[Tr.da] at h;exact E5.mp h
variable{t:Tr}{us:List V}
theorem yv2{ts:List Tr}(h:Dvs K H (Tr.das ts) us)(e:ts[i]?=some t):∃ u,us[i]?=some u/\Dv K H t.da u :=
 h.get (by rw[Z7,List.getElem?_map,e];rfl)
theorem wa1{ts:List Tr}(h:Dvs K H (Tr.das ts) us):us.length=ts.length:=by have:=h.length;rw[Z7,List.length_map] at this;exact this
theorem ze1(h:Dv K H t.da v)(q:Q (.bl t.isTx) H):yk4 K [v,.ty "str"] H Q:=by
 cases t with
 | tx s=>rw[zm0 h];exact zl0 (.str _) (b:=true) rfl q
 | nd n ps=>obtain⟨a,b,us,rfl,ha,_⟩:=ym4 h;exact zd5 ha (b:=false) rfl q
def qr6(K:Fg):Sp:=fun vs H Q _=>∃ (t:Tr) (v:V),vs=[v]/\Dv K H t.da v/\Q (.bl t.isTx) H
def wa2(K:Fg):TS :=
 (G9 (tCB (yk4 K) (A1 (A2 0) (A1 (tC (.ty "str")) A8))))
theorem xt6(h:qr6 K vs H Q E):wa2 K {nx:=fun _ H'=>Q .non H',rt:=Q} (C9 ["part"] vs) H:=by
 obtain⟨t,v,rfl,hd,q⟩:=h
 show wa2 K _ [some v] H
 unfold wa2
 lk
 exact ze1 hd q
theorem xz0{n:Str}{ps:List Tr}{r t:Addr}(h1:SqT K H r [.str n,.ref t])(h2:SqT K H t us)(h3:Dvs K H (Tr.das ps) us):Dv K H (Tr.nd n ps).da (.ref r):=by
 rw[Tr.da]
 exact C6.mpr ⟨r,_,rfl,h1,B6 (E5.mpr rfl) (B6 (C6.mpr ⟨t,us,rfl,h2,h3⟩) G1)⟩
mutual
def hgt:Tr->Nat
 | .tx _=>0
 | .nd _ ps=>1+qk9 ps
def qk9:List Tr->Nat
 | []=>0
 | t::ts=>max (hgt t) (qk9 ts)
end
theorem wh4:∀ a b:List Tr,qk9 (a++b)=max (qk9 a) (qk9 b)
 | [],b=>by rw[List.nil_append,qk9];omega
 | t::a,b=>by rw[List.cons_append,qk9,qk9,wh4 a b];omega
structure Cz(K:Fg)(k_Branch:Addr)(k_Reader:Addr):Prop where
 pg_Branch:PySem.W.plainGet K k_Branch Str.empty=true
 hd_Branch:PySem.W.hasDictIn K k_Branch=true
 po_Branch:PySem.W.plainOver K k_Branch=true
 sa_Branch:PySem.W.findIn K (.ref k_Branch) "__setattr__"=some (some (.builtin "object.__setattr__"))
 ns_Branch:PySem.W.nsIn K mainGlobals "Branch"=some (some (.ref k_Branch))
 na_Branch_name:PySem.W.findIn K (.ref k_Branch) "name"=some none
 na_Branch_place:PySem.W.findIn K (.ref k_Branch) "place"=some none
 na_Branch_parts:PySem.W.findIn K (.ref k_Branch) "parts"=some none
 na_Branch_waiting:PySem.W.findIn K (.ref k_Branch) "waiting"=some none
 pg_Reader:PySem.W.plainGet K k_Reader Str.empty=true
 hd_Reader:PySem.W.hasDictIn K k_Reader=true
 po_Reader:PySem.W.plainOver K k_Reader=true
 sa_Reader:PySem.W.findIn K (.ref k_Reader) "__setattr__"=some (some (.builtin "object.__setattr__"))
 ns_Reader:PySem.W.nsIn K mainGlobals "Reader"=some (some (.ref k_Reader))
 na_Reader_book:PySem.W.findIn K (.ref k_Reader) "book"=some none
 na_Reader_branches:PySem.W.findIn K (.ref k_Reader) "branches"=some none
 na_Reader_mends:PySem.W.findIn K (.ref k_Reader) "mends"=some none
 na_Reader_laid:PySem.W.findIn K (.ref k_Reader) "laid"=some none
variable{k_Branch k_Reader:Addr}
theorem Cz.cl_Branch(z:Cz K k_Branch k_Reader):Cls K k_Branch:=⟨z.pg_Branch,z.hd_Branch,z.po_Branch,z.sa_Branch⟩
theorem Cz.cl_Reader(z:Cz K k_Branch k_Reader):Cls K k_Reader:=⟨z.pg_Reader,z.hd_Reader,z.po_Reader,z.sa_Reader⟩
structure Brn where
 n:Str
 pl:List Int
 ps:List Tr
 ws:List Str
structure BA where
 o:Addr
 x:Addr
 p:Addr
 q:Addr
 w:Addr
def BA.fp(a:BA):List Addr:=[a.o,a.q,a.w]
def bF(a:BA)(b:Brn):List (Str×V):=[("name",.str b.n),("place",.ref a.p),("parts",.ref a.q),("waiting",.ref a.w)]
structure BrO(K:Fg)(H:Hp)(kB:Addr)(a:BA)(b:Brn):Prop where
 o:H a.o=some (.ins kB a.x (bF a b))
 p:SqT K H a.p (D7 b.pl)
 q:∃ us,H a.q=some (.lst us)/\Dvs K H (Tr.das b.ps) us
 w:H a.w=some (.lst (B3 b.ws))
structure Mnd where
 s:Int
 e:Int
 t:Str
 r:Str
def Mnd.da(m:Mnd):PyData:=.tuple [.int m.s,.int m.e,.str m.t,.str m.r]
structure Lad where
 s:Int
 g:Str
 pl:List Int
 a:Int
def Lad.da(m:Lad):PyData:=.tuple [.int m.s,.str m.g,.tuple (xt5 m.pl),.int m.a]
theorem Mnd.fix(m:Mnd):L2.fix m.da=true:=by unfold Mnd.da;simp[L2.fix,M7]
theorem Lad.fix(m:Lad):L2.fix m.da=true:=by unfold Lad.da;simp[L2.fix,M7,xn0]
structure Rst where
 bs:List Brn
 ms:List Mnd
 ls:List Lad
structure RAd where
 x:Addr
 L:Addr
 M:Addr
 A:Addr
 as:List BA
def fpA(as:List BA):List Addr:=as.flatMap BA.fp
def RAd.fp(r:Addr)(a:RAd):List Addr:=r::a.L::a.M::a.A::fpA a.as
inductive qc9(K:Fg)(H:Hp)(kB:Addr):List BA->List Brn->Prop
 | nil:qc9 K H kB [] []
 | cons {a:BA} {b:Brn} {as:List BA} {bs:List Brn}:BrO K H kB a b->qc9 K H kB as bs->qc9 K H kB (a::as) (b::bs)
structure RdO(K:Fg)(H:Hp)(kR kB r:Addr)(bv:V)(a:RAd)(st:Rst):Prop where
 kr:PySem.W.nsIn K mainGlobals "Reader"=some (some (.ref kR))
 kb:PySem.W.nsIn K mainGlobals "Branch"=some (some (.ref kB))
 o:H r=some (.ins kR a.x [("book",bv),("branches",.ref a.L),("mends",.ref a.M),("laid",.ref a.A)])
 l:H a.L=some (.lst (a.as.map fun z=>V.ref z.o))
 b:qc9 K H kB a.as st.bs
 m:∃ us,H a.M=some (.lst us)/\Dvs K H (st.ms.map Mnd.da) us
 d:∃ us,H a.A=some (.lst us)/\Dvs K H (st.ls.map Lad.da) us
 nd:(RAd.fp r a).Nodup
def wy6(H:Hp)(p:Addr):Prop:=(∃ xs,H p=some (.lst xs))\/∃ C dx fs,H p=some (.ins C dx fs)
variable{b:Brn}{kB:Addr}{as:List BA}
section
variable{kR kB r:Addr}{bv:V}{a a':RAd}{st st':Rst}{H':Hp}{ps:List Addr}
theorem wh5(bt:But ps H H')(hm:∀ p∈ps,wy6 H p):P8 H H':=by
 have no:∀ c o,H c=some o->(∀ xs,o≠.lst xs)->(∀ C dx fs,o≠.ins C dx fs)->c∉ps:=fun c o e h1 h2 hc=>by
  rcases hm c hc with⟨xs,e2⟩|⟨C,dx,fs,e2⟩
  ·rw[e] at e2;cases e2;exact h1 xs rfl
  ·rw[e] at e2;cases e2;exact h2 C dx fs rfl
 exact⟨fun c xs e=>bt c _ e (no c _ e (fun _ z=>by cases z) fun _ _ _ z=>by cases z),fun c o xs e=>bt c _ e (no c _ e (fun _ z=>by cases z) fun _ _ _ z=>by cases z)⟩
theorem BrO.but{a:BA}(h:BrO K H kB a b)(bt:But ps H H')(tk:P8 H H')(hd:∀ x∈a.fp,x∉ps):BrO K H' kB a b:=by
 obtain⟨us,h1,h2⟩:=h.q
 exact⟨bt _ _ h.o (hd _ (by simp[BA.fp])),tk.sqT h.p,⟨us,bt _ _ h1 (hd _ (by simp[BA.fp])),Dvs.tupK tk _ _ (X3 _) h2⟩,bt _ _ h.w (hd _ (by simp[BA.fp]))⟩
theorem qc9.but{bs:List Brn}(h:qc9 K H kB as bs)(bt:But ps H H')(tk:P8 H H')(hd:∀ x∈fpA as,x∉ps):qc9 K H' kB as bs:=by
 induction h with
 | nil=>exact .nil
 | cons h1 h2 ih=>exact .cons (h1.but bt tk fun x hx=>hd x (by unfold fpA;rw[List.flatMap_cons];exact List.mem_append_left _ hx)) (ih fun x hx=>hd x (by unfold fpA;rw[List.flatMap_cons];exact List.mem_append_right _ hx))
theorem qc9.app{as2:List BA}{bs bs2:List Brn}(h:qc9 K H kB as bs)(h2:qc9 K H kB as2 bs2):qc9 K H kB (as++as2) (bs++bs2):=by
 induction h with
 | nil=>exact h2
 | cons h1 _ ih=>exact .cons h1 ih
theorem qc9.len{bs:List Brn}(h:qc9 K H kB as bs):as.length=bs.length:=by
 induction h with
 | nil=>rfl
 | cons _ _ ih=>simp[ih]
theorem qc9.snoc{bs:List Brn}(h:qc9 K H kB as (bs++[b])):∃ as' a,as=as'++[a]/\qc9 K H kB as' bs/\BrO K H kB a b:=by
 induction bs generalizing as with
 | nil=>cases h with|cons h1 h2=>cases h2;exact⟨[],_,rfl,.nil,h1⟩
 | cons c bs ih =>
   cases h with
   | cons h1 h2 =>
     obtain⟨as',a,rfl,h3,h4⟩:=ih h2
     exact⟨_::as',a,rfl,.cons h1 h3,h4⟩
theorem qc9.mut{bs:List Brn}(h:qc9 K H kB as bs):∀ p∈fpA as,wy6 H p:=by
 induction h with
 | nil=>intro p hp;cases hp
 | cons h1 _ ih =>
   intro p hp
   unfold fpA at hp
   rw[List.flatMap_cons] at hp
   rcases List.mem_append.mp hp with hp|hp
   ·simp only[BA.fp,List.mem_cons,List.not_mem_nil,or_false] at hp
    rcases hp with rfl|rfl|rfl
    ·exact .inr ⟨_,_,_,h1.o⟩
    ·obtain⟨us,h2,_⟩:=h1.q;exact .inl ⟨_,h2⟩
    ·exact .inl ⟨_,h1.w⟩
   ·exact ih p hp
theorem RdO.mut(h:RdO K H kR kB r bv a st):∀ p∈RAd.fp r a,wy6 H p:=by
 intro p hp
 simp only[RAd.fp,List.mem_cons] at hp
 rcases hp with rfl|rfl|rfl|rfl|hp
 ·exact .inr ⟨_,_,_,h.o⟩
 ·exact .inl ⟨_,h.l⟩
 ·obtain⟨us,h1,_⟩:=h.m;exact .inl ⟨_,h1⟩
 ·obtain⟨us,h1,_⟩:=h.d;exact .inl ⟨_,h1⟩
 ·exact h.b.mut p hp
structure Rup(K:Fg)(kR kB r:Addr)(bv:V)(H:Hp)(a:RAd)(H':Hp)(a':RAd)(st':Rst):Prop where
 ok:RdO K H' kR kB r bv a' st'
 bt:But (RAd.fp r a) H H'
 fr:∀ x∈RAd.fp r a',x∈RAd.fp r a\/H x=none
theorem Rup.tr{a2:RAd}{st2:Rst}(h1:Rup K kR kB r bv H a H' a' st')(h2:Rup K kR kB r bv H' a' H2 a2 st2)(hd:∀ x,H' x=none->H x=none):Rup K kR kB r bv H a H2 a2 st2 :=
 ⟨h2.ok,fun c o e n=>h2.bt c o (h1.bt c o e n) fun hc=>(h1.fr c hc).elim n fun z=>(by rw[z] at e;cases e),
  fun x hx=>(h2.fr x hx).elim (h1.fr x) fun z=>.inr (hd x z)⟩
theorem Rup.tupK(h:Rup K kR kB r bv H a H' a' st')(h0:RdO K H kR kB r bv a st):P8 H H':=wh5 h.bt h0.mut
theorem RdO.same(h:RdO K H kR kB r bv a st)(s:A6 H H'):RdO K H' kR kB r bv a st:=by
 obtain⟨us,m1,m2⟩:=h.m
 obtain⟨vs,d1,d2⟩:=h.d
 exact⟨h.kr,h.kb,s _ _ h.o,s _ _ h.l,h.b.but (ps:=[]) (fun c o e _=>s c o e) s.tupK (fun _ _ z=>by cases z),⟨us,s _ _ m1,Dvs.same s _ _ m2⟩,⟨vs,s _ _ d1,Dvs.same s _ _ d2⟩,h.nd⟩
end
theorem M1{k k':Addr}(h:PySem.W.nsIn K mainGlobals x=some (some (.ref k)))(h':PySem.W.nsIn K mainGlobals x=some (some (.ref k'))):k=k':=by rw[h] at h';cases h';rfl
theorem ze2(v:V):qe3 ("name":Str) v []=[(("name":Str),v)]:=rfl
theorem ze3(n v:V):qe3 ("place":Str) v [(("name":Str),n)]=[(("name":Str),n),(("place":Str),v)]:=by
 show(if(("name":Str)) = "place" then _ else _)=_
 rw[if_neg (by decide)];rfl
theorem ze4(n p v:V):qe3 ("parts":Str) v [(("name":Str),n),(("place":Str),p)]=[(("name":Str),n),(("place":Str),p),(("parts":Str),v)]:=by
 show(if(("name":Str)) = "parts" then _ else _::(if(("place":Str)) = "parts" then _ else _))=_
 rw[if_neg (by decide),if_neg (by decide)];rfl
theorem ze5(n p q v:V):qe3 ("waiting":Str) v [(("name":Str),n),(("place":Str),p),(("parts":Str),q)]=[(("name":Str),n),(("place":Str),p),(("parts":Str),q),(("waiting":Str),v)]:=by
 show(if(("name":Str)) = "waiting" then _ else _::(if(("place":Str)) = "waiting" then _ else _::(if(("parts":Str)) = "waiting" then _ else _)))=_
 rw[if_neg (by decide),if_neg (by decide),if_neg (by decide)];rfl
variable{u:HO}
theorem Q7{o q:Addr}(h:upd H o u q=none):q≠o/\H q=none:=by
 by_cases e:q=o
 ·subst e;rw[A4] at h;cases h
 ·rw[B2 e] at h;exact⟨e,h⟩
abbrev wh6(K:Fg):TS :=
 (B7 (wb4 K (A2 0) (A2 2) "place")
 (B7 (wb4 K (A2 0) (T7 A8) "parts")
 (wb4 K (A2 0) (T7 A8) "waiting")))
def Q8(K:Fg):Sp:=fun vs H Q _=>∃ (kB o x p:Addr) (n:Str) (pl:List Int),vs=[.ref o,.str n,.ref p]/\PySem.W.nsIn K mainGlobals "Branch"=some (some (.ref kB))/\H o=some (.ins kB x [])/\SqT K H p (D7 pl)/\∀ (q w:Addr) (H':Hp),H q=none->H w=none->q≠w->But [o] H H'->BrO K H' kB ⟨o,x,p,q,w⟩ ⟨n,pl,[],[]⟩->(∀ z,H' z=none->H z=none)->Q .non H'
def X4(K:Fg):TS :=
 (B7 (wb4 K (A2 0) (A2 1) "name")
 (wh6 K))
theorem wl2(cz:Cz K k_Branch k_Reader)(h:Q8 K vs H Q E):X4 K {nx:=fun _ H'=>Q .non H',rt:=Q} (C9 ["self","name","place"] vs) H:=by
 obtain⟨kB,o,x,p,n,pl,rfl,hkB,ho,hp,q⟩:=h
 obtain rfl:=M1 cz.ns_Branch hkB
 show X4 K _ [some (.ref o),some (.str n),some (.ref p)] H
 unfold X4
 have c:=cz.cl_Branch
 refine Y5 (qg7 ?_)
 lk
 refine⟨o,_,x,_,rfl,ho,c,cz.na_Branch_name,by simp,?_⟩
 rw[ze2]
 show B7 (wb4 K (A2 0) (A2 2) "place") _ _ _ _
 refine Y5 (qg7 ?_)
 lk
 refine⟨o,_,x,_,rfl,A4,c,cz.na_Branch_place,by simp,?_⟩
 rw[ze3]
 show B7 (wb4 K (A2 0) (T7 A8) "parts") _ _ _ _
 refine Y5 (qg7 ?_)
 lk
 refine⟨D8 (by z_go),fun q1 hq1=>?_⟩
 lk
 obtain⟨n1,hq2⟩:=Q7 hq1
 obtain⟨_,hq⟩:=Q7 hq2
 refine⟨o,_,x,_,rfl,by rw[B2 (Ne.symm n1),A4],c,cz.na_Branch_parts,by simp,?_⟩
 rw[ze4]
 show wb4 K (A2 0) (T7 A8) "waiting" _ _ _
 refine qg7 ?_
 lk
 refine⟨D8 (by z_go),fun w1 hw1=>?_⟩
 lk
 obtain⟨n2,hw2⟩:=Q7 hw1
 obtain⟨n3,hw3⟩:=Q7 hw2
 obtain⟨_,hw4⟩:=Q7 hw3
 obtain⟨_,hw⟩:=Q7 hw4
 refine⟨o,_,x,_,rfl,by rw[B2 (Ne.symm n2),A4],c,cz.na_Branch_waiting,by simp,?_⟩
 rw[ze5]
 have bt:∀ z u,H z=some u->z≠o->(upd (upd (upd (upd (upd (upd H o (.ins k_Branch x [(("name":Str),.str n)])) o (.ins k_Branch x [(("name":Str),.str n),(("place":Str),.ref p)])) q1 (.lst [])) o (.ins k_Branch x [(("name":Str),.str n),(("place":Str),.ref p),(("parts":Str),.ref q1)])) w1 (.lst [])) o (.ins k_Branch x [(("name":Str),.str n),(("place":Str),.ref p),(("parts":Str),.ref q1),(("waiting":Str),.ref w1)])) z=some u:=fun z u e no=>by
  have a1:z≠q1:=fun y=>by rw[y,hq] at e;cases e
  have a2:z≠w1:=fun y=>by rw[y,hw] at e;cases e
  rw[B2 no,B2 a2,B2 no,B2 a1,B2 no,B2 no];exact e
 have b1:But [o] H _:=fun z u e nz=>bt z u e (by simpa using nz)
 refine q q1 w1 _ hq hw (Ne.symm n3) b1 ⟨A4,(wh5 b1 fun z hz=>?_).sqT hp,⟨[],by rw[B2 n1,B2 (Ne.symm n3),B2 n1,A4],by rw[Tr.das];exact G1⟩,by rw[B2 n2,A4];rfl⟩ fun z hz=>?_
 ·rw[List.mem_singleton.mp hz];exact .inr ⟨_,_,_,ho⟩
 ·obtain⟨a1,hz⟩:=Q7 hz
  obtain⟨_,hz⟩:=Q7 hz
  obtain⟨_,hz⟩:=Q7 hz
  obtain⟨_,hz⟩:=Q7 hz
  obtain⟨_,hz⟩:=Q7 hz
  exact(Q7 hz).2
theorem ql8{xs:List α}{v:α}(hn:xs.length=n+1)(e:xs[n]?=some v):atI xs (-1)=some v:=by
 unfold atI ixN
 rw[if_neg (by decide),if_pos (by omega)]
 show xs[((xs.length:Int) + -1).toNat]?=some v
 rw[show((xs.length:Int) + -1).toNat=n by omega];exact e
variable{st':Rst}
section
variable{kR kB r:Addr}{bv:V}{a:RAd}{st:Rst}
theorem RdO.apart(h:RdO K H kR kB r bv a st):r≠a.L/\r≠a.M/\r≠a.A/\a.L≠a.M/\a.L≠a.A/\a.M≠a.A/\r∉fpA a.as/\a.L∉fpA a.as/\a.M∉fpA a.as/\a.A∉fpA a.as/\(fpA a.as).Nodup:=by
 have:=h.nd
 simp only[RAd.fp,List.nodup_cons,List.mem_cons,not_or] at this
 obtain⟨⟨a1,a2,a3,a4⟩,⟨b1,b2,b3⟩,⟨c1,c2⟩,d1,e1⟩:=this
 exact⟨a1,a2,a3,b1,b2,c1,a4,b3,c2,d1,e1⟩
theorem But.upd1:But [p] H (upd H p o):=fun z u e n=>by rw[B2 (by simpa using n)];exact e
theorem J7(h:wy6 H p):P8 H (upd H p o):=wh5 (ps:=[p]) But.upd1 fun z hz=>by rw[List.mem_singleton.mp hz];exact h
theorem RdO.setM{ms:List Mnd}(h:RdO K H kR kB r bv a st)(hd:Dvs K H (ms.map Mnd.da) us):RdO K (upd H a.M (.lst us)) kR kB r bv a {st with ms:=ms}:=by
 obtain⟨a1,a2,a3,b1,b2,c1,d1,d2,d3,d4,e1⟩:=h.apart
 obtain⟨us0,m1,_⟩:=h.m
 obtain⟨vs,l1,l2⟩:=h.d
 have tk:P8 H (upd H a.M (.lst us)):=J7 (.inl ⟨_,m1⟩)
 exact⟨h.kr,h.kb,by rw[B2 a2];exact h.o,by rw[B2 b1];exact h.l,h.b.but But.upd1 tk fun x hx z=>d3 (by rw[List.mem_singleton.mp z] at hx;exact hx),⟨us,A4,Dvs.tupK tk _ _ (N7 Mnd.fix ms) hd⟩,⟨vs,by rw[B2 (Ne.symm c1)];exact l1,Dvs.tupK tk _ _ (N7 Lad.fix _) l2⟩,h.nd⟩
theorem RdO.setA{ls:List Lad}(h:RdO K H kR kB r bv a st)(hd:Dvs K H (ls.map Lad.da) us):RdO K (upd H a.A (.lst us)) kR kB r bv a {st with ls:=ls}:=by
 obtain⟨a1,a2,a3,b1,b2,c1,d1,d2,d3,d4,e1⟩:=h.apart
 obtain⟨us0,m1,m2⟩:=h.m
 obtain⟨vs,l1,_⟩:=h.d
 have tk:P8 H (upd H a.A (.lst us)):=J7 (.inl ⟨_,l1⟩)
 exact⟨h.kr,h.kb,by rw[B2 a3];exact h.o,by rw[B2 b2];exact h.l,h.b.but But.upd1 tk fun x hx z=>d4 (by rw[List.mem_singleton.mp z] at hx;exact hx),⟨us0,by rw[B2 c1];exact m1,Dvs.tupK tk _ _ (N7 Mnd.fix _) m2⟩,⟨us,A4,Dvs.tupK tk _ _ (N7 Lad.fix ls) hd⟩,h.nd⟩
def C3(H H':Hp):Prop:=∀ z,H' z=none->H z=none
theorem A6.grow(s:A6 H H'):C3 H H':=fun z hz=>by
 cases e:H z with
 | none=>rfl
 | some u=>rw[s z u e] at hz;cases hz
theorem C3.upd:C3 H (upd H p o):=fun z hz=>(Q7 hz).2
theorem C3.tr(g1:C3 H H1)(g2:C3 H1 H2):C3 H H2:=fun z hz=>g1 z (g2 z hz)
theorem Rup.keep(ok:RdO K H' kR kB r bv a st')(bt:But (RAd.fp r a) H H'):Rup K kR kB r bv H a H' a st':=⟨ok,bt,fun x hx=>.inl hx⟩
end
def L5(K:Fg):Sp:=fun vs H Q _=>∃ (kR kB r:Addr) (bv:V) (a:RAd) (st:Rst) (i:Int) (g rule:Str),vs=[.ref r,.int i,.str g,.str rule]/\RdO K H kR kB r bv a st/\st.ms.length<=90000/\g.length<=1000000/\∀ H',Rup K kR kB r bv H a H' a {st with ms:=st.ms++[⟨i,i+g.length, "",rule⟩]}->C3 H H'->Q .non H'
def X5(K:Fg):TS :=
 (G5 (tBM K "list" G6 (Q5 K (A2 0) "mends") (A1 (W3 (A1 (A2 1) (A1 (tOp (I0 K) (A2 1) (tCB (N5 K) (A1 (A2 2) A8))) (A1 (tC (.str "")) (A1 (A2 3) A8))))) A8)))
theorem wl3(cz:Cz K k_Branch k_Reader)(h:L5 K vs H Q E):X5 K {nx:=fun _ H'=>Q .non H',rt:=Q} (C9 ["self","start","signs","rule"] vs) H:=by
 obtain⟨kR,kB,r,bv,a,st,i,g,rule,rfl,h,hl,hg,q⟩:=h
 obtain rfl:=M1 cz.ns_Reader h.kr
 show X5 K _ [some (.ref r),some (.int i),some (.str g),some (.str rule)] H
 unfold X5
 obtain⟨us,m1,m2⟩:=h.m
 have hul:us.length=st.ms.length:=by have:=m2.length;rw[List.length_map] at this;exact this
 lk
 refine G0 ?_
 lk
 refine⟨r,_,a.x,_,_,rfl,h.o,cz.cl_Reader,cz.na_Reader_mends,rfl,?_⟩
 lk
 refine⟨.inl ⟨rfl,_,SqL.of m1⟩,?_⟩
 lk
 refine .inr (.inl ⟨g,rfl,by rw[sizeLine_eq];omega,?_⟩)
 lk
 refine⟨D8 (by z_go),fun p hp=>?_⟩
 have s1:=A6.new hp (.tup [.int i,.int (i+g.length),.str "",.str rule])
 have e1:(upd H p (.tup [.int i,.int (i+g.length),.str "",.str rule])) p=some (.tup [.int i,.int (i+g.length),.str "",.str rule]):=A4
 generalize upd H p (.tup [.int i,.int (i+g.length),.str "",.str rule])=H1 at *
 have h1:=h.same s1
 lk
 refine I9 (s1 _ _ m1) (by rw[sizeLine_eq];omega) ?_
 refine q _ (.keep (h1.setM ?_) fun c o e n=>?_) (C3.tr (A6.grow s1) C3.upd)
 ·rw[List.map_append]
  refine Dvs.append (Dvs.same s1 _ _ m2) (Dvs.one (C6.mpr ⟨p,_,rfl,SqT.of e1,B6 (M0.mpr rfl) (B6 (M0.mpr rfl) (B6 (E5.mpr rfl) (B6 (E5.mpr rfl) G1)))⟩))
 ·rw[B2 (fun z=>n (by rw[z];simp[RAd.fp]))];exact s1 c o e
section
variable{kR kB r:Addr}{bv:V}{a:RAd}{st:Rst}
theorem P9(as bs:List BA):fpA (as++bs)=fpA as++fpA bs:=by unfold fpA;rw[List.flatMap_append]
theorem RdO.dom(h:RdO K H kR kB r bv a st):∀ p∈RAd.fp r a,H p≠none:=fun p hp e=>by
 rcases h.mut p hp with⟨xs,e2⟩|⟨C,dx,fs,e2⟩ <;> rw[e] at e2 <;> cases e2
theorem RdO.push{H4:Hp}{x:BA}{b:Brn}(h:RdO K H kR kB r bv a st)(s:A6 H H4)(hb:BrO K H4 kB x b)(hn:∀ z∈x.fp,H z=none)(hd:x.fp.Nodup) :
 RdO K (upd H4 a.L (.lst ((a.as++[x]).map fun z=>V.ref z.o))) kR kB r bv {a with as:=a.as++[x]} {st with bs:=st.bs++[b]}:=by
 have h4:=h.same s
 obtain⟨a1,a2,a3,b1,b2,c1,d1,d2,d3,d4,e1⟩:=h.apart
 obtain⟨us,m1,m2⟩:=h4.m
 obtain⟨vs,l1,l2⟩:=h4.d
 have tk:P8 H4 (upd H4 a.L (.lst ((a.as++[x]).map fun z=>V.ref z.o))):=J7 (.inl ⟨_,h4.l⟩)
 have nx:∀ z∈RAd.fp r a,z∉x.fp:=fun z hz hx=>h.dom z hz (hn z hx)
 have nL:∀ z∈x.fp,z≠a.L:=fun z hz e=>nx a.L (by simp[RAd.fp]) (e▸hz)
 refine⟨h.kr,h.kb,by rw[B2 a1];exact h4.o,A4,(h4.b.but But.upd1 tk fun z hz w=>d2 (by rw[List.mem_singleton.mp w] at hz;exact hz)).app (.cons (hb.but But.upd1 tk fun z hz w=>nL z hz (List.mem_singleton.mp w)) .nil),⟨us,by rw[B2 (Ne.symm b1)];exact m1,Dvs.tupK tk _ _ (N7 Mnd.fix _) m2⟩,⟨vs,by rw[B2 (Ne.symm b2)];exact l1,Dvs.tupK tk _ _ (N7 Lad.fix _) l2⟩,?_⟩
 have e:RAd.fp r {a with as:=a.as++[x]}=RAd.fp r a++x.fp:=by
  unfold RAd.fp
  show r::a.L::a.M::a.A::fpA (a.as++[x])=_
  rw[P9]
  show _=r::a.L::a.M::a.A::(fpA a.as++x.fp)
  have:fpA [x]=x.fp:=by unfold fpA;rw[List.flatMap_cons,List.flatMap_nil,List.append_nil]
  rw[this]
 rw[e,List.nodup_append]
 exact⟨h.nd,hd,fun p hp q hq e=>nx p hp (e▸hq)⟩
end
abbrev we1(K:Fg)(k_Branch:Addr):TS :=
 (G5 (tBM K "list" G6 (Q5 K (A2 0) "branches") (A1 (xk2 k_Branch (Q8 K) [] E0 (A1 (A2 1) (A1 (tOp (qw9 K) (Q5 K (A2 2) "place") (W3 (A1 (tCB (N5 K) (A1 (Q5 K (A2 2) "parts") A8)) A8))) A8))) A8)))
def P0(K:Fg):Sp:=fun vs H Q _=>∃ (kR kB r:Addr) (bv:V) (a:RAd) (st:Rst) (n:Str) (bs:List Brn) (b0:Brn),vs=[.ref r,.str n]/\RdO K H kR kB r bv a st/\st.bs=bs++[b0]/\bs.length<=1000/\b0.pl.length<=1000/\b0.ps.length<=90000/\∀ a' H',Rup K kR kB r bv H a H' a' {st with bs:=st.bs++[⟨n,b0.pl++[(b0.ps.length:Int)],[],[]⟩]}->C3 H H'->Q .non H'
def U3(K:Fg)(k_Branch:Addr):TS :=
 (B7 (E1 (tOp (L4 K) (Q5 K (A2 0) "branches") (tUn (rU fun i=>.int (-i)) (tC (.int 1)))) (B1 2))
 (we1 K k_Branch))
theorem wh9(cz:Cz K k_Branch k_Reader)(h:P0 K vs H Q E):U3 K k_Branch {nx:=fun _ H'=>Q .non H',rt:=Q} (C9 ["self","name","above"] vs) H:=by
 obtain⟨kR,kB,r,bv,a,st,n,bs,b0,rfl,h,eb,hl,hp,hz,q⟩:=h
 obtain rfl:=M1 cz.ns_Reader h.kr
 obtain rfl:=M1 cz.ns_Branch h.kb
 show U3 K _ _ [some (.ref r),some (.str n),none] H
 unfold U3
 have hb:=h.b
 rw[eb] at hb
 obtain⟨as',x,ea,hb1,hx⟩:=hb.snoc
 obtain⟨us,q1,q2⟩:=hx.q
 have hul:=wa1 q2
 have hal:=hb1.len
 have hLl:(a.as.map fun z=>V.ref z.o).length=as'.length+1:=by rw[ea];simp
 lk
 refine G0 ?_
 lk
 refine⟨r,_,a.x,_,_,rfl,h.o,cz.cl_Reader,cz.na_Reader_branches,rfl,?_⟩
 lk
 refine⟨1,rfl,?_⟩
 refine S4 (SqL.of h.l) (v:=.ref x.o) (ql8 hLl (by rw[ea];simp)) ?_
 lk
 refine G0 ?_
 lk
 refine⟨r,_,a.x,_,_,rfl,h.o,cz.cl_Reader,cz.na_Reader_branches,rfl,?_⟩
 lk
 refine⟨.inl ⟨rfl,_,SqL.of h.l⟩,?_⟩
 lk
 refine xf9 ?_
 lk
 refine G0 ?_
 lk
 refine⟨x.o,_,x.x,_,_,rfl,hx.o,cz.cl_Branch,cz.na_Branch_place,rfl,?_⟩
 lk
 refine G0 ?_
 lk
 refine⟨x.o,_,x.x,_,_,rfl,hx.o,cz.cl_Branch,cz.na_Branch_parts,rfl,?_⟩
 lk
 refine R7 (.inl (SqL.of q1)) ?_
 rw[hul]
 lk
 refine⟨D8 (by z_go),fun p1 h1=>?_⟩
 have s1:=A6.new h1 (.tup [.int b0.ps.length])
 refine wt6 (s1.sqT hx.p) (SqT.of A4) (by rw[M6];exact D8 (by show _+1<=_;omega)) fun p2 H2 s2 hp2=>?_
 rw[show D7 b0.pl++[V.int b0.ps.length]=D7 (b0.pl++[(b0.ps.length:Int)]) by simp[D7]] at hp2
 have s12:=A6.tr s1 s2
 lk
 intro o dx ho hdx ne
 have s3:A6 H2 (upd (upd H2 dx (.own o)) o (.ins k_Branch dx [])):=fun z u e=>by rw[B2 (fun y=>by rw[y,ho] at e;cases e),B2 (fun y=>by rw[y,hdx] at e;cases e)];exact e
 have g3:C3 H2 (upd (upd H2 dx (.own o)) o (.ins k_Branch dx [])):=C3.tr C3.upd C3.upd
 have e3:(upd (upd H2 dx (.own o)) o (.ins k_Branch dx [])) o=some (.ins k_Branch dx []):=A4
 generalize upd (upd H2 dx (.own o)) o (.ins k_Branch dx [])=H3 at *
 refine⟨k_Branch,o,dx,p2,n,_,rfl,cz.ns_Branch,e3,s3.sqT hp2,fun qq ww H4 hq hw hqw bt hB g4=>⟨rfl,?_⟩⟩
 have s4:A6 H2 H4:=fun z u e=>bt z u (s3 z u e) (by simp;intro y;rw[y,ho] at e;cases e)
 have s14:=A6.tr s12 s4
 lk
 refine I9 (s14 _ _ h.l) (by rw[hLl,sizeLine_eq];omega) ?_
 have nH:∀ z,H2 z=none->H z=none:=A6.grow s12
 have fq:∀ z∈BA.fp ⟨o,dx,p2,qq,ww⟩,H z=none:=fun z hz=>by
  simp only[BA.fp,List.mem_cons,List.not_mem_nil,or_false] at hz
  rcases hz with rfl|rfl|rfl
  ·exact nH _ ho
  ·exact nH _ (g3 _ hq)
  ·exact nH _ (g3 _ hw)
 have nd:(BA.fp ⟨o,dx,p2,qq,ww⟩).Nodup:=by
  have n1:o≠qq:=fun y=>by rw[<-y,e3] at hq;cases hq
  have n2:o≠ww:=fun y=>by rw[<-y,e3] at hw;cases hw
  simp[BA.fp,n1,n2,hqw]
 have hp:=h.push s14 hB fq nd
 rw[List.map_append] at hp
 refine q _ _ ⟨hp,fun c u e nc=>?_,fun z hz=>?_⟩ (C3.tr (C3.tr (C3.tr (A6.grow s12) g3) g4) C3.upd)
 ·rw[B2 (fun y=>nc (by rw[y];simp[RAd.fp]))];exact s14 c u e
 ·have:z∈RAd.fp r a\/z∈BA.fp ⟨o,dx,p2,qq,ww⟩:=by
   simp only[RAd.fp,P9,List.mem_cons,List.mem_append] at hz ⊢
   rcases hz with h|h|h|h|h|h
   ·exact .inl (.inl h)
   ·exact .inl (.inr (.inl h))
   ·exact .inl (.inr (.inr (.inl h)))
   ·exact .inl (.inr (.inr (.inr (.inl h))))
   ·exact .inl (.inr (.inr (.inr (.inr h))))
   ·exact .inr (by simpa [fpA] using h)
  exact this.imp id fun h=>fq z h
def S5(K:Fg):Sp:=fun vs H Q _=>∃ (a:Addr) (ns:List Int) (k:Int),vs=[.ref a,.int k]/\SqL K H a (ns.map V.int)/\0<=k/\∀ n:Int,Q (.int n) H
def Z8(K:Fg):TS :=
 (B7 (T5 (E3 (tOp ys7 (A2 1) (tCB (N5 K) (A1 (A2 0) A8))))
 (G9 (tOp (L4 K) (A2 0) (A2 1))) O3)
 (G9 (tC (.int 0))))
theorem wp8(h:S5 K vs H Q E):Z8 K {nx:=fun _ H'=>Q .non H',rt:=Q} (C9 ["_law_script","_law_k"] vs) H:=by
 obtain⟨a,ns,k,rfl,hS,h0,q⟩:=h
 show Z8 K _ [some (.ref a),some (.int k)] H
 unfold Z8
 lk
 refine R7 (.inl hS) ?_
 lk
 rw[List.length_map]
 by_cases hk:k<(ns.length:Int)
 ·rw[decide_eq_true hk];refine qk8 ?_
  have hk':k.toNat<ns.length:=by omega
  lk
  refine S4 hS (v:=.int ns[k.toNat]) ?_ (q _)
  have ek:k=((k.toNat:Nat):Int):=by omega
  have e:atI (ns.map V.int) ((k.toNat:Nat):Int)=some (.int ns[k.toNat]):=Z4 (by rw[List.getElem?_map,List.getElem?_eq_getElem hk'] <;> rfl)
  rw[<-ek] at e
  exact e
 ·rw[decide_eq_false hk];refine qf3 ?_
  exact q 0
end
theorem xz1{α:Type}[BEq α][LawfulBEq α]:∀ {l m:List α},l.Nodup->(∀ x∈l,x∈m)->l.length<=m.length
 | [],_,_,_=>Nat.zero_le _
 | x::l,m,hn,hs=>by
   rw[List.nodup_cons] at hn
   have hm:=hs x (by simp)
   have h2:∀ y∈l,y∈m.erase x:=fun y hy=>(List.mem_erase_of_ne (fun e=>hn.1 (by rw[<-e];exact hy))).mpr (hs y (by simp[hy]))
   have:=xz1 hn.2 h2
   have e:=List.length_erase_of_mem hm
   have hp:=List.length_pos_of_mem hm
   rw[List.length_cons];omega
def S7(K:Fg):Sp:=fun vs H Q _=>∃ c k:Int,vs=[.int c,.int k]/\0<=k/\k<=1000/\∀ n:Int,0<=n->Q (.int n) H
def qg9(K:Fg):TS :=
 (B7 (E1 (tOp (rI xq3 fun i j=>.int (i / j)) (A2 0) (tC (.int 2))) (B1 2))
 (B7 (T5 (E3 (tOp (qb6 K) (tOp (rI (fun _ j=>0<j) fun i j=>.int (i % j)) (A2 0) (tC (.int 2))) (tC (.int 0))))
 (G9 (tOp (rI (fun _ j=>0<j) fun i j=>.int (i % j)) (tOp (rI (fun _ j=>0<=j) fun i j=>.int (i / 2 ^ j.toNat)) (A2 2) (tOp qp2 (tC (.int 64)) (A2 1))) (tOp (rI yh2 fun i j=>.int (i*2 ^ j.toNat)) (tC (.int 1)) (tC (.int 64))))) O3)
 (B7 (E1 (tOp (I0 K) (tOp (rI (fun _ j=>0<j) fun i j=>.int (i % j)) (A2 2) (tC (.int 2147483647))) (tOp qp2 (tC (.int 48271)) (tOp (I0 K) (A2 1) (tC (.int 1))))) (B1 3))
 (B7 (E1 (tOp (rI (fun _ j=>0<j) fun i j=>.int (i % j)) (tOp (I0 K) (tOp qp2 (A2 3) (A2 3)) (tOp qp2 (tC (.int 69621)) (A2 1))) (tC (.int 2147483647))) (B1 3))
 (G9 (tOp (rI (fun _ j=>0<j) fun i j=>.int (i % j)) (tOp (I0 K) (tOp (I0 K) (tOp qp2 (A2 3) (A2 3)) (tOp qp2 (tC (.int 16807)) (A2 1))) (tC (.int 1))) (tC (.int 2147483629))))))))
theorem wy7(h:S7 K vs H Q E):qg9 K {nx:=fun _ H'=>Q .non H',rt:=Q} (C9 ["_law_cell","_law_k","_law_half","_law_number"] vs) H:=by
 obtain⟨c,k,rfl,hk0,hk1,q⟩:=h
 show qg9 K _ [some (.int c),some (.int k),none,none] H
 unfold qg9
 lk
 by_cases hc:c % 2=0
 ·rw[decide_eq_true hc];refine qk8 ?_
  lk
  refine qw8 (.inl ⟨by decide,by decide⟩) ?_
  refine yy4 (by omega) ?_
  lk
  refine yy5 ⟨by decide,by decide,by decide⟩ ?_
  refine yj9 (by decide) ?_
  exact q _ (Int.emod_nonneg _ (by decide))
 ·rw[decide_eq_false hc];refine qf3 ?_
  lk
  refine qw8 (.inl ⟨by decide,by decide⟩) ?_
  lk
  have a0:=Int.emod_nonneg (c / 2) (show(2147483647:Int)≠0 by decide)
  have a1:=Int.emod_lt_of_pos (c / 2) (show(0:Int)<2147483647 by decide)
  generalize hm:c / 2 % 2147483647+48271*(k+1)=m at *
  refine qw8 (.inl ⟨by omega,by omega⟩) ?_
  lk
  refine qw8 (.inl ⟨by decide,by decide⟩) ?_
  lk
  have b0:=Int.emod_nonneg (m*m+69621*k) (show(2147483647:Int)≠0 by decide)
  have b1:=Int.emod_lt_of_pos (m*m+69621*k) (show(0:Int)<2147483647 by decide)
  generalize hm2:(m*m+69621*k) % 2147483647=m2 at *
  refine qw8 (.inl ⟨by omega,by omega⟩) ?_
  lk
  refine qw8 (.inl ⟨by decide,by decide⟩) ?_
  lk
  exact q _ (Int.emod_nonneg _ (by decide))
def Sg(ns:List Int):Prop:=(∀ x∈ns,0<=x/\x<26)/\1<=ns.length/\ns.length<=8
def O6(K:Fg):Sp:=fun vs H Q _=>∃ n:Int,vs=[.int n]/\∀ (p:Addr) (ns:List Int) (H':Hp),A6 H H'->H p=none->H' p=some (.lst (D7 ns))->Sg ns->Q (.ref p) H'
def Z9(K:Fg):TS :=
 (B7 (E1 (T7 A8) (B1 1))
 (B7 (E1 (tOp (I0 K) (tC (.int 1)) (tOp (rI (fun _ j=>0<j) fun i j=>.int (i % j)) (A2 0) (tC (.int 8)))) (B1 2))
 (B7 (E1 (tOp (rI xq3 fun i j=>.int (i / j)) (A2 0) (tC (.int 8))) (B1 0))
 (B7 (qg5 (xj8 (A1 (A2 2) A8)) (B1 3)
 (B7 (G5 (tBM K "list" G6 (A2 1) (A1 (tOp (rI (fun _ j=>0<j) fun i j=>.int (i % j)) (A2 0) (tC (.int 26))) A8)))
 (E1 (tOp (rI xq3 fun i j=>.int (i / j)) (A2 0) (tC (.int 26))) (B1 0))))
 (G9 (A2 1))))))
theorem wp9(h:O6 K vs H Q E):Z9 K {nx:=fun _ H'=>Q .non H',rt:=Q} (C9 ["_law_number","_law_signs","_law_width","_law_j"] vs) H:=by
 obtain⟨n,rfl,q⟩:=h
 show Z9 K _ [some (.int n),none,none,none] H
 unfold Z9
 lk
 refine⟨D8 (by z_go),fun d hd=>?_⟩
 lk
 have a0:=Int.emod_nonneg n (show(8:Int)≠0 by decide)
 have a1:=Int.emod_lt_of_pos n (show(0:Int)<8 by decide)
 generalize hm:(1:Int)+n % 8=m at *
 refine wt2 (by omega) (by omega) (fun i σ H'=>∃ (y:Int) (a:Option V) (ns:List Int),σ=[some (.int y),some (.ref d),some (.int m),a]/\A6 H H'/\H' d=some (.lst (D7 ns))/\ns.length=i/\∀ x∈ns,0<=x/\x<26) ⟨_,none,[],rfl,A6.new hd _,A4,rfl,by simp⟩ ?_ ?_
 ·rintro i σ H' hi ⟨y,a,ns,rfl,s1,h1,hl,hns⟩
  lk
  refine⟨.inl ⟨rfl,_,SqL.of h1⟩,?_⟩
  lk
  refine I9 h1 (by rw[M6,sizeLine_eq];omega) ?_
  lk
  refine⟨_,_,ns++[y % 26],rfl,A6.put s1 hd _,by rw[<-ym2];exact A4,by simp[hl],fun x hx=>?_⟩
  rcases List.mem_append.mp hx with h|h
  ·exact hns x h
  ·rw[List.mem_singleton.mp h];exact⟨Int.emod_nonneg _ (by decide),Int.emod_lt_of_pos _ (by decide)⟩
 ·rintro σ H' ⟨y,a,ns,rfl,s1,h1,hl,hns⟩
  lk
  exact q d ns H' s1 hd h1 ⟨hns,by omega,by omega⟩
def xg2(K:Fg):TS :=
 (B7 (E1 (tBM K "str" (yx7 K) (tC (.str "")) (A1 (qt3 [some 1,none] (qw7 K (A2 4)) (B1 1) tTT (tOp (L4 K) (A2 0) (A2 1))) A8)) (B1 5))
 (B7 (E1 (qt3 [some 2,none] (yt8 (A2 1)) (B1 1) (E3 (tOp (xf6 K true) (tOp qp2 (A2 1) (tC (.int 8))) (A2 0))) (tOp qp2 (A2 1) (tC (.int 8)))) (B1 6))
 (G5 (tBM K "list" G6 (A2 2) (A1 (tOp (L4 K) (T7 (A1 (A2 5) (A1 (tOp (L4 K) (A2 6) (tC (.int 0))) A8))) (tCB yj2 (A1 (tOp (xf6 K false) (A2 5) (tOp (I0 K) (A2 2) (T7 (A1 (tC (.str "bars")) (A1 (tC (.str "shuts")) A8))))) A8))) A8)))))
def xg3(K:Fg):TS :=
 (B7 (T5 (E3 (tOp (qb6 K) (tOp (rI (fun _ j=>0<j) fun i j=>.int (i % j)) (A2 0) (tC (.int 4))) (tC (.int 3))))
 (B7 (E1 (tSl (wg7 K) (C7 (O6 K) [] E0 (A1 (tOp (I0 K) (tC (.int 7)) (tOp qp2 (tC (.int 8)) (C7 (S7 K) [] E0 (A1 (A2 0) (A1 (tC (.int 2)) A8))))) A8)) qg6 (S3 (tOp (I0 K) (tOp (rI (fun _ j=>0<j) fun i j=>.int (i % j)) (A2 3) (tC (.int 8))) (tC (.int 1))))) (B1 4))
 (E1 (tOp (rI (fun _ j=>0<j) fun i j=>.int (i % j)) (tOp (I0 K) (tOp (L4 K) (A2 4) (tC (.int 0))) (tCB yj2 (A1 (tOp wy4 (A2 3) (tC (.int 7))) A8))) (tC (.int 26))) (yr0 (A2 4) (tC (.int 0)) yk3))) O3)
 (xg2 K))
structure Nms(names:List Str):Prop where
 nd:names.Nodup
 ne:∀ x∈names,x≠("":Str)
 le:∀ x∈names,x.length<=8
 lt:∀ x∈names,∀ c∈x.cps.toList,97<=c/\c<=122
theorem yv3(c:Nat):PySem.Txt.mul (ch c) 8≠("":Str):=fun e=>by
 have h1:(PySem.Txt.mul (ch c) 8).cps.toList=List.replicate 8 c:=wu2 (by decide)
 rw[e] at h1
 cases h1
theorem ym5{d:Nat}(e:PySem.Txt.mul (ch c) 8=PySem.Txt.mul (ch d) 8):c=d:=by
 have h1:(PySem.Txt.mul (ch c) 8).cps.toList=List.replicate 8 c:=wu2 (by decide)
 have h2:(PySem.Txt.mul (ch d) 8).cps.toList=List.replicate 8 d:=wu2 (by decide)
 rw[e,h2] at h1
 injection h1 with h1
 exact h1.symm
def qf4(names:List Str)(cs:List Nat):List Str:=(cs.map fun c=>PySem.Txt.mul (ch c) 8).filter fun x=>!decide (x∈names)
theorem ym6:Lt.cps.toList.Nodup:=by decide +kernel
theorem wc6{α β:Type}{f:α->β}(hf:∀ x y,f x=f y->x=y):∀ {l:List α},l.Nodup->(l.map f).Nodup
 | [],_=>by simp
 | x::l,h=>by
   rw[List.nodup_cons] at h
   rw[List.map_cons,List.nodup_cons]
   refine⟨fun hm=>?_,wc6 hf h.2⟩
   obtain⟨y,hy,e⟩:=List.mem_map.mp hm
   exact h.1 (by rw[<-hf _ _ e];exact hy)
variable{names:List Str}
theorem yf3(h:names.length<26):qf4 names Lt.cps.toList≠[]:=fun e=>by
 unfold qf4 at e
 rw[List.filter_eq_nil_iff] at e
 have hs:∀ x∈Lt.cps.toList.map (fun c=>PySem.Txt.mul (ch c) 8),x∈names:=fun x hx=>by
  have:=e x hx
  simpa using this
 have:=xz1 (wc6 (fun _ _=>ym5) ym6) hs
 rw[List.length_map] at this
 have l26:Lt.cps.toList.length=26:=by decide +kernel
 omega
def wrd(ns:List Int):Str:=PySem.Txt.join ("":Str) (ns.map fun x=>ch (97+x.toNat))
theorem ze6(h:1<=ns.length):wrd ns≠("":Str):=fun e=>by
 have e2:(wrd ns).cps.toList=ns.map fun x=>97+x.toNat:=by
  unfold wrd
  have:=xg1 (ns.map fun x=>97+x.toNat)
  rw[List.map_map] at this
  exact this
 rw[e] at e2
 cases ns with
 | nil=>simp at h
 | cons x l=>cases e2
theorem ze7:∀ e∈Lt.cps.toList,97<=e/\e<=122:=by decide +kernel
theorem ze8(hS:Sg ns):∀ c∈(wrd ns).cps.toList,97<=c/\c<=122:=by
 have e2:(wrd ns).cps.toList=ns.map fun x=>97+x.toNat:=by
  unfold wrd
  have:=xg1 (ns.map fun x=>97+x.toNat)
  rw[List.map_map] at this
  exact this
 rw[e2]
 intro c hc
 obtain⟨x,hx,rfl⟩:=List.mem_map.mp hc
 have:=hS.1 x hx
 exact⟨by omega,by omega⟩
theorem ym7(c:Nat):(PySem.Txt.mul (ch c) 8).length=8:=by
 show(PySem.Txt.mul (ch c) 8).cps.size=8
 rw[<-Array.length_toList,wu2 (by decide)];rfl
theorem yv4:(wrd ns).length=ns.length:=by
 show(wrd ns).cps.size=_
 rw[<-Array.length_toList]
 unfold wrd
 have:=xg1 (ns.map fun x=>97+x.toNat)
 rw[List.map_map] at this
 rw[show(PySem.Txt.join ("":Str) (ns.map fun x=>ch (97+x.toNat))).cps.toList=_ from this,List.length_map]
variable{a5 a6:Option V}
theorem wo6{c:Int}(s0:A6 H0 H)(hd0:H0 d=none)(hd:H d=some (.lst (B3 names)))(hp:H p=some (.lst (D7 ns)))(hS:Sg ns)(hN:Nms names)(hl:names.length<12)(q:∀ (x:Str) (b1 b2:Option V) (H':Hp),A6 H0 H'->H' d=some (.lst (B3 (names++[x])))->Nms (names++[x])->D.nx [some (.int c),some (.str Lt),some (.ref d),some (.int k),some (.ref p),b1,b2] H') :
 xg2 K D [some (.int c),some (.str Lt),some (.ref d),some (.int k),some (.ref p),a5,a6] H:=by
 unfold xg2
 lk
 refine⟨rfl,?_⟩
 lk
 refine xb8 (xs:=D7 ns) (SqL.of hp) (fun i ys H'=>H'=H/\ys=B3 ((ns.take i).map fun x=>ch (97+x.toNat))) ⟨rfl,rfl⟩ ?_ ?_ ?_ ?_
 ·rintro i ys H' hi ⟨rfl,rfl⟩
  rw[C1,List.length_map,List.length_take]
  have:=hS.2.2
  exact D8 (by omega)
 ·rintro i ys H' hi ⟨rfl,rfl⟩
  exact SqL.of hp
 ·rintro i x ys H' hx ⟨rfl,rfl⟩
  unfold D7 at hx
  rw[List.getElem?_map] at hx
  obtain⟨y,hy,rfl⟩:=Option.map_eq_some_iff.mp hx
  obtain⟨y0,y1⟩:=hS.1 y (List.mem_of_getElem? hy)
  lk
  refine zk9 (D8 (by rw[ze0];decide)) (zl6 y0 y1) ?_
  refine⟨rfl,?_⟩
  rw[List.take_add_one,hy]
  simp[B3,ch]
 ·rintro ys H' ⟨rfl,rfl⟩ l hl'
  rw[M6,List.take_length]
  lk
  refine⟨"",l,ns.map fun x=>ch (97+x.toNat),rfl,rfl,.inl (SqL.of A4),?_,?_⟩
  ·rw[List.map_map,show("":Str).length=0 from rfl,Nat.mul_zero,Nat.add_zero]
   have:(ns.map ((fun x=>x.length)∘fun x=>ch (97+x.toNat))).sum=ns.length:=by
    clear hp hS hl' q hd
    induction ns with
    | nil=>rfl
    | cons x l ih=>rw[List.map_cons,List.sum_cons,ih,List.length_cons];show 1+_=_;omega
   rw[this]
   have:=hS.2.2
   omega
  have e1:PySem.Txt.join ("":Str) (ns.map fun x=>ch (97+x.toNat))=wrd ns:=rfl
  rw[e1]
  lk
  have hd1:(upd H' l (.lst (B3 (ns.map fun x=>ch (97+x.toNat))))) d=some (.lst (B3 names)):=by rw[B2 (qg8 hd hl')];exact hd
  have s1:A6 H0 (upd H' l (.lst (B3 (ns.map fun x=>ch (97+x.toNat))))):=A6.tr s0 (A6.new hl' _)
  generalize upd H' l (.lst (B3 (ns.map fun x=>ch (97+x.toNat))))=H1 at *
  refine xl7 (z:=Lt) (fun i ys H'=>H'=H1/\ys=B3 (qf4 names (Lt.cps.toList.take i))) ⟨rfl,rfl⟩ ?_ ?_ ?_
  ·rintro i ys H' hi ⟨rfl,rfl⟩
   rw[C1]
   have h1:(qf4 names (Lt.cps.toList.take i)).length<=26:=by
    unfold qf4
    refine Nat.le_trans (List.length_filter_le _ _) ?_
    rw[List.length_map,List.length_take]
    have l26:Lt.cps.toList.length=26:=by decide +kernel
    omega
   exact D8 (by omega)
  ·rintro i e ys H' he ⟨rfl,rfl⟩
   have hsp:qf4 names (Lt.cps.toList.take (i+1))=qf4 names (Lt.cps.toList.take i)++(if PySem.Txt.mul (ch e) 8∈names then[] else[PySem.Txt.mul (ch e) 8]):=by
    unfold qf4
    rw[List.take_add_one,he,List.map_append,List.filter_append]
    congr 1
    by_cases hm:PySem.Txt.mul (ch e) 8∈names <;> simp[hm]
   lk
   refine yj8 (by decide) (by decide) (show(1:Nat)<=1000 by decide) ?_
   lk
   refine .inl (xx7 (.inl (SqL.of hd1)) rfl (qc8 _) ?_)
   rw[qe4]
   lk
   by_cases hm:PySem.Txt.mul (ch e) 8∈names
   ·rw[show(⟨#[e]⟩:Str)=ch e from rfl,decide_eq_true hm]
    k_go
    refine⟨rfl,?_⟩
    rw[hsp,if_pos hm,List.append_nil]
   ·rw[show(⟨#[e]⟩:Str)=ch e from rfl,decide_eq_false hm]
    x_go
    lk
    refine yj8 (by decide) (by decide) (show(1:Nat)<=1000 by decide) ?_
    refine⟨rfl,?_⟩
    rw[hsp,if_neg hm];simp[B3]
  rintro ys H' ⟨rfl,rfl⟩ t ht
  have hls:Lt.cps.toList.take Lt.cps.size=Lt.cps.toList:=List.take_of_length_le (by rw[Array.length_toList];exact Nat.le_refl _)
  rw[hls]
  have hne:=yf3 (names:=names) (by omega)
  obtain⟨x0,xr,hx0⟩:∃ x r,qf4 names Lt.cps.toList=x::r:=by
   cases h:qf4 names Lt.cps.toList with
   | nil=>exact absurd h hne
   | cons x r=>exact⟨x,r,rfl⟩
  have hx0m:x0∈qf4 names Lt.cps.toList:=by rw[hx0];simp
  unfold qf4 at hx0m
  rw[List.mem_filter] at hx0m
  have hx0n:x0∉names:=by simpa using hx0m.2
  have hx0e:x0≠("":Str):=by
   obtain⟨e,_,he⟩:=List.mem_map.mp hx0m.1
   rw[<-he];exact yv3 e
  have hx0l:x0.length<=8:=by
   obtain⟨e,_,he⟩:=List.mem_map.mp hx0m.1
   rw[<-he,ym7];exact Nat.le_refl _
  have hx0t:∀ c∈x0.cps.toList,97<=c/\c<=122:=by
   obtain⟨e,he1,he⟩:=List.mem_map.mp hx0m.1
   intro c hc
   rw[<-he,wu2 (by decide)] at hc
   rw[(List.mem_replicate.mp hc).2]
   exact ze7 e he1
  rw[hx0]
  lk
  have hd2:(upd H' t (.lst (B3 (x0::xr)))) d=some (.lst (B3 names)):=by rw[B2 (qg8 hd1 ht)];exact hd1
  refine⟨.inl ⟨rfl,_,SqL.of hd2⟩,?_⟩
  lk
  refine S4 (SqL.of A4) (v:=.str x0) (Z4 (j:=0) rfl) ?_
  lk
  refine⟨D8 (by z_go),fun t2 ht2=>?_⟩
  lk
  refine⟨D8 (by z_go),fun t3 ht3=>?_⟩
  lk
  have n32:t3≠t2:=fun e=>by rw[e,A4] at ht3;cases ht3
  have hd3:(upd (upd (upd H' t (.lst (B3 (x0::xr)))) t2 (.lst [.str (wrd ns),.str x0])) t3 (.lst [.str "bars",.str "shuts"])) d=some (.lst (B3 names)):=by
   rw[B2 (qg8 (by rw[B2 (qg8 hd2 ht2)];exact hd2) ht3),B2 (qg8 hd2 ht2)];exact hd2
  refine xx6 hd3 A4 (by rw[C1];exact D8 (by simp;omega)) fun t4 ht4=>?_
  have ex:B3 names++[V.str "bars",V.str "shuts"]=B3 (names++[("bars":Str),("shuts":Str)]):=by simp[B3]
  refine .inl (yk0 (.inl (SqL.of A4)) rfl (by rw[ex];exact qc8 _) ?_)
  rw[ex,qe4]
  lk
  have n42:t2≠t4:=fun e=>by rw[<-e,B2 n32.symm,A4] at ht4;cases ht4
  have hd4:(upd (upd (upd (upd H' t (.lst (B3 (x0::xr)))) t2 (.lst [.str (wrd ns),.str x0])) t3 (.lst [.str "bars",.str "shuts"])) t4 (.lst (B3 (names++[("bars":Str),("shuts":Str)])))) d=some (.lst (B3 names)):=by
   rw[B2 (qg8 hd3 ht4)];exact hd3
  have hq2:(upd (upd (upd (upd H' t (.lst (B3 (x0::xr)))) t2 (.lst [.str (wrd ns),.str x0])) t3 (.lst [.str "bars",.str "shuts"])) t4 (.lst (B3 (names++[("bars":Str),("shuts":Str)])))) t2=some (.lst [.str (wrd ns),.str x0]):=by
   rw[B2 n42,B2 n32.symm];exact A4
  have s4:A6 H0 (upd (upd (upd (upd H' t (.lst (B3 (x0::xr)))) t2 (.lst [.str (wrd ns),.str x0])) t3 (.lst [.str "bars",.str "shuts"])) t4 (.lst (B3 (names++[("bars":Str),("shuts":Str)])))) :=
   A6.tr s1 (A6.tr (A6.new ht _) (A6.tr (A6.new ht2 _) (A6.tr (A6.new ht3 _) (A6.new ht4 _))))
  generalize (upd (upd (upd (upd H' t (.lst (B3 (x0::xr)))) t2 (.lst [.str (wrd ns),.str x0])) t3 (.lst [.str "bars",.str "shuts"])) t4 (.lst (B3 (names++[("bars":Str),("shuts":Str)]))))=H4 at *
  have app:∀ x:Str,x∉names->x≠("":Str)->x.length<=8->(∀ c∈x.cps.toList,97<=c/\c<=122)->Nms (names++[x]):=fun x hx hxe hxl hxt=>⟨by
   rw[List.nodup_append];refine⟨hN.nd,by simp,?_⟩
   intro a ha b hb e
   rw[List.mem_singleton.mp hb] at e
   exact hx (e▸ha),fun y hy=>by
   rcases List.mem_append.mp hy with h|h
   ·exact hN.ne y h
   ·rw[List.mem_singleton.mp h];exact hxe,fun y hy=>by
   rcases List.mem_append.mp hy with h|h
   ·exact hN.le y h
   ·rw[List.mem_singleton.mp h];exact hxl,fun y hy=>by
   rcases List.mem_append.mp hy with h|h
   ·exact hN.lt y h
   ·rw[List.mem_singleton.mp h];exact hxt⟩
  have fin:∀ x:Str,x∉names->x≠("":Str)->x.length<=8->(∀ c∈x.cps.toList,97<=c/\c<=122)->G6 (.ref d) [.str x] H4 (fun _ H1=>D.nx [some (.int c),some (.str Lt),some (.ref d),some (.int k),some (.ref p),some (.str (wrd ns)),some (.ref t)] H1):=fun x hx hxe hxl hxt=>by
   refine I9 hd4 (by rw[C1,sizeLine_eq];omega) ?_
   exact q x _ _ _ (A6.put s4 hd0 _) (by rw[show B3 (names++[x])=B3 names++[V.str x] by simp[B3]];exact A4) (app x hx hxe hxl hxt)
  by_cases hm:wrd ns∈names++[("bars":Str),("shuts":Str)]
  ·rw[decide_eq_true hm]
   refine .inr ⟨true,rfl,?_⟩
   refine S4 (SqL.of hq2) (v:=.str x0) (Z4 (j:=1) rfl) ?_
   lk
   exact fin x0 hx0n hx0e hx0l hx0t
  ·rw[decide_eq_false hm]
   refine .inr ⟨false,rfl,?_⟩
   refine S4 (SqL.of hq2) (v:=.str (wrd ns)) (Z4 (j:=0) rfl) ?_
   lk
   exact fin _ (fun h=>hm (List.mem_append_left _ h)) (ze6 hS.2.1) (by rw[yv4];exact hS.2.2) (ze8 hS)
theorem Sg.set(h:Sg ns)(i:Nat){x:Int}(h0:0<=x)(h1:x<26):Sg (ns.set i x):=by
 refine⟨fun y hy=>?_,by rw[List.length_set];exact h.2.1,by rw[List.length_set];exact h.2.2⟩
 rcases List.mem_or_eq_of_mem_set hy with h' | h'
 ·exact h.1 y h'
 ·rw[h'];exact⟨h0,h1⟩
theorem wo7{c:Int}(s0:A6 H0 H)(hd0:H0 d=none)(hd:H d=some (.lst (B3 names)))(hp:H p=some (.lst (D7 ns)))(hS:Sg ns)(hN:Nms names)(hl:names.length<12)(q:∀ (x:Str) (b0 b1 b2:Option V) (H':Hp),A6 H0 H'->H' d=some (.lst (B3 (names++[x])))->Nms (names++[x])->D.nx [some (.int c),some (.str Lt),some (.ref d),some (.int k),b0,b1,b2] H') :
 xg3 K D [some (.int c),some (.str Lt),some (.ref d),some (.int k),some (.ref p),a5,a6] H:=by
 unfold xg3
 lk
 by_cases h4:c % 4=3
 ·rw[decide_eq_true h4];refine qk8 ?_
  lk
  refine⟨c,2,rfl,by decide,by decide,fun m hm=>?_⟩
  refine qw8 (.inl ⟨by decide,by decide⟩) ?_
  lk
  refine⟨_,rfl,fun p1 ns1 H1 s1 hp1 h1 hS1=>?_⟩
  lk
  refine .inr (.inr ⟨p1,_,rfl,SqL.of h1,fun p2 hp2=>?_⟩)
  obtain⟨u,hu⟩:∃ u:Nat,(k:Int) % 8+1=(u:Int)/\1<=u:=⟨((k:Int) % 8+1).toNat,by omega,by omega⟩
  have ec:qf2 (D7 ns1) none (some ((k:Int) % 8+1))=D7 (ns1.take u):=by
   unfold qf2
   rw[hu.1,HT.qr2]
   show((D7 ns1).drop 0).take (min u (D7 ns1).length-0)=_
   rw[List.drop_zero,Nat.sub_zero]
   unfold D7
   rw[List.map_take,List.length_map]
   by_cases hh:u<=ns1.length
   ·rw[Nat.min_eq_left hh]
   ·rw[Nat.min_eq_right (by omega),List.take_of_length_le (by rw[List.length_map];exact Nat.le_refl _),List.take_of_length_le (by rw[List.length_map];omega)]
  rw[ec]
  have hS2:Sg (ns1.take u):=⟨fun x hx=>hS1.1 x (List.mem_of_mem_take hx),by rw[List.length_take];have:=hS1.2.1;omega,by rw[List.length_take];have:=hS1.2.2;omega⟩
  generalize ns1.take u=ns2 at *
  have hd2:(upd H1 p2 (.lst (D7 ns2))) d=some (.lst (B3 names)):=by rw[B2 (qg8 (s1 _ _ hd) hp2)];exact s1 _ _ hd
  have npd:p2≠d:=(qg8 (s1 _ _ hd) hp2).symm
  lk
  refine S4 (SqL.of A4) (v:=.int (ns2[0]'hS2.2.1)) (Z4 (j:=0) (xy8 hS2.2.1)) ?_
  lk
  refine .inr ⟨_,rfl,?_⟩
  lk
  refine .inl (yk1 A4 (j:=0) (zl7 (by rw[M6];exact hS2.2.1)) ?_)
  rw[xm8]
  refine wo6 (H0:=H0) ?_ hd0 ?_ A4 (hS2.set 0 (Int.emod_nonneg _ (by decide)) (Int.emod_lt_of_pos _ (by decide))) hN hl fun x b1 b2 H'=>q x _ b1 b2 H'
  ·exact A6.put (A6.tr s0 (A6.tr s1 (A6.new hp2 _))) (A6.free s0 (A6.free s1 hp2)) _
  ·rw[B2 npd.symm];exact hd2
 ·rw[decide_eq_false h4];refine qf3 ?_
  lk
  exact wo6 s0 hd0 hd hp hS hN hl fun x b1 b2 H'=>q x _ b1 b2 H'
def qd6(K:Fg):Sp:=fun vs H Q _=>∃ c:Int,vs=[.int c]/\∀ (d:Addr) (names:List Str) (H':Hp),A6 H H'->H d=none->H' d=some (.lst (B3 names))->names.length=12->Nms names->Q (.ref d) H'
def qh0(K:Fg):TS :=
 (B7 (E1 (tC (.str "abcdefghijklmnopqrstuvwxyz")) (B1 1))
 (B7 (E1 (T7 A8) (B1 2))
 (B7 (qg5 (xj8 (A1 (tC (.int 12)) A8)) (B1 3)
 (B7 (E1 (C7 (O6 K) [] E0 (A1 (tOp (rI (fun _ j=>0<j) fun i j=>.int (i % j)) (tOp (rI (fun _ j=>0<=j) fun i j=>.int (i / 2 ^ j.toNat)) (tOp (rI xq3 fun i j=>.int (i / j)) (A2 0) (tC (.int 2))) (tOp qp2 (tC (.int 41)) (A2 3))) (tOp (rI yh2 fun i j=>.int (i*2 ^ j.toNat)) (tC (.int 1)) (tC (.int 41)))) A8)) (B1 4))
 (B7 (T5 (E3 (tOp (qb6 K) (tOp (rI (fun _ j=>0<j) fun i j=>.int (i % j)) (A2 0) (tC (.int 2))) (tC (.int 1))))
 (B7 (E1 (C7 (O6 K) [] E0 (A1 (C7 (S7 K) [] E0 (A1 (A2 0) (A1 (tC (.int 1)) A8))) A8)) (B1 4))
 (E1 (tOp (rI (fun _ j=>0<j) fun i j=>.int (i % j)) (tOp (I0 K) (tOp (L4 K) (A2 4) (tUn (rU fun i=>.int (-i)) (tC (.int 1)))) (A2 3)) (tC (.int 26))) (yr0 (A2 4) (tUn (rU fun i=>.int (-i)) (tC (.int 1))) yk3))) O3)
 (xg3 K))))
 (G9 (A2 2)))))
theorem wy8(h:qd6 K vs H Q E):qh0 K {nx:=fun _ H'=>Q .non H',rt:=Q} (C9 ["_law_cell","_law_letters_here","_law_names_here","_law_k","_law_signs","_law_name","_law_spare"] vs) H:=by
 obtain⟨c,rfl,q⟩:=h
 show qh0 K _ [some (.int c),none,none,none,none,none,none] H
 unfold qh0
 lk
 refine⟨D8 (by z_go),fun d hd=>?_⟩
 lk
 refine wt2 (by decide) (by decide) (fun i σ H'=>∃ (a3 a4 a5 a6:Option V) (names:List Str),σ=[some (.int c),some (.str Lt),some (.ref d),a3,a4,a5,a6]/\A6 H H'/\H' d=some (.lst (B3 names))/\names.length=i/\Nms names) ⟨none,none,none,none,[],rfl,A6.new hd _,A4,rfl,⟨by simp,by simp,by simp,by simp⟩⟩ ?_ ?_
 ·rintro i σ H' hi ⟨a3,a4,a5,a6,names,rfl,s1,h1,hl,hN⟩
  lk
  refine qw8 (.inl ⟨by decide,by decide⟩) ?_
  refine yy4 (by omega) ?_
  lk
  refine yy5 ⟨by decide,by decide,by decide⟩ ?_
  refine yj9 (by decide) ?_
  lk
  refine⟨_,rfl,fun p ns H2 s2 hp hp2 hS=>?_⟩
  lk
  have fin:∀ (x:Str) (b0 b1 b2:Option V) (H':Hp),A6 H H'->H' d=some (.lst (B3 (names++[x])))->Nms (names++[x])->(fun σ H'=>∃ (a3 a4 a5 a6:Option V) (names:List Str),σ=[some (.int c),some (.str Lt),some (.ref d),a3,a4,a5,a6]/\A6 H H'/\H' d=some (.lst (B3 names))/\names.length=i+1/\Nms names) [some (.int c),some (.str Lt),some (.ref d),some (.int i),b0,b1,b2] H' :=
   fun x b0 b1 b2 H' s h n=>⟨_,_,_,_,_,rfl,s,h,by simp[hl],n⟩
  by_cases h2:c % 2=1
  ·rw[decide_eq_true h2];refine qk8 ?_
   lk
   refine⟨c,1,rfl,by decide,by decide,fun m hm=>?_⟩
   lk
   refine⟨_,rfl,fun p1 ns1 H3 s3 hp1 h3 hS1=>?_⟩
   have hd3:=s3 _ _ (s2 _ _ h1)
   have npd:p1≠d:=(qg8 (s2 _ _ h1) hp1).symm
   lk
   refine⟨1,rfl,?_⟩
   refine S4 (SqL.of h3) (xy9 (by rw[M6];exact hS1.2.1) (by rw[M6];exact xy8 (by have:=hS1.2.1;omega))) ?_
   lk
   refine⟨1,rfl,?_⟩
   refine .inl (yk1 h3 (xm9 (by rw[M6];exact hS1.2.1)) ?_)
   rw[xm8]
   refine wo7 (H0:=H) ?_ hd ?_ A4 (hS1.set _ (Int.emod_nonneg _ (by decide)) (Int.emod_lt_of_pos _ (by decide))) hN (by omega) fin
   ·exact A6.put (A6.tr s1 (A6.tr s2 s3)) (A6.free s1 (A6.free s2 hp1)) _
   ·rw[B2 npd.symm];exact hd3
  ·rw[decide_eq_false h2];refine qf3 ?_
   lk
   exact wo7 (H0:=H) (A6.tr s1 s2) hd (s2 _ _ h1) hp2 hS hN (by omega) fin
 ·rintro σ H' ⟨a3,a4,a5,a6,names,rfl,s1,h1,hl,hN⟩
  lk
  exact q d names H' s1 hd h1 hl hN
def gd(l:List Str)(i:Nat):Str:=l.getD i ("":Str)
def ze9(x:Str):Prop:=x=("bare":Str)\/x=("plain":Str)\/x=("anew":Str)\/x=("room":Str)\/x=("frame":Str)
theorem qr7{l:List Str}(h:i<l.length):l[i]?=some (gd l i):=by
 unfold gd;rw[List.getD_eq_getElem?_getD];simp[h]
theorem wu6{l:List Str}(h:i<l.length):gd l i∈l:=List.mem_of_getElem? (qr7 h)
variable{j:Nat}
theorem zf0(hn:names.Nodup)(hi:i<names.length)(hj:j<names.length)(e:gd names i=gd names j):i=j:=by
 have e1:gd names i=names[i]:=by have:=qr7 hi;rw[List.getElem?_eq_getElem hi] at this;exact(Option.some.inj this).symm
 have e2:gd names j=names[j]:=by have:=qr7 hj;rw[List.getElem?_eq_getElem hj] at this;exact(Option.some.inj this).symm
 have h1:=hn.idxOf_getElem i hi
 have h2:=hn.idxOf_getElem j hj
 rw[<-e1,e,e2,h2] at h1
 exact h1.symm
theorem qx7{xs:List Str}(h:i<xs.length):atI (B3 xs) ((i:Nat):Int)=some (.str (gd xs i)):=Z4 (by unfold B3;rw[List.getElem?_map,qr7 h];rfl)
def yv5(js:List Nat):List V:=js.map fun(j:Nat)=>.int (j:Int)
def zm1(x:Str):Prop:=x=("plain":Str)\/x=("frame":Str)
instance (x:Str):Decidable (zm1 x):=inferInstanceAs (Decidable (_\/_))
theorem xn2:∀ xs:List Str,M7 (sDa xs)=true
 | []=>by show M7 []=true;rw[M7]
 | x::xs=>by show M7 (.str x::sDa xs)=true;rw[M7,xn2 xs,fix];rfl
theorem yv6(r:Row):fix r.da=true:=by
 unfold Row.da
 simp[fix,M7,xn2]
theorem wu7:∀ rs:List Row,M7 (rs.map Row.da)=true
 | []=>by show M7 []=true;rw[M7]
 | r::rs=>by show M7 (r.da::rs.map Row.da)=true;rw[M7,yv6,wu7 rs];rfl
structure Boo(rs:List Row):Prop where
 l1:1<=rs.length
 l2:rs.length<=12
 nd:(rs.map (·.name)).Nodup
 ne:∀ r∈rs,r.name≠("":Str)
 rk:∃ rk:Str->Nat,(∀ r∈rs,rk r.name<12)/\∀ r∈rs,r.sort=("frame":Str)->(∃ r'∈rs,r'.name=r.host/\zm1 r'.sort)/\rk r.name<rk r.host
 noh:∀ r∈rs,r.sort≠("frame":Str)->r.host=("":Str)
 uq:∀ r∈rs,∀ r'∈rs,r.sort=("frame":Str)->r'.sort=("frame":Str)->r.host=r'.host->r.name=r'.name
 srt:∀ r∈rs,ze9 r.sort
 nosh:∀ r∈rs,∀ x∈r.shuts,∀ f∈rs,f.sort=("frame":Str)->f.host≠x
theorem Rws.same(h:Rws K H v rs)(s:A6 H H'):Rws K H' v rs:=by
 obtain⟨a,vs,rfl,hq,hd⟩:=h
 exact⟨a,vs,rfl,hq.imp s.sqL s.sqT,Dvs.same s _ _ hd⟩
theorem xn3{n:Str}{r:Row}(h:Z0 rs (some n)=some r):r∈rs/\r.name=n:=by
 refine⟨List.mem_of_find?_eq_some h,?_⟩
 have:=List.find?_some h
 simpa using this
theorem xg4{n:Str}(h:∃ r∈rs,r.name=n):∃ r,Z0 rs (some n)=some r/\r∈rs/\r.name=n:=by
 cases e:Z0 rs (some n) with
 | none =>
   obtain⟨r,hr,hn⟩:=h
   have:=List.find?_eq_none.mp e r hr
   simp[hn] at this
 | some r=>exact⟨r,rfl,xn3 e⟩
theorem zf1(nd:(rs.map (·.name)).Nodup){r r':Row}(h:r∈rs)(h':r'∈rs)(e:r.name=r'.name):r=r':=by
 induction rs with
 | nil=>cases h
 | cons x l ih =>
   rw[List.map_cons,List.nodup_cons] at nd
   rcases List.mem_cons.mp h with h|h
   ·rcases List.mem_cons.mp h' with h' | h'
    ·rw[h,h']
    ·exact absurd (List.mem_map.mpr ⟨r',h',by rw[<-e,h]⟩) nd.1
   ·rcases List.mem_cons.mp h' with h' | h'
    ·exact absurd (List.mem_map.mpr ⟨r,h,by rw[e,h']⟩) nd.1
    ·exact ih nd.2 h h'
theorem yf4(nd:(rs.map (·.name)).Nodup){r:Row}(h:r∈rs):Z0 rs (some r.name)=some r:=by
 obtain⟨r',e,h',en⟩:=xg4 ⟨r,h,rfl⟩
 rw[e,zf1 nd h' h en]
def wall(rs:List Row)(n:Str):Bool:=match Z0 rs (some n) with|none=>false|some r=>decide (r.sort∈[("room":Str),("frame":Str)])
def near(rs:List Row)(ns:List Str):List Str:=ns.foldl (fun acc n=>if wall rs n then[] else acc++[n]) []
theorem wa3(rs:List Row)(ns:List Str)(n:Str):near rs (ns++[n])=if wall rs n then[] else near rs ns++[n]:=by
 unfold near;rw[List.foldl_append];rfl
theorem wi0(rs:List Row):∀ (k:Nat) (ns:List Str),ns.length=k->(near rs ns).length<=k
 | 0,ns,h=>by rw[List.length_eq_zero_iff.mp h];exact Nat.le_refl _
 | k+1,ns,h=>by
   have hp:ns≠[]:=fun e=>by rw[e] at h;cases h
   rw[<-List.dropLast_concat_getLast hp,wa3]
   have:=wi0 rs k ns.dropLast (by rw[List.length_dropLast];omega)
   split
   ·exact Nat.zero_le _
   ·rw[List.length_append,List.length_singleton];omega
theorem xz2{r:Row}(h:Dv K H r.da v):∃ b ps pb,v=.ref b/\SqT K H b [.str r.name,.str r.sort,.str r.host,.ref ps,.ref pb]/\SqT K H ps (B3 r.shuts)/\SqT K H pb (B3 r.bars):=by
 obtain⟨b,sv,bv,rfl,hb,h1,h2⟩:=qp4 h
 obtain⟨ps,vs,rfl,q1,d1⟩:=C6.mp h1
 obtain⟨pb,ws,rfl,q2,d2⟩:=C6.mp h2
 rw[ql7.mp d1] at q1
 rw[ql7.mp d2] at q2
 exact⟨b,ps,pb,rfl,hb,q1,q2⟩
def R8(ys:List Str):Str:=gd ys (ys.length-1)
def qa0(rs:List Row):Nat->Option Str->List Str
 | 0,_=>[]
 | k+1,n=>match N6 rs n with
   | none=>[]
   | some y=>y::qa0 rs k (some y)
def zf2(rs:List Row)(rk:Str->Nat):Prop:=∀ x y,N6 rs (some x)=some y->rk x<rk y/\rk y<12
theorem Boo.rise(B:Boo rs):∃ rk,zf2 rs rk:=by
 obtain⟨rk,h1,h2⟩:=B.rk
 refine⟨rk,fun x y e=>?_⟩
 unfold N6 at e
 cases er:Z0 rs (some x) with
 | none=>rw[er] at e;cases e
 | some r =>
   rw[er] at e
   obtain⟨hr,hn⟩:=xn3 er
   by_cases hf:r.sort=("frame":Str)
   ·have e:some r.host=some y:=by simpa [hf] using e
    injection e with e
    obtain⟨⟨r',hr',en,_⟩,h⟩:=h2 r hr hf
    subst e hn
    exact⟨h,by rw[<-en];exact h1 r' hr'⟩
   ·simp[hf] at e
theorem wu8{rs:List Row}{rk:Str->Nat}(f:zf2 rs rk):∀ (k m:Nat) (x:Str),12-rk x<=k->k<=m->qa0 rs m (some x)=qa0 rs k (some x)
 | k, 0, x, h, hm => by have:k=0:=by omega
                        rw[this]
 | k,m+1,x,h,hm=>by
   cases e:N6 rs (some x) with
   | none =>
     have e1:∀ k,qa0 rs k (some x)=[]:=fun k=>by cases k with|zero=>rfl|succ k=>rw[qa0,e]
     rw[e1,e1]
   | some y =>
     obtain⟨hy,hy2⟩:=f x y e
     cases k with
     | zero=>omega
     | succ k =>
       rw[qa0,e,qa0,e]
       show y::qa0 rs m (some y)=y::qa0 rs k (some y)
       rw[wu8 f k m y (by omega) (by omega)]
def G7(rs:List Row)(x:Str):List Str:=qa0 rs 12 (some x)
theorem wa4(rs:List Row):∀ (k:Nat) (n:Option Str),(qa0 rs k n).length<=k
 | 0,_=>Nat.le_refl _
 | k+1,n=>by
   rw[qa0]
   split
   ·exact Nat.zero_le _
   ·rw[List.length_cons];have:=wa4 rs k;exact Nat.succ_le_succ (this _)
theorem wu9(e:N6 rs (some x)=none):G7 rs x=[]:=by
 unfold G7;rw[qa0,e]
theorem wv0(f:zf2 rs rk)(e:N6 rs (some x)=some y):G7 rs x=y::G7 rs y:=by
 unfold G7
 rw[qa0,e]
 show y::qa0 rs 11 (some y)=y::qa0 rs 12 (some y)
 obtain⟨h1,h2⟩:=f x y e
 rw[wu8 f 11 12 y (by omega) (by omega)]
def M2(K:Fg):Sp:=fun vs H Q _=>∃ (a:Addr) (ys:List Str),vs=[.ref a]/\(SqL K H a (B3 ys)\/SqT K H a (B3 ys))/\Q (.str (R8 ys)) H
def U4(K:Fg):TS :=
 (G9 (tIf (E3 (tOp wy4 (tCB (N5 K) (A1 (A2 0) A8)) (tC (.int 0)))) (tOp (L4 K) (A2 0) (tUn (rU fun i=>.int (-i)) (tC (.int 1)))) (tC (.str ""))))
theorem wi1(h:M2 K vs H Q E):U4 K {nx:=fun _ H'=>Q .non H',rt:=Q} (C9 ["names"] vs) H:=by
 obtain⟨a,ys,rfl,hq,q⟩:=h
 show U4 K _ [some (.ref a)] H
 unfold U4
 lk
 refine R7 hq ?_
 rw[C1]
 lk
 by_cases h0:(0:Int)<(ys.length:Int)
 ·rw[decide_eq_true h0]
  x_go
  lk
  refine⟨1,rfl,?_⟩
  have e1:(B3 ys)[(B3 ys).length-1]?=some (.str (R8 ys)):=by
   rw[C1];unfold B3 R8;rw[List.getElem?_map,qr7 (by omega)];rfl
  have e2:=xy9 (by rw[C1];omega) e1
  rcases hq with hq|hq
  ·exact S4 hq e2 q
  ·exact V2 hq e2 q
 ·rw[decide_eq_false h0]
  k_go
  lk
  have:ys=[]:=List.length_eq_zero_iff.mp (by omega)
  subst this
  exact q
def S6(K:Fg):Sp:=fun vs H Q _=>∃ (v:V) (x:Str) (rs:List Row),vs=[v,.str x]/\Rws K H v rs/\Boo rs/\∀ (p:Addr) (H':Hp),A6 H H'->SqT K H' p (B3 (G7 rs x))->Q (.ref p) H'
def qa1(K:Fg):TS :=
 (B7 (E1 (T7 A8) (B1 2))
 (B7 (E1 (C7 (qj1 K) [] E0 (A1 (A2 0) (A1 (A2 1) A8))) (B1 3))
 (B7 (qn9 (E3 (tOp wg3 (A2 3) (tC .non)))
 (B7 (G5 (tBM K "list" G6 (A2 2) (A1 (A2 3) A8)))
 (E1 (C7 (qj1 K) [] E0 (A1 (A2 0) (A1 (A2 3) A8))) (B1 3))))
 (G9 (tCB (Z5 K) (A1 (A2 2) A8))))))
theorem wq0(h:S6 K vs H Q E):qa1 K {nx:=fun _ H'=>Q .non H',rt:=Q} (C9 ["book","name","hosts","host"] vs) H:=by
 obtain⟨v,x,rs,rfl,hR,B,q⟩:=h
 show qa1 K _ [some v,some (.str x),none,none] H
 unfold qa1
 obtain⟨rk,f⟩:=B.rise
 lk
 refine⟨D8 (by z_go),fun d hd=>?_⟩
 lk
 refine⟨v,some x,rs,rfl,hR.same (A6.new hd _),?_⟩
 lk
 refine xj9 (fun σ H'=>∃ (n:Option Str) (ys:List Str),σ=[some v,some (.str x),some (.ref d),some (oV n)]/\A6 H H'/\H' d=some (.lst (B3 ys))/\G7 rs x=ys++(match n with|none=>[]|some y=>y::G7 rs y)/\ys.length<=12/\∀ y,n=some y->∃ x,N6 rs (some x)=some y)
  (fun σ _=>match σ with | [_,_,_,some (.str y)]=>13-rk y|_=>0) ?_ ?_ ?_
 ·refine⟨N6 rs (some x),[],rfl,A6.new hd _,A4,?_,Nat.zero_le _,fun y e=>⟨x,e⟩⟩
  cases e:N6 rs (some x) with
  | none=>rw[wu9 e];rfl
  | some y=>rw[wv0 f e];rfl
 ·rintro σ H' ⟨n,ys,rfl,s1,h1,eh,hl,hn⟩
  have hlen:(G7 rs x).length<=12:=wa4 rs 12 _
  cases n with
  | none =>
    refine⟨_,rfl,rfl,_,rfl,?_⟩
    show(if(!decide (V.non=V.non))=true then _ else _)
    rw[decide_eq_true rfl,Bool.not_true];refine qf3 ?_
    lk
    refine⟨d,_,rfl,.inl ⟨SqL.of h1,fun p hp=>?_⟩⟩
    have:G7 rs x=ys:=by rw[eh];exact List.append_nil _
    exact q p _ (A6.tr s1 (A6.new hp _)) (by rw[this];exact SqT.of A4)
  | some y =>
    refine⟨_,rfl,rfl,_,rfl,?_⟩
    show(if(!decide (V.str y=V.non))=true then _ else _)
    rw[decide_eq_false (by simp),Bool.not_false];refine qk8 ?_
    have hl2:ys.length+1<=12:=by
     rw[eh,List.length_append] at hlen
     simp at hlen;omega
    lk
    refine⟨.inl ⟨rfl,_,SqL.of h1⟩,?_⟩
    lk
    refine I9 h1 (by rw[C1,sizeLine_eq];omega) ?_
    rw[show(oV (some y))=V.str y from rfl,qx6]
    lk
    refine⟨v,some y,rs,rfl,hR.same (A6.put s1 hd _),?_⟩
    lk
    refine⟨⟨N6 rs (some y),ys++[y],rfl,A6.put s1 hd _,A4,?_,by rw[List.length_append,List.length_singleton];omega,fun z e=>⟨y,e⟩⟩,?_⟩
    ·rw[eh,List.append_assoc]
     congr 1
     cases e:N6 rs (some y) with
     | none=>show y::G7 rs y=_;rw[wu9 e];rfl
     | some z=>show y::G7 rs y=_;rw[wv0 f e];rfl
    ·show(match [some v,some (V.str x),some (V.ref d),some (oV (N6 rs (some y)))] with | [_,_,_,some (.str y)]=>13-rk y|_=>0)<13-rk y
     obtain⟨w,hw⟩:=hn y rfl
     have:=(f _ _ hw).2
     cases e2:N6 rs (some y) with
     | none=>show 0<13-rk y;omega
     | some z=>have:=f y z e2;show 13-rk z<13-rk y;omega
 ·rintro σ H' Q1 Q2 hQ ⟨v1,e1,e2,k,e3,q1⟩
  exact⟨v1,e1,e2,k,e3,hQ _ _ q1⟩
def qh1(K:Fg):Sp:=fun vs H Q _=>∃ (v:V) (a:Addr) (ys:List Str) (rs:List Row),vs=[v,.ref a]/\Rws K H v rs/\Boo rs/\(SqL K H a (B3 ys)\/SqT K H a (B3 ys))/\(20<ys.length+(G7 rs (R8 ys)).length->∀ H',A6 H H'->Q .non H')/\(¬20<ys.length+(G7 rs (R8 ys)).length->∀ (p:Addr) (H':Hp),A6 H H'->SqT K H' p (B3 (G7 rs (R8 ys)))->Q (.ref p) H')
def ql9(K:Fg):TS :=
 (B7 (E1 (C7 (S6 K) [] E0 (A1 (A2 0) (A1 (C7 (M2 K) [] E0 (A1 (A2 1) A8)) A8))) (B1 2))
 (G9 (tIf (E3 (tOp wy4 (tOp (I0 K) (tCB (N5 K) (A1 (A2 1) A8)) (tCB (N5 K) (A1 (A2 2) A8))) (tC (.int 20)))) (tC .non) (A2 2))))
theorem xg5(h:qh1 K vs H Q E):ql9 K {nx:=fun _ H'=>Q .non H',rt:=Q} (C9 ["book","names","hosts"] vs) H:=by
 obtain⟨v,a,ys,rs,rfl,hR,B,hq,q1,q2⟩:=h
 show ql9 K _ [some v,some (.ref a),none] H
 unfold ql9
 lk
 refine⟨a,ys,rfl,hq,?_⟩
 lk
 refine⟨v,_,rs,rfl,hR,B,fun p H1 s1 hp=>?_⟩
 lk
 refine R7 (hq.imp s1.sqL s1.sqT) ?_
 rw[C1]
 lk
 refine R7 (.inr hp) ?_
 rw[C1]
 lk
 by_cases h:20<ys.length+(G7 rs (R8 ys)).length
 ·rw[decide_eq_true (by omega)]
  x_go
  lk
  exact q1 h _ s1
 ·rw[decide_eq_false (by omega)]
  k_go
  lk
  exact q2 h p _ s1 hp
variable{ys:List Str}
theorem xn4(k:Nat):qf2 (B3 ys) none (some ((k:Nat):Int))=B3 (ys.take k):=by
 unfold qf2
 rw[HT.qr2]
 show((B3 ys).drop 0).take (min k (B3 ys).length-0)=_
 rw[List.drop_zero,Nat.sub_zero]
 unfold B3
 rw[List.map_take,List.length_map]
 by_cases hh:k<=ys.length
 ·rw[Nat.min_eq_left hh]
 ·rw[Nat.min_eq_right (by omega),List.take_of_length_le (by rw[List.length_map];exact Nat.le_refl _),List.take_of_length_le (by rw[List.length_map];omega)]
theorem xc6(e:J4 rs (some x)=some y):∃ r∈rs,r.name=y/\r.sort=("frame":Str)/\r.host=x:=by
 unfold J4 at e
 obtain⟨r,hr,rfl⟩:=Option.map_eq_some_iff.mp e
 have hm:=List.mem_of_find?_eq_some hr
 have hp:=List.find?_some hr
 rw[Bool.and_eq_true,decide_eq_true_eq,decide_eq_true_eq] at hp
 exact⟨r,hm,rfl,hp.1,Option.some.inj hp.2⟩
def bel(rs:List Row)(rk:Str->Nat)(y x:Str):Bool:=decide (x∈ups rs (rk y) (some y))
def clo(rs:List Row)(rk:Str->Nat)(ys:List Str)(x:Str):Nat->Option Nat
 | 0=>none
 | k+1=>if gd ys k=x then some k else if wall rs (gd ys k) && !(bel rs rk (gd ys k) x) then none else clo rs rk ys x k
def nV:Option Nat->V
 | some k=>.int (k:Int)
 | none=>.non
theorem yv7(xs:List Str):inV .non (B3 xs)=false:=by
 induction xs with
 | nil=>rfl
 | cons x l ih =>
   unfold inV at ih ⊢
   show(eqV (.str x) .non || (B3 l).any fun z=>eqV z .non)=false
   rw[ih];rfl
def Y6(K:Fg):Sp:=fun vs H Q _=>∃ v n rs,vs=[v,.str n]/\Rws K H v rs/\Q (.bl (wall rs n)) H
def wa5(K:Fg)(c_WALL_SORTS:Addr):TS :=
 (G9 (tOp (xf6 K false) (C7 (T9 K) [] E0 (A1 (A2 0) (A1 (A2 1) A8))) (tC (.ref c_WALL_SORTS))))
theorem xt7{c_WALL_SORTS:Addr}(q_WALL_SORTS:∀ H:Hp,SqT K H c_WALL_SORTS [.str "room",.str "frame"])(h:Y6 K vs H Q E):wa5 K c_WALL_SORTS {nx:=fun _ H'=>Q .non H',rt:=Q} (C9 ["book","name"] vs) H:=by
 obtain⟨v,n,rs,rfl,hR,q⟩:=h
 show wa5 K c_WALL_SORTS _ [some v,some (.str n)] H
 unfold wa5
 lk
 refine⟨v,some n,rs,rfl,hR,?_⟩
 lk
 have hw:wall rs n=inV (oV (Q6 rs (some n))) (B3 [("room":Str),("frame":Str)]):=by
  unfold wall Q6
  cases Z0 rs (some n) with
  | none=>exact(yv7 _).symm
  | some r=>exact(qe4 _ _).symm
 refine .inl (yk0 (xs:=B3 [("room":Str),("frame":Str)]) (.inr (q_WALL_SORTS H)) ?_ (qc8 _) ?_)
 ·cases Q6 rs (some n) <;> rfl
 ·rw[<-hw];exact q
def qr8(K:Fg):Sp:=fun vs H Q _=>∃ (v:V) (a:Addr) (ys:List Str) (x:Str) (rs:List Row) (rk:Str->Nat),vs=[v,.ref a,.str x]/\Rws K H v rs/\qp5 rs rk/\(SqL K H a (B3 ys)\/SqT K H a (B3 ys))/\ys.length<=1000/\Q (nV (clo rs rk ys x ys.length)) H
def wa6(K:Fg):TS :=
 (B7 (qg5 (yl4 (A1 (tOp (rI0 fun i j=>.int (i-j)) (tCB (N5 K) (A1 (A2 1) A8)) (tC (.int 1))) (A1 (tUn (rU fun i=>.int (-i)) (tC (.int 1))) (A1 (tUn (rU fun i=>.int (-i)) (tC (.int 1))) A8)))) (B1 3)
 (B7 (T5 (E3 (tOp (qb6 K) (tOp (L4 K) (A2 1) (A2 3)) (A2 2)))
 (G9 (A2 3)) O3)
 (T5 (wp1 (tB (C7 (Y6 K) [] E0 (A1 (A2 0) (A1 (tOp (L4 K) (A2 1) (A2 3)) A8)))) (yq9 (tB (C7 (qr5 K) [] E0 (A1 (A2 0) (A1 (tOp (L4 K) (A2 1) (A2 3)) (A1 (A2 2) A8)))))))
 (G9 (tC .non)) O3)))
 (G9 (tC .non)))
theorem xt8(h:qr8 K vs H Q E):wa6 K {nx:=fun _ H'=>Q .non H',rt:=Q} (C9 ["book","names","name","number"] vs) H:=by
 obtain⟨v,a,ys,x,rs,rk,rfl,hR,f,hq,hl,q⟩:=h
 show wa6 K _ [some v,some (.ref a),some (.str x),none] H
 unfold wa6
 lk
 refine R7 hq ?_
 rw[C1]
 lk
 refine⟨1,rfl,?_⟩
 lk
 refine⟨1,rfl,?_⟩
 lk
 refine yl6 (by omega) (fun i σ H'=>H'=H/\(∃ w,σ=[some v,some (.ref a),some (.str x),w])/\clo rs rk ys x ys.length=clo rs rk ys x (ys.length-i)) ⟨rfl,⟨_,rfl⟩,rfl⟩ ?_ ?_
 ·rintro i σ H' hi ⟨rfl,⟨w,rfl⟩,hc⟩
  obtain⟨k,hk⟩:∃ k:Nat,ys.length-i=k+1:=⟨ys.length-i-1,by omega⟩
  have ek:(ys.length:Int)-1-(i:Int)=((k:Nat):Int):=by omega
  have hk2:ys.length-(i+1)=k:=by omega
  have ix:∀ Q':VK,Q' (.str (gd ys k)) H'->L4 K (.ref a) (.int ((k:Nat):Int)) H' Q':=fun Q' h=>by
   rcases hq with hq|hq
   ·exact S4 hq (qx7 (by omega)) h
   ·exact V2 hq (qx7 (by omega)) h
  rw[hk,clo] at hc
  rw[ek]
  lk
  refine ix _ ?_
  lk
  by_cases e:gd ys k=x
  ·rw[decide_eq_true e]
   x_go
   lk
   rw[hc,if_pos e] at q
   exact q
  ·rw [decide_eq_false e]
   k_go
   rw[if_neg e] at hc
   lk
   refine ix _ ?_
   lk
   refine⟨v,_,rs,rfl,hR,?_⟩
   lk
   cases hw:wall rs (gd ys k) with
   | false =>
     rw[hw,Bool.false_and,if_neg Bool.false_ne_true] at hc
     k_go
     k_go
     lk
     exact⟨rfl,⟨_,rfl⟩,by rw[hk2];exact hc⟩
   | true =>
     rw[hw,Bool.true_and] at hc
     x_go
     lk
     refine ix _ ?_
     lk
     refine⟨v,_,x,rs,rk,rfl,hR,f,?_⟩
     show ∃ k_1,V.bl (bel rs rk (gd ys k) x)=V.bl k_1/\_
     lk
     cases hb:bel rs rk (gd ys k) x with
     | true =>
       rw[hb,Bool.not_true,if_neg Bool.false_ne_true] at hc
       rw[Bool.not_true]
       k_go
       lk
       exact⟨rfl,⟨_,rfl⟩,by rw[hk2];exact hc⟩
     | false =>
       rw[hb,Bool.not_false,if_pos rfl] at hc
       rw[Bool.not_false]
       x_go
       lk
       rw[hc] at q
       exact q
 ·rintro σ H' ⟨rfl,⟨w,rfl⟩,hc⟩
  lk
  rw[Nat.sub_self] at hc
  rw[hc] at q
  exact q
def wa7(rs:List Row)(x:Str):List Str:=match Z0 rs (some x) with|none=>[]|some r=>r.shuts
def wv1(rs:List Row)(x:Str):List Str:=match Z0 rs (some x) with|none=>[]|some r=>r.bars
def kpt(ys sh:List Str):Nat->Nat->Nat
 | k,0=>k
 | k,m+1=>if gd ys k∈sh then k else kpt ys sh (k+1) m
theorem ym8(ys sh:List Str):∀ m k,kpt ys sh k m<=k+m
 | 0,k=>Nat.le_refl _
 | m+1,k=>by
   rw[kpt]
   split
   ·omega
   ·have:=ym8 ys sh m (k+1);omega
def wi2(rs:List Row)(ys:List Str)(x:Str):Nat:=kpt ys (wa7 rs x) (ys.length-(near rs ys).length) (near rs ys).length
def qj2(rs:List Row)(ys:List Str)(x:Str):Nat×List Str:=if G7 rs (R8 ys)=[] then(wi2 rs ys x,[x]) else(ys.length,G7 rs (R8 ys)++[x])
def wv2(rs:List Row)(rk:Str->Nat)(ys:List Str)(rec:Str->Nat×List Str)(x:Str):Nat×List Str :=
 match J4 rs (some x) with
 | none=>qj2 rs ys x
 | some y=>match clo rs rk ys y ys.length with
   | some k=>(k+1,[x])
   | none=>((rec y).1,(rec y).2++[x])
def qb7(rs:List Row)(rk:Str->Nat)(ys:List Str):Nat->Str->Nat×List Str
 | 0=>wv2 rs rk ys fun _=>(0,[])
 | n+1=>wv2 rs rk ys (qb7 rs rk ys n)
theorem ym9{rs:List Row}{rk:Str->Nat}{ys:List Str}{x:Str}:∀ {m k:Nat},clo rs rk ys x m=some k->k<m
 | 0,k,h=>by cases h
 | m+1,k,h=>by
   rw[clo] at h
   split at h
   ·injection h with h;omega
   ·split at h
    ·cases h
    ·have:=ym9 h;omega
theorem xc7 {rs:List Row} (B:Boo rs):∀ (m:Nat) (n:Option Str),∀ z∈qa0 rs m n,∃ r∈rs,r.name=z
 | 0,_,z,h=>by cases h
 | m + 1,n,z,h=>by
   rw[qa0] at h
   split at h
   ·cases h
   ·rename_i y e
    rcases List.mem_cons.mp h with h|h
    ·subst h
     unfold N6 at e
     cases er:Z0 rs n with
     | none=>rw[er] at e;cases e
     | some r =>
       rw[er] at e
       have hr:r∈rs:=List.mem_of_find?_eq_some er
       by_cases hf:r.sort=("frame":Str)
       ·have e:some r.host=some z:=by simpa [hf] using e
        injection e with e
        obtain⟨rk,_,h2⟩:=B.rk
        obtain⟨⟨r',hr',en,_⟩,_⟩:=h2 r hr hf
        exact⟨r',hr',by rw[en,e]⟩
       ·simp[hf] at e
    ·exact xc7 B m _ z h
structure Wok(rs:List Row)(ys:List Str)(n:Nat)(w:Nat×List Str):Prop where
 k:w.1<=ys.length
 m:∀ z∈w.2,∃ r∈rs,r.name=z
 l:w.2.length<=13+n
theorem yn0(rs:List Row)(ys:List Str)(x:Str):wi2 rs ys x<=ys.length:=by
 have:=ym8 ys (wa7 rs x) (near rs ys).length (ys.length-(near rs ys).length)
 have:=wi0 rs ys.length ys rfl
 unfold wi2
 omega
theorem yn1(B:Boo rs)(hx:∃ r∈rs,r.name=x)(n:Nat):Wok rs ys n (qj2 rs ys x):=by
 unfold qj2
 split
 ·exact⟨yn0 rs ys x,fun z hz=>by rw[List.mem_singleton.mp hz];exact hx,by simp;omega⟩
 ·refine⟨Nat.le_refl _,fun z hz=>?_,?_⟩
  ·rcases List.mem_append.mp hz with h|h
   ·exact xc7 B 12 _ z h
   ·rw[List.mem_singleton.mp h];exact hx
  ·show(G7 rs (R8 ys)++[x]).length<=_
   rw[List.length_append,List.length_singleton]
   have:(G7 rs (R8 ys)).length<=12:=wa4 rs 12 _
   omega
theorem xg6 {rs:List Row} (B:Boo rs) {rk:Str->Nat} (f:qp5 rs rk) {ys:List Str}:∀ (n:Nat) (x:Str),(∃ r∈rs,r.name=x)->rk x<=n->Wok rs ys n (qb7 rs rk ys n x)
 | n, x, hx,hn=>by
   have go:∀ rec:Str->Nat×List Str,(∀ y,J4 rs (some x)=some y->∃ m,n=m+1/\Wok rs ys m (rec y))->Wok rs ys n (wv2 rs rk ys rec x):=by
    intro rec hrec
    unfold wv2
    cases e:J4 rs (some x) with
    | none=>exact yn1 B hx n
    | some y =>
      dsimp only
      cases ec:clo rs rk ys y ys.length with
      | some k =>
        have:=ym9 ec
        exact⟨by show k+1<=_;omega,fun z hz=>by rw[List.mem_singleton.mp hz];exact hx,by simp;omega⟩
      | none =>
        obtain⟨m,rfl,w⟩:=hrec y e
        refine⟨w.k,fun z hz=>?_,?_⟩
        ·rcases List.mem_append.mp hz with h|h
         ·exact w.m z h
         ·rw[List.mem_singleton.mp h];exact hx
        ·show((rec y).2++[x]).length<=_
         rw[List.length_append,List.length_singleton];have:=w.l;omega
   cases n with
   | zero=>exact go _ fun y e=>absurd (f x y e) (by omega)
   | succ m=>exact go _ fun y e=>⟨m,rfl,xg6 B f m y (let ⟨r,h1,h2,_⟩:=xc6 e;⟨r,h1,h2⟩) (by have:=f x y e;omega)⟩
def bar(rs:List Row):List Str->List Str->Bool
 | _,[]=>false
 | there,x::xs=>(near rs there).any (fun y=>decide (y∈wv1 rs x)) || bar rs (there++[x]) xs
def xz3(rs:List Row)(rk:Str->Nat)(ys:List Str)(x:Str):PyData :=
 if bar rs (ys.take (qb7 rs rk ys 13 x).1) (qb7 rs rk ys 13 x).2=true then .tuple [.str "drop",.str "barred"]
 else if 20<(qb7 rs rk ys 13 x).1+(qb7 rs rk ys 13 x).2.length then .tuple [.str "drop",.str "deep"]
 else .tuple [.str "open",.int (qb7 rs rk ys 13 x).1,.tuple (sDa (qb7 rs rk ys 13 x).2)]
def qj3(K:Fg):Sp:=fun vs H Q _=>∃ v a ys rs,vs=[v,.ref a]/\Rws K H v rs/\SqT K H a (B3 ys)/\ys.length<=1000/\∀ p H',A6 H H'->SqT K H' p (B3 (near rs ys))->Q (.ref p) H'
def wa8(K:Fg):TS :=
 (B7 (E1 (tC (.int 0)) (B1 2))
 (B7 (qg5 (xf8 K (A1 (A2 1) A8)) (xj6 K 2 (qg2 (B1 3) (qg2 (B1 4) xj5)))
 (T5 (tB (C7 (Y6 K) [] E0 (A1 (A2 0) (A1 (A2 4) A8))))
 (E1 (tOp (qw9 K) (A2 3) (tC (.int 1))) (B1 2)) O3))
 (G9 (tCB (Z5 K) (A1 (tSl (xs8 K) (A2 1) (S3 (A2 2)) qg6) A8)))))
theorem xt9(h:qj3 K vs H Q E):wa8 K {nx:=fun _ H'=>Q .non H',rt:=Q} (C9 ["book","names","start","number","name"] vs) H:=by
 obtain⟨v,a,ys,rs,rfl,hR,hq,hl,q⟩:=h
 show wa8 K _ [some v,some (.ref a),none,none,none] H
 unfold wa8
 lk
 refine xc4 hq (fun i σ H'=>A6 H H'/\∃ (st:Nat) (a3 a4:Option V),σ=[some v,some (.ref a),some (.int st),a3,a4]/\st<=i/\near rs (ys.take i)=(ys.take i).drop st) ⟨A6.refl _,0,none,none,rfl,Nat.le_refl _,rfl⟩ (fun i σ H' p=>p.1.sqT hq) ?_ ?_
 ·rintro i x σ H' p hx ⟨s1,st,a3,a4,rfl,hst,hnr⟩ hp
  obtain⟨y,hy,rfl⟩:=qx5 hx
  have il:=(List.getElem?_eq_some_iff.mp hy).1
  have etk:ys.take (i+1)=ys.take i++[y]:=by rw[List.take_add_one,hy];rfl
  have s2:A6 H (upd H' p (.tup [.int (i:Int),.str y])):=A6.tr s1 (A6.new hp _)
  refine⟨p,_,rfl,SqT.of A4,rfl,_,_,rfl,J0 ⟨_,_,rfl,J0 ⟨rfl,?_⟩⟩⟩
  lk
  refine⟨v,y,rs,rfl,hR.same s2,?_⟩
  lk
  cases hw:wall rs y with
  | true =>
    x_go
    lk
    refine .inl (xf5 ?_)
    lk
    refine⟨s2,i+1,_,_,rfl,Nat.le_refl _,?_⟩
    rw[etk,wa3,if_pos hw,List.drop_eq_nil_of_le (by rw[List.length_append,List.length_take,List.length_singleton];omega)]
  | false =>
    k_go
    lk
    refine⟨s2,st,_,_,rfl,by omega,?_⟩
    rw[etk,wa3,if_neg (by rw[hw];exact Bool.false_ne_true),hnr,List.drop_append_of_le_length (by rw[List.length_take];omega)]
 ·rintro σ H' ⟨s1,st,a3,a4,rfl,hst,hnr⟩
  rw[C1,List.take_length] at hnr
  lk
  refine xl9 (s1.sqT hq) fun p H2 s2 hp=>?_
  have e:qf2 (B3 ys) (some (st:Int)) none=B3 (near rs ys):=by
   unfold qf2
   rw[HT.qr2]
   show((B3 ys).drop (min st (B3 ys).length)).take ((B3 ys).length-min st (B3 ys).length)=_
   rw[C1] at hst ⊢
   rw[Nat.min_eq_left hst,List.take_of_length_le (by rw[List.length_drop,C1];exact Nat.le_refl _),hnr]
   unfold B3
   rw[List.map_drop]
  rw[e] at hp
  lk
  refine⟨p,_,rfl,.inr ⟨hp,?_⟩⟩
  exact q p H2 (A6.tr s1 s2) hp
def X6(K:Fg):Sp:=fun vs H Q _=>∃ (a b:Addr) (ys zs:List Str),vs=[.ref a,.ref b]/\SqT K H a (B3 ys)/\SqT K H b (B3 zs)/\ys.length<=1000/\∀ H',A6 H H'->Q (.bl (ys.any fun y=>decide (y∈zs))) H'
def qa2(K:Fg):TS :=
 (G9 (tCB (yl3 K) (A1 (qt3 [some 1,none] (qw7 K (A2 0)) (B1 1) tTT (tOp (xf6 K false) (A2 1) (A2 0))) A8)))
theorem wq1(h:X6 K vs H Q E):qa2 K {nx:=fun _ H'=>Q .non H',rt:=Q} (C9 ["names","others"] vs) H:=by
 obtain⟨a,b,ys,zs,rfl,ha,hb,hl,q⟩:=h
 show qa2 K _ [some (.ref a),some (.ref b)] H
 unfold qa2
 lk
 refine yf2 (H0:=H) (.inr ha) (A6.refl _) (fun i us H'=>H'=H/\us=((ys.take i).map fun y=>decide (y∈zs)).map V.bl) ⟨rfl,rfl⟩ ?_ (fun i us H' p=>p.1▸A6.refl _) ?_ ?_
 ·rintro i us H' hi ⟨_,rfl⟩
  rw[List.length_map,List.length_map,List.length_take];exact D8 (by omega)
 ·rintro i x us H' hx ⟨rfl,rfl⟩
  obtain⟨y,hy,rfl⟩:=qx5 hx
  lk
  refine .inl (yk0 (.inr hb) rfl (qc8 _) ?_)
  rw[qe4]
  refine⟨rfl,?_⟩
  rw[List.take_add_one,hy]
  simp
 ·rintro us H' ⟨rfl,rfl⟩ p hp
  rw[C1,List.take_length]
  lk
  refine zl4 (SqL.of A4) ?_
  rw[List.any_map]
  exact q _ (A6.new hp _)
def U5(K:Fg):Sp:=fun vs H Q _=>∃ v a ys x rs,vs=[v,.ref a,.str x]/\Rws K H v rs/\SqT K H a (B3 ys)/\ys.length<=1000/\(∃ r∈rs,Row.name r=x)/\∀ H',A6 H H'->Q (.int (wi2 rs ys x)) H'
def X7(K:Fg):TS :=
 (B7 (E1 (tOp (L4 K) (C7 (qc7 K) [] E0 (A1 (A2 0) (A1 (A2 2) A8))) (tC (.int 3))) (B1 3))
 (B7 (E1 (tOp (rI0 fun i j=>.int (i-j)) (tCB (N5 K) (A1 (A2 1) A8)) (tCB (N5 K) (A1 (C7 (qj3 K) [] E0 (A1 (A2 0) (A1 (A2 1) A8))) A8))) (B1 4))
 (B7 (qg5 (yh1 (A1 (A2 4) (A1 (tCB (N5 K) (A1 (A2 1) A8)) A8))) (B1 5)
 (T5 (E3 (tOp (xf6 K false) (tOp (L4 K) (A2 1) (A2 5)) (A2 3)))
 (G9 (A2 5)) O3))
 (G9 (tCB (N5 K) (A1 (A2 1) A8))))))
theorem wl8(h:U5 K vs H Q E):X7 K {nx:=fun _ H'=>Q .non H',rt:=Q} (C9 ["book","names","name","shuts","first_near","number"] vs) H:=by
 obtain⟨v,a,ys,x,rs,rfl,hR,hq,hl,hx,q⟩:=h
 show X7 K _ [some v,some (.ref a),some (.str x),none,none,none] H
 unfold X7
 obtain⟨r,er,mr,nr⟩:=xg4 hx
 have hsh:wa7 rs x=r.shuts:=by unfold wa7;rw[er]
 lk
 refine⟨v,some x,rs,rfl,hR,fun e=>(by rw[er] at e;cases e),fun r2 u e hu=>?_⟩
 rw[er] at e
 injection e with e
 subst e
 obtain⟨b,ps,pb,rfl,hb,h1,h2⟩:=xz2 hu
 lk
 refine V2 hb rfl ?_
 lk
 refine R7 (.inr hq) ?_
 rw[C1]
 lk
 refine⟨v,a,ys,rs,rfl,hR,hq,hl,fun p H1 s1 hp=>?_⟩
 have nl:=wi0 rs ys.length ys rfl
 lk
 refine R7 (.inr hp) ?_
 rw[C1]
 lk
 refine R7 (.inr (s1.sqT hq)) ?_
 rw[C1]
 have e1:(ys.length:Int)-((near rs ys).length:Int)=((ys.length-(near rs ys).length:Nat):Int):=by omega
 rw[e1]
 refine yj3 (by omega) (by omega) (by omega) (fun i σ H'=>H'=H1/\(∃ w,σ=[some v,some (.ref a),some (.str x),some (.ref ps),some (.int ((ys.length-(near rs ys).length:Nat):Int)),w])/\wi2 rs ys x=kpt ys r.shuts (ys.length-(near rs ys).length+i) ((near rs ys).length-i)) ⟨rfl,⟨_,rfl⟩,by unfold wi2;rw[hsh];rfl⟩ ?_ ?_
 ·rintro i σ H' hi ⟨rfl,⟨w,rfl⟩,hk⟩
  obtain⟨m,hm⟩:∃ m:Nat,(near rs ys).length-i=m+1:=⟨(near rs ys).length-i-1,by omega⟩
  have e2:((ys.length-(near rs ys).length:Nat):Int)+(i:Int)=((ys.length-(near rs ys).length+i:Nat):Int):=by omega
  rw[hm,kpt] at hk
  rw[e2]
  lk
  refine V2 (s1.sqT hq) (qx7 (by omega)) ?_
  lk
  refine .inl (yk0 (.inr (s1.sqT h1)) rfl (qc8 _) ?_)
  rw[qe4]
  lk
  by_cases hs:gd ys (ys.length-(near rs ys).length+i)∈r.shuts
  ·rw[decide_eq_true hs]
   x_go
   lk
   rw[if_pos hs] at hk
   rw[hk] at q
   exact q _ s1
  ·rw[decide_eq_false hs]
   k_go
   lk
   rw[if_neg hs] at hk
   exact⟨rfl,⟨_,rfl⟩,by rw[hk,show(near rs ys).length-(i+1)=m by omega];rfl⟩
 ·rintro σ H' ⟨rfl,⟨w,rfl⟩,hk⟩
  lk
  refine R7 (.inr (s1.sqT hq)) ?_
  rw[C1]
  have e3:(((ys.length:Int)-((ys.length-(near rs ys).length:Nat):Int))).toNat=(near rs ys).length:=by omega
  rw[e3,Nat.sub_self,kpt,show ys.length-(near rs ys).length+(near rs ys).length=ys.length by omega] at hk
  rw[hk] at q
  exact q _ s1
def qh2(K:Fg):Sp:=fun vs H Q _=>∃ v a b ks ps rs,vs=[v,.ref a,.ref b]/\Rws K H v rs/\SqT K H a (B3 ks)/\SqT K H b (B3 ps)/\ks.length<=100/\ps.length<=100/\(∀ z∈ps,∃ r∈rs,Row.name r=z)/\∀ H',A6 H H'->Q (.bl (bar rs ks ps)) H'
def qm0(K:Fg):TS :=
 (B7 (qg5 (xf8 K (A1 (A2 2) A8)) (xj6 K 2 (qg2 (B1 3) (qg2 (B1 4) xj5)))
 (B7 (E1 (C7 (qj3 K) [] E0 (A1 (A2 0) (A1 (tOp (qw9 K) (A2 1) (tSl (xs8 K) (A2 2) qg6 (S3 (A2 3)))) A8))) (B1 5))
 (T5 (tB (C7 (X6 K) [] E0 (A1 (A2 5) (A1 (tOp (L4 K) (C7 (qc7 K) [] E0 (A1 (A2 0) (A1 (A2 4) A8))) (tC (.int 4))) A8))))
 (G9 (tC (.bl true))) O3)))
 (G9 (tC (.bl false))))
theorem xg7(h:qh2 K vs H Q E):qm0 K {nx:=fun _ H'=>Q .non H',rt:=Q} (C9 ["book","kept","put","number","name","near"] vs) H:=by
 obtain⟨v,a,b,ks,ps,rs,rfl,hR,ha,hb,hlk,hlp,hps,q⟩:=h
 show qm0 K _ [some v,some (.ref a),some (.ref b),none,none,none] H
 unfold qm0
 lk
 refine xc4 hb (fun i σ H'=>A6 H H'/\∃ (a3 a4 a5:Option V),σ=[some v,some (.ref a),some (.ref b),a3,a4,a5]/\bar rs ks ps=bar rs (ks++ps.take i) (ps.drop i)) ⟨A6.refl _,none,none,none,rfl,by simp⟩ (fun i σ H' p=>p.1.sqT hb) ?_ ?_
 ·rintro i x σ H' p hx ⟨s1,a3,a4,a5,rfl,hbr⟩ hp
  obtain⟨y,hy,rfl⟩:=qx5 hx
  have il:=(List.getElem?_eq_some_iff.mp hy).1
  have etk:ps.take (i+1)=ps.take i++[y]:=by rw[List.take_add_one,hy];rfl
  have edr:ps.drop i=y::ps.drop (i+1):=by
   obtain⟨hil,he⟩:=List.getElem?_eq_some_iff.mp hy
   rw[List.drop_eq_getElem_cons hil,he]
  rw[edr,bar] at hbr
  have s2:A6 H (upd H' p (.tup [.int (i:Int),.str y])):=A6.tr s1 (A6.new hp _)
  obtain⟨r,er,mr,nr⟩:=xg4 (hps y (List.mem_of_getElem? hy))
  have hba:wv1 rs y=r.bars:=by unfold wv1;rw[er]
  refine⟨p,_,rfl,SqT.of A4,rfl,_,_,rfl,J0 ⟨_,_,rfl,J0 ⟨rfl,?_⟩⟩⟩
  lk
  refine xl9 (s2.sqT hb) fun p3 H3 s3 hp3=>?_
  rw[xn4] at hp3
  have s23:=A6.tr s2 s3
  refine wt6 (s23.sqT ha) hp3 (by rw[C1,C1,List.length_take];exact D8 (by omega)) fun p4 H4 s4 hp4=>?_
  have e4:B3 ks++B3 (ps.take i)=B3 (ks++ps.take i):=by simp[B3]
  rw[e4] at hp4
  have s24:=A6.tr s23 s4
  lk
  refine⟨v,p4,ks++ps.take i,rs,rfl,hR.same s24,hp4,by rw[List.length_append,List.length_take];omega,fun p5 H5 s5 hp5=>?_⟩
  have s25:=A6.tr s24 s5
  have nl:=wi0 rs _ (ks++ps.take i) rfl
  rw[List.length_append,List.length_take] at nl
  lk
  refine⟨v,some y,rs,rfl,hR.same s25,fun e=>(by rw[er] at e;cases e),fun r2 u e hu=>?_⟩
  rw[er] at e
  injection e with e
  subst e
  obtain⟨b6,p6,p7,rfl,hb6,_,h7⟩:=xz2 hu
  lk
  refine V2 hb6 rfl ?_
  lk
  refine⟨p5,p7,near rs (ks++ps.take i),r.bars,rfl,hp5,h7,by omega,fun H8 s8=>?_⟩
  have s28:=A6.tr s25 s8
  lk
  rw[hba] at hbr
  cases hc:(near rs (ks++ps.take i)).any (fun z=>decide (z∈r.bars)) with
  | true =>
    x_go
    lk
    rw[hc,Bool.true_or] at hbr
    rw[hbr] at q
    exact q _ s28
  | false =>
    k_go
    lk
    rw[hc,Bool.false_or] at hbr
    exact⟨s28,_,_,_,rfl,by rw[hbr,etk,List.append_assoc]⟩
 ·rintro σ H' ⟨s1,a3,a4,a5,rfl,hbr⟩
  lk
  rw[C1,List.drop_length,bar] at hbr
  rw[hbr] at q
  exact q _ s1
def R9(K:Fg):Sp:=fun vs H Q _=>∃ v a ys x rs,vs=[v,.ref a,.str x]/\Rws K H v rs/\Boo rs/\SqT K H a (B3 ys)/\ys.length<=1000/\(∃ r∈rs,Row.name r=x)/\∀ p p2 H',A6 H H'->SqT K H' p [.int (qj2 rs ys x).1,.ref p2]->SqT K H' p2 (B3 (qj2 rs ys x).2)->Q (.ref p) H'
def S9(K:Fg):TS :=
 (B7 (E1 (C7 (S6 K) [] E0 (A1 (A2 0) (A1 (C7 (M2 K) [] E0 (A1 (A2 1) A8)) A8))) (B1 3))
 (B7 (T5 (E3 (tOp wy4 (tCB (N5 K) (A1 (A2 3) A8)) (tC (.int 0))))
 (G9 (W3 (A1 (tCB (N5 K) (A1 (A2 1) A8)) (A1 (tOp (qw9 K) (A2 3) (W3 (A1 (A2 2) A8))) A8)))) O3)
 (G9 (W3 (A1 (C7 (U5 K) [] E0 (A1 (A2 0) (A1 (A2 1) (A1 (A2 2) A8)))) (A1 (W3 (A1 (A2 2) A8)) A8))))))
theorem we4(h:R9 K vs H Q E):S9 K {nx:=fun _ H'=>Q .non H',rt:=Q} (C9 ["book","names","name","hosts"] vs) H:=by
 obtain⟨v,a,ys,x,rs,rfl,hR,B,hq,hl,hx,q⟩:=h
 show S9 K _ [some v,some (.ref a),some (.str x),none] H
 unfold S9
 lk
 refine⟨a,ys,rfl,.inr hq,?_⟩
 lk
 refine⟨v,_,rs,rfl,hR,B,fun p H1 s1 hp=>?_⟩
 have hlen:(G7 rs (R8 ys)).length<=12:=wa4 rs 12 _
 lk
 refine R7 (.inr hp) ?_
 rw[C1]
 lk
 by_cases h0:G7 rs (R8 ys)=[]
 ·rw[decide_eq_false (by rw[h0];simp)]
  k_go
  have eg:qj2 rs ys x=(wi2 rs ys x,[x]):=by unfold qj2;rw[if_pos h0]
  lk
  refine⟨v,a,ys,x,rs,rfl,hR.same s1,s1.sqT hq,hl,hx,fun H2 s2=>?_⟩
  lk
  refine⟨D8 (by z_go),fun p3 hp3=>?_⟩
  lk
  refine⟨D8 (by z_go),fun p4 hp4=>?_⟩
  rw[eg] at q
  exact q p4 p3 _ (A6.tr s1 (A6.tr s2 (A6.tr (A6.new hp3 _) (A6.new hp4 _)))) (SqT.of A4) ((A6.new hp4 _).sqT (SqT.of A4))
 ·rw[decide_eq_true (by have:=List.length_pos_iff.mpr h0;omega)]
  x_go
  have eg:qj2 rs ys x=(ys.length,G7 rs (R8 ys)++[x]):=by unfold qj2;rw[if_neg h0]
  lk
  refine R7 (.inr (s1.sqT hq)) ?_
  rw[C1]
  lk
  refine⟨D8 (by z_go),fun p3 hp3=>?_⟩
  refine wt6 ((A6.new hp3 _).sqT hp) (SqT.of A4) (by rw[C1];exact D8 (by simp;omega)) fun p4 H4 s4 hp4=>?_
  rw[qx6] at hp4
  lk
  refine⟨D8 (by z_go),fun p5 hp5=>?_⟩
  rw[eg] at q
  exact q p5 p4 _ (A6.tr s1 (A6.tr (A6.new hp3 _) (A6.tr s4 (A6.new hp5 _)))) (SqT.of A4) ((A6.new hp5 _).sqT hp4)
def qj4(n:Nat)(K:Fg):Sp:=fun vs H Q _=>∃ v a ys x rs rk,vs=[v,.ref a,.str x]/\Rws K H v rs/\Boo rs/\qp5 rs rk/\SqT K H a (B3 ys)/\ys.length<=1000/\(∃ r∈rs,Row.name r=x)/\rk x<=n/\n<=50/\∀ p p2 H',A6 H H'->SqT K H' p [.int (qb7 rs rk ys n x).1,.ref p2]->SqT K H' p2 (B3 (qb7 rs rk ys n x).2)->Q (.ref p) H'
def xc8(K:Fg):Sp:=qj4 13 K
def qe5(K:Fg):Nat->Sp
 | 0=>fun _ _ _ _=>False
 | n+1=>qj4 n K
def qx8(K:Fg)(spr:Sp):TS :=
 (B7 (E1 (C7 (Z1 K) [] E0 (A1 (A2 0) (A1 (A2 2) A8))) (B1 3))
 (B7 (T5 (E3 (tOp xk9 (A2 3) (tC .non)))
 (G9 (C7 (R9 K) [] E0 (A1 (A2 0) (A1 (A2 1) (A1 (A2 2) A8))))) O3)
 (B7 (E1 (C7 (qr8 K) [] E0 (A1 (A2 0) (A1 (A2 1) (A1 (A2 3) A8)))) (B1 4))
 (B7 (T5 (E3 (tOp wg3 (A2 4) (tC .non)))
 (G9 (W3 (A1 (tOp (qw9 K) (A2 4) (tC (.int 1))) (A1 (W3 (A1 (A2 2) A8)) A8)))) O3)
 (B7 (E1 (C7 spr [] E0 (A1 (A2 0) (A1 (A2 1) (A1 (A2 3) A8)))) (B1 5))
 (G9 (W3 (A1 (tOp (L4 K) (A2 5) (tC (.int 0))) (A1 (tOp (qw9 K) (tOp (L4 K) (A2 5) (tC (.int 1))) (W3 (A1 (A2 2) A8))) A8)))))))))
theorem xc9(n:Nat)(h:qj4 n K vs H Q E):qx8 K (qe5 K n) {nx:=fun _ H'=>Q .non H',rt:=Q} (C9 ["book","names","name","frame","number","plan"] vs) H:=by
 obtain⟨v,a,ys,x,rs,rk,rfl,hR,B,f,hq,hl,hx,hn,hn50,q⟩:=h
 show qx8 K _ _ [some v,some (.ref a),some (.str x),none,none,none] H
 unfold qx8
 have ew:∃ rec,qb7 rs rk ys n x=wv2 rs rk ys rec x/\∀ m,n=m+1->rec=qb7 rs rk ys m:=by
  cases n with
  | zero=>exact⟨_,rfl,fun m h=>by cases h⟩
  | succ m=>exact⟨_,rfl,fun k h=>by injection h with h;rw[h]⟩
 obtain⟨rec,ew,hrec⟩:=ew
 rw[ew] at q
 unfold wv2 at q
 lk
 refine⟨v,some x,rs,rfl,hR,?_⟩
 lk
 cases ef:J4 rs (some x) with
 | none =>
   rw[ef] at q
   dsimp only at q
   rw[decide_eq_true (show oV none=V.non from rfl)]
   x_go
   lk
   exact⟨v,a,ys,x,rs,rfl,hR,B,hq,hl,hx,q⟩
 | some y =>
   rw[ef] at q
   dsimp only at q
   have hyx:=f x y ef
   obtain⟨ry,my,ny,_⟩:=xc6 ef
   rw[decide_eq_false (show ¬oV (some y)=V.non by simp[oV])]
   k_go
   lk
   refine⟨v,a,ys,y,rs,rk,rfl,hR,f,.inr hq,hl,?_⟩
   lk
   cases ec:clo rs rk ys y ys.length with
   | some k =>
     rw[ec] at q
     dsimp only at q
     rw[decide_eq_false (show ¬nV (some k)=V.non by simp[nV]),Bool.not_false]
     x_go
     lk
     refine .inl (xf5 ?_)
     lk
     refine⟨D8 (by z_go),fun p3 hp3=>?_⟩
     lk
     refine⟨D8 (by z_go),fun p4 hp4=>?_⟩
     exact q p4 p3 _ (A6.tr (A6.new hp3 _) (A6.new hp4 _)) (SqT.of A4) ((A6.new hp4 _).sqT (SqT.of A4))
   | none =>
     rw[ec] at q
     dsimp only at q
     rw[decide_eq_true (show nV none=V.non from rfl),Bool.not_true]
     k_go
     obtain⟨m,rfl⟩:∃ m,n=m+1:=⟨n-1,by omega⟩
     rw[hrec m rfl] at q
     have wk:=xg6 B f (ys:=ys) m y ⟨ry,my,ny⟩ (by omega)
     lk
     refine⟨v,a,ys,y,rs,rk,rfl,hR,B,f,hq,hl,⟨ry,my,ny⟩,by omega,by omega,fun p p2 H1 s1 hp hp2=>?_⟩
     lk
     refine V2 hp rfl ?_
     lk
     refine V2 hp rfl ?_
     lk
     refine⟨D8 (by z_go),fun p3 hp3=>?_⟩
     refine wt6 ((A6.new hp3 _).sqT hp2) (SqT.of A4) (by rw[C1];exact D8 (by have:=wk.l;simp;omega)) fun p4 H4 s4 hp4=>?_
     rw[qx6] at hp4
     lk
     refine⟨D8 (by z_go),fun p5 hp5=>?_⟩
     exact q p5 p4 _ (A6.tr s1 (A6.tr (A6.new hp3 _) (A6.tr s4 (A6.new hp5 _)))) (SqT.of A4) ((A6.new hp5 _).sqT hp4)
def qr9(K:Fg):Sp:=fun vs H Q _=>∃ v a ys x rs rk,vs=[v,.ref a,.str x]/\Rws K H v rs/\Boo rs/\qp5 rs rk/\SqT K H a (B3 ys)/\ys.length<=50/\(∃ r∈rs,Row.name r=x)/\rk x<=13/\∀ p H',A6 H H'->Dv K H' (xz3 rs rk ys x) (.ref p)->Q (.ref p) H'
def wa9(K:Fg):TS :=
 (B7 (E1 (C7 (xc8 K) [] E0 (A1 (A2 0) (A1 (A2 1) (A1 (A2 2) A8)))) (B1 3))
 (B7 (E1 (tCB (Z5 K) (A1 (tSl (xs8 K) (A2 1) qg6 (S3 (tOp (L4 K) (A2 3) (tC (.int 0))))) A8)) (B1 4))
 (B7 (E1 (tOp (L4 K) (A2 3) (tC (.int 1))) (B1 5))
 (B7 (T5 (tB (C7 (qh2 K) [] E0 (A1 (A2 0) (A1 (A2 4) (A1 (A2 5) A8)))))
 (G9 (W3 (A1 (tC (.str "drop")) (A1 (tC (.str "barred")) A8)))) O3)
 (B7 (T5 (E3 (tOp wy4 (tOp (qw9 K) (tCB (N5 K) (A1 (A2 4) A8)) (tCB (N5 K) (A1 (A2 5) A8))) (tC (.int 20))))
 (G9 (W3 (A1 (tC (.str "drop")) (A1 (tC (.str "deep")) A8)))) O3)
 (G9 (W3 (A1 (tC (.str "open")) (A1 (tCB (N5 K) (A1 (A2 4) A8)) (A1 (A2 5) A8))))))))))
theorem xu0(h:qr9 K vs H Q E):wa9 K {nx:=fun _ H'=>Q .non H',rt:=Q} (C9 ["book","names","name","plan","kept","put"] vs) H:=by
 obtain⟨v,a,ys,x,rs,rk,rfl,hR,B,f,hq,hl,hx,hn,q⟩:=h
 show wa9 K _ [some v,some (.ref a),some (.str x),none,none,none] H
 unfold wa9
 have wk:=xg6 B f (ys:=ys) 13 x hx hn
 lk
 refine⟨v,a,ys,x,rs,rk,rfl,hR,B,f,hq,by omega,hx,hn,by decide,fun p p2 H1 s1 hp hp2=>?_⟩
 have wkk:=wk.k
 have wkl:=wk.l
 have il:(ys.take (qb7 rs rk ys 13 x).1).length=(qb7 rs rk ys 13 x).1:=by rw[List.length_take];omega
 unfold xz3 at q
 generalize qb7 rs rk ys 13 x=W at *
 lk
 refine V2 hp rfl ?_
 lk
 refine xl9 (s1.sqT hq) fun p3 H3 s3 hp3=>?_
 rw[xn4] at hp3
 lk
 refine⟨p3,_,rfl,.inr ⟨hp3,?_⟩⟩
 lk
 refine V2 (s3.sqT hp) rfl ?_
 lk
 refine⟨v,p3,p2,_,_,rs,rfl,hR.same (A6.tr s1 s3),hp3,s3.sqT hp2,by omega,by omega,wk.m,fun H4 s4=>?_⟩
 have s14:=A6.tr s1 (A6.tr s3 s4)
 lk
 cases hb:bar rs (ys.take W.1) W.2 with
 | true =>
   rw[hb,if_pos rfl] at q
   x_go
   lk
   refine⟨D8 (by z_go),fun p5 hp5=>?_⟩
   exact q p5 _ (A6.tr s14 (A6.new hp5 _)) (C6.mpr ⟨p5,_,rfl,SqT.of A4,B6 (E5.mpr rfl) (B6 (E5.mpr rfl) G1)⟩)
 | false =>
   rw[hb,if_neg Bool.false_ne_true] at q
   k_go
   lk
   refine R7 (.inr (s4.sqT hp3)) ?_
   rw[C1,il]
   lk
   refine R7 (.inr ((A6.tr s3 s4).sqT hp2)) ?_
   rw[C1]
   refine .inl (xf5 ?_)
   lk
   by_cases h20:20<W.1+W.2.length
   ·rw[if_pos h20] at q
    rw[decide_eq_true (by omega)]
    x_go
    lk
    refine⟨D8 (by z_go),fun p5 hp5=>?_⟩
    exact q p5 _ (A6.tr s14 (A6.new hp5 _)) (C6.mpr ⟨p5,_,rfl,SqT.of A4,B6 (E5.mpr rfl) (B6 (E5.mpr rfl) G1)⟩)
   ·rw[if_neg h20] at q
    rw[decide_eq_false (by omega)]
    k_go
    lk
    refine R7 (.inr (s4.sqT hp3)) ?_
    rw[C1,il]
    lk
    refine⟨D8 (by z_go),fun p5 hp5=>?_⟩
    have s5:=A6.new hp5 (.tup [.str "open",.int (W.1:Int),.ref p2])
    exact q p5 _ (A6.tr s14 s5) (C6.mpr ⟨p5,_,rfl,SqT.of A4,B6 (E5.mpr rfl) (B6 (M0.mpr rfl) (B6 (C6.mpr ⟨p2,_,rfl,(A6.tr (A6.tr s3 s4) s5).sqT hp2,ql7.mpr rfl⟩) G1))⟩)
namespace TX
open PySem PySem.StrLaws PySem.Builtin PySem.Builtin.Str
def rep(Y Z:List Nat):Nat->List Nat->List Nat
 | _,[]=>[]
 | k+1,_::l=>rep Y Z k l
 | 0,c::l=>if Y.isPrefixOf (c::l)=true then Z++rep Y Z (Y.length-1) l else c::rep Y Z 0 l
theorem xn9(Y Z:List Nat):∀ (k:Nat) (l:List Nat),rep Y Z k l=rep Y Z 0 (l.drop k)
 | 0,l=>by simp
 | k+1,[]=>by simp[rep]
 | k+1,_::l=>by rw[rep,xn9 Y Z k l];simp
theorem rep_yes{Y Z l:List Nat}(h0:1<=Y.length)(h:Y <+: l):rep Y Z 0 l=Z++rep Y Z 0 (l.drop Y.length):=by
 cases l with
 | nil=>rw[List.prefix_nil] at h;subst h;simp at h0
 | cons c l =>
   rw[rep,if_pos (List.isPrefixOf_iff_prefix.mpr h),xn9]
   congr 2
   cases Y with
   | nil=>simp at h0
   | cons y Y=>simp
theorem rep_no{Y Z l:List Nat}{c:Nat}(h:¬Y <+: c::l):rep Y Z 0 (c::l)=c::rep Y Z 0 l:=by
 rw[rep,if_neg (by rw[List.isPrefixOf_iff_prefix];exact h)]
theorem xo0{Y Z:List Nat}:∀ (l:List Nat),(∀ j,j<l.length->¬Y <+: l.drop j)->rep Y Z 0 l=l
 | [],_=>rfl
 | c::l,h=>by
   rw[rep_no (h 0 (by simp)),xo0 l fun j hj=>by have:=h (j+1) (by simpa using hj);simpa using this]
theorem yn2{Y Z:List Nat}(h0:1<=Y.length):∀ (d:Nat) (l:List Nat),(∀ j,j<d->¬Y <+: l.drop j)->Y <+: l.drop d->rep Y Z 0 l=l.take d++Z++rep Y Z 0 (l.drop (d+Y.length))
 | 0,l,_,h=>by simpa using rep_yes h0 (by simpa using h)
 | d+1,[],_,h=>by rw[List.drop_nil,List.prefix_nil] at h;subst h;simp at h0
 | d+1,c::l,hn,h=>by
   rw[rep_no (hn 0 (by omega)),yn2 h0 d l (fun j hj=>by have:=hn (j+1) (by omega);simpa using this) (by simpa using h)]
   have e:d+1+Y.length=(d+Y.length)+1:=by omega
   rw[e]
   simp
theorem xu1{x y:Str}(h0:1<=y.length)(k:Nat):At x y x.length k↔y.cps.toList <+: x.cps.toList.drop k:=by
 have hn:x.cps.toList.length=x.length:=by simp[Str.length]
 have hy:y.cps.toList.length=y.length:=by simp[Str.length]
 unfold At
 rw[subAt_eq,beq_iff_eq,List.prefix_iff_eq_take,hy]
 constructor
 ·rintro⟨_,h⟩;exact h.symm
 ·intro h
  refine⟨?_,h.symm⟩
  have:=congrArg List.length h
  rw[List.length_take,List.length_drop,hy,hn] at this
  omega
theorem yn3(sep a y:Str)(r:List Str):Str.join sep (a::y::r)=a++sep++Str.join sep (y::r):=by
 rfl
theorem xd0{x y z:Str}(h0:1<=y.length):∀ (cuts:List Nat) (a f:Nat),ChainG x y x.length a cuts f->(∀ k,f<=k->¬At x y x.length k) ->
 (Str.join z (partsFrom x y.length a cuts)).cps.toList=rep y.cps.toList z.cps.toList 0 (x.cps.toList.drop a)
 | [],a,f,h,hn=>by
   have e:f=a:=h
   subst e
   have hx:x.cps.toList.length=x.length:=by simp[Str.length]
   rw[xo0 _ fun j hj hp=>hn (f+j) (by omega) ((xu1 h0 _).mpr (by rw[<-List.drop_drop];exact hp))]
   show(strSub x f x.length).cps.toList=_
   rw[strSub_toList,List.take_of_length_le (by rw[List.length_drop,hx];exact Nat.le_refl _)]
 | c::r,a,f,h,hn=>by
   obtain⟨h1,h2,h3,h4⟩:=h
   have hy:y.cps.toList.length=y.length:=by simp[Str.length]
   have hp:y.cps.toList <+: (x.cps.toList.drop a).drop (c-a):=by
    rw[List.drop_drop,show a+(c-a)=c by omega]
    exact(xu1 h0 c).mp h2
   rw[yn2 (by rw[hy];exact h0) (c-a) _ (fun j hj hq=>h3 (a+j) (by omega) (by omega) ((xu1 h0 _).mpr (by rw[<-List.drop_drop];exact hq))) hp]
   rw[List.drop_drop,hy,show a+(c-a+y.length)=c+y.length by omega,<-xd0 h0 r (c+y.length) f h4 hn]
   obtain⟨p,q,e⟩:=partsFrom_ne x y.length (c+y.length) r
   show(Str.join z (strSub x a c::partsFrom x y.length (c+y.length) r)).cps.toList=_
   rw[e,yn3]
   simp only[Str.cps_append,Array.toList_append,strSub_toList]
theorem replace_rep(x y z:Str)(h0:1<=y.length):(Txt.replace x y z).cps.toList=rep y.cps.toList z.cps.toList 0 x.cps.toList:=by
 obtain⟨f,h1,h2⟩:=occ_tight x y h0
 have hy:(y.length == 0)=false:=by simp;omega
 have key:=xd0 (z:=z) h0 _ 0 f h1 h2
 rw[List.drop_zero] at key
 unfold Txt.replace
 rw[hy,Bool.false_and,Bool.or_false]
 cases ho:occurrences x y 0 x.length (x.length+1) with
 | nil =>
   rw[if_pos (by simp),<-key,ho]
   show _=(strSub x 0 x.length).cps.toList
   rw[sub_whole]
 | cons c r =>
   rw[if_neg (by simp),glued_eq_join,partsBetween_eq,<-ho,key]
abbrev El:List Nat:=[38,108,59]
abbrev Ea:List Nat:=[38,97,59]
def told:Nat->List Nat->List Nat
 | _,[]=>[]
 | k+1,_::l=>told k l
 | 0,c::l=>if El.isPrefixOf (c::l)=true then 60::told 2 l else if Ea.isPrefixOf (c::l)=true then 38::told 2 l else c::told 0 l
theorem wl9:∀ (k:Nat) (l:List Nat),told k l=told 0 (l.drop k)
 | 0,l=>by simp
 | k+1,[]=>by simp[told]
 | k+1,_::l=>by rw[told,wl9 k l];simp
theorem zf3{l:List Nat}:told 0 (38::108::59::l)=60::told 0 l:=by
 rw[told,if_pos (by simp[List.isPrefixOf]),wl9];rfl
theorem zf4{l:List Nat}:told 0 (38::97::59::l)=38::told 0 l:=by
 rw[told,if_neg (by simp[List.isPrefixOf]),if_pos (by simp[List.isPrefixOf]),wl9];rfl
theorem told_n{c:Nat}{l:List Nat}(h1:¬El <+: c::l)(h2:¬Ea <+: c::l):told 0 (c::l)=c::told 0 l:=by
 rw[told,if_neg (by rw[List.isPrefixOf_iff_prefix];exact h1),if_neg (by rw[List.isPrefixOf_iff_prefix];exact h2)]
theorem yf5{a b c:Nat}{l:List Nat}:[a,b,c] <+: l↔∃ r,l=a::b::c::r:=by
 constructor
 ·rintro⟨r,e⟩;exact⟨r,e.symm⟩
 ·rintro⟨r,rfl⟩;exact⟨r,rfl⟩
theorem ne_pre{a b c d:Nat}{l:List Nat}(h:d≠a):¬[a,b,c] <+: d::l:=by
 rw[yf5];rintro⟨r,e⟩;injection e with e _;exact h e
theorem xo1{c:Nat}{l r:List Nat}(hc:c≠60)(h:rep El [60] 0 l=c::r):∃ l',l=c::l'/\r=rep El [60] 0 l':=by
 cases l with
 | nil=>cases h
 | cons d l =>
   by_cases hp:El <+: d::l
   ·rw[rep_yes (by simp) hp] at h
    injection h with e _
    exact absurd e.symm hc
   ·rw[rep_no hp] at h
    injection h with e1 e2
    subst e1
    exact⟨l,rfl,e2.symm⟩
theorem two_reps:∀ (n:Nat) (l:List Nat),l.length<=n->rep Ea [38] 0 (rep El [60] 0 l)=told 0 l
 | _,[],_=>rfl
 | 0,_::_,h=>by simp at h
 | n + 1,c::l,h=>by
   have h:l.length<=n:=by simpa using h
   by_cases h1:El <+: c::l
   ·obtain⟨r,e⟩:=yf5.mp h1
    rw[e] at h1 ⊢
    have hr:r.length<=n:=by
     injection e with _ e
     rw[e] at h
     simp at h;omega
    rw[rep_yes (by simp) h1,zf3]
    show rep Ea [38] 0 (60::rep El [60] 0 r)=_
    rw[rep_no (ne_pre (by decide)),two_reps n r hr]
   ·rw[rep_no h1]
    by_cases h2:Ea <+: c::l
    ·obtain⟨r,e⟩:=yf5.mp h2
     have hr:r.length<=n:=by
      injection e with _ e
      rw[e] at h
      simp at h;omega
     injection e with ec e
     subst ec e
     rw[zf4,rep_no (Y:=El) (Z:=[60]) (c:=97) (l:=59::r) (ne_pre (by decide)),rep_no (Y:=El) (Z:=[60]) (c:=59) (l:=r) (ne_pre (by decide)),rep_yes (Y:=Ea) (Z:=[38]) (by simp) (yf5.mpr ⟨_,rfl⟩)]
     show 38::rep Ea [38] 0 (rep El [60] 0 r)=_
     rw[two_reps n r hr]
    ·rw[told_n h1 h2,rep_no fun hp=>?_,two_reps n l h]
     obtain⟨r,e⟩:=yf5.mp hp
     injection e with ec e
     obtain⟨l',rfl,e2⟩:=xo1 (by decide) e
     obtain⟨l'',rfl,e3⟩:=xo1 (by decide) e2.symm
     subst ec
     exact h2 (yf5.mpr ⟨l'',rfl⟩)
end TX
namespace TX
open PySem
def letter(c:Nat):Bool:=decide (97<=c) && decide (c<=122)
def nm(d:List Nat):Option Nat:=if 1<=(d.takeWhile letter).length/\(d.takeWhile letter).length<=8/\d[(d.takeWhile letter).length]?=some 62 then some (d.takeWhile letter).length else none
def nst(l:List Nat)(k:Nat):Nat:=if l[k+1]?=some 47 then k+2 else k+1
def tagAt(l:List Nat)(k:Nat):Option (Nat×Nat):=if l[k]?=some 60 then(nm (l.drop (nst l k))).map fun n=>(nst l k,nst l k+n+1) else none
theorem nst_gt(l:List Nat)(k:Nat):k<nst l k:=by unfold nst;split <;> omega
theorem yn4{p:Nat->Bool}:∀ (d:List Nat) (n:Nat),(∀ i,i<n->∃ c,d[i]?=some c/\p c=true)->(∀ c,d[n]?=some c->p c=false)->(d.takeWhile p).length=n
 | [],0,_,_=>rfl
 | [],n+1,h,_=>by obtain⟨c,e,_⟩:=h 0 (by omega);simp at e
 | c::d,0,_,h=>by rw[List.takeWhile_cons,h c rfl];rfl
 | c::d,n+1,h,h2=>by
   obtain⟨c',e,hc⟩:=h 0 (by omega)
   have:c=c':=by simpa using e
   subst this
   rw[List.takeWhile_cons,hc]
   simp only[if_true,List.length_cons]
   rw[yn4 d n (fun i hi=>by have:=h (i+1) (by omega);simpa using this) (fun c e=>h2 c (by simpa using e))]
theorem yn5{p:Nat->Bool}:∀ (d:List Nat) (i:Nat),i<(d.takeWhile p).length->∃ c,d[i]?=some c/\p c=true
 | [],i,h=>by simp at h
 | c::d,0,h=>by
   rw[List.takeWhile_cons] at h
   cases hc:p c with
   | true=>exact⟨c,rfl,hc⟩
   | false=>rw[hc] at h;simp at h
 | c::d,i+1,h=>by
   rw[List.takeWhile_cons] at h
   cases hc:p c with
   | true=>rw[hc] at h;simp at h;obtain⟨c',e,h'⟩:=yn5 d i h;exact⟨c',by simpa using e,h'⟩
   | false=>rw[hc] at h;simp at h
theorem xu2:letter 62=false:=by decide
theorem nm_iff{d:List Nat}{n:Nat}:nm d=some n↔1<=n/\n<=8/\(∀ i,i<n->∃ c,d[i]?=some c/\letter c=true)/\d[n]?=some 62:=by
 constructor
 ·intro h
  unfold nm at h
  split at h
  ·rename_i hc
   have e:(d.takeWhile letter).length=n:=by simpa using h
   rw[e] at hc
   exact⟨hc.1,hc.2.1,fun i hi=>yn5 d i (by rw[e];exact hi),hc.2.2⟩
  ·cases h
 ·rintro⟨h1,h2,h3,h4⟩
  have e:(d.takeWhile letter).length=n:=yn4 d n h3 fun c e=>by rw[h4] at e;cases e;exact xu2
  unfold nm
  rw[e,if_pos ⟨h1,h2,h4⟩]
theorem tagAt_gt{l:List Nat}{k f e:Nat}(h:tagAt l k=some (f,e)):k<e/\e<=l.length/\f=nst l k/\f<e-1/\l[k]?=some 60/\nm (l.drop f)=some (e-1-f):=by
 unfold tagAt at h
 split at h
 ·rename_i h60
  obtain⟨n,hn,e1⟩:=Option.map_eq_some_iff.mp h
  injection e1 with ef ee
  subst ef ee
  obtain⟨h1,h2,h3,h4⟩:=nm_iff.mp hn
  have:=nst_gt l k
  rw[List.getElem?_drop] at h4
  have:=(List.getElem?_eq_some_iff.mp h4).1
  exact⟨by omega,by omega,rfl,by omega,h60,by rw[hn];congr 1;omega⟩
 ·cases h
def ofL(xs:List Nat):Str:=⟨xs.toArray⟩
def runD(l:List Nat)(a b:Nat):PyData:=.tuple [.str "run",.int a,.int b,.str (ofL (told 0 ((l.drop a).take (b-a))))]
def tagD(l:List Nat)(k f e:Nat):PyData:=.tuple [.str (if f=k+1 then "open" else "close"),.int k,.int e,.str (ofL ((l.drop f).take (e-1-f)))]
def runs(l:List Nat)(a b:Nat):List PyData:=if a<b then[runD l a b] else[]
def qt5(l:List Nat):Nat->Nat->Nat->List PyData
 | 0,_,s=>runs l s l.length
 | n+1,k,s=>if l.length<=k then runs l s l.length else match tagAt l k with
   | none=>qt5 l n (k+1) s
   | some (f,e)=>runs l s k++tagD l k f e::qt5 l n e e
def toks(l:List Nat)(k s:Nat):List PyData:=qt5 l (l.length-k) k s
theorem qs0(l:List Nat):∀ (n m k s:Nat),l.length-k<=n->n<=m->qt5 l m k s=qt5 l n k s
 | 0,0,_,_,_,_=>rfl
 | 0,m+1,k,s,h,_=>by show(if l.length<=k then _ else _)=runs l s l.length;rw[if_pos (by omega)]
 | n+1,0,_,_,_,h=>by omega
 | n+1,m+1,k,s,h,hm=>by
   rw[qt5,qt5]
   split
   ·rfl
   ·cases ht:tagAt l k with
    | none=>exact qs0 l n m (k+1) s (by omega) (by omega)
    | some fe =>
      obtain⟨f,e⟩:=fe
      have:=(tagAt_gt ht).1
      show _++_::qt5 l m e e=_++_::qt5 l n e e
      rw[qs0 l n m e e (by omega) (by omega)]
theorem toks_end{l:List Nat}{k s:Nat}(h:l.length<=k):toks l k s=runs l s l.length:=by
 unfold toks
 rw[show l.length-k=0 by omega];rfl
theorem toks_none{l:List Nat}{k s:Nat}(h:k<l.length)(ht:tagAt l k=none):toks l k s=toks l (k+1) s:=by
 unfold toks
 obtain⟨n,hn⟩:∃ n,l.length-k=n+1:=⟨l.length-k-1,by omega⟩
 rw[hn,qt5,if_neg (by omega),ht]
 exact(qs0 l _ _ _ _ (by omega) (by omega))
theorem toks_some{l:List Nat}{k s f e:Nat}(ht:tagAt l k=some (f,e)):toks l k s=runs l s k++tagD l k f e::toks l e e:=by
 obtain⟨h1,h2,_⟩:=tagAt_gt ht
 unfold toks
 obtain⟨n,hn⟩:∃ n,l.length-k=n+1:=⟨l.length-k-1,by omega⟩
 rw[hn,qt5,if_neg (by omega),ht]
 show _++_::qt5 l n e e=_
 rw[qs0 l (l.length-e) n e e (by omega) (by omega)]
theorem toks_skip{l:List Nat}{s:Nat}:∀ (d k:Nat),k+d<=l.length->(∀ j,k<=j->j<k+d->l[j]?≠some 60)->toks l k s=toks l (k+d) s
 | 0,k,_,_=>rfl
 | d+1,k,h,hn=>by
   rw[toks_none (by omega) (by unfold tagAt;rw[if_neg (hn k (Nat.le_refl _) (by omega))]),toks_skip d (k+1) (by omega) fun j h1 h2=>hn j (by omega) (by omega)]
   congr 1;omega
end TX
theorem A6.refl(H:Hp):A6 H H:=fun _ _ e=>e
theorem qd7(x y:Str):x=y↔x.cps.toList=y.cps.toList:=⟨fun e=>by rw[e],fun e=>PySem.Str.ext' (Array.toList_inj.mp e)⟩
variable{z:Str}
theorem wi4{a b:Int}(ha:a=(i:Int))(hb:b=(j:Int)):(qi8 z (some a) (some b)).cps.toList=(z.cps.toList.drop i).take (j-i):=by
 subst ha hb
 unfold qi8
 rw[HT.qr2,HT.qr2]
 show(z.cps.toList.drop (min i z.cps.toList.length)).take _=_
 by_cases hi:i<=z.cps.toList.length
 ·rw[Nat.min_eq_left hi]
  by_cases hj:j<=z.cps.toList.length
  ·rw[Nat.min_eq_left hj]
  ·rw[Nat.min_eq_right (by omega),List.take_of_length_le (by rw[List.length_drop];exact Nat.le_refl _),List.take_of_length_le (by rw[List.length_drop];omega)]
 ·rw[Nat.min_eq_right (Nat.le_of_lt (Nat.lt_of_not_le hi)),List.drop_eq_nil_of_le (Nat.le_refl _),List.drop_eq_nil_of_le (Nat.le_of_lt (Nat.lt_of_not_le hi))]
  simp
theorem wr2(Y Z:List Nat):∀ (k:Nat) (l:List Nat),(TX.rep Y Z k l).length<=l.length*(Z.length+1)
 | _,[]=>by simp[TX.rep]
 | k+1,_::l=>by
   rw[TX.rep,List.length_cons,Nat.succ_mul]
   exact Nat.le_trans (wr2 Y Z k l) (Nat.le_add_right _ _)
 | 0,c::l=>by
   have h1:=wr2 Y Z (Y.length-1) l
   have h2:=wr2 Y Z 0 l
   rw[TX.rep,List.length_cons,Nat.succ_mul]
   split
   ·rw[List.length_append];omega
   ·rw[List.length_cons];omega
theorem xo2(x y z:Str)(h0:1<=y.length):(PySem.Txt.replace x y z).length<=x.length*(z.length+1):=by
 have e:=TX.replace_rep x y z h0
 have h:=wr2 y.cps.toList z.cps.toList 0 x.cps.toList
 rw[<-e,Array.length_toList,Array.length_toList,Array.length_toList] at h
 exact h
def xu3(l:List Nat)(i:Nat):Bool:=decide (l[i]?=some 60) || (decide (l[i]?=some 38) && (!decide ((l.drop (i+1)).take 2=[108,59]) && !decide ((l.drop (i+1)).take 2=[97,59])))
def qx9(l:List Nat)(i:Nat):List Nat:=(List.range i).filter (xu3 l)
theorem xu4(l:List Nat)(i:Nat):qx9 l (i+1)=if xu3 l i=true then qx9 l i++[i] else qx9 l i:=by
 unfold qx9
 rw[List.range_succ,List.filter_append]
 by_cases h:xu3 l i=true
 ·rw[if_pos h];simp[h]
 ·rw[if_neg h];simp[h]
theorem yf6(l:List Nat)(i:Nat):(qx9 l i).length<=i:=by
 unfold qx9
 exact Nat.le_trans (List.length_filter_le _ _) (Nat.le_of_eq (List.length_range))
variable{l:List Nat}
theorem wm0(h:l[i]?=some c):l.drop i=c::l.drop (i+1):=by
 obtain⟨hi,e⟩:=List.getElem?_eq_some_iff.mp h
 rw[List.drop_eq_getElem_cons hi,e]
theorem yv8{a b:Int}(h:z.cps.toList[i]?=some c)(ha:a=(i:Int))(hb:b=((i+3:Nat):Int)) :
 (decide ((⟨#[c]⟩:Str)∈(["<","&"]:List Str)) && !decide (qi8 z (some a) (some b)∈(["&l;","&a;"]:List Str)))=xu3 z.cps.toList i:=by
 have e:=wi4 (z:=z) ha hb
 rw[show i+3-i=3 by omega,wm0 h,List.take_succ_cons] at e
 have e1:(⟨#[c]⟩:Str) = "<"↔c=60:=by
  rw[qd7];show[c]=[60]↔_;simp
 have e2:(⟨#[c]⟩:Str) = "&"↔c=38:=by
  rw[qd7];show[c]=[38]↔_;simp
 have e3:qi8 z (some a) (some b) = "&l;"↔c=38/\(z.cps.toList.drop (i+1)).take 2=[108,59]:=by
  rw[qd7,e];show c::_=[38,108,59]↔_;simp
 have e4:qi8 z (some a) (some b) = "&a;"↔c=38/\(z.cps.toList.drop (i+1)).take 2=[97,59]:=by
  rw[qd7,e];show c::_=[38,97,59]↔_;simp
 unfold xu3
 rw[h]
 simp only[List.mem_cons,List.not_mem_nil,or_false,e1,e2,e3,e4,Option.some.injEq]
 by_cases h1:c=60
 ·subst h1;simp
 ·by_cases h2:c=38
  ·subst h2;simp
  ·simp[h1,h2]
def qs1(K:Fg):Sp:=fun vs H Q _=>∃ z:Str,vs=[.str z]/\z.length<=100000/\∀ w:Str,w.cps.toList=TX.told 0 z.cps.toList->Q (.str w) H
def wb0(K:Fg):TS :=
 (G9 (xc0 (xc0 (A2 0) ("&l;":Str) ("<":Str)) ("&a;":Str) ("&":Str)))
theorem xu5(h:qs1 K vs H Q E):wb0 K {nx:=fun _ H'=>Q .non H',rt:=Q} (C9 ["run"] vs) H:=by
 obtain⟨z,rfl,hz,q⟩:=h
 show wb0 K _ [some (.str z)] H
 unfold wb0
 lk
 refine⟨z,rfl,by omega,?_⟩
 have l1:=xo2 z "&l;" "<" (by decide)
 rw[show("<":Str).length=1 from rfl] at l1
 refine⟨_,rfl,by omega,?_⟩
 refine q _ ?_
 rw[TX.replace_rep _ _ _ (by decide),TX.replace_rep _ _ _ (by decide)]
 exact TX.two_reps _ _ (Nat.le_refl _)
def qh3(K:Fg):Sp:=fun vs H Q _=>∃ z:Str,vs=[.str z]/\z.length<=100000/\∀ (p:Addr) (H':Hp),A6 H H'->H p=none->H' p=some (.lst (yv5 (qx9 z.cps.toList z.cps.toList.length)))->Q (.ref p) H'
def qm1(K:Fg)(c_TOLD_FOR:Addr)(c_ESCAPED:Addr):TS :=
 (G9 (qt3 [some 0,none,none] (xs5 (A1 (A2 0) A8)) (xj6 K 2 (qg2 (B1 1) (qg2 (B1 2) xj5))) (wp1 (E3 (tOp (xf6 K false) (A2 2) (tC (.ref c_ESCAPED)))) (E3 (tOp (xf6 K true) (tSl (wg7 K) (A2 0) (S3 (A2 1)) (S3 (tOp (I0 K) (A2 1) (tC (.int 3))))) (tC (.ref c_TOLD_FOR))))) (A2 1)))
variable{c_ESCAPED:Addr}
theorem xg8{c_TOLD_FOR:Addr}(q_TOLD_FOR:∀ H:Hp,SqT K H c_TOLD_FOR [.str "&l;",.str "&a;"])(q_ESCAPED:∀ H:Hp,SqT K H c_ESCAPED [.str "<",.str "&"])(h:qh3 K vs H Q E):qm1 K c_TOLD_FOR c_ESCAPED {nx:=fun _ H'=>Q .non H',rt:=Q} (C9 ["run"] vs) H:=by
 obtain⟨z,rfl,hz,q⟩:=h
 show qm1 K _ _ _ [some (.str z)] H
 unfold qm1
 lk
 have hl:z.cps.toList.length=z.cps.size:=Array.length_toList
 have hz':z.cps.size<=100000:=hz
 refine xs6 (fun i ys H'=>A6 H H'/\ys=yv5 (qx9 z.cps.toList i)) ⟨A6.refl H,rfl⟩ ?_ ?_ ?_
 ·rintro i ys H' hi ⟨_,rfl⟩
  have:=yf6 z.cps.toList i
  rw[yv5,List.length_map]
  exact D8 (by omega)
 ·rintro i c p ys H' hc hp ⟨hs,rfl⟩
  refine⟨p,_,rfl,SqT.of A4,rfl,_,_,rfl,J0 ⟨_,_,rfl,J0 ⟨rfl,?_⟩⟩⟩
  have hs2:A6 H (upd H' p (.tup [.int i,.str ⟨#[c]⟩])):=A6.tr hs (A6.new hp _)
  lk
  refine .inl (yk0 (xs:=B3 ["<","&"]) (.inr (q_ESCAPED _)) rfl (qc8 _) ?_)
  rw[qe4]
  lk
  have key:=yv8 hc (a:=(i:Int)) (b:=(i:Int)+3) rfl (by omega)
  simp only[PAt]
  rw[xu4]
  by_cases h1:(⟨#[c]⟩:Str)∈(["<","&"]:List Str)
  ·rw[decide_eq_true h1];refine qk8 ?_
   rw[decide_eq_true h1,Bool.true_and] at key
   lk
   refine xc1 (D8 hz) ?_
   lk
   refine .inl (xx7 (xs:=B3 ["&l;","&a;"]) (.inr (q_TOLD_FOR _)) rfl (qc8 _) ?_)
   rw[qe4,key]
   lk
   by_cases h2:xu3 z.cps.toList i=true
   ·rw[h2];refine qk8 ?_
    rw[if_pos rfl]
    lk
    exact⟨hs2,by simp[yv5]⟩
   ·rw[Bool.eq_false_iff.mpr h2];refine qf3 ?_
    rw[if_neg Bool.false_ne_true]
    exact⟨hs2,rfl⟩
  ·rw[decide_eq_false h1];refine qf3 ?_
   rw[decide_eq_false h1,Bool.false_and] at key
   rw[<-key]
   k_go
   rw[if_neg Bool.false_ne_true]
   exact⟨hs2,rfl⟩
 ·rintro ys H' ⟨hs,rfl⟩ p hp
  refine q p _ (A6.tr hs (A6.new hp _)) ?_ ?_
  ·cases e:H p with
   | none=>rfl
   | some u=>rw[hs _ _ e] at hp;cases hp
  ·rw[hl];exact A4
section
open PySem.StrLaws PySem.Builtin.Str
theorem wr3{i:Int}(h:i=(k:Int)):fromIndex n i=k:=by
 subst h;unfold fromIndex
 rw[if_neg (by omega)];omega
theorem xu6(x:Str)(c hi i:Nat)(hh:hi<=x.length):At x ⟨#[c]⟩ hi i↔i<hi/\x.cps.toList[i]?=some c:=by
 have h:=subAt_one x c i
 have e:(⟨#[c]⟩:Str).length=1:=rfl
 unfold At
 rw[e] at h ⊢
 constructor
 ·rintro⟨a,b⟩;exact⟨by omega,h.mp ⟨by omega,b⟩⟩
 ·rintro⟨a,b⟩;exact⟨by omega,(h.mpr b).2⟩
theorem yv9{lo a:Nat}{pre post:List Nat}(e:List.range' lo n=pre++a::post):lo<=a/\a<lo+n/\∀ k,lo<=k->k<a->k∈pre:=by
 have h:=range'_split_from e
 have:a∈List.range' lo n:=by rw[e];simp
 have:=List.mem_range'_1.mp this
 exact⟨h.1,this.2,h.2⟩
theorem yn6(x:Str)(c lo hi:Nat)(hh:hi<=x.length) :
 (occurrences x ⟨#[c]⟩ lo hi 1=[]/\∀ i,lo<=i->i<hi->x.cps.toList[i]?≠some c) \/
 ∃ i r,occurrences x ⟨#[c]⟩ lo hi 1=i::r/\lo<=i/\i<hi/\x.cps.toList[i]?=some c/\∀ k,lo<=k->k<i->x.cps.toList[k]?≠some c:=by
 have go:=occ_first x ⟨#[c]⟩ hi 1 (Nat.le_refl 1) (List.range' lo (hi+1-lo)) lo (fun i hi'=>(List.mem_range'_1.mp hi').1)
 rw[occ_eq]
 rcases go with⟨e,hn⟩|⟨pre,a,post,e,h0,ha,hn⟩
 ·refine .inl ⟨by rw[e],fun i h1 h2 hc=>?_⟩
  exact hn i (List.mem_range'_1.mpr ⟨h1,by omega⟩) ((xu6 x c hi i hh).mpr ⟨h2,hc⟩)
 ·obtain⟨s1,s2,s3⟩:=yv9 e
  obtain⟨a1,a2⟩:=(xu6 x c hi a hh).mp ha
  generalize (forIn (List.range' lo (hi+1-lo)) ((#[]:Array Nat),lo) (occBody x ⟨#[c]⟩ hi 1)).run.fst=arr at h0 ⊢
  have g0:arr.toList[0]?=some a:=by rw[<-h0];simp
  refine .inr ⟨a,arr.toList.tail,?_,s1,a1,a2,fun k k1 k2 hc=>hn k (s3 k k1 k2) ((xu6 x c hi k hh).mpr ⟨by omega,hc⟩)⟩
  cases hL:arr.toList with
  | nil=>rw[hL] at g0;cases g0
  | cons b t=>rw[hL] at g0;simp at g0;rw[g0];rfl
theorem yn7{i j:Int}{f g:Nat}(hi:i=(f:Int))(hj:j=(g:Int)) :
 (xc2 z ⟨#[c]⟩ i j=-1/\∀ k,f<=k->k<g->z.cps.toList[k]?≠some c) \/
 ∃ k:Nat,xc2 z ⟨#[c]⟩ i j=(k:Int)/\f<=k/\k<g/\z.cps.toList[k]?=some c/\∀ m,f<=m->m<k->z.cps.toList[m]?≠some c:=by
 have hl:z.cps.toList.length=z.length:=Array.length_toList
 unfold xc2
 rw[wr3 hi,wr3 hj]
 rcases yn6 z c f (min g z.length) (Nat.min_le_right _ _) with⟨e,hn⟩|⟨k,r,e,h1,h2,h3,h4⟩
 ·rw[e]
  refine .inl ⟨rfl,fun k k1 k2 hc=>?_⟩
  have:=(List.getElem?_eq_some_iff.mp hc).1
  exact hn k k1 (by omega) hc
 ·rw[e];exact .inr ⟨k,rfl,h1,by omega,h3,h4⟩
theorem yn8{i:Int}{f:Nat}(hi:i=(f:Int)) :
 (PySem.Txt.find3 z ⟨#[c]⟩ i=-1/\∀ k,f<=k->z.cps.toList[k]?≠some c) \/
 ∃ k:Nat,PySem.Txt.find3 z ⟨#[c]⟩ i=(k:Int)/\f<=k/\z.cps.toList[k]?=some c/\∀ m,f<=m->m<k->z.cps.toList[m]?≠some c:=by
 have hl:z.cps.toList.length=z.length:=Array.length_toList
 unfold PySem.Txt.find3
 rw[wr3 hi]
 rcases yn6 z c f z.length (Nat.le_refl _) with⟨e,hn⟩|⟨k,r,e,h1,h2,h3,h4⟩
 ·rw[e]
  refine .inl ⟨rfl,fun k k1 hc=>?_⟩
  have:=(List.getElem?_eq_some_iff.mp hc).1
  exact hn k k1 (by omega) hc
 ·rw[e];exact .inr ⟨k,rfl,h1,h3,h4⟩
theorem yf7{i:Int}(hi:i=(k:Int))(h:z.cps.toList[k]?=some 60):PySem.Txt.startswith3 z "</" i=decide (z.cps.toList[k+1]?=some 47):=by
 have hl:z.cps.toList.length=z.length:=Array.length_toList
 unfold PySem.Txt.startswith3
 rw[wr3 hi,subAt_eq]
 show(decide (k+2<=z.length) && ((z.cps.toList.drop k).take 2 == [60,47]))=_
 rw[wm0 h]
 have hk:=(List.getElem?_eq_some_iff.mp h).1
 cases h2:z.cps.toList[k+1]? with
 | none =>
   have:z.cps.toList.length<=k+1:=List.getElem?_eq_none_iff.mp h2
   rw[decide_eq_false (by omega)];rfl
 | some c =>
   have:=(List.getElem?_eq_some_iff.mp h2).1
   rw[decide_eq_true (by omega),wm0 h2]
   by_cases e:c=47 <;> simp[e]
def M9(K:Fg):Sp:=fun vs H Q _=>∃ z:Str,vs=[.str z]/\z.length<=100000/\∀ H',A6 H H'->Q (.bl (decide (1<=z.length) && (decide (z.length<=8) && z.cps.toList.all TX.letter))) H'
def N9(K:Fg):TS :=
 (G9 (yg5 (xe0 xs1 xs1 (tC (.int 1)) (tCB (N5 K) (A1 (A2 0) A8)) (tC (.int 8))) (tCB (yl2 K) (A1 (qt3 [none] (yt8 (A2 0)) (B1 0) tTT (xe0 xs1 xs1 (tC (.str "a")) (A2 0) (tC (.str "z")))) A8))))
theorem qs2(h:M9 K vs H Q E):N9 K {nx:=fun _ H'=>Q .non H',rt:=Q} (C9 ["word"] vs) H:=by
 obtain⟨z,rfl,hz,q⟩:=h
 show N9 K _ [some (.str z)] H
 unfold N9
 lk
 refine wk7 (D8 hz) ?_
 lk
 by_cases h1:(1:Int)<=z.length
 ·rw [decide_eq_true h1]
  x_go
  rw[decide_eq_true (by omega:1<=z.length),Bool.true_and] at q
  lk
  by_cases h2:(z.length:Int)<=8
  ·rw[decide_eq_true h2]
   x_go
   rw[decide_eq_true (by omega:z.length<=8),Bool.true_and] at q
   lk
   have hl:z.cps.toList.length=z.cps.size:=Array.length_toList
   refine xl7 (fun i ys H'=>H'=H/\ys=((z.cps.toList.take i).map TX.letter).map V.bl) ⟨rfl,rfl⟩ ?_ ?_ ?_
   ·rintro i ys H' hi ⟨_,rfl⟩
    rw[List.length_map,List.length_map,List.length_take]
    exact D8 (by have:z.cps.size<=100000:=hz;omega)
   ·rintro i c ys H' hc ⟨rfl,rfl⟩
    have tk:z.cps.toList.take (i+1)=z.cps.toList.take i++[c]:=by rw[List.take_add_one,hc];rfl
    lk
    refine yy1 ?_
    have e1:(!decide ((⟨#[c]⟩:Str).cps.toList<("a":Str).cps.toList))=decide (97<=c):=by
     show(!decide ([c] < [97]))=_
     rw[lt_cons_cons,lt_nil_nil,Bool.and_false,Bool.or_false]
     by_cases h:97<=c
     ·rw[decide_eq_true h,decide_eq_false (by omega)];rfl
     ·rw[decide_eq_false h,decide_eq_true (by omega)];rfl
    have e2:(!decide (("z":Str).cps.toList<(⟨#[c]⟩:Str).cps.toList))=decide (c<=122):=by
     show(!decide ([122] < [c]))=_
     rw[lt_cons_cons,lt_nil_nil,Bool.and_false,Bool.or_false]
     by_cases h:c<=122
     ·rw[decide_eq_true h,decide_eq_false (by omega)];rfl
     ·rw[decide_eq_false h,decide_eq_true (by omega)];rfl
    rw[e1]
    refine⟨_,rfl,?_⟩
    by_cases hc1:97<=c
    ·rw[decide_eq_true hc1];refine qk8 ?_
     lk
     refine yy1 ?_
     rw[e2]
     exact⟨rfl,by rw[tk];simp[TX.letter,hc1]⟩
    ·rw[decide_eq_false hc1];refine qf3 ?_
     exact⟨rfl,by rw[tk];simp[TX.letter,hc1]⟩
   ·rintro ys H' ⟨rfl,rfl⟩ p hp
    lk
    refine zl3 (SqL.of A4) ?_
    rw[<-hl,List.take_length]
    have e:(z.cps.toList.map TX.letter).all id=z.cps.toList.all TX.letter:=by rw[List.all_map];rfl
    rw[e]
    exact q _ (A6.new hp _)
  ·rw[decide_eq_false h2]
   k_go
   rw[decide_eq_false (by omega:¬z.length<=8),Bool.false_and] at q
   exact q _ (A6.refl H)
 ·rw[decide_eq_false h1]
  k_go
  refine⟨false,rfl,qf3 ?_⟩
  rw[decide_eq_false (by omega:¬1<=z.length),Bool.false_and] at q
  exact q _ (A6.refl H)
def W8(K:Fg):Sp:=fun vs H Q _=>∃ (z:Str) (k:Nat),vs=[.str z,.int k]/\z.cps.toList[k]?=some 60/\Q (.int (TX.nst z.cps.toList k)) H
def qh4(K:Fg):TS :=
 (G9 (tIf (tB (tBM K "str" xy1 (A2 0) (A1 (tC (.str "</")) (A1 (A2 1) A8)))) (tOp (I0 K) (A2 1) (tC (.int 2))) (tOp (I0 K) (A2 1) (tC (.int 1)))))
theorem wz2(h:W8 K vs H Q E):qh4 K {nx:=fun _ H'=>Q .non H',rt:=Q} (C9 ["text","start"] vs) H:=by
 obtain⟨z,k,rfl,h60,q⟩:=h
 show qh4 K _ [some (.str z),some (.int k)] H
 unfold qh4
 lk
 refine⟨rfl,?_⟩
 lk
 refine⟨z, "</",k,rfl,rfl,?_⟩
 rw[yf7 rfl h60]
 lk
 unfold TX.nst at q
 by_cases h:z.cps.toList[k+1]?=some 47
 ·rw[decide_eq_true h];refine qk8 ?_
  rw[if_pos h] at q
  lk
  exact q
 ·rw[decide_eq_false h];refine qf3 ?_
  rw[if_neg h] at q
  lk
  exact q
def qm2(K:Fg):Sp:=fun vs H Q _=>∃ (z:Str) (k:Nat),vs=[.str z,.int k]/\z.length<=100000/\z.cps.toList[k]?=some 60/\(TX.tagAt z.cps.toList k=none->∀ H',A6 H H'->Q .non H') /\
 ∀ (f e:Nat),TX.tagAt z.cps.toList k=some (f,e)->∀ H',A6 H H'->Q (.int e) H'
def qs3(K:Fg):TS :=
 (B7 (E1 (C7 (W8 K) [] E0 (A1 (A2 0) (A1 (A2 1) A8))) (B1 2))
 (B7 (E1 (tBM K "str" yl0 (A2 0) (A1 (tC (.str ">")) (A1 (A2 2) (A1 (tOp (I0 K) (tOp (I0 K) (A2 2) (tC (.int 8))) (tC (.int 1))) A8)))) (B1 3))
 (B7 (T5 (tOr (E3 (tOp ys7 (A2 3) (tC (.int 0)))) (yq9 (tB (C7 (M9 K) [] E0 (A1 (tSl (wg7 K) (A2 0) (S3 (A2 2)) (S3 (A2 3))) A8)))))
 (G9 (tC .non)) O3)
 (G9 (tOp (I0 K) (A2 3) (tC (.int 1)))))))
theorem xo4(h:qm2 K vs H Q E):qs3 K {nx:=fun _ H'=>Q .non H',rt:=Q} (C9 ["text","start","first","end"] vs) H:=by
 obtain⟨z,k,rfl,hz,h60,q1,q2⟩:=h
 show qs3 K _ [some (.str z),some (.int k),none,none] H
 unfold qs3
 have hl:z.cps.toList.length=z.length:=Array.length_toList
 lk
 refine⟨z,k,rfl,h60,?_⟩
 lk
 refine⟨rfl,?_⟩
 lk
 refine⟨z, ">",_,_,rfl,rfl,?_⟩
 have tg:TX.tagAt z.cps.toList k=(TX.nm (z.cps.toList.drop (TX.nst z.cps.toList k))).map fun n=>(TX.nst z.cps.toList k,TX.nst z.cps.toList k+n+1):=by unfold TX.tagAt;rw[if_pos h60]
 generalize TX.nst z.cps.toList k=f at *
 have e0:(">":Str)=⟨#[62]⟩:=rfl
 rw[e0]
 rcases yn7 (z:=z) (c:=62) (i:=(f:Int)) (j:=(f:Int)+8+1) (f:=f) (g:=f+9) rfl (by omega) with⟨e,hn⟩|⟨r,e,r1,r2,r3,r4⟩
 ·rw[e]
  lk
  refine qk8 (qk8 ?_)
  lk
  refine q1 ?_ _ (A6.refl H)
  rw[tg]
  cases hm:TX.nm (z.cps.toList.drop f) with
  | none=>rfl
  | some n =>
    obtain⟨n1,n2,n3,n4⟩:=TX.nm_iff.mp hm
    rw[List.getElem?_drop] at n4
    exact absurd n4 (hn (f+n) (by omega) (by omega))
 ·rw [e]
  lk
  rw[decide_eq_false (by omega:¬((r:Nat):Int)<0)];refine qf3 ?_
  lk
  refine xc1 (D8 hz) ?_
  have ct:=wi4 (z:=z) (a:=(f:Int)) (b:=(r:Int)) (i:=f) (j:=r) rfl rfl
  generalize qi8 z (some (f:Int)) (some (r:Int))=nmz at *
  have rl:=(List.getElem?_eq_some_iff.mp r3).1
  have ln:nmz.length=r-f:=by
   have h1:=congrArg List.length ct
   rw[Array.length_toList,List.length_take,List.length_drop] at h1
   show nmz.cps.size=_
   omega
  lk
  refine⟨nmz,rfl,by omega,fun H' s'=>?_⟩
  lk
  have get:∀ i,i<r-f->nmz.cps.toList[i]?=(z.cps.toList.drop f)[i]?:=fun i hi=>by rw[ct,List.getElem?_take_of_lt hi]
  by_cases hb:(decide (1<=nmz.length) && (decide (nmz.length<=8) && nmz.cps.toList.all TX.letter))=true
  ·rw[hb,Bool.not_true];refine qf3 ?_
   lk
   simp only[Bool.and_eq_true,decide_eq_true_eq,List.all_eq_true] at hb
   have hm:TX.nm (z.cps.toList.drop f)=some (r-f):=TX.nm_iff.mpr ⟨by omega,by omega,fun i hi=>by
    have hi2:i<nmz.cps.toList.length:=by rw[Array.length_toList];show i<nmz.length;omega
    refine⟨nmz.cps.toList[i],by rw[<-get i hi,List.getElem?_eq_getElem hi2],hb.2.2 _ (List.getElem_mem hi2)⟩,by rw[List.getElem?_drop,show f+(r-f)=r by omega];exact r3⟩
   have:=q2 f (r+1) (by rw[tg,hm];show some (f,f+(r-f)+1)=_;rw[show f+(r-f)+1=r+1 by omega]) H' s'
   exact this
  ·rw [Bool.eq_false_iff.mpr hb,Bool.not_false];refine qk8 ?_
   lk
   refine q1 ?_ _ s'
   rw[tg]
   cases hm:TX.nm (z.cps.toList.drop f) with
   | none=>rfl
   | some n =>
     exfalso
     apply hb
     obtain⟨n1,n2,n3,n4⟩:=TX.nm_iff.mp hm
     rw[List.getElem?_drop] at n4
     have hr:r=f+n:=by
      rcases Nat.lt_trichotomy r (f+n) with h|h|h
      ·obtain⟨c,hc,hlc⟩:=n3 (r-f) (by omega)
       rw[List.getElem?_drop,show f+(r-f)=r by omega,r3] at hc
       cases hc
       exact absurd hlc (by decide)
      ·exact h
      ·exact absurd n4 (r4 (f+n) (by omega) h)
     simp only[Bool.and_eq_true,decide_eq_true_eq,List.all_eq_true]
     refine⟨by omega,by omega,fun c hc=>?_⟩
     obtain⟨i,hi,e⟩:=List.getElem_of_mem hc
     have hi2:i<r-f:=by rw[Array.length_toList] at hi;have:i<nmz.length:=hi;omega
     obtain⟨c',hc',hl'⟩:=n3 i (by omega)
     rw[<-get i hi2,List.getElem?_eq_getElem hi,e] at hc'
     cases hc'
     exact hl'
def qa3(K:Fg):Sp:=fun vs H Q _=>∃ (z:Str) (k f e:Nat),vs=[.str z,.int k,.int e]/\z.length<=100000/\TX.tagAt z.cps.toList k=some (f,e) /\
 ∀ t,H t=none->Q (.ref t) (upd H t (.tup [.str (if f=k+1 then "open" else "close"),.int k,.int e,.str (TX.ofL ((z.cps.toList.drop f).take (e-1-f)))]))
def qd8(K:Fg):TS :=
 (B7 (E1 (C7 (W8 K) [] E0 (A1 (A2 0) (A1 (A2 1) A8))) (B1 3))
 (B7 (E1 (tIf (E3 (tOp (qb6 K) (A2 3) (tOp (I0 K) (A2 1) (tC (.int 1))))) (tC (.str "open")) (tC (.str "close"))) (B1 4))
 (G9 (W3 (A1 (A2 4) (A1 (A2 1) (A1 (A2 2) (A1 (tSl (wg7 K) (A2 0) (S3 (A2 3)) (S3 (tOp (rI0 fun i j=>.int (i-j)) (A2 2) (tC (.int 1))))) A8))))))))
theorem wv5(h:qa3 K vs H Q E):qd8 K {nx:=fun _ H'=>Q .non H',rt:=Q} (C9 ["text","start","stop","first","kind"] vs) H:=by
 obtain⟨z,k,f,e,rfl,hz,ht,q⟩:=h
 show qd8 K _ [some (.str z),some (.int k),some (.int e),none,none] H
 unfold qd8
 obtain⟨g1,g2,g3,g4,g5,g6⟩:=TX.tagAt_gt ht
 lk
 refine⟨z,k,rfl,g5,?_⟩
 rw[<-g3]
 lk
 have ct:=wi4 (z:=z) (a:=(f:Int)) (b:=(e:Int)-1) (i:=f) (j:=e-1) rfl (by omega)
 have ec:qi8 z (some (f:Int)) (some ((e:Int)-1))=TX.ofL ((z.cps.toList.drop f).take (e-1-f)):=(qd7 _ _).mpr ct
 by_cases hf:f=k+1
 ·rw[if_pos hf] at q
  rw[decide_eq_true (by omega:(f:Int)=(k:Int)+1)];refine qk8 ?_
  lk
  refine xc1 (D8 hz) ?_
  rw[ec]
  lk
  exact⟨D8 (by z_go),q⟩
 ·rw[if_neg hf] at q
  rw[decide_eq_false (by omega:¬(f:Int)=(k:Int)+1)];refine qf3 ?_
  lk
  refine xc1 (D8 hz) ?_
  rw[ec]
  lk
  exact⟨D8 (by z_go),q⟩
def O7(K:Fg):Sp:=fun vs H Q _=>∃ (z:Str) (a e:Nat),vs=[.str z,.int a,.int e]/\a<=e/\e<=z.length/\z.length<=100000/\(a=e->∀ p,H p=none->Q (.ref p) (upd H p (.lst []))) /\
 (a<e->∀ (w:Str) (t p:Addr) (H':Hp),w.cps.toList=TX.told 0 ((z.cps.toList.drop a).take (e-a))->A6 H H'->H p=none->H' p=some (.lst [.ref t])->H' t=some (.tup [.str "run",.int a,.int e,.str w])->Q (.ref p) H')
def qa4(K:Fg):TS :=
 (B7 (T5 (E3 (tOp (qb6 K) (A2 1) (A2 2)))
 (G9 (T7 A8)) O3)
 (G9 (T7 (A1 (W3 (A1 (tC (.str "run")) (A1 (A2 1) (A1 (A2 2) (A1 (C7 (qs1 K) [] E0 (A1 (tSl (wg7 K) (A2 0) (S3 (A2 1)) (S3 (A2 2))) A8)) A8))))) A8))))
theorem wq3(h:O7 K vs H Q E):qa4 K {nx:=fun _ H'=>Q .non H',rt:=Q} (C9 ["text","start","stop"] vs) H:=by
 obtain⟨z,a,e,rfl,hae,hez,hz,q1,q2⟩:=h
 show qa4 K _ [some (.str z),some (.int a),some (.int e)] H
 unfold qa4
 lk
 by_cases h:a=e
 ·rw[decide_eq_true (by rw[h])];refine qk8 ?_
  lk
  exact⟨D8 (by z_go),q1 h⟩
 ·rw[decide_eq_false (by intro h';exact h (by omega))];refine qf3 ?_
  lk
  refine xc1 (D8 hz) ?_
  lk
  have ct:=wi4 (z:=z) (a:=(a:Int)) (b:=(e:Int)) (i:=a) (j:=e) rfl rfl
  have hl:z.cps.toList.length=z.length:=Array.length_toList
  refine⟨_,rfl,?_,fun w hw=>?_⟩
  ·have h1:=congrArg List.length ct
   rw[Array.length_toList,List.length_take,List.length_drop] at h1
   show(qi8 z (some (a:Int)) (some (e:Int))).cps.size<=_
   omega
  ·rw[ct] at hw
   lk
   refine⟨D8 (by z_go),fun t ht=>?_⟩
   lk
   refine⟨D8 (by z_go),fun p hp=>?_⟩
   have hp0:H p=none:=by
    cases e:H p with
    | none=>rfl
    | some u=>rw[A6.new ht _ _ _ e] at hp;cases hp
   have ntp:t≠p:=fun e=>by rw[<-e,A4] at hp;cases hp
   exact q2 (by omega) w t p _ hw (A6.tr (A6.new ht _) (A6.new hp _)) hp0 A4 (by rw[B2 ntp];exact A4)
end
variable{w g:Str}{q s r:Nat}{l1 l2:List Brn}{m1 m2:List BA}{b':Brn}{x':BA}{ps:List Addr}{m ρ:Int}{f:List Str->List Str}{ws:List Str}{st:Rst}{P R:List Nat}{pn:Addr}
section
variable{K:Fg}{vs:List V}{H:Hp}{Q:VK}{E:XK}
theorem yn9(Pv:St->Hp->Prop)(μ:St->Hp->Nat)(h0:Pv σ H)(i:Nat)(hs:∀ σ H,Pv σ H->∃ k:Int,σ[i]?=some (some (.int k))/\(0<=k->tb {D with nx:=fun σ' H'=>Pv σ' H'/\μ σ' H'<μ σ H,ct:=fun σ' H'=>Pv σ' H'/\μ σ' H'<μ σ H,bk:=D.nx} σ H)/\(¬0<=k->D.nx σ H)) :
 qn9 (E3 (tOp xf0 (A2 i) (tC (.int 0)))) tb D σ H:=by
 refine⟨fun m σ H=>m=μ σ H/\Pv σ H,⟨_,rfl,h0⟩,?_⟩
 rintro m σ H ⟨rfl,p⟩
 obtain⟨k,e,h1,h2⟩:=hs σ H p
 refine⟨_,e,yy0 (yx9 ?_)⟩
 by_cases hk:0<=k
 ·rw[decide_eq_true hk]
  exact⟨_,fun σ' H' ⟨p',l⟩=>⟨_,l,rfl,p'⟩,h1 hk⟩
 ·rw[decide_eq_false hk]
  exact h2 hk
theorem qy0:∀ xs ys:List PyData,M7 (xs++ys)=(M7 xs && M7 ys)
 | [],ys=>by simp[M7]
 | x::xs,ys=>by rw[List.cons_append,M7,M7,qy0 xs ys,Bool.and_assoc]
theorem xz4(l:List Nat)(a e:Nat):M7 (TX.runs l a e)=true:=by
 unfold TX.runs;split
 ·simp[M7,fix,TX.runD]
 ·simp[M7]
theorem xh0(l:List Nat)(k f e:Nat):fix (TX.tagD l k f e)=true:=by simp[M7,fix,TX.tagD]
theorem xo5(l:List Nat)(a e:Nat):(TX.runs l a e).length<=1:=by unfold TX.runs;split <;> simp
theorem zf5{t:Addr}{a e:Nat}(hw:w.cps.toList=TX.told 0 ((z.cps.toList.drop a).take (e-a)))(ht:H t=some (.tup [.str "run",.int a,.int e,.str w])):Dv K H (TX.runD z.cps.toList a e) (.ref t):=by
 have ew:w=TX.ofL (TX.told 0 ((z.cps.toList.drop a).take (e-a))):=(qd7 _ _).mpr (by rw[hw];rfl)
 rw[<-show TX.runD z.cps.toList a e=_ from rfl]
 unfold TX.runD
 rw[<-ew]
 exact C6.mpr ⟨t,_,rfl,SqT.of ht,B6 (E5.mpr rfl) (B6 (M0.mpr rfl) (B6 (M0.mpr rfl) (B6 (E5.mpr rfl) G1)))⟩
theorem wv6{a e:Nat}(hae:a<=e)(hez:e<=z.length)(hz:z.length<=100000)(q:∀ (p:Addr) (zs:List V) (H1:Hp),A6 H H1->H p=none->H1 p=some (.lst zs)->Dvs K H1 (TX.runs z.cps.toList a e) zs->Q (.ref p) H1):O7 K [.str z,.int a,.int e] H Q E:=by
 refine⟨z,a,e,rfl,hae,hez,hz,fun h p hp=>?_,fun h w t p H' hw hs hp h1 ht=>?_⟩
 ·refine q p [] _ (A6.new hp _) hp A4 ?_
  unfold TX.runs;rw[if_neg (by omega)];exact G1
 ·refine q p [.ref t] H' hs hp h1 ?_
  unfold TX.runs;rw[if_pos h]
  exact B6 (zf5 hw ht) G1
theorem yf8(hq:q<=l.length)(hn:∀ k,q<=k->l[k]?≠some 60):TX.toks l q s=TX.runs l s l.length:=by
 rw[TX.toks_skip (l.length-q) q (by omega) (fun j h1 _=>hn j h1),TX.toks_end (by omega)]
theorem yw0(hqk:q<=k)(hk:l[k]?=some 60)(hn:∀ m,q<=m->m<k->l[m]?≠some 60):TX.toks l q s=TX.toks l k s:=by
 have:=(List.getElem?_eq_some_iff.mp hk).1
 rw[TX.toks_skip (k-q) q (by omega) (fun j h1 h2=>hn j h1 (by omega)),show q+(k-q)=k by omega]
def TX.glue(l:List Nat):Nat->List (Nat×Nat×Nat)->List PyData
 | s,[]=>TX.runs l s l.length
 | s,t::ts=>TX.runs l s t.1++TX.tagD l t.1 t.2.1 t.2.2::TX.glue l t.2.2 ts
def TX.Ch(l:List Nat):Nat->List (Nat×Nat×Nat)->Prop
 | _,[]=>True
 | q,t::ts=>q<=t.1/\t.1<t.2.2/\t.2.2<=l.length/\TX.Ch l t.2.2 ts
def TX.tg(l:List Nat)(t:Nat×Nat×Nat):PyData:=TX.tagD l t.1 t.2.1 t.2.2
theorem xh1:∀ {ts:List (Nat×Nat×Nat)},q<=r->TX.Ch l r ts->TX.Ch l q ts
 | [],_,_=>trivial
 | t::ts,h,g=>⟨Nat.le_trans h g.1,g.2⟩
theorem xz5{l:List Nat}:∀ ts:List (Nat×Nat×Nat),M7 (ts.map (TX.tg l))=true
 | []=>rfl
 | t::ts=>by rw[List.map_cons,M7,xz5 ts];exact Bool.and_eq_true_iff.mpr ⟨xh0 _ _ _ _,rfl⟩
def zm2(z:Str)(q:Nat)(st:Int)(ts:List (Nat×Nat×Nat)):Prop :=
 (st=-1/\TX.Ch z.cps.toList q ts/\∀ s,TX.toks z.cps.toList q s=TX.glue z.cps.toList s ts) \/
 ∃ k:Nat,st=(k:Int)/\ts.length<=k/\z.cps.toList[k]?=some 60/\∀ ts',TX.Ch z.cps.toList k ts'->(∀ s,TX.toks z.cps.toList k s=TX.glue z.cps.toList s ts')->TX.Ch z.cps.toList q (ts++ts')/\∀ s,TX.toks z.cps.toList q s=TX.glue z.cps.toList s (ts++ts')
theorem wm2{ts:List (Nat×Nat×Nat)}{i:Int}(hi:i=(r:Int))(hr:r<=z.cps.toList.length)(hl:ts.length<=r)(h:∀ ts',TX.Ch z.cps.toList r ts'->(∀ s,TX.toks z.cps.toList r s=TX.glue z.cps.toList s ts')->TX.Ch z.cps.toList q (ts++ts')/\∀ s,TX.toks z.cps.toList q s=TX.glue z.cps.toList s (ts++ts')) :
 zm2 z q (PySem.Txt.find3 z "<" i) ts/\∀ k:Nat,PySem.Txt.find3 z "<" i=(k:Int)->r<=k:=by
 have e0:("<":Str)=⟨#[60]⟩:=rfl
 rw[e0]
 rcases yn8 (z:=z) (c:=60) hi with⟨e,hn⟩|⟨k,e,h1,h2,h3⟩
 ·rw[e]
  have g:=h [] trivial fun s=>yf8 hr hn
  rw[List.append_nil] at g
  exact⟨.inl ⟨rfl,g.1,g.2⟩,fun k hk=>by omega⟩
 ·rw[e]
  exact⟨.inr ⟨k,rfl,by omega,h2,fun ts' c g=>h ts' (xh1 h1 c) fun s=>by rw[yw0 h1 h2 h3];exact g s⟩,fun m hm=>by omega⟩
def qh5(K:Fg):Sp:=fun vs H Q _=>∃ (z:Str) (q:Nat),vs=[.str z,.int q]/\q<=z.length/\z.length<=100000/\∀ (p:Addr) (us:List V) (H':Hp) (ts:List (Nat×Nat×Nat)),A6 H H'->H p=none->H' p=some (.lst us)->Dvs K H' (ts.map (TX.tg z.cps.toList)) us->TX.Ch z.cps.toList q ts->(∀ s,TX.toks z.cps.toList q s=TX.glue z.cps.toList s ts)->Q (.ref p) H'
def qm3(K:Fg):TS :=
 (B7 (E1 (T7 A8) (B1 2))
 (B7 (E1 (tBM K "str" xf7 (A2 0) (A1 (tC (.str "<")) (A1 (A2 1) A8))) (B1 3))
 (B7 (qn9 (E3 (tOp xf0 (A2 3) (tC (.int 0))))
 (B7 (E1 (C7 (qm2 K) [] E0 (A1 (A2 0) (A1 (A2 3) A8))) (B1 4))
 (T5 (E3 (tOp xk9 (A2 4) (tC .non)))
 (E1 (tBM K "str" xf7 (A2 0) (A1 (tC (.str "<")) (A1 (tOp (I0 K) (A2 3) (tC (.int 1))) A8))) (B1 3)) (B7 (G5 (tBM K "list" G6 (A2 2) (A1 (C7 (qa3 K) [] E0 (A1 (A2 0) (A1 (A2 3) (A1 (A2 4) A8)))) A8)))
 (E1 (tBM K "str" xf7 (A2 0) (A1 (tC (.str "<")) (A1 (A2 4) A8))) (B1 3))))))
 (G9 (A2 2)))))
theorem xh2(h:qh5 K vs H Q E):qm3 K {nx:=fun _ H'=>Q .non H',rt:=Q} (C9 ["text","searched","tags","start","stop"] vs) H:=by
 obtain⟨z,q0,rfl,hq,hz,q⟩:=h
 show qm3 K _ [some (.str z),some (.int q0),none,none,none] H
 unfold qm3
 have hl:z.cps.toList.length=z.length:=Array.length_toList
 lk
 refine⟨D8 (by z_go),fun d hd=>?_⟩
 lk
 refine⟨rfl,?_⟩
 lk
 refine⟨z, "<",_,rfl,rfl,?_⟩
 lk
 refine yn9 (fun σ H'=>∃ (st:Int) (a:Option V) (us:List V) (ts:List (Nat×Nat×Nat)),σ=[some (.str z),some (.int q0),some (.ref d),some (.int st),a]/\A6 H H'/\H' d=some (.lst us)/\Dvs K H' (ts.map (TX.tg z.cps.toList)) us/\zm2 z q0 st ts)
  (fun σ _=>match σ with | [_,_,_,some (.int st),_]=>(if st<0 then 0 else z.length+1-st.toNat)|_=>0) ?_ 3 ?_
 ·exact⟨_,none,[],[],rfl,A6.new hd _,A4,G1,(wm2 rfl (by omega) (Nat.zero_le _) fun ts' c g=>⟨c,g⟩).1⟩
 rintro σ H1 ⟨st,a,us,ts,rfl,s1,hd1,dv1,at1⟩
 have hul:us.length=ts.length:=by rw[dv1.length,List.length_map]
 refine⟨st,rfl,fun h0=>?_,fun h0=>?_⟩
 ·rcases at1 with⟨e,_⟩|⟨k,rfl,htk,h60,hts⟩
  ·omega
  have hkl:=(List.getElem?_eq_some_iff.mp h60).1
  lk
  refine⟨z,k,rfl,hz,h60,fun ht H2 s2=>?_,fun f e ht H2 s2=>?_⟩
  ·lk
   x_go
   lk
   refine⟨rfl,?_⟩
   lk
   refine⟨z, "<",_,rfl,rfl,?_⟩
   obtain⟨fa,fb⟩:=wm2 (z:=z) (q:=q0) (r:=k+1) (i:=(k:Int)+1) (ts:=ts) (by omega) (by omega) (by omega) fun ts' c g=>hts ts' (xh1 (by omega) c) fun s=>by rw[TX.toks_none (by omega) ht];exact g s
   lk
   refine⟨⟨_,_,us,ts,rfl,A6.tr s1 s2,s2 _ _ hd1,Dvs.same s2 _ _ dv1,fa⟩,?_⟩
   show(if PySem.Txt.find3 z "<" ((k:Int)+1)<0 then 0 else z.length+1-(PySem.Txt.find3 z "<" ((k:Int)+1)).toNat)<(if(k:Int)<0 then 0 else z.length+1-((k:Int)).toNat)
   rw[if_neg (by omega:¬(k:Int)<0)]
   rcases fa with⟨e,_⟩|⟨k2,e,_⟩
   ·rw[e,if_pos (by decide)];omega
   ·have:=fb k2 e
    rw[e,if_neg (by omega)];omega
  ·obtain⟨g1,g2,g3,g4,g5,g6⟩:=TX.tagAt_gt ht
   have gk:=TX.nst_gt z.cps.toList k
   lk
   have hn0:decide (V.int (e:Int)=V.non)=false:=by simp
   rw[hn0];refine qf3 ?_
   lk
   have hd2:=s2 _ _ hd1
   refine⟨.inl ⟨rfl,_,SqL.of hd2⟩,?_⟩
   lk
   refine⟨z,k,f,e,rfl,hz,ht,fun t ht4=>?_⟩
   have ntd:t≠d:=fun z=>by rw[z,hd2] at ht4;cases ht4
   lk
   refine I9 (by rw[B2 ntd.symm];exact hd2) (by rw[sizeLine_eq];omega) ?_
   have hd5:(upd H2 t (.tup [.str (if f=k+1 then "open" else "close"),.int k,.int e,.str (TX.ofL ((z.cps.toList.drop f).take (e-1-f)))])) d=some (.lst us):=by rw[B2 ntd.symm];exact hd2
   have tk6:=wu3 (ys:=us++[V.ref t]) hd5
   have dvb:=Dvs.tupK tk6 _ _ (xz5 ts) (Dvs.same (A6.new ht4 _) _ _ (Dvs.same s2 _ _ dv1))
   have dvt:Dv K (upd (upd H2 t (.tup [.str (if f=k+1 then "open" else "close"),.int k,.int e,.str (TX.ofL ((z.cps.toList.drop f).take (e-1-f)))])) d (.lst (us++[V.ref t]))) (TX.tg z.cps.toList (k,f,e)) (.ref t) :=
    C6.mpr ⟨t,_,rfl,SqT.of (by rw[B2 ntd];exact A4),B6 (E5.mpr rfl) (B6 (M0.mpr rfl) (B6 (M0.mpr rfl) (B6 (E5.mpr rfl) G1)))⟩
   lk
   refine⟨rfl,?_⟩
   lk
   refine⟨z, "<",_,rfl,rfl,?_⟩
   obtain⟨fa,fb⟩:=wm2 (z:=z) (q:=q0) (r:=e) (i:=(e:Int)) (ts:=ts++[(k,f,e)]) rfl g2 (by rw[List.length_append,List.length_singleton];omega) fun ts' c g=>by
    have:=hts ((k,f,e)::ts') ⟨Nat.le_refl _,g1,g2,c⟩ fun s=>by rw[TX.toks_some ht,g e];rfl
    rw[List.append_assoc];exact this
   lk
   refine⟨⟨_,_,us++[V.ref t],ts++[(k,f,e)],rfl,fun c u eq=>?_,A4,by rw[List.map_append];exact Dvs.append dvb (B6 dvt G1),fa⟩,?_⟩
   ·have nc:c≠d:=fun z=>by rw[z,hd] at eq;cases eq
    rw[B2 nc]
    exact A6.new ht4 _ c u (s2 c u (s1 c u eq))
   ·show(if PySem.Txt.find3 z "<" (e:Int)<0 then 0 else z.length+1-(PySem.Txt.find3 z "<" (e:Int)).toNat)<(if(k:Int)<0 then 0 else z.length+1-((k:Int)).toNat)
    rw[if_neg (by omega:¬(k:Int)<0)]
    rcases fa with⟨e',_⟩|⟨k2,e',_⟩
    ·rw[e',if_pos (by decide)];omega
    ·have:=fb k2 e'
     rw[e',if_neg (by omega)];omega
 ·rcases at1 with⟨e,hc,hts⟩|⟨k,rfl,_⟩
  ·lk
   exact q d us H1 ts s1 hd hd1 dv1 hc hts
  ·omega
def T0(K:Fg):Sp:=fun vs H Q _=>∃ (z:Str) (s q:Nat),vs=[.str z,.int s,.int q]/\s<=q/\q<=z.length/\z.length<=100000/\∀ (p:Addr) (us:List V) (H':Hp) (acc:List PyData) (s':Nat),A6 H H'->H p=none->H' p=some (.lst us)->Dvs K H' acc us->M7 acc=true->s<=s'->s'<=z.length->acc.length<=s'->acc++TX.runs z.cps.toList s' z.cps.toList.length=TX.toks z.cps.toList q s->(acc=[]/\s'=s\/∃ acc0 k f,acc=acc0++[TX.tagD z.cps.toList k f s'])->Q (.ref p) H'
def U6(K:Fg):TS :=
 (B7 (E1 (T7 A8) (B1 3))
 (B7 (qg5 (qw7 K (C7 (qh5 K) [] E0 (A1 (A2 0) (A1 (A2 2) A8)))) (B1 4)
 (B7 (G5 (tBM K "list" wq8 (A2 3) (A1 (C7 (O7 K) [] E0 (A1 (A2 0) (A1 (A2 1) (A1 (tOp (L4 K) (A2 4) (tC (.int 1))) A8)))) A8)))
 (B7 (G5 (tBM K "list" G6 (A2 3) (A1 (A2 4) A8)))
 (E1 (tOp (L4 K) (A2 4) (tC (.int 2))) (B1 1)))))
 (G9 (A2 3))))
theorem wi5(h:T0 K vs H Q E):U6 K {nx:=fun _ H'=>Q .non H',rt:=Q} (C9 ["text","settled","searched","tokens","tag"] vs) H:=by
 obtain⟨z,s0,q0,rfl,hsq,hq,hz,q⟩:=h
 show U6 K _ [some (.str z),some (.int s0),some (.int q0),none,none] H
 unfold U6
 have hl:z.cps.toList.length=z.length:=Array.length_toList
 lk
 refine⟨D8 (by z_go),fun d hd=>?_⟩
 lk
 refine⟨z,q0,rfl,hq,hz,fun p1 uts H1 ts s1 hp1 h1 dvt hch hts=>?_⟩
 have hd1:H1 d=some (.lst []):=s1 _ _ A4
 have npd:p1≠d:=fun e=>by rw[e,A4] at hp1;cases hp1
 have sH:A6 H H1:=A6.tr (A6.new hd _) s1
 have utl:uts.length=ts.length:=by rw[dvt.length,List.length_map]
 refine wt3 (xs:=uts) (SqL.of h1) (fun i σ H'=>∃ (s':Nat) (a:Option V) (us:List V) (acc:List PyData),σ=[some (.str z),some (.int s'),some (.int q0),some (.ref d),a]/\But [d] H1 H'/\P8 H1 H'/\H' d=some (.lst us)/\Dvs K H' acc us/\M7 acc=true/\s0<=s'/\s'<=z.length/\acc.length<=s'/\TX.Ch z.cps.toList s' (ts.drop i)/\acc++TX.glue z.cps.toList s' (ts.drop i)=TX.toks z.cps.toList q0 s0/\(acc=[]/\s'=s0\/∃ acc0 k f,acc=acc0++[TX.tagD z.cps.toList k f s'])) ?_ ?_ ?_ ?_
 ·exact⟨s0,none,[],[],rfl,But.refl _ _,P8.refl _,hd1,G1,rfl,Nat.le_refl _,by omega,Nat.zero_le _,xh1 hsq hch,(hts s0).symm,.inl ⟨rfl,rfl⟩⟩
 ·rintro i σ H' hi ⟨s',a,us,acc,rfl,bt,_⟩
  exact SqL.of (bt _ _ h1 (by simpa using npd))
 ·rintro i x σ H' hx ⟨s',a,us,acc,rfl,bt,tk,hd',dva,fx,g1,g2,g3,g4,g5,g6⟩
  obtain⟨dd,e1,dvx⟩:=Dvs.get' dvt hx
  rw[List.getElem?_map] at e1
  obtain⟨⟨k,f,e⟩,hti,rfl⟩:∃ t,ts[i]?=some t/\TX.tg z.cps.toList t=dd:=by
   cases h:ts[i]? with
   | none=>rw[h] at e1;cases e1
   | some t=>rw[h] at e1;exact⟨t,rfl,by simpa using e1⟩
  have edrop:ts.drop i=(k,f,e)::ts.drop (i+1):=by
   obtain⟨hil,he⟩:=List.getElem?_eq_some_iff.mp hti
   rw[List.drop_eq_getElem_cons hil,he]
  rw[edrop] at g4 g5
  obtain⟨c1,c2,c3,c4⟩:=g4
  have c1:s'<=k:=c1
  have c2:k<e:=c2
  have c3:e<=z.cps.toList.length:=c3
  have dvx2:=dvx
  obtain⟨t,vs4,rfl,qt,dv4⟩:=C6.mp (show Dv K H1 (.tuple [.str (if f=k+1 then "open" else "close"),.int k,.int e,.str (TX.ofL ((z.cps.toList.drop f).take (e-1-f)))]) x from dvx)
  obtain⟨v1,r1,rfl,w1,dv4⟩:=(show ∃ v r,vs4=v::r/\_ from by rw[Dvs] at dv4;exact dv4)
  obtain⟨v2,r2,rfl,w2,dv4⟩:=(show ∃ v r,r1=v::r/\_ from by rw[Dvs] at dv4;exact dv4)
  obtain⟨v3,r3,rfl,w3,dv4⟩:=(show ∃ v r,r2=v::r/\_ from by rw[Dvs] at dv4;exact dv4)
  have w2:=M0.mp w2
  have w3:=M0.mp w3
  subst w2 w3
  lk
  refine⟨.inl ⟨rfl,_,SqL.of hd'⟩,?_⟩
  lk
  refine V2 (tk.sqT qt) (Z4 (j:=1) rfl) ?_
  lk
  refine wv6 c1 (by omega) hz fun p zs H3 s3 hp h3 dv3=>?_
  have hd3:=s3 _ _ hd'
  have rl:=xo5 z.cps.toList s' k
  have zl:zs.length=(TX.runs z.cps.toList s' k).length:=dv3.length
  have ul:=dva.length
  lk
  refine⟨d,p,us,zs,rfl,rfl,hd3,h3,D8 (by omega),?_⟩
  have tk4:=wu3 (ys:=us++zs) hd3
  have dvb:Dvs K (upd H3 d (.lst (us++zs))) (acc++TX.runs z.cps.toList s' k) (us++zs):=Dvs.append (Dvs.tupK tk4 _ _ fx (Dvs.same s3 _ _ dva)) (Dvs.tupK tk4 _ _ (xz4 _ _ _) dv3)
  lk
  refine⟨.inl ⟨rfl,_,SqL.of A4⟩,?_⟩
  lk
  refine I9 A4 (by rw[List.length_append,sizeLine_eq];omega) ?_
  have tk5:=wu3 (H:=upd H3 d (.lst (us++zs))) (ys:=us++zs++[V.ref t]) A4
  have fx2:M7 (acc++TX.runs z.cps.toList s' k)=true:=by rw[qy0,fx,xz4];rfl
  have tkA:P8 H1 (upd (upd H3 d (.lst (us++zs))) d (.lst (us++zs++[V.ref t]))):=tk.trans (s3.tupK.trans (tk4.trans tk5))
  lk
  refine V2 (tkA.sqT qt) (Z4 (j:=2) rfl) ?_
  lk
  refine⟨e,_,us++zs++[V.ref t],acc++TX.runs z.cps.toList s' k++[TX.tagD z.cps.toList k f e],rfl,?_,tkA,A4,Dvs.append (Dvs.tupK tk5 _ _ fx2 dvb) (B6 (Dv.tupK tkA _ _ (xh0 _ _ _ _) dvx2) G1),by rw[qy0,fx2];simp[M7,xh0],by omega,by omega,?_,c4,by rw[<-g5,TX.glue];simp,.inr ⟨_,_,_,rfl⟩⟩
  ·intro c u eq hc
   have nc:c≠d:=by simpa using hc
   rw[B2 nc,B2 nc]
   exact s3 _ _ (bt c u eq hc)
  ·by_cases hsk:s'<k
   ·simp only[List.length_append,List.length_singleton];omega
   ·have:(TX.runs z.cps.toList s' k).length=0:=by unfold TX.runs;rw[if_neg hsk];rfl
    simp only[List.length_append,List.length_singleton];omega
 ·rintro σ H' ⟨s',a,us,acc,rfl,bt,tk,hd',dva,fx,g1,g2,g3,g4,g5,g6⟩
  lk
  have e0:ts.drop uts.length=[]:=List.drop_eq_nil_of_le (by omega)
  rw[e0] at g5
  refine q d us H' acc s' (fun c u eq=>?_) hd hd' dva fx g1 g2 g3 g5 g6
  have nc:c≠d:=fun z=>by rw[z,hd] at eq;cases eq
  exact bt c u (sH c u eq) (by simpa using nc)
def qh6(K:Fg):Sp:=fun vs H Q _=>∃ z:Str,vs=[.str z]/\z.length<=100000/\∀ (p:Addr) (us:List V) (H':Hp),A6 H H'->H p=none->H' p=some (.lst us)->Dvs K H' (TX.toks z.cps.toList 0 0) us->Q (.ref p) H'
def qm4(K:Fg):TS :=
 (B7 (E1 (C7 (T0 K) [] E0 (A1 (A2 0) (A1 (tC (.int 0)) (A1 (tC (.int 0)) A8)))) (B1 1))
 (B7 (E1 (tIf (E3 (tOp wy4 (tCB (N5 K) (A1 (A2 1) A8)) (tC (.int 0)))) (tOp (L4 K) (tOp (L4 K) (A2 1) (tUn (rU fun i=>.int (-i)) (tC (.int 1)))) (tC (.int 2))) (tC (.int 0))) (B1 2))
 (G9 (tOp (I0 K) (A2 1) (C7 (O7 K) [] E0 (A1 (A2 0) (A1 (A2 2) (A1 (tCB (N5 K) (A1 (A2 0) A8)) A8))))))))
theorem xh3(h:qh6 K vs H Q E):qm4 K {nx:=fun _ H'=>Q .non H',rt:=Q} (C9 ["text","tokens","settled"] vs) H:=by
 obtain⟨z,rfl,hz,q⟩:=h
 show qm4 K _ [some (.str z),none,none] H
 unfold qm4
 have hl:z.cps.toList.length=z.length:=Array.length_toList
 lk
 refine⟨z,0,0,rfl,Nat.le_refl _,Nat.zero_le _,hz,fun p1 us H1 acc s' s1 hp1 h1 dva fx g1 g2 g3 g5 g6=>?_⟩
 have ul:=dva.length
 lk
 refine R7 (.inl (SqL.of h1)) ?_
 lk
 have last:∀ Q':VK,Q' (.int s') H1->(if decide ((0:Int)<us.length)=true then tOp (L4 K) (tOp (L4 K) (A2 1) (tUn (rU fun i=>.int (-i)) (tC (.int 1)))) (tC (.int 2)) [some (.str z),some (.ref p1),none] H1 Q' else tC (.int 0) [some (.str z),some (.ref p1),none] H1 Q'):=by
  intro Q' hQ
  rcases g6 with⟨rfl,rfl⟩|⟨acc0,k,f,rfl⟩
  ·have:us=[]:=List.length_eq_zero_iff.mp (by rw[ul];rfl)
   subst this
   rw[decide_eq_false (by simp)];refine qf3 ?_
   lk
   exact hQ
  ·have hlen:0<us.length:=by rw[ul,List.length_append,List.length_singleton];omega
   obtain⟨us0,x,rfl⟩:∃ us0 x,us=us0++[x]:=⟨us.dropLast,us.getLast (List.ne_nil_of_length_pos hlen),(List.dropLast_concat_getLast _).symm⟩
   rw[decide_eq_true (by omega)];refine qk8 ?_
   have l0:us0.length=acc0.length:=by
    rw[List.length_append,List.length_append,List.length_singleton,List.length_singleton] at ul;omega
   obtain⟨d',e1,dvx⟩:=Dvs.get' (i:=us0.length) (v:=x) dva (by simp)
   rw[l0] at e1
   have e1:TX.tagD z.cps.toList k f s'=d':=by simpa using e1
   subst e1
   obtain⟨t,vs4,rfl,qt,dv4⟩:=C6.mp (show Dv K H1 (.tuple [.str (if f=k+1 then "open" else "close"),.int k,.int s',.str (TX.ofL ((z.cps.toList.drop f).take (s'-1-f)))]) x from dvx)
   obtain⟨v1,r1,rfl,w1,dv4⟩:=(show ∃ v r,vs4=v::r/\_ from by rw[Dvs] at dv4;exact dv4)
   obtain⟨v2,r2,rfl,w2,dv4⟩:=(show ∃ v r,r1=v::r/\_ from by rw[Dvs] at dv4;exact dv4)
   obtain⟨v3,r3,rfl,w3,dv4⟩:=(show ∃ v r,r2=v::r/\_ from by rw[Dvs] at dv4;exact dv4)
   have w3:=M0.mp w3
   subst w3
   lk
   refine⟨1,rfl,?_⟩
   refine S4 (SqL.of h1) (yi1 _ _) ?_
   lk
   refine V2 qt (Z4 (j:=2) rfl) ?_
   exact hQ
 refine last _ ?_
 lk
 refine wk7 (D8 hz) ?_
 lk
 refine wv6 g2 (Nat.le_refl _) hz fun p2 zs H2 s2 hp2 h2 dv2=>?_
 have rl:=xo5 z.cps.toList s' z.length
 have zl:zs.length=(TX.runs z.cps.toList s' z.length).length:=dv2.length
 lk
 refine xx6 (s2 _ _ h1) h2 (by rw[sizeLine_eq];omega) fun p hp=>?_
 have sA:A6 H2 (upd H2 p (.lst (us++zs))):=A6.new hp _
 refine q p (us++zs) _ (A6.tr s1 (A6.tr s2 sA)) (A6.free (A6.tr s1 s2) hp) A4 ?_
 rw[<-g5,hl]
 exact Dvs.same sA _ _ (Dvs.append (Dvs.same s2 _ _ dva) dv2)
def esc:List Nat->List Nat
 | []=>[]
 | c::l=>(if c=60 then TX.El else if c=38 then TX.Ea else[c])++esc l
theorem wr4(y:Nat)(Z:List Nat):∀ l:List Nat,TX.rep [y] Z 0 l=l.flatMap fun c=>if c=y then Z else[c]
 | []=>rfl
 | c::l=>by
   by_cases h:c=y
   ·subst h
    rw[TX.rep_yes (Y:=[c]) (l:=c::l) (by simp) ⟨l,rfl⟩]
    show Z++TX.rep [c] Z 0 l=_
    rw[wr4 c Z l]
    simp
   ·rw[TX.rep_no (by rintro⟨r,e⟩;injection e with e _;exact h e.symm),wr4 y Z l]
    simp[h]
theorem yw1(l:List Nat):TX.rep [60] TX.El 0 (TX.rep [38] TX.Ea 0 l)=esc l:=by
 rw[wr4,wr4]
 induction l with
 | nil=>rfl
 | cons c l ih =>
   rw[List.flatMap_cons,List.flatMap_append,ih,esc]
   congr 1
   by_cases h1:c=38
   ·subst h1;rfl
   ·by_cases h2:c=60
    ·subst h2;rfl
    ·simp[h1,h2]
def zf6(z:Str):Str:=⟨(esc z.cps.toList).toArray⟩
theorem yw2(h:w.cps.toList=esc z.cps.toList):w=zf6 z:=by rw[qd7,h];unfold zf6;simp
def opn(n:Str):Str := "<"++n ++ ">"
def cls(n:Str):Str := "</"++n ++ ">"
def qd9(K:Fg):Sp:=fun vs H Q _=>∃ n:Str,vs=[.str n]/\n.length<=4000/\Q (.str (opn n)) H
def qh7(K:Fg):TS :=
 (G9 (tFs ("<":Str) (">":Str) (A2 0)))
theorem wz5(h:qd9 K vs H Q E):qh7 K {nx:=fun _ H'=>Q .non H',rt:=Q} (C9 ["name"] vs) H:=by
 obtain⟨n,rfl,hn,q⟩:=h
 show qh7 K _ [some (.str n)] H
 unfold qh7
 lk
 exact⟨.str n,rfl,n,rfl,by omega,q⟩
def qe0(K:Fg):Sp:=fun vs H Q _=>∃ n:Str,vs=[.str n]/\n.length<=4000/\Q (.str (cls n)) H
def qh8(K:Fg):TS :=
 (G9 (tFs ("</":Str) (">":Str) (A2 0)))
theorem wz6(h:qe0 K vs H Q E):qh8 K {nx:=fun _ H'=>Q .non H',rt:=Q} (C9 ["name"] vs) H:=by
 obtain⟨n,rfl,hn,q⟩:=h
 show qh8 K _ [some (.str n)] H
 unfold qh8
 lk
 exact⟨.str n,rfl,n,rfl,by omega,q⟩
def qs4(K:Fg):Sp:=fun vs H Q _=>∃ z:Str,vs=[.str z]/\z.length<=30000/\Q (.str (zf6 z)) H
def wb1(K:Fg):TS :=
 (G9 (xc0 (xc0 (A2 0) ("&":Str) ("&a;":Str)) ("<":Str) ("&l;":Str)))
theorem xu7(h:qs4 K vs H Q E):wb1 K {nx:=fun _ H'=>Q .non H',rt:=Q} (C9 ["text"] vs) H:=by
 obtain⟨z,rfl,hz,q⟩:=h
 show wb1 K _ [some (.str z)] H
 unfold wb1
 lk
 refine⟨z,rfl,by omega,?_⟩
 have l1:=xo2 z "&" "&a;" (by decide)
 rw[show("&a;":Str).length=3 from rfl] at l1
 refine⟨_,rfl,by omega,?_⟩
 rw[yw2 (z:=z) (w:=PySem.Txt.replace (PySem.Txt.replace z "&" "&a;") "<" "&l;") (by rw[TX.replace_rep _ _ _ (by decide),TX.replace_rep _ _ _ (by decide)];exact yw1 _)]
 exact q
section
variable{kR kB r:Addr}{bv:V}{a:RAd}{st:Rst}{H':Hp}
theorem P1(x:BA)(as:List BA):fpA (x::as)=x.fp++fpA as:=by unfold fpA;rw[List.flatMap_cons]
theorem qc9.split{x:BA}(h:qc9 K H kB (m1++x::m2) (l1++b::l2))(hl:m1.length=l1.length):qc9 K H kB m1 l1/\BrO K H kB x b/\qc9 K H kB m2 l2:=by
 induction m1 generalizing l1 with
 | nil =>
   cases l1 with
   | nil=>cases h with|cons h1 h2=>exact⟨.nil,h1,h2⟩
   | cons=>simp at hl
 | cons y m1 ih =>
   cases l1 with
   | nil=>simp at hl
   | cons c l1 =>
     cases h with
     | cons h1 h2 =>
       obtain⟨h3,h4,h5⟩:=ih h2 (by simpa using hl)
       exact⟨.cons h1 h3,h4,h5⟩
theorem RdO.swap{x:BA}{b:Brn}(h:RdO K H kR kB r bv a st)(ea:a.as=m1++x::m2)(eb:st.bs=l1++b::l2)(hl:m1.length=l1.length)(bt:But x.fp H H')(hB:BrO K H' kB x' b')(hf:∀ z∈x'.fp,z∈x.fp\/H z=none)(hd:x'.fp.Nodup)(ho:x'.o=x.o) :
 RdO K H' kR kB r bv {a with as:=m1++x'::m2} {st with bs:=l1++b'::l2}:=by
 have hb:=h.b
 rw[ea,eb] at hb
 obtain⟨k1,k2,k3⟩:=hb.split hl
 have tk:P8 H H':=wh5 bt fun p hp=>h.mut p (by
  simp only[RAd.fp,List.mem_cons,ea,P9,P1,List.mem_append];exact .inr (.inr (.inr (.inr (.inr (.inl hp))))))
 obtain⟨a1,a2,a3,b1,b2,c1,d1,d2,d3,d4,e1⟩:=h.apart
 obtain⟨us,u1,u2⟩:=h.m
 obtain⟨vs,v1,v2⟩:=h.d
 rw[ea,P9,P1] at d1 d2 d3 d4 e1
 have nf:∀ z,z∉fpA m1++(x.fp++fpA m2)->z∉x.fp:=fun z h1 h2=>h1 (List.mem_append_right _ (List.mem_append_left _ h2))
 rw[List.nodup_append,List.nodup_append] at e1
 obtain⟨e2,⟨e3,e4,e5⟩,e6⟩:=e1
 have f1:∀ z∈fpA m1,z∉x.fp:=fun z hz hx=>e6 z hz z (List.mem_append_left _ hx) rfl
 have f2:∀ z∈fpA m2,z∉x.fp:=fun z hz hx=>e5 z hx z hz rfl
 have old:∀ z∈RAd.fp r a,H z≠none:=h.dom
 have ins:∀ z,z∈r::a.L::a.M::a.A::(fpA m1++(x.fp++fpA m2))->H z≠none:=fun z hz=>old z (by unfold RAd.fp;rw[ea,P9,P1];exact hz)
 have nx:∀ z,z∈r::a.L::a.M::a.A::(fpA m1++(x.fp++fpA m2))->z∉x.fp->z∉x'.fp:=fun z hz h1 h2=>(hf z h2).elim h1 (ins z hz)
 refine⟨h.kr,h.kb,bt _ _ h.o (nf _ d1),?_,(k1.but bt tk f1).app (.cons hB (k3.but bt tk f2)),⟨us,bt _ _ u1 (nf _ d3),Dvs.tupK tk _ _ (N7 Mnd.fix _) u2⟩,⟨vs,bt _ _ v1 (nf _ d4),Dvs.tupK tk _ _ (N7 Lad.fix _) v2⟩,?_⟩
 ·have:=bt _ _ h.l (nf _ d2)
  show H' a.L=_
  rw[this,ea]
  simp[ho]
 ·show(r::a.L::a.M::a.A::fpA (m1++x'::m2)).Nodup
  rw[P9,P1]
  have g:∀ z,z∈r::a.L::a.M::a.A::(fpA m1++(x.fp++fpA m2))->z∉fpA m1++(x.fp++fpA m2)->z∉fpA m1++(x'.fp++fpA m2):=fun z hz h1 h2=>by
   rcases List.mem_append.mp h2 with h3|h3
   ·exact h1 (List.mem_append_left _ h3)
   ·rcases List.mem_append.mp h3 with h4|h4
    ·exact nx z hz (nf z h1) h4
    ·exact h1 (List.mem_append_right _ (List.mem_append_right _ h4))
  simp only[List.nodup_cons,List.mem_cons,not_or]
  refine⟨⟨a1,a2,a3,g _ (by simp) d1⟩,⟨b1,b2,g _ (by simp) d2⟩,⟨c1,g _ (by simp) d3⟩,g _ (by simp) d4,?_⟩
  rw[List.nodup_append,List.nodup_append]
  refine⟨e2,⟨hd,e4,fun p hp q hq e=>?_⟩,fun p hp q hq e=>?_⟩
  ·subst e
   exact nx p (by simp[hq]) (f2 p hq) hp
  ·subst e
   rcases List.mem_append.mp hq with h4|h4
   ·exact nx p (by simp[hp]) (f1 p hp) h4
   ·exact e6 p hp p (List.mem_append_right _ h4) rfl
theorem yo0{x:BA}{z:Addr}(ea:a.as=m1++x::m2)(hz:z∈x.fp):z∈RAd.fp r a:=by
 simp only[RAd.fp,List.mem_cons,ea,P9,P1,List.mem_append];exact .inr (.inr (.inr (.inr (.inr (.inl hz)))))
theorem Rup.swap{x:BA}(h:RdO K H kR kB r bv a st)(ea:a.as=m1++x::m2)(eb:st.bs=l1++b::l2)(hl:m1.length=l1.length)(bt:But x.fp H H')(hB:BrO K H' kB x' b')(hf:∀ z∈x'.fp,z∈x.fp\/H z=none)(hd:x'.fp.Nodup)(ho:x'.o=x.o) :
 Rup K kR kB r bv H a H' {a with as:=m1++x'::m2} {st with bs:=l1++b'::l2}:=by
 refine⟨h.swap ea eb hl bt hB hf hd ho,fun c o e n=>bt c o e fun hc=>n (yo0 ea hc),fun z hz=>?_⟩
 simp only[RAd.fp,P9,P1,List.mem_cons,List.mem_append] at hz
 rcases hz with h1|h1|h1|h1|h1|h1|h1
 ·exact .inl (by simp[RAd.fp,h1])
 ·exact .inl (by simp[RAd.fp,h1])
 ·exact .inl (by simp[RAd.fp,h1])
 ·exact .inl (by simp[RAd.fp,h1])
 ·exact .inl (by simp[RAd.fp,ea,P9,h1])
 ·exact(hf z h1).imp (fun h=>yo0 ea h) id
 ·exact .inl (by simp[RAd.fp,ea,P9,P1,h1])
theorem RdO.pop{x:BA}{b:Brn}(h:RdO K H kR kB r bv a st)(ea:a.as=m1++[x])(eb:st.bs=l1++[b])(hl:m1.length=l1.length) :
 RdO K (upd H a.L (.lst (m1.map fun z=>V.ref z.o))) kR kB r bv {a with as:=m1} {st with bs:=l1}/\BrO K (upd H a.L (.lst (m1.map fun z=>V.ref z.o))) kB x b:=by
 have hb:=h.b
 rw[ea,eb] at hb
 obtain⟨k1,k2,_⟩:=hb.split hl
 obtain⟨a1,a2,a3,b1,b2,c1,d1,d2,d3,d4,e1⟩:=h.apart
 obtain⟨us,u1,u2⟩:=h.m
 obtain⟨vs,v1,v2⟩:=h.d
 have tk:P8 H (upd H a.L (.lst (m1.map fun z=>V.ref z.o))):=J7 (.inl ⟨_,h.l⟩)
 rw[ea,P9,P1] at d1 d2 d3 d4 e1
 have nL:∀ z∈fpA m1,z∉[a.L]:=fun z hz e=>d2 (by rw[List.mem_singleton.mp e] at hz;exact List.mem_append_left _ hz)
 have nL2:∀ z∈x.fp,z∉[a.L]:=fun z hz e=>d2 (by rw[List.mem_singleton.mp e] at hz;exact List.mem_append_right _ (List.mem_append_left _ hz))
 refine⟨⟨h.kr,h.kb,by rw[B2 a1];exact h.o,A4,k1.but But.upd1 tk nL,⟨us,by rw[B2 (Ne.symm b1)];exact u1,Dvs.tupK tk _ _ (N7 Mnd.fix _) u2⟩,⟨vs,by rw[B2 (Ne.symm b2)];exact v1,Dvs.tupK tk _ _ (N7 Lad.fix _) v2⟩,?_⟩,k2.but But.upd1 tk nL2⟩
 have:=h.nd
 unfold RAd.fp at this ⊢
 rw[ea,P9] at this
 exact this.sublist (by
  refine List.Sublist.cons_cons _ (List.Sublist.cons_cons _ (List.Sublist.cons_cons _ (List.Sublist.cons_cons _ ?_)))
  exact List.sublist_append_left _ _)
theorem RdO.as_split{b:Brn}(h:RdO K H kR kB r bv a st)(eb:st.bs=l1++b::l2):∃ m1 x m2,a.as=m1++x::m2/\m1.length=l1.length/\BrO K H kB x b:=by
 have hb:=h.b
 rw[eb] at hb
 have hn:=hb.len
 rw[List.length_append,List.length_cons] at hn
 have e:a.as=a.as.take l1.length++a.as[l1.length]'(by omega)::a.as.drop (l1.length+1):=by
  rw[List.getElem_cons_drop,List.take_append_drop]
 have hl:(a.as.take l1.length).length=l1.length:=by rw[List.length_take];omega
 rw[e] at hb
 exact⟨_,_,_,e,hl,(hb.split hl).2.1⟩
def BkO(K:Fg)(H:Hp)(v:V)(rs:List Row):Prop:=∃ p vs,v=.ref p/\SqT K H p vs/\Dvs K H (rs.map Row.da) vs
theorem BkO.rws(h:BkO K H v rs):Rws K H v rs:=by
 obtain⟨p,vs,rfl,h1,h2⟩:=h
 exact⟨p,vs,rfl,.inr h1,h2⟩
theorem BkO.tupK(h:BkO K H v rs)(tk:P8 H H'):BkO K H' v rs:=by
 obtain⟨p,vs,rfl,h1,h2⟩:=h
 exact⟨p,vs,rfl,tk.sqT h1,Dvs.tupK tk _ _ (wu7 rs) h2⟩
theorem BkO.same(h:BkO K H v rs)(s:A6 H H'):BkO K H' v rs:=h.tupK s.tupK
end
theorem zf7(v:V):qe3 ("book":Str) v []=[(("book":Str),v)]:=rfl
theorem zf8(n v:V):qe3 ("branches":Str) v [(("book":Str),n)]=[(("book":Str),n),(("branches":Str),v)]:=by
 show(if(("book":Str)) = "branches" then _ else _)=_
 rw[if_neg (by decide)];rfl
theorem zf9(n p v:V):qe3 ("mends":Str) v [(("book":Str),n),(("branches":Str),p)]=[(("book":Str),n),(("branches":Str),p),(("mends":Str),v)]:=by
 show(if(("book":Str)) = "mends" then _ else _::(if(("branches":Str)) = "mends" then _ else _))=_
 rw[if_neg (by decide),if_neg (by decide)];rfl
theorem zg0(n p q v:V):qe3 ("laid":Str) v [(("book":Str),n),(("branches":Str),p),(("mends":Str),q)]=[(("book":Str),n),(("branches":Str),p),(("mends":Str),q),(("laid":Str),v)]:=by
 show(if(("book":Str)) = "laid" then _ else _::(if(("branches":Str)) = "laid" then _ else _::(if(("mends":Str)) = "laid" then _ else _)))=_
 rw[if_neg (by decide),if_neg (by decide),if_neg (by decide)];rfl
theorem BrO.upd{p:Addr}{o:HO}{a:BA}(h:BrO K H kB a b)(hp:wy6 H p\/H p=none)(hn:p∉a.fp):BrO K (upd H p o) kB a b :=
 h.but But.upd1 (hp.elim J7 fun e=>(A6.new e o).tupK) fun z hz e=>hn (by rw[List.mem_singleton.mp e] at hz;exact hz)
theorem D1{q:Addr}(h:H q=some u)(n:q≠p):upd H p o q=some u:=by rw[B2 n];exact h
theorem U0{q:Addr}(h:H p=none)(e:H q=some u):q≠p:=fun z=>by rw[z,h] at e;cases e
theorem xh4(b:But ps H H')(hp:p∈ps\/H p=none):But ps H (upd H' p o):=fun z u e n=>by
 rw[B2 (fun y=>hp.elim (fun h=>n (by rw[y];exact h)) fun h=>by rw[y,h] at e;cases e)];exact b z u e n
abbrev qm5(K:Fg)(k_Branch:Addr):TS :=
 (B7 (wb4 K (A2 0) (T7 (A1 (xk2 k_Branch (Q8 K) [] E0 (A1 (tC (.str "")) (A1 (W3 A8) A8))) A8)) "branches")
 (B7 (wb4 K (A2 0) (T7 A8) "mends")
 (wb4 K (A2 0) (T7 A8) "laid")))
def U7(K:Fg):Sp:=fun vs H Q _=>∃ (kR r x:Addr) (bv:V),vs=[.ref r,bv]/\PySem.W.nsIn K mainGlobals "Reader"=some (some (.ref kR))/\H r=some (.ins kR x [])/\∀ (kB:Addr) (a:RAd) (H':Hp),RdO K H' kR kB r bv a ⟨[⟨"",[],[],[]⟩],[],[]⟩->But [r] H H'->(∀ z∈RAd.fp r a,z=r\/H z=none)->C3 H H'->Q .non H'
def X8(K:Fg)(k_Branch:Addr):TS :=
 (B7 (wb4 K (A2 0) (A2 1) "book")
 (qm5 K k_Branch))
theorem wm3(cz:Cz K k_Branch k_Reader)(h:U7 K vs H Q E):X8 K k_Branch {nx:=fun _ H'=>Q .non H',rt:=Q} (C9 ["self","book"] vs) H:=by
 obtain⟨kR,r,x,bv,rfl,hkR,hr,q⟩:=h
 obtain rfl:=M1 cz.ns_Reader hkR
 show X8 K _ _ [some (.ref r),some bv] H
 unfold X8
 have c:=cz.cl_Reader
 refine Y5 (qg7 ?_)
 lk
 refine⟨r,_,x,_,rfl,hr,c,cz.na_Reader_book,by simp,?_⟩
 rw[zf7]
 have bt1:But [r] H (upd H r (.ins k_Reader x [(("book":Str),bv)])):=But.upd1
 have g1:C3 H (upd H r (.ins k_Reader x [(("book":Str),bv)])):=C3.upd
 have e1:(upd H r (.ins k_Reader x [(("book":Str),bv)])) r=_:=A4
 generalize upd H r (.ins k_Reader x [(("book":Str),bv)])=H1 at *
 show qm5 K _ _ _ _
 refine Y5 (qg7 ?_)
 lk
 refine xf9 ?_
 lk
 refine⟨D8 (by z_go),fun p hp=>?_⟩
 have e2:=D1 (o:=.tup []) e1 (U0 hp e1)
 have bt2:But [r] H (upd H1 p (.tup [])):=xh4 bt1 (.inr (g1 _ hp))
 have g2:C3 H (upd H1 p (.tup [])):=C3.tr g1 C3.upd
 have ep:SqT K (upd H1 p (.tup [])) p []:=SqT.of A4
 generalize upd H1 p (.tup [])=H2 at *
 lk
 intro o dx ho hdx ne
 have nor:r≠o:=U0 ho e2
 have e3:(upd (upd H2 dx (.own o)) o (.ins k_Branch dx [])) r=_:=D1 (D1 e2 (U0 hdx e2)) nor
 have bt3:But [r] H (upd (upd H2 dx (.own o)) o (.ins k_Branch dx [])):=xh4 (xh4 bt2 (.inr (g2 _ hdx))) (.inr (g2 _ ho))
 have g3:C3 H (upd (upd H2 dx (.own o)) o (.ins k_Branch dx [])):=C3.tr g2 (C3.tr C3.upd C3.upd)
 have s3:A6 H2 (upd (upd H2 dx (.own o)) o (.ins k_Branch dx [])):=fun z u e=>D1 (D1 e (U0 hdx e)) (U0 ho e)
 have eo:(upd (upd H2 dx (.own o)) o (.ins k_Branch dx [])) o=some (.ins k_Branch dx []):=A4
 generalize upd (upd H2 dx (.own o)) o (.ins k_Branch dx [])=H3 at *
 refine⟨k_Branch,o,dx,p, "",[],rfl,cz.ns_Branch,eo,s3.sqT ep,fun qq ww H4 hq hw hqw bt hB g4=>⟨rfl,?_⟩⟩
 have e4:H4 r=_:=bt _ _ e3 (by simp[nor])
 have bt4:But [r] H H4:=fun z u e n=>bt z u (bt3 z u e n) (by simp;intro y;rw[y] at e;have:=g2 _ ho;rw[e] at this;cases this)
 have g4':C3 H H4:=C3.tr g3 g4
 have nrq:r≠qq:=U0 hq e3
 have nrw:r≠ww:=U0 hw e3
 have noq:o≠qq:=U0 hq eo
 have now:o≠ww:=U0 hw eo
 have fp:BA.fp ⟨o,dx,p,qq,ww⟩=[o,qq,ww]:=rfl
 lk
 refine⟨D8 (by z_go),fun L hL=>?_⟩
 lk
 have nL:L∉BA.fp ⟨o,dx,p,qq,ww⟩:=fun hz=>by
  rcases(qc9.cons hB .nil).mut L (by rw[P1];exact List.mem_append_left _ hz) with⟨xs,e⟩|⟨C,d,fs,e⟩ <;> rw[hL] at e <;> cases e
 have hB5:=hB.upd (o:=.lst [.ref o]) (.inr hL) nL
 have e5:=D1 (o:=.lst [.ref o]) e4 (U0 hL e4)
 have eL5:(upd H4 L (.lst [.ref o])) L=_:=A4
 have bt5:But [r] H (upd H4 L (.lst [.ref o])):=xh4 bt4 (.inr (g4' _ hL))
 have g5:C3 H (upd H4 L (.lst [.ref o])):=C3.tr g4' C3.upd
 have hLr:r≠L:=U0 hL e4
 have hL0:=g4' _ hL
 generalize upd H4 L (.lst [.ref o])=H5 at *
 refine⟨r,_,x,_,rfl,e5,c,cz.na_Reader_branches,by simp,?_⟩
 rw[zf8]
 have nr:r∉BA.fp ⟨o,dx,p,qq,ww⟩:=by rw[fp];simp[nor,nrq,nrw]
 have hB6:=hB5.upd (o:=.ins k_Reader x [(("book":Str),bv),(("branches":Str),.ref L)]) (.inl (.inr ⟨_,_,_,e5⟩)) nr
 have e6:(upd H5 r (.ins k_Reader x [(("book":Str),bv),(("branches":Str),.ref L)])) r=_:=A4
 have eL6:=D1 (o:=.ins k_Reader x [(("book":Str),bv),(("branches":Str),.ref L)]) eL5 (Ne.symm hLr)
 have bt6:But [r] H (upd H5 r (.ins k_Reader x [(("book":Str),bv),(("branches":Str),.ref L)])):=xh4 bt5 (.inl (by simp))
 have g6:C3 H (upd H5 r (.ins k_Reader x [(("book":Str),bv),(("branches":Str),.ref L)])):=C3.tr g5 C3.upd
 generalize upd H5 r (.ins k_Reader x [(("book":Str),bv),(("branches":Str),.ref L)])=H6 at *
 show B7 (wb4 K (A2 0) (T7 A8) "mends") _ _ _ _
 refine Y5 (qg7 ?_)
 lk
 refine⟨D8 (by z_go),fun M hM=>?_⟩
 lk
 have nM:M∉BA.fp ⟨o,dx,p,qq,ww⟩:=fun hz=>by
  rcases(qc9.cons hB6 .nil).mut M (by rw[P1];exact List.mem_append_left _ hz) with⟨xs,e⟩|⟨C,d,fs,e⟩ <;> rw[hM] at e <;> cases e
 have hB7:=hB6.upd (o:=.lst []) (.inr hM) nM
 have hMr:r≠M:=U0 hM e6
 have hML:L≠M:=U0 hM eL6
 have hM0:=g6 _ hM
 refine⟨r,_,x,_,rfl,D1 e6 hMr,c,cz.na_Reader_mends,by simp,?_⟩
 rw[zf9]
 have e8:(upd (upd H6 M (.lst [])) r (.ins k_Reader x [(("book":Str),bv),(("branches":Str),.ref L),(("mends":Str),.ref M)])) r=_:=A4
 have eL8:=D1 (o:=.ins k_Reader x [(("book":Str),bv),(("branches":Str),.ref L),(("mends":Str),.ref M)]) (D1 (o:=.lst []) eL6 hML) (Ne.symm hLr)
 have eM8:=D1 (o:=.ins k_Reader x [(("book":Str),bv),(("branches":Str),.ref L),(("mends":Str),.ref M)]) (A4 (H:=H6) (a:=M) (o:=.lst [])) (Ne.symm hMr)
 have hB8:=hB7.upd (o:=.ins k_Reader x [(("book":Str),bv),(("branches":Str),.ref L),(("mends":Str),.ref M)]) (.inl (.inr ⟨_,_,_,D1 e6 hMr⟩)) nr
 have bt8:But [r] H (upd (upd H6 M (.lst [])) r (.ins k_Reader x [(("book":Str),bv),(("branches":Str),.ref L),(("mends":Str),.ref M)])):=xh4 (xh4 bt6 (.inr hM0)) (.inl (by simp))
 have g8:C3 H (upd (upd H6 M (.lst [])) r (.ins k_Reader x [(("book":Str),bv),(("branches":Str),.ref L),(("mends":Str),.ref M)])):=C3.tr g6 (C3.tr C3.upd C3.upd)
 generalize upd (upd H6 M (.lst [])) r (.ins k_Reader x [(("book":Str),bv),(("branches":Str),.ref L),(("mends":Str),.ref M)])=H8 at *
 show wb4 K (A2 0) (T7 A8) "laid" _ _ _
 refine qg7 ?_
 lk
 refine⟨D8 (by z_go),fun A hA=>?_⟩
 lk
 have nA:A∉BA.fp ⟨o,dx,p,qq,ww⟩:=fun hz=>by
  rcases(qc9.cons hB8 .nil).mut A (by rw[P1];exact List.mem_append_left _ hz) with⟨xs,e⟩|⟨C,d,fs,e⟩ <;> rw[hA] at e <;> cases e
 have hB9:=hB8.upd (o:=.lst []) (.inr hA) nA
 have hAr:r≠A:=U0 hA e8
 have hAL:L≠A:=U0 hA eL8
 have hAM:M≠A:=U0 hA eM8
 have hA0:=g8 _ hA
 refine⟨r,_,x,_,rfl,D1 e8 hAr,c,cz.na_Reader_laid,by simp,?_⟩
 rw[zg0]
 have hB10:=hB9.upd (o:=.ins k_Reader x [(("book":Str),bv),(("branches":Str),.ref L),(("mends":Str),.ref M),(("laid":Str),.ref A)]) (.inl (.inr ⟨_,_,_,D1 e8 hAr⟩)) nr
 refine q k_Branch ⟨x,L,M,A,[⟨o,dx,p,qq,ww⟩]⟩ _ ⟨cz.ns_Reader,cz.ns_Branch,A4,D1 (D1 eL8 hAL) (Ne.symm hLr),.cons hB10 .nil,⟨[],D1 (D1 eM8 hAM) (Ne.symm hMr),G1⟩,⟨[],D1 A4 (Ne.symm hAr),G1⟩,?_⟩ (xh4 (xh4 bt8 (.inr hA0)) (.inl (by simp))) ?_ (C3.tr g8 (C3.tr C3.upd C3.upd))
 ·show(r::L::M::A::fpA [⟨o,dx,p,qq,ww⟩]).Nodup
  have ef:fpA [⟨o,dx,p,qq,ww⟩]=[o,qq,ww]:=rfl
  rw[fp] at nL nM nA
  simp only[List.mem_cons,List.not_mem_nil,or_false,not_or] at nL nM nA
  rw[ef]
  simp[hLr,hMr,hAr,nor,nrq,nrw,hML,hAL,hAM,nL.1,nL.2.1,nL.2.2,nM.1,nM.2.1,nM.2.2,nA.1,nA.2.1,nA.2.2,noq,now,hqw]
 ·intro z hz
  have hz':z∈r::L::M::A::[o,qq,ww]:=hz
  simp only[List.mem_cons,List.not_mem_nil,or_false] at hz'
  rcases hz' with h1|h1|h1|h1|h1|h1|h1
  ·exact .inl h1
  ·exact .inr (h1▸hL0)
  ·exact .inr (h1▸hM0)
  ·exact .inr (h1▸hA0)
  ·exact .inr (h1▸g2 _ ho)
  ·exact .inr (h1▸g3 _ hq)
  ·exact .inr (h1▸g3 _ hw)
theorem xd1(h:0<=m):qf2 xs (some m) none=xs.drop m.toNat:=by
 unfold qf2
 have e:HT.sIx xs.length 0 (some m)=min m.toNat xs.length:=by
  show(if m<0 then _ else min m.toNat xs.length)=_
  rw[if_neg (by omega)]
 show(xs.drop (HT.sIx xs.length 0 (some m))).take (xs.length-HT.sIx xs.length 0 (some m))=_
 rw[e]
 by_cases hl:m.toNat<=xs.length
 ·rw[Nat.min_eq_left hl,List.take_of_length_le (by rw[List.length_drop];exact Nat.le_refl _)]
 ·rw[Nat.min_eq_right (by omega),List.drop_length,List.drop_eq_nil_of_le (by omega),List.take_nil]
theorem qe6{l:List α}{x:α}(h:l[i]?=some x):l.take (i+1)=l.take i++[x]:=by rw[List.take_succ,h];rfl
theorem yo1{x:α}{xs:List α}:atI (x::xs) 0=some x:=by
 have:atI (x::xs) ((0:Nat):Int)=some x:=Z4 rfl
 exact this
section
variable{kB:Addr}
theorem qc9.get{bs:List Brn}{x:BA}(h:qc9 K H kB as bs)(e:as[i]?=some x):∃ b,bs[i]?=some b/\BrO K H kB x b:=by
 induction h generalizing i with
 | nil=>simp at e
 | cons h1 _ ih =>
   cases i with
   | zero=>simp at e;subst e;exact⟨_,rfl,h1⟩
   | succ i=>exact ih (by simpa using e)
end
def U8(K:Fg):Sp:=fun vs H Q _=>∃ (kR kB r:Addr) (bv:V) (a:RAd) (st:Rst) (b0:Brn) (bs:List Brn),vs=[.ref r]/\RdO K H kR kB r bv a st/\st.bs=b0::bs/\∀ (v:V) (H':Hp),A6 H H'->Dv K H' (Tr.nd "" b0.ps).da v->Q v H'
def X9(K:Fg):TS :=
 (G9 (W3 (A1 (tC (.str "")) (A1 (tCB (Z5 K) (A1 (Q5 K (tOp (L4 K) (Q5 K (A2 0) "branches") (tC (.int 0))) "parts") A8)) A8))))
theorem wm4(cz:Cz K k_Branch k_Reader)(h:U8 K vs H Q E):X9 K {nx:=fun _ H'=>Q .non H',rt:=Q} (C9 ["self"] vs) H:=by
 obtain⟨kR,kB,r,bv,a,st,b0,bs,rfl,h,eb,q⟩:=h
 obtain rfl:=M1 cz.ns_Reader h.kr
 obtain rfl:=M1 cz.ns_Branch h.kb
 show X9 K _ [some (.ref r)] H
 unfold X9
 obtain⟨m1,x,m2,ea,hm,hx⟩:=h.as_split (l1:=[]) eb
 obtain rfl:=List.eq_nil_of_length_eq_zero hm
 obtain⟨us,q1,q2⟩:=hx.q
 lk
 refine G0 ?_
 lk
 refine G0 ?_
 lk
 refine⟨r,_,a.x,_,_,rfl,h.o,cz.cl_Reader,cz.na_Reader_branches,rfl,?_⟩
 lk
 refine S4 (SqL.of h.l) (v:=.ref x.o) (by rw[ea];exact yo1) ?_
 refine⟨x.o,_,x.x,_,_,rfl,hx.o,cz.cl_Branch,cz.na_Branch_parts,rfl,?_⟩
 lk
 refine⟨_,_,rfl,.inl ⟨SqL.of q1,fun l hl=>?_⟩⟩
 lk
 refine⟨D8 (by z_go),fun p hp=>?_⟩
 have s1:=A6.new hl (.tup us)
 have s2:=A6.new hp (.tup [.str "",.ref l])
 refine q _ _ (A6.tr s1 s2) (xz0 (SqT.of A4) (s2.sqT (SqT.of A4)) (Dvs.same (A6.tr s1 s2) _ _ q2))
def D6(K:Fg):Sp:=fun vs H Q _=>∃ (kR kB r:Addr) (bv:V) (a:RAd) (st:Rst) (b0:Brn) (bs:List Brn),vs=[.ref r]/\RdO K H kR kB r bv a st/\st.bs=b0::bs/\bs.length<=1000/\∀ (p:Addr) (H':Hp),A6 H H'->SqT K H' p (B3 (bs.map Brn.n))->Q (.ref p) H'
def O0(K:Fg):TS :=
 (G9 (tCB (Z5 K) (A1 (qt3 [none] (qw7 K (tSl (wg7 K) (Q5 K (A2 0) "branches") (S3 (tC (.int 1))) qg6)) (B1 0) tTT (Q5 K (A2 0) "name")) A8)))
theorem qs5(cz:Cz K k_Branch k_Reader)(h:D6 K vs H Q E):O0 K {nx:=fun _ H'=>Q .non H',rt:=Q} (C9 ["self"] vs) H:=by
 obtain⟨kR,kB,r,bv,a,st,b0,bs,rfl,h,eb,hl,q⟩:=h
 obtain rfl:=M1 cz.ns_Reader h.kr
 obtain rfl:=M1 cz.ns_Branch h.kb
 show O0 K _ [some (.ref r)] H
 unfold O0
 obtain⟨m1,x,m2,ea,hm,hx⟩:=h.as_split (l1:=[]) eb
 obtain rfl:=List.eq_nil_of_length_eq_zero hm
 have hb:=h.b
 rw[ea,eb] at hb
 obtain⟨_,_,hb2⟩:=hb.split (m1:=[]) (l1:=[]) rfl
 have hbl:=hb2.len
 lk
 refine G0 ?_
 lk
 refine⟨r,_,a.x,_,_,rfl,h.o,cz.cl_Reader,cz.na_Reader_branches,rfl,?_⟩
 lk
 refine xx9 (SqL.of h.l) fun p hp=>?_
 have ecut:qf2 (a.as.map fun z=>V.ref z.o) (some 1) none=m2.map fun z=>V.ref z.o:=by
  rw[xd1 (by decide),ea];rfl
 rw[ecut]
 have s1:=A6.new hp (.lst (m2.map fun z=>V.ref z.o))
 have e1:(upd H p (.lst (m2.map fun z=>V.ref z.o))) p=_:=A4
 generalize upd H p (.lst (m2.map fun z=>V.ref z.o))=H1 at *
 refine wg6 (.inl (SqL.of e1)) (fun i ys H'=>H'=H1/\ys=B3 ((bs.take i).map Brn.n)) ⟨rfl,rfl⟩ ?_ ?_ ?_ ?_ ?_
 ·rintro i ys H' hi ⟨_,rfl⟩
  rw[C1,List.length_map,List.length_take]
  exact D8 (by omega)
 ·rintro _ i ys H' _ ⟨rfl,_⟩;exact SqL.of e1
 ·rintro hq i ys H' _ ⟨rfl,_⟩;exact hq
 ·rintro i v ys H' hi ⟨rfl,rfl⟩
  rw[List.getElem?_map] at hi
  obtain⟨z,hz,rfl⟩:=Option.map_eq_some_iff.mp hi
  obtain⟨c,hc,hB⟩:=hb2.get hz
  refine J0 ?_
  lk
  refine G0 ?_
  lk
  refine⟨z.o,_,z.x,_,_,rfl,s1 _ _ hB.o,cz.cl_Branch,cz.na_Branch_name,rfl,?_⟩
  refine⟨rfl,?_⟩
  rw[qx6,qe6 hc,List.map_append];rfl
 ·rintro ys H' ⟨rfl,rfl⟩ l hl2
  have en:bs.take (m2.map fun z=>V.ref z.o).length=bs:=by rw[List.length_map,hbl];exact List.take_length
  rw[en]
  have s2:=A6.new hl2 (.lst (B3 (bs.map Brn.n)))
  lk
  refine⟨_,_,rfl,.inl ⟨SqL.of A4,fun w hw=>?_⟩⟩
  lk
  exact q _ _ (A6.tr (A6.tr s1 s2) (A6.new hw _)) (SqT.of A4)
abbrev qj5(K:Fg):TS :=
 (G5 (tBM K "list" G6 (Q5 K (tOp (L4 K) (Q5 K (A2 0) "branches") (tUn (rU fun i=>.int (-i)) (tC (.int 1)))) "parts") (A1 (W3 (A1 (Q5 K (A2 1) "name") (A1 (tCB (Z5 K) (A1 (Q5 K (A2 1) "parts") A8)) A8))) A8)))
def P2(K:Fg):Sp:=fun vs H Q _=>∃ (kR kB r:Addr) (bv:V) (a:RAd) (st:Rst) (bs:List Brn) (b1 b2:Brn),vs=[.ref r]/\RdO K H kR kB r bv a st/\st.bs=bs++[b1,b2]/\b1.ps.length<=90000/\∀ a' H',Rup K kR kB r bv H a H' a' {st with bs:=bs++[{b1 with ps:=b1.ps++[Tr.nd b2.n b2.ps]}]}->C3 H H'->Q .non H'
def U9(K:Fg):TS :=
 (B7 (E1 (xk4 K "list" xk6 (Q5 K (A2 0) "branches")) (B1 1))
 (qj5 K))
theorem wi8(cz:Cz K k_Branch k_Reader)(h:P2 K vs H Q E):U9 K {nx:=fun _ H'=>Q .non H',rt:=Q} (C9 ["self","branch"] vs) H:=by
 obtain⟨kR,kB,r,bv,a,st,bs,b1,b2,rfl,h,eb,hl,q⟩:=h
 obtain rfl:=M1 cz.ns_Reader h.kr
 obtain rfl:=M1 cz.ns_Branch h.kb
 show U9 K _ [some (.ref r),none] H
 unfold U9
 have eb2:st.bs=(bs++[b1])++b2::[]:=by rw[eb];simp
 obtain⟨m,y,m3,ea,hm,hy⟩:=h.as_split eb2
 have hn:=h.b.len
 rw[ea,eb2] at hn
 simp only[List.length_append,List.length_cons,List.length_nil] at hn hm
 obtain rfl:m3=[]:=List.eq_nil_of_length_eq_zero (by omega)
 have hm':m.length=(bs++[b1]).length:=by simp[hm]
 obtain⟨h1,hy1⟩:=h.pop ea eb2 hm'
 have bt1:But (RAd.fp r a) H (upd H a.L (.lst (m.map fun z=>V.ref z.o))):=fun z u e n=>D1 e fun y=>n (by rw[y];simp[RAd.fp])
 have hL:=h.l
 rw[ea,List.map_append] at hL
 have g1:C3 H (upd H a.L (.lst (m.map fun z=>V.ref z.o))):=C3.upd
 have fy:∀ z∈y.fp,z∉fpA m:=fun z hz hx=>by
  have:=h.apart.2.2.2.2.2.2.2.2.2.2
  rw[ea,P9,List.nodup_append] at this
  exact this.2.2 z hx z (by rw[P1];exact List.mem_append_left _ hz) rfl
 have fr1:∀ z∈RAd.fp r {a with as:=m},z∈RAd.fp r a:=fun z hz=>by
  simp only[RAd.fp,List.mem_cons,ea,P9,List.mem_append] at hz ⊢
  rcases hz with h|h|h|h|h
  ·exact .inl h
  ·exact .inr (.inl h)
  ·exact .inr (.inr (.inl h))
  ·exact .inr (.inr (.inr (.inl h)))
  ·exact .inr (.inr (.inr (.inr (.inl h))))
 lk
 refine G0 ?_
 lk
 refine⟨r,_,a.x,_,_,rfl,h.o,cz.cl_Reader,cz.na_Reader_branches,rfl,?_⟩
 lk
 refine⟨.inl ⟨rfl,_,SqL.of hL⟩,?_⟩
 refine xl8 hL ?_
 generalize upd H a.L (.lst (m.map fun z=>V.ref z.o))=H1 at *
 lk
 show qj5 K _ _ _
 have e1:({st with bs:=bs++[b1]}:Rst).bs=bs++b1::[]:=rfl
 obtain⟨m1,x,m2,ea2,hm2,hx⟩:=h1.as_split e1
 have ea2':m=m1++x::m2:=ea2
 obtain rfl:m2=[]:=List.eq_nil_of_length_eq_zero (by have:=congrArg List.length ea2';simp at this;omega)
 obtain⟨us,q1,q2⟩:=hx.q
 obtain⟨ws,p1,p2⟩:=hy1.q
 have hul:=wa1 q2
 have h1l:H1 a.L=_:=h1.l
 have h1o:H1 r=_:=h1.o
 lk
 refine G0 ?_
 lk
 refine G0 ?_
 lk
 refine⟨r,_,a.x,_,_,rfl,h1o,cz.cl_Reader,cz.na_Reader_branches,rfl,?_⟩
 lk
 refine⟨1,rfl,?_⟩
 refine S4 (SqL.of h1l) (v:=.ref x.o) (ql8 (n:=m1.length) (by show(m.map _).length=_;rw[ea2'];simp) (by show(m.map _)[_]?=_;rw[ea2'];simp)) ?_
 refine⟨x.o,_,x.x,_,_,rfl,hx.o,cz.cl_Branch,cz.na_Branch_parts,rfl,?_⟩
 lk
 refine⟨.inl ⟨rfl,_,SqL.of q1⟩,?_⟩
 lk
 refine G0 ?_
 lk
 refine⟨y.o,_,y.x,_,_,rfl,hy1.o,cz.cl_Branch,cz.na_Branch_name,rfl,?_⟩
 lk
 refine G0 ?_
 lk
 refine⟨y.o,_,y.x,_,_,rfl,hy1.o,cz.cl_Branch,cz.na_Branch_parts,rfl,?_⟩
 lk
 refine⟨_,_,rfl,.inl ⟨SqL.of p1,fun l hl=>?_⟩⟩
 lk
 refine⟨D8 (by z_go),fun p hp=>?_⟩
 have s2:=A6.new hl (.tup ws)
 have s3:=A6.new hp (.tup [.str b2.n,.ref l])
 have s23:=A6.tr s2 s3
 have dt:Dv K _ (Tr.nd b2.n b2.ps).da (.ref p):=xz0 (SqT.of (A4 (H:=upd H1 l (.tup ws)) (a:=p) (o:=.tup [.str b2.n,.ref l]))) (s3.sqT (SqT.of A4)) (Dvs.same s23 _ _ p2)
 generalize upd (upd H1 l (.tup ws)) p (.tup [.str b2.n,.ref l])=H2 at *
 lk
 refine I9 (s23 _ _ q1) (by rw[hul,sizeLine_eq];omega) ?_
 have h2:=h1.same s23
 have xq:x.q∈x.fp:=by simp[BA.fp]
 have bt3:But x.fp H2 (upd H2 x.q (.lst (us++[.ref p]))):=fun z u e n=>D1 e fun y=>n (by rw[y];exact xq)
 have xnd:x.fp.Nodup:=by
  have:=h1.apart.2.2.2.2.2.2.2.2.2.2
  rw[show({a with as:=m}:RAd).as=m from rfl,ea2',P9,P1,List.nodup_append,List.nodup_append] at this
  exact this.2.1.1
 have hx2:=(hx.but (ps:=[]) (fun z u e _=>s23 z u e) s23.tupK fun _ _ z=>by cases z)
 have tk3:P8 H2 (upd H2 x.q (.lst (us++[.ref p]))):=J7 (.inl ⟨_,s23 _ _ q1⟩)
 have no:x.o≠x.q:=by simp[BA.fp] at xnd;exact xnd.1.1
 have nw:x.w≠x.q:=by simp[BA.fp] at xnd;exact Ne.symm xnd.2
 have hB:BrO K (upd H2 x.q (.lst (us++[.ref p]))) k_Branch x {b1 with ps:=b1.ps++[Tr.nd b2.n b2.ps]} :=
  ⟨D1 hx2.o no,tk3.sqT hx2.p,⟨_,A4,by
   show Dvs K _ (Tr.das (b1.ps++[Tr.nd b2.n b2.ps])) _
   rw[Z7,List.map_append,<-Z7]
   exact Dvs.append (Dvs.tupK tk3 _ _ (X3 _) (Dvs.same s23 _ _ q2)) (Dvs.one (Dv.tupK tk3 _ _ (ym3 _) dt))⟩,D1 hx2.w nw⟩
 have u:=Rup.swap h2 ea2 e1 hm2 bt3 hB (fun z hz=>.inl hz) xnd rfl
 refine q _ _ ⟨u.ok,fun c o e n=>?_,fun z hz=>?_⟩ (C3.tr (C3.tr g1 (A6.grow s23)) C3.upd)
 ·exact bt3 c o (s23 _ _ (bt1 c o e n)) fun hc=>n (fr1 c (yo0 ea2 hc))
 ·exact(u.fr z hz).imp (fr1 z) fun h=>g1 z (A6.grow s23 z h)
theorem xu8 {n:Option Str} (h:Q (.bl (decide (n=some x))) H):qb6 K (oV n) (.str x) H Q:=by
 cases n with
 | none => refine xl1 rfl ?_;have e:(decide (oV none=V.str x))=decide (none=some x):=by simp[oV]
           rw[e];exact h
 | some y => refine xl1 rfl ?_;have e:(decide (oV (some y)=V.str x))=decide (some y=some x):=by simp[oV]
             rw[e];exact h
section
variable{kR kB r:Addr}{bv:V}{a:RAd}{st:Rst}
theorem Rup.mend{i e:Int}{t rule:Str}(h:RdO K H kR kB r bv a st)(s1:A6 H H1)(e1:SqT K H1 p [.int i,.int e,.str t,.str rule])(m2:Dvs K H (st.ms.map Mnd.da) us) :
 Rup K kR kB r bv H a (upd H1 a.M (.lst (us++[.ref p]))) a {st with ms:=st.ms++[⟨i,e,t,rule⟩]}:=by
 refine .keep ((h.same s1).setM ?_) fun c o e n=>?_
 ·rw[List.map_append]
  exact Dvs.append (Dvs.same s1 _ _ m2) (Dvs.one (C6.mpr ⟨p,_,rfl,e1,B6 (M0.mpr rfl) (B6 (M0.mpr rfl) (B6 (E5.mpr rfl) (B6 (E5.mpr rfl) G1)))⟩))
 ·rw[B2 (fun z=>n (by rw[z];simp[RAd.fp]))];exact s1 c o e
theorem RdO.ms_len(m2:Dvs K H (st.ms.map Mnd.da) us):us.length=st.ms.length:=by have:=m2.length;rw[List.length_map] at this;exact this
end
def L7(K:Fg):Sp:=fun vs H Q _=>∃ (kR kB r:Addr) (bv:V) (a:RAd) (st:Rst) (n:Str) (i:Int) (rule:Str) (bs:List Brn) (b0:Brn),vs=[.ref r,.str n,.int i,.str rule]/\RdO K H kR kB r bv a st/\st.bs=bs++[b0]/\bs.length<=1000/\b0.pl.length<=1000/\b0.ps.length<=90000/\st.ms.length<=90000/\n.length<=4000/\∀ a' H',Rup K kR kB r bv H a H' a' {st with bs:=st.bs++[⟨n,b0.pl++[(b0.ps.length:Int)],[],[]⟩],ms:=st.ms++[⟨i,i,opn n,rule⟩]}->C3 H H'->Q .non H'
def T1(K:Fg)(k_Reader:Addr):TS :=
 (B7 (G5 (tBM K "list" G6 (Q5 K (A2 0) "mends") (A1 (W3 (A1 (A2 2) (A1 (A2 2) (A1 (C7 (qd9 K) [] E0 (A1 (A2 1) A8)) (A1 (A2 3) A8))))) A8)))
 (G5 (N1 k_Reader "enter" (P0 K) [] E0 (A2 0) (A1 (A2 1) A8))))
theorem we7(cz:Cz K k_Branch k_Reader)(h:L7 K vs H Q E):T1 K k_Reader {nx:=fun _ H'=>Q .non H',rt:=Q} (C9 ["self","name","start","rule"] vs) H:=by
 obtain⟨kR,kB,r,bv,a,st,n,i,rule,bs,b0,rfl,h,eb,h1,h2,h3,h4,h5,q⟩:=h
 obtain rfl:=M1 cz.ns_Reader h.kr
 show T1 K _ _ [some (.ref r),some (.str n),some (.int i),some (.str rule)] H
 unfold T1
 obtain⟨us,m1,m2⟩:=h.m
 have hul:=RdO.ms_len m2
 lk
 refine G0 ?_
 lk
 refine⟨r,_,a.x,_,_,rfl,h.o,cz.cl_Reader,cz.na_Reader_mends,rfl,?_⟩
 lk
 refine⟨.inl ⟨rfl,_,SqL.of m1⟩,?_⟩
 lk
 refine⟨n,rfl,h5,?_⟩
 lk
 refine⟨D8 (by z_go),fun p hp=>?_⟩
 lk
 have s1:=A6.new hp (.tup [.int i,.int i,.str (opn n),.str rule])
 refine I9 (s1 _ _ m1) (by rw[hul,sizeLine_eq];omega) ?_
 have u1:=Rup.mend h s1 (SqT.of A4) m2
 have g1:C3 H (upd (upd H p (.tup [.int i,.int i,.str (opn n),.str rule])) a.M (.lst (us++[.ref p]))):=C3.tr C3.upd C3.upd
 generalize upd (upd H p (.tup [.int i,.int i,.str (opn n),.str rule])) a.M (.lst (us++[.ref p]))=H1 at *
 lk
 refine M8 ?_
 lk
 refine⟨r,_,_,rfl,u1.ok.o,rfl,?_⟩
 lk
 refine⟨k_Reader,kB,r,bv,a,_,n,bs,b0,rfl,u1.ok,eb,h1,h2,h3,fun a' H' u2 g2=>?_⟩
 exact q a' H' (u1.tr u2 g1) (C3.tr g1 g2)
def M3(K:Fg):Sp:=fun vs H Q _=>∃ (kR kB r:Addr) (bv:V) (a:RAd) (st:Rst) (b0:Brn) (bs:List Brn) (rs:List Row),vs=[.ref r]/\RdO K H kR kB r bv a st/\BkO K H bv rs/\st.bs=b0::bs/\bs.length<=1000/\∀ H':Hp,A6 H H'->Q (.bl (decide (Q6 rs (some (R8 (bs.map Brn.n)))=some ("frame":Str)))) H'
def N0(K:Fg)(k_Reader:Addr):TS :=
 (G9 (tOp (qb6 K) (C7 (T9 K) [] E0 (A1 (Q5 K (A2 0) "book") (A1 (C7 (M2 K) [] E0 (A1 (N1 k_Reader "open_names" (D6 K) [] E0 (A2 0) A8) A8)) A8))) (tC (.str "frame"))))
theorem qp8(cz:Cz K k_Branch k_Reader)(h:M3 K vs H Q E):N0 K k_Reader {nx:=fun _ H'=>Q .non H',rt:=Q} (C9 ["self"] vs) H:=by
 obtain⟨kR,kB,r,bv,a,st,b0,bs,rs,rfl,h,hk,eb,hl,q⟩:=h
 obtain rfl:=M1 cz.ns_Reader h.kr
 show N0 K _ _ [some (.ref r)] H
 unfold N0
 lk
 refine G0 ?_
 lk
 refine⟨r,_,a.x,_,_,rfl,h.o,cz.cl_Reader,cz.na_Reader_book,rfl,?_⟩
 lk
 refine M8 ?_
 lk
 refine⟨r,_,_,rfl,h.o,rfl,?_⟩
 lk
 refine⟨k_Reader,kB,r,bv,a,st,b0,bs,rfl,h,eb,hl,fun p H1 s1 hp=>?_⟩
 lk
 refine⟨p,_,rfl,.inr hp,?_⟩
 lk
 refine⟨bv,some (R8 (bs.map Brn.n)),rs,rfl,(hk.same s1).rws,?_⟩
 lk
 refine xu8 ?_
 exact q _ s1
theorem xo7{f:α->Bool}:∀ {l zs:List α} {z:α},l.filter f=zs++[z]->∃ A B,l=A++z::B/\f z=true/\∀ c∈B,f c=false:=by
 intro l
 induction l with
 | nil=>intro zs z h;simp at h
 | cons x l ih =>
   intro zs z h
   by_cases hx:f x=true
   ·rw[List.filter_cons_of_pos hx] at h
    cases zs with
    | nil =>
      simp only[List.nil_append,List.cons.injEq] at h
      obtain⟨rfl,h⟩:=h
      exact⟨[],l,rfl,hx,fun c hc=>Bool.eq_false_iff.mpr (List.filter_eq_nil_iff.mp h c hc)⟩
    | cons y zs =>
      simp only[List.cons_append,List.cons.injEq] at h
      obtain⟨A,B,e,h1,h2⟩:=ih h.2
      exact⟨x::A,B,by rw[e];rfl,h1,h2⟩
   ·rw[List.filter_cons_of_neg hx] at h
    obtain⟨A,B,e,h1,h2⟩:=ih h
    exact⟨x::A,B,by rw[e];rfl,h1,h2⟩
theorem xz6{c:Bool}{p q:Prop}(hc:c=true)(h:p):if c=true then p else q:=by rw[if_pos hc];exact h
def LwP(rs:List Row)(l1:List Brn)(b:Brn)(l2:List Brn):Prop:=(wall rs b.n=true/\∀ c∈l2,wall rs c.n=false)\/(l1=[]/\∀ c∈b::l2,wall rs c.n=false)
abbrev qa5(K:Fg):TS :=
 (G9 (tIf (E3 (tOp wy4 (tCB (N5 K) (A1 (A2 1) A8)) (tC (.int 0)))) (tOp (L4 K) (A2 1) (tUn (rU fun i=>.int (-i)) (tC (.int 1)))) (tOp (L4 K) (Q5 K (A2 0) "branches") (tC (.int 0)))))
def L1(K:Fg):Sp:=fun vs H Q _=>∃ (kR kB r:Addr) (bv:V) (a:RAd) (st:Rst) (rs:List Row),vs=[.ref r]/\RdO K H kR kB r bv a st/\BkO K H bv rs/\st.bs≠[]/\st.bs.length<=1000/\∀ (m1 m2:List BA) (x:BA) (l1 l2:List Brn) (b:Brn) (H':Hp),A6 H H'->a.as=m1++x::m2->st.bs=l1++b::l2->m1.length=l1.length->LwP rs l1 b l2->Q (.ref x.o) H'
def P3(K:Fg):TS :=
 (B7 (E1 (qt3 [some 0,none] (qw7 K (Q5 K (A2 0) "branches")) (B1 1) (tB (C7 (Y6 K) [] E0 (A1 (Q5 K (A2 0) "book") (A1 (Q5 K (A2 1) "name") A8)))) (A2 1)) (B1 1))
 (qa5 K))
theorem qv0(cz:Cz K k_Branch k_Reader)(h:L1 K vs H Q E):P3 K {nx:=fun _ H'=>Q .non H',rt:=Q} (C9 ["self","walls"] vs) H:=by
 obtain⟨kR,kB,r,bv,a,st,rs,rfl,h,hk,hne,hl,q⟩:=h
 obtain rfl:=M1 cz.ns_Reader h.kr
 obtain rfl:=M1 cz.ns_Branch h.kb
 show P3 K _ [some (.ref r),none] H
 unfold P3
 have hb:=h.b
 have hbl:=hb.len
 let f:BA×Brn->Bool:=fun z=>wall rs z.2.n
 have zl:(a.as.zip st.bs).length=st.bs.length:=by rw[List.length_zip,hbl,Nat.min_self]
 have zg:∀ i x,a.as[i]?=some x->∃ c,st.bs[i]?=some c/\BrO K H k_Branch x c/\(a.as.zip st.bs)[i]?=some (x,c):=fun i x e=>by
  obtain⟨c,h1,h2⟩:=hb.get e
  exact⟨c,h1,h2,List.getElem?_zip_eq_some.mpr ⟨e,h1⟩⟩
 lk
 refine G0 ?_
 lk
 refine⟨r,_,a.x,_,_,rfl,h.o,cz.cl_Reader,cz.na_Reader_branches,rfl,?_⟩
 refine wg6 (.inl (SqL.of h.l)) (fun i ys H'=>H'=H/\ys=((((a.as.zip st.bs).take i).filter f).map fun z=>V.ref z.1.o)) ⟨rfl,rfl⟩ ?_ ?_ ?_ ?_ ?_
 ·rintro i ys H' hi ⟨_,rfl⟩
  rw[List.length_map]
  have:=List.length_filter_le f ((a.as.zip st.bs).take i)
  rw[List.length_take] at this
  exact D8 (by omega)
 ·rintro _ i ys H' _ ⟨rfl,_⟩;exact SqL.of h.l
 ·rintro hq i ys H' _ ⟨rfl,_⟩;exact hq
 ·rintro i v ys H' hi ⟨rfl,rfl⟩
  rw[List.getElem?_map] at hi
  obtain⟨z,hz,rfl⟩:=Option.map_eq_some_iff.mp hi
  obtain⟨c,hc,hB,hzz⟩:=zg i z hz
  refine J0 ?_
  lk
  refine G0 ?_
  lk
  refine⟨r,_,a.x,_,_,rfl,h.o,cz.cl_Reader,cz.na_Reader_book,rfl,?_⟩
  lk
  refine G0 ?_
  lk
  refine⟨z.o,_,z.x,_,_,rfl,hB.o,cz.cl_Branch,cz.na_Branch_name,rfl,?_⟩
  lk
  refine⟨bv,c.n,rs,rfl,hk.rws,?_⟩
  lk
  have et:((a.as.zip st.bs).take (i+1)).filter f=((a.as.zip st.bs).take i).filter f++(if wall rs c.n=true then[(z,c)] else[]):=by
   rw[qe6 hzz,List.filter_append]
   congr 1
   by_cases hw:wall rs c.n=true
   ·rw[if_pos hw,List.filter_cons_of_pos (by exact hw)];rfl
   ·rw[if_neg hw,List.filter_cons_of_neg (by exact hw)];rfl
  by_cases hw:wall rs c.n=true
  ·rw[hw]
   x_go
   lk
   refine⟨rfl,?_⟩
   rw[et,if_pos hw,List.map_append];rfl
  ·rw[Bool.eq_false_iff.mpr hw]
   refine qf3 ⟨rfl,?_⟩
   rw[et,if_neg hw,List.append_nil]
 ·rintro ys H' ⟨rfl,rfl⟩ l hl2
  have en:(a.as.zip st.bs).take (a.as.map fun z=>V.ref z.o).length=a.as.zip st.bs:=by rw[List.length_map,hbl,<-zl];exact List.take_length
  rw[en]
  have s1:=A6.new hl2 (.lst (((a.as.zip st.bs).filter f).map fun z=>V.ref z.1.o))
  have e1:(upd H' l (.lst (((a.as.zip st.bs).filter f).map fun z=>V.ref z.1.o))) l=_:=A4
  generalize upd H' l (.lst (((a.as.zip st.bs).filter f).map fun z=>V.ref z.1.o))=H1 at *
  have am:(a.as.zip st.bs).map Prod.fst=a.as:=List.map_fst_zip (by omega)
  have bm:(a.as.zip st.bs).map Prod.snd=st.bs:=List.map_snd_zip (by omega)
  show qa5 K _ _ _
  lk
  refine R7 (.inl (SqL.of e1)) ?_
  lk
  rcases List.eq_nil_or_concat ((a.as.zip st.bs).filter f) with hz|⟨zs,z,hz⟩
  ·rw[hz]
   k_go
   lk
   refine G0 ?_
   lk
   refine⟨r,_,a.x,_,_,rfl,s1 _ _ h.o,cz.cl_Reader,cz.na_Reader_branches,rfl,?_⟩
   lk
   obtain⟨b0,bs,eb⟩:=List.exists_cons_of_ne_nil hne
   obtain⟨m1,x,m2,ea,hm,hx⟩:=h.as_split (l1:=[]) eb
   obtain rfl:=List.eq_nil_of_length_eq_zero hm
   refine S4 (SqL.of (s1 _ _ h.l)) (v:=.ref x.o) (by rw[ea];exact yo1) ?_
   refine q [] m2 x [] bs b0 _ s1 ea eb rfl (.inr ⟨rfl,fun c hc=>?_⟩)
   rw[<-eb,<-bm] at hc
   obtain⟨w,hw,rfl⟩:=List.mem_map.mp hc
   have:=List.filter_eq_nil_iff.mp hz w hw
   exact Bool.eq_false_iff.mpr this
  ·rw[List.concat_eq_append] at hz
   rw[hz] at e1 ⊢
   refine xz6 (by simp) ?_
   lk
   refine⟨1,rfl,?_⟩
   refine S4 (SqL.of e1) (v:=.ref z.1.o) (ql8 (n:=zs.length) (by simp) (by simp)) ?_
   obtain⟨A,B,e2,e3,e4⟩:=xo7 hz
   refine q (A.map Prod.fst) (B.map Prod.fst) z.1 (A.map Prod.snd) (B.map Prod.snd) z.2 _ s1 (by rw[<-am,e2];simp) (by rw[<-bm,e2];simp) (by simp) (.inl ⟨e3,fun c hc=>?_⟩)
   obtain⟨w,hw,rfl⟩:=List.mem_map.mp hc
   exact e4 w hw
abbrev wb9(K:Fg):TS :=
 (T5 (E3 (tOp (qb6 K) (C7 (T9 K) [] E0 (A1 (A2 0) (A1 (A2 3) A8))) (tC (.str "anew"))))
 (G5 (tBM K "list" G6 (A2 2) (A1 (A2 3) A8))) O3)
abbrev qg4(K:Fg):TS :=
 (B7 (T5 (tB (C7 (Y6 K) [] E0 (A1 (A2 0) (A1 (A2 3) A8))))
 xq0 O3)
 (wb9 K))
def wz7(rs:List Row)(ns:List Str):List Str:=ns.filter fun n=>decide (Q6 rs (some n)=some ("anew":Str))
def qe7(rs:List Row)(ns:List Str):List Str:=wz7 rs (ns.takeWhile fun n=>!(wall rs n))
theorem xo8(rs:List Row)(ns:List Str):(wz7 rs ns).length<=ns.length:=List.length_filter_le _ _
theorem xd2(rs:List Row)(ns:List Str)(n:Str):wz7 rs (ns++[n])=wz7 rs ns++(if Q6 rs (some n)=some ("anew":Str) then[n] else[]):=by
 unfold wz7
 rw[List.filter_append]
 congr 1
 by_cases h:Q6 rs (some n)=some ("anew":Str)
 ·rw[if_pos h,List.filter_cons_of_pos (by exact decide_eq_true h)];rfl
 ·rw[if_neg h,List.filter_cons_of_neg (by simpa using h)];rfl
theorem xz7{f:Str->Bool}:∀ {ns:List Str} {i:Nat} {y:Str},ns[i]?=some y->(∀ z∈ns.take i,f z=true)->f y=false->ns.takeWhile f=ns.take i
 | [],_,_,h,_,_=>by simp at h
 | x::ns,0,y,h,_,hy=>by simp at h;subst h;rw[List.takeWhile_cons,hy];rfl
 | x::ns,i+1,y,h,hz,hy=>by
   rw[List.takeWhile_cons,hz x (by simp),List.take_succ_cons]
   show x::ns.takeWhile f=_
   rw[xz7 (by simpa using h) (fun z hzz=>hz z (by simp[hzz])) hy]
theorem yf9{ns:List Str}(hy:ns[i]?=some y)(hw:∀ z∈ns.take i,wall rs z=false)(hwy:wall rs y=true):qe7 rs ns=wz7 rs (ns.take i):=by
 unfold qe7
 rw[xz7 hy (fun z hz=>by rw[hw z hz];rfl) (by rw[hwy];rfl)]
theorem yo2{ns:List Str}(hw:∀ z∈ns,wall rs z=false):qe7 rs ns=wz7 rs ns:=by
 unfold qe7
 congr 1
 induction ns with
 | nil=>rfl
 | cons x ns ih=>rw[List.takeWhile_cons,hw x (by simp)];show x::_=_;rw[ih fun z hz=>hw z (by simp[hz])]
def S0(K:Fg):Sp:=fun vs H Q _=>∃ (v:V) (c:Addr) (ns:List Str) (rs:List Row),vs=[v,.ref c]/\BkO K H v rs/\SqT K H c (B3 ns)/\ns.length<=1000/\∀ (p:Addr) (H':Hp),A6 H H'->H p=none->H' p=some (.lst (B3 (qe7 rs ns)))->Q (.ref p) H'
def T2(K:Fg):TS :=
 (B7 (E1 (T7 A8) (B1 2))
 (B7 (qg5 (qw7 K (A2 1)) (B1 3)
 (qg4 K))
 (G9 (A2 2))))
theorem we8(h:S0 K vs H Q E):T2 K {nx:=fun _ H'=>Q .non H',rt:=Q} (C9 ["book","closed","waiting","name"] vs) H:=by
 obtain⟨v,c,ns,rs,rfl,hk,hc,hl,q⟩:=h
 show T2 K _ [some v,some (.ref c),none,none] H
 unfold T2
 lk
 refine⟨D8 (by z_go),fun p hp=>?_⟩
 have s1:=A6.new hp (.lst [])
 lk
 refine wh2 (.inr hc) s1 (fun i σ H'=>∃ x,σ=[some v,some (.ref c),some (.ref p),x]/\A6 H H'/\H' p=some (.lst (B3 (wz7 rs (ns.take i))))/\∀ y∈ns.take i,wall rs y=false) ⟨none,rfl,s1,A4,fun y hy=>by cases hy⟩ ?_ ?_ ?_
 ·rintro i σ H' ⟨x,rfl,s,_⟩;exact s
 ·rintro i x σ H' hi ⟨x0,rfl,s,hpp,hw⟩
  obtain⟨y,hy,rfl⟩:=qx5 hi
  refine J0 ?_
  show qg4 K _ _ _
  lk
  refine⟨v,y,rs,rfl,(hk.same s).rws,?_⟩
  lk
  by_cases hwy:wall rs y=true
  ·rw[hwy]
   x_go
   lk
   have ew:qe7 rs ns=wz7 rs (ns.take i):=yf9 hy hw hwy
   rw[<-ew] at hpp
   exact q p H' s hp hpp
  ·have hwf:=Bool.eq_false_iff.mpr hwy
   rw[hwf]
   k_go
   lk
   refine⟨v,some y,rs,rfl,(hk.same s).rws,?_⟩
   lk
   refine xu8 ?_
   lk
   have hw2:∀ z∈ns.take (i+1),wall rs z=false:=fun z hz=>by
    rw[qe6 hy] at hz
    rcases List.mem_append.mp hz with hz|hz
    ·exact hw z hz
    ·rw[List.mem_singleton.mp hz];exact hwf
   have hwl:=xo8 rs (ns.take i)
   have:(ns.take i).length<=ns.length:=by rw[List.length_take];omega
   by_cases ha:Q6 rs (some y)=some ("anew":Str)
   ·rw[decide_eq_true ha]
    x_go
    lk
    refine⟨.inl ⟨rfl,_,SqL.of hpp⟩,?_⟩
    lk
    refine I9 hpp (by rw[C1,sizeLine_eq];omega) ?_
    rw[qx6]
    refine⟨_,rfl,A6.put s hp _,?_,hw2⟩
    rw[A4,qe6 hy,xd2,if_pos ha]
   ·rw[decide_eq_false ha]
    k_go
    lk
    exact⟨_,rfl,s,by rw[qe6 hy,xd2,if_neg ha,List.append_nil];exact hpp,hw2⟩
 ·rintro σ H' ⟨x,rfl,s,hpp,hw⟩
  rw[C1,List.take_length] at *
  lk
  refine q p H' s hp ?_
  rw[yo2 hw];exact hpp
def Q9:List Brn->List Tr
 | []=>[]
 | c::cs=>[Tr.nd c.n (c.ps++Q9 cs)]
def clM(i:Int)(rule:Str)(c:Brn):Mnd:=⟨i,i,cls c.n,rule⟩
def xh5(rs:List Row)(bs:List Brn):Bool:=bs.any fun c=>wall rs c.n
def wv9(rs:List Row)(f:List Str->List Str):List Brn->List Brn
 | []=>[]
 | c::t=>if xh5 rs t=true then c::wv9 rs f t else if wall rs c.n=true then{c with ws:=f c.ws}::t else c::t
def yy9(f:List Str->List Str):List Brn->List Brn
 | []=>[]
 | c::t=>{c with ws:=f c.ws}::t
def wUp(rs:List Row)(f:List Str->List Str)(bs:List Brn):List Brn:=if xh5 rs bs=true then wv9 rs f bs else yy9 f bs
theorem xz8{bs:List Brn}(h:∀ c∈bs,wall rs c.n=false):xh5 rs bs=false:=by
 unfold xh5
 rw[List.any_eq_false]
 intro c hc
 rw[h c hc];decide
theorem xo9(h:wall rs b.n=true):xh5 rs (l1++b::l2)=true:=by
 unfold xh5
 rw[List.any_eq_true]
 exact⟨b,by simp,h⟩
theorem xp0{rs:List Row}{f:List Str->List Str}{b:Brn}{l2:List Brn}(h1:wall rs b.n=true)(h2:∀ c∈l2,wall rs c.n=false):∀ l1:List Brn,wv9 rs f (l1++b::l2)=l1++{b with ws:=f b.ws}::l2
 | []=>by
   show(if xh5 rs l2=true then _ else if wall rs b.n=true then _ else _)=_
   rw[xz8 h2,if_neg (by decide),if_pos h1];rfl
 | c::l1=>by
   show(if xh5 rs (l1++b::l2)=true then c::wv9 rs f (l1++b::l2) else _)=_
   rw[xo9 h1,if_pos rfl,xp0 h1 h2 l1];rfl
theorem zg1(h:LwP rs l1 b l2):wUp rs f (l1++b::l2)=l1++{b with ws:=f b.ws}::l2:=by
 unfold wUp
 rcases h with⟨h1,h2⟩|⟨rfl,h2⟩
 ·rw[xo9 h1,if_pos rfl,xp0 h1 h2]
 ·rw[List.nil_append,xz8 h2,if_neg (by decide)];rfl
section
variable{kR kB r:Addr}{bv:V}{a:RAd}{st:Rst}
theorem RdO.xnd{x:BA}(h:RdO K H kR kB r bv a st)(ea:a.as=m1++x::m2):x.fp.Nodup:=by
 have:=h.apart.2.2.2.2.2.2.2.2.2.2
 rw[ea,P9,P1,List.nodup_append,List.nodup_append] at this
 exact this.2.1.1
theorem RdO.up(h:RdO K H kR kB r bv a st)(s:A6 H H'):Rup K kR kB r bv H a H' a st:=.keep (h.same s) fun c o e _=>s c o e
theorem Rup.wait{x:BA}(h:RdO K H kR kB r bv a st)(ea:a.as=m1++x::m2)(eb:st.bs=l1++b::l2)(hl:m1.length=l1.length) :
 Rup K kR kB r bv H a (upd H x.w (.lst (B3 ws))) {a with as:=m1++x::m2} {st with bs:=l1++{b with ws:=ws}::l2}:=by
 have hb:=h.b
 rw[ea,eb] at hb
 have hx:=(hb.split hl).2.1
 have xnd:=h.xnd ea
 have no:x.o≠x.w:=by simp[BA.fp] at xnd;exact xnd.1.2
 have nq:x.q≠x.w:=by simp[BA.fp] at xnd;exact xnd.2
 have tk:P8 H (upd H x.w (.lst (B3 ws))):=J7 (.inl ⟨_,hx.w⟩)
 obtain⟨us,q1,q2⟩:=hx.q
 refine Rup.swap h ea eb hl (fun z u e n=>D1 e fun y=>n (by rw[y];simp[BA.fp])) ⟨D1 hx.o no,tk.sqT hx.p,⟨us,D1 q1 nq,Dvs.tupK tk _ _ (X3 _) q2⟩,A4⟩ (fun z hz=>.inl hz) xnd rfl
end
abbrev V3(K:Fg)(k_Reader:Addr):TS :=
 (B7 (G5 (tBM K "list" G6 (Q5 K (A2 0) "mends") (A1 (W3 (A1 (A2 2) (A1 (A2 2) (A1 (C7 (qe0 K) [] E0 (A1 (A2 5) A8)) (A1 (A2 3) A8))))) A8)))
 (G5 (N1 k_Reader "leave" (P2 K) [] E0 (A2 0) A8)))
abbrev V4(K:Fg)(k_Reader:Addr):TS :=
 (G5 (tBM K "list" wq8 (Q5 K (N1 k_Reader "last_wall" (L1 K) [] E0 (A2 0) A8) "waiting") (A1 (C7 (S0 K) [] E0 (A1 (Q5 K (A2 0) "book") (A1 (A2 4) A8))) A8)))
abbrev V5(K:Fg)(k_Reader:Addr):TS :=
 (B7 (qg5 (yl9 K (A1 (A2 4) A8)) (B1 5)
 (V3 K k_Reader))
 (V4 K k_Reader))
def G8(K:Fg):Sp:=fun vs H Q _=>∃ (kR kB r:Addr) (bv:V) (a:RAd) (st:Rst) (rs:List Row) (pre cl:List Brn) (b:Brn) (i:Int) (rule:Str),vs=[.ref r,.int pre.length,.int i,.str rule]/\RdO K H kR kB r bv a st/\BkO K H bv rs/\st.bs=pre++b::cl/\st.bs.length<=900/\(∀ c∈st.bs,c.n.length<=4000/\c.ps.length<=90000/\c.ws.length<=90000)/\st.ms.length+cl.length<=90000/\∀ a' H',Rup K kR kB r bv H a H' a' {st with bs:=wUp rs (·++qe7 rs (cl.map Brn.n)) (pre++[{b with ps:=b.ps++Q9 cl}]),ms:=st.ms++cl.reverse.map (clM i rule)}->C3 H H'->Q .non H'
def M4(K:Fg)(k_Reader:Addr):TS :=
 (B7 (E1 (tSl (xs8 K) (N1 k_Reader "open_names" (D6 K) [] E0 (A2 0) A8) (S3 (A2 1)) qg6) (B1 4))
 (V5 K k_Reader))
theorem qo3(cz:Cz K k_Branch k_Reader)(h:G8 K vs H Q E):M4 K k_Reader {nx:=fun _ H'=>Q .non H',rt:=Q} (C9 ["self","kept","start","rule","closed","name"] vs) H:=by
 obtain⟨kR,kB,r,bv,a,st,rs,pre,cl,b,i,rule,rfl,h,hk,eb,hl,hall,hms,q⟩:=h
 obtain rfl:=M1 cz.ns_Reader h.kr
 obtain rfl:=M1 cz.ns_Branch h.kb
 show M4 K _ _ [some (.ref r),some (.int pre.length),some (.int i),some (.str rule),none,none] H
 unfold M4
 obtain⟨b0,bs0,eb0⟩:∃ b0 bs0,st.bs=b0::bs0:=by rw[eb];cases pre <;> exact⟨_,_,rfl⟩
 have hl0:bs0.length<=1000:=by rw[eb0] at hl;simp at hl;omega
 have hdrop:bs0.drop pre.length=cl:=by
  have e:(b0::bs0).drop (pre.length+1)=cl:=by
   rw[<-eb0,eb,show pre++b::cl=(pre++[b])++cl by simp]
   rw[List.drop_left' (by simp)]
  simpa using e
 lk
 refine M8 ?_
 lk
 refine⟨r,_,_,rfl,h.o,rfl,?_⟩
 lk
 refine⟨k_Reader,k_Branch,r,bv,a,st,b0,bs0,rfl,h,eb0,hl0,fun p H1 s1 hp=>?_⟩
 lk
 refine xl9 hp fun c H2 s2 hc=>?_
 have ecut:qf2 (B3 (bs0.map Brn.n)) (some (pre.length:Int)) none=B3 (cl.map Brn.n):=by
  rw[xd1 (by omega),Int.toNat_natCast,<-hdrop]
  simp[B3,List.map_drop]
 rw[ecut] at hc
 have s12:=A6.tr s1 s2
 have h2:=h.same s12
 have hk2:=hk.same s12
 show V5 K _ _ _ _
 lk
 refine yu8 ?_
 lk
 have hcll:cl.length<=900:=by rw[eb] at hl;simp at hl;omega
 refine ym0 hc (fun j σ H'=>∃ x a' A y C,σ=[some (.ref r),some (.int pre.length),some (.int i),some (.str rule),some (.ref c),x]/\pre++b::cl=A++y::C/\C.length=j/\j<=cl.length/\Rup K k_Reader k_Branch r bv H2 a H' a' {st with bs:=A++[{y with ps:=y.ps++Q9 C}],ms:=st.ms++C.reverse.map (clM i rule)}/\C3 H2 H') ?_ ?_ ?_ ?_
 ·obtain⟨A,y,e⟩:∃ A y,pre++b::cl=A++[y]:=by
   rcases List.eq_nil_or_concat (pre++b::cl) with e|⟨A,y,e⟩
   ·simp at e
   ·exact⟨A,y,by rw[e,List.concat_eq_append]⟩
  refine⟨none,a,A,y,[],rfl,e,rfl,Nat.zero_le _,?_,fun z hz=>hz⟩
  have:({st with bs:=A++[{y with ps:=y.ps++Q9 []}],ms:=st.ms++[].reverse.map (clM i rule)}:Rst)=st:=by
   cases st
   simp only[Q9,List.append_nil,List.reverse_nil,List.map_nil] at *
   rw[eb,e]
  rw[this]
  exact .keep h2 fun c o e _=>e
 ·rintro j σ H' ⟨x,a',A,y,C,rfl,_,_,_,u,_⟩
  exact(u.tupK h2).sqT hc
 ·rintro j v σ H' hv hj ⟨x0,a',A,y,C,rfl,e,eC,hjc,u,g⟩
  obtain⟨nm,hnm,rfl⟩:=qx5 hv
  rw[C1,List.length_map] at hj
  rw[C1,List.length_map,List.getElem?_map] at hnm
  obtain⟨y2,hy2,rfl⟩:=Option.map_eq_some_iff.mp hnm
  have hlen:A.length=(pre++[b]).length+(cl.length-1-j):=by
   have:=congrArg List.length e
   simp only[List.length_append,List.length_cons,List.length_nil] at this ⊢
   omega
  have hyy:y2=y:=by
   have e1:(A++y::C)[A.length]?=some y:=by simp
   rw[<-e,show pre++b::cl=(pre++[b])++cl by simp,hlen,List.getElem?_append_right (by omega),Nat.add_sub_cancel_left,hy2] at e1
   exact Option.some.inj e1
  subst hyy
  obtain⟨A',x,rfl⟩:∃ A' x,A=A'++[x]:=by
   rcases List.eq_nil_or_concat A with e1|⟨A',x,e1⟩
   ·subst e1;simp at hlen;omega
   ·exact⟨A',x,by rw[e1,List.concat_eq_append]⟩
  have inst:∀ z,z∈A'++x::y2::C->z∈st.bs:=fun z hz=>by rw[eb,e];simpa using hz
  have hx:=hall x (inst x (by simp))
  have hy:=hall y2 (inst y2 (by simp))
  obtain⟨us,m1,m2⟩:=u.ok.m
  have hul:=RdO.ms_len m2
  refine J0 ?_
  show V3 K _ _ _ _
  lk
  refine G0 ?_
  lk
  refine⟨r,_,a'.x,_,_,rfl,u.ok.o,cz.cl_Reader,cz.na_Reader_mends,rfl,?_⟩
  lk
  refine⟨.inl ⟨rfl,_,SqL.of m1⟩,?_⟩
  lk
  refine⟨y2.n,rfl,hy.1,?_⟩
  lk
  refine⟨D8 (by z_go),fun w hw=>?_⟩
  lk
  have s3:=A6.new hw (.tup [.int i,.int i,.str (cls y2.n),.str rule])
  refine I9 (s3 _ _ m1) (by rw[hul,sizeLine_eq];simp;omega) ?_
  have u1:=Rup.mend u.ok s3 (SqT.of A4) m2
  have g1:C3 H' (upd (upd H' w (.tup [.int i,.int i,.str (cls y2.n),.str rule])) a'.M (.lst (us++[.ref w]))):=C3.tr C3.upd C3.upd
  generalize upd (upd H' w (.tup [.int i,.int i,.str (cls y2.n),.str rule])) a'.M (.lst (us++[.ref w]))=H3 at *
  lk
  refine M8 ?_
  lk
  refine⟨r,_,_,rfl,u1.ok.o,rfl,?_⟩
  lk
  refine⟨k_Reader,k_Branch,r,bv,a',_,A',x,{y2 with ps:=y2.ps++Q9 C},rfl,u1.ok,by simp,hx.2.1,fun a2 H4 u2 g2=>?_⟩
  refine⟨_,a2,A',x,y2::C,rfl,by rw[e];simp,by simp[eC],by omega,?_,C3.tr (C3.tr g g1) g2⟩
  have:=(u.tr u1 g).tr u2 (C3.tr g g1)
  rw[List.reverse_cons,List.map_append,<-List.append_assoc]
  exact this
 ·rintro σ H' ⟨x,a',A,y,C,rfl,e,eC,_,u,g⟩
  rw[C1,List.length_map] at eC
  obtain⟨e1,e2⟩:=List.append_inj e (by have:=congrArg List.length e;simp at this;omega)
  obtain⟨rfl,rfl⟩:=List.cons.inj e2
  subst e1
  have tk:=u.tupK h2
  have hk3:=hk2.tupK tk
  have hc3:=tk.sqT hc
  have hlen3:(pre++[{b with ps:=b.ps++Q9 cl}]:List Brn).length<=900:=by rw[eb] at hl;simp at hl ⊢;omega
  show V4 K _ _ _ _
  lk
  refine G0 ?_
  refine M8 ?_
  lk
  refine⟨r,_,_,rfl,u.ok.o,rfl,?_⟩
  lk
  refine⟨k_Reader,k_Branch,r,bv,a',_,rs,rfl,u.ok,hk3,by simp,by show(pre++[_]).length<=1000;omega,fun m1 m2 x2 l1 l2 b2 H4 s4 ea2 eb2 hm2 lw=>?_⟩
  have h4:=u.ok.same s4
  have hb4:=h4.b
  rw[ea2,eb2] at hb4
  have hx4:=(hb4.split hm2).2.1
  have hws:b2.ws.length<=90000:=by
   have:b2∈(pre++[{b with ps:=b.ps++Q9 cl}]:List Brn):=by
    have e3:(pre++[{b with ps:=b.ps++Q9 cl}]:List Brn)=l1++b2::l2:=eb2
    rw[e3];simp
   rcases List.mem_append.mp this with h1|h1
   ·exact(hall b2 (by rw[eb];simp[h1])).2.2
   ·rw[List.mem_singleton.mp h1];exact(hall b (by rw[eb];simp)).2.2
  refine⟨x2.o,_,x2.x,_,_,rfl,hx4.o,cz.cl_Branch,cz.na_Branch_waiting,rfl,?_⟩
  lk
  refine⟨.inl ⟨rfl,_,SqL.of hx4.w⟩,?_⟩
  lk
  refine G0 ?_
  lk
  refine⟨r,_,a'.x,_,_,rfl,h4.o,cz.cl_Reader,cz.na_Reader_book,rfl,?_⟩
  lk
  refine⟨bv,c,cl.map Brn.n,rs,rfl,hk3.same s4,s4.sqT hc3,by rw[List.length_map];omega,fun w H5 s5 hw0 hw=>?_⟩
  lk
  have hwl:=xo8 rs ((cl.map Brn.n).takeWhile fun n=>!(wall rs n))
  have hwl2:(qe7 rs (cl.map Brn.n)).length<=900:=by
   have h1:((cl.map Brn.n).takeWhile fun n=>!(wall rs n)).length<=(cl.map Brn.n).length:=(List.takeWhile_sublist _).length_le
   rw[List.length_map] at h1
   unfold qe7;omega
  refine yl7 (s5 _ _ hx4.w) hw (by rw[C1,C1,sizeLine_eq];omega) ?_
  have h5:=h4.same s5
  have uw:=Rup.wait (ws:=b2.ws++qe7 rs (cl.map Brn.n)) h5 ea2 eb2 hm2
  have es:B3 b2.ws++B3 (qe7 rs (cl.map Brn.n))=B3 (b2.ws++qe7 rs (cl.map Brn.n)):=by simp[B3]
  rw[es]
  have uu:=((((h.up s12).tr u (A6.grow s12)).tr (u.ok.up s4) (C3.tr (A6.grow s12) g)).tr (h4.up s5) (C3.tr (C3.tr (A6.grow s12) g) (A6.grow s4))).tr uw (C3.tr (C3.tr (C3.tr (A6.grow s12) g) (A6.grow s4)) (A6.grow s5))
  refine q {a' with as:=m1++x2::m2} _ ?_ (C3.tr (C3.tr (C3.tr (C3.tr (A6.grow s12) g) (A6.grow s4)) (A6.grow s5)) C3.upd)
  have e3:(pre++[{b with ps:=b.ps++Q9 cl}]:List Brn)=l1++b2::l2:=eb2
  rw[e3,zg1 lw]
  exact uu
def S1(K:Fg):Sp:=fun vs H Q _=>∃ (kR kB r:Addr) (bv:V) (a:RAd) (st:Rst) (rs:List Row) (cl:List Brn) (b:Brn) (i:Int),vs=[.ref r,.int i]/\RdO K H kR kB r bv a st/\BkO K H bv rs/\st.bs=b::cl/\st.bs.length<=900/\(∀ c∈st.bs,c.n.length<=4000/\c.ps.length<=90000/\c.ws.length<=90000)/\st.ms.length+cl.length<=90000/\∀ a' H',Rup K kR kB r bv H a H' a' {st with bs:=wUp rs (·++qe7 rs (cl.map Brn.n)) [{b with ps:=b.ps++Q9 cl}],ms:=st.ms++cl.reverse.map (clM i "end")}->C3 H H'->Q .non H'
def T3(K:Fg)(k_Reader:Addr):TS :=
 (G5 (N1 k_Reader "close_behind" (G8 K) [] E0 (A2 0) (A1 (tC (.int 0)) (A1 (A2 1) (A1 (tC (.str "end")) A8)))))
theorem we9(cz:Cz K k_Branch k_Reader)(h:S1 K vs H Q E):T3 K k_Reader {nx:=fun _ H'=>Q .non H',rt:=Q} (C9 ["self","size"] vs) H:=by
 obtain⟨kR,kB,r,bv,a,st,rs,cl,b,i,rfl,h,hk,eb,hl,hall,hms,q⟩:=h
 obtain rfl:=M1 cz.ns_Reader h.kr
 show T3 K _ _ [some (.ref r),some (.int i)] H
 unfold T3
 lk
 refine M8 ?_
 lk
 refine⟨r,_,_,rfl,h.o,rfl,?_⟩
 lk
 exact⟨k_Reader,kB,r,bv,a,st,rs,[],cl,b,i, "end",rfl,h,hk,eb,hl,hall,hms,q⟩
theorem zm3(n p q w v:V):qe3 ("waiting":Str) v [(("name":Str),n),(("place":Str),p),(("parts":Str),q),(("waiting":Str),w)]=[(("name":Str),n),(("place":Str),p),(("parts":Str),q),(("waiting":Str),v)]:=by
 show(if(("name":Str)) = "waiting" then _ else _::(if(("place":Str)) = "waiting" then _ else _::(if(("parts":Str)) = "waiting" then _ else _::(if(("waiting":Str)) = "waiting" then _ else _))))=_
 rw[if_neg (by decide),if_neg (by decide),if_neg (by decide),if_pos rfl]
theorem zg2{H3:Hp}(h1:P8 H1 H2)(h2:P8 H2 H3):P8 H1 H3:=⟨fun c xs e=>h2.1 c xs (h1.1 c xs e),fun c o xs e=>h2.2 c o xs (h1.2 c o xs e)⟩
section
variable{kR kB r:Addr}{bv:V}{a:RAd}{st:Rst}
theorem Rup.waitN{x:BA}{w:Addr}(h:RdO K H kR kB r bv a st)(ea:a.as=m1++x::m2)(eb:st.bs=l1++b::l2)(hl:m1.length=l1.length)(hw:H w=none) :
 Rup K kR kB r bv H a (upd (upd H w (.lst (B3 ws))) x.o (.ins kB x.x (bF {x with w:=w} b))) {a with as:=m1++{x with w:=w}::m2} {st with bs:=l1++{b with ws:=ws}::l2}:=by
 have hb:=h.b
 rw[ea,eb] at hb
 have hx:=(hb.split hl).2.1
 have xnd:=h.xnd ea
 have no:x.o≠x.q:=by simp[BA.fp] at xnd;exact xnd.1.1
 have nwo:x.o≠w:=U0 hw hx.o
 obtain⟨us,q1,q2⟩:=hx.q
 have nwq:x.q≠w:=U0 hw q1
 have s1:=A6.new hw (.lst (B3 ws))
 have tk:P8 H (upd (upd H w (.lst (B3 ws))) x.o (.ins kB x.x (bF {x with w:=w} b))):=zg2 s1.tupK (J7 (.inr ⟨_,_,_,s1 _ _ hx.o⟩))
 refine Rup.swap h ea eb hl (fun z u e n=>D1 (s1 _ _ e) fun y=>n (by rw[y];simp[BA.fp])) ⟨A4,tk.sqT hx.p,⟨us,D1 (s1 _ _ q1) (Ne.symm no),Dvs.tupK tk _ _ (X3 _) q2⟩,D1 A4 (Ne.symm nwo)⟩ (fun z hz=>?_) ?_ rfl
 ·simp only[BA.fp,List.mem_cons,List.not_mem_nil,or_false] at hz ⊢
  rcases hz with rfl|rfl|rfl
  ·exact .inl (.inl rfl)
  ·exact .inl (.inr (.inl rfl))
  ·exact .inr hw
 ·simp[BA.fp,no,nwo,nwq]
end
def qp9(K:Fg):Sp:=fun _ _ _ _=>False
abbrev qh9(K:Fg)(k_Reader:Addr):TS :=
 (G5 (N1 k_Reader "put_in" (L7 K) [] E0 (A2 0) (A1 (A2 4) (A1 (A2 1) (A1 (tC (.str "anew")) A8)))))
abbrev qi0(K:Fg)(k_Reader:Addr):TS :=
 (T5 (tB (C7 (qp9 K) [] E0 (A1 (Q5 K (A2 0) "book") (A1 (N1 k_Reader "open_names" (D6 K) [] E0 (A2 0) A8) (A1 (A2 4) A8)))))
 (qh9 K k_Reader) O3)
abbrev T4(K:Fg)(k_Reader:Addr):TS :=
 (B7 (wb4 K (A2 2) (T7 A8) "waiting")
 (qg5 (qw7 K (A2 3)) (B1 4)
 (qi0 K k_Reader)))
def J8(K:Fg):Sp:=fun vs H Q _=>∃ (kR kB r:Addr) (bv:V) (a:RAd) (st:Rst) (rs:List Row) (i:Int),vs=[.ref r,.int i]/\RdO K H kR kB r bv a st/\BkO K H bv rs/\st.bs≠[]/\st.bs.length<=900/\(∀ c∈st.bs,c.ws=[])/\∀ a' H',Rup K kR kB r bv H a H' a' st->C3 H H'->Q .non H'
def L0(K:Fg)(k_Reader:Addr):TS :=
 (B7 (E1 (N1 k_Reader "last_wall" (L1 K) [] E0 (A2 0) A8) (B1 2))
 (B7 (E1 (Q5 K (A2 2) "waiting") (B1 3))
 (T4 K k_Reader)))
theorem qj6(cz:Cz K k_Branch k_Reader)(h:J8 K vs H Q E):L0 K k_Reader {nx:=fun _ H'=>Q .non H',rt:=Q} (C9 ["self","start","wall","names","name"] vs) H:=by
 obtain⟨kR,kB,r,bv,a,st,rs,i,rfl,h,hk,hne,hl,hall,q⟩:=h
 obtain rfl:=M1 cz.ns_Reader h.kr
 obtain rfl:=M1 cz.ns_Branch h.kb
 show L0 K _ _ [some (.ref r),some (.int i),none,none,none] H
 unfold L0
 lk
 refine M8 ?_
 lk
 refine⟨r,_,_,rfl,h.o,rfl,?_⟩
 lk
 refine⟨k_Reader,k_Branch,r,bv,a,st,rs,rfl,h,hk,hne,by omega,fun m1 m2 x l1 l2 b H1 s1 ea eb hm lw=>?_⟩
 have h1:=h.same s1
 have hb1:=h1.b
 rw[ea,eb] at hb1
 have hx:=(hb1.split hm).2.1
 have ew:b.ws=[]:=hall b (by rw[eb];simp)
 lk
 refine G0 ?_
 lk
 refine⟨x.o,_,x.x,_,_,rfl,hx.o,cz.cl_Branch,cz.na_Branch_waiting,rfl,?_⟩
 show T4 K _ _ _ _
 refine Y5 (qg7 ?_)
 lk
 refine⟨D8 (by z_go),fun w hw=>?_⟩
 lk
 have s2:=A6.new hw (.lst [])
 refine⟨x.o,_,x.x,_,rfl,s2 _ _ hx.o,cz.cl_Branch,cz.na_Branch_waiting,by unfold bF;simp,?_⟩
 unfold bF
 rw[zm3]
 have u:=Rup.waitN (ws:=[]) h1 ea eb hm hw
 have xnd:=h1.xnd ea
 have no:x.w≠x.o:=by simp[BA.fp] at xnd;exact Ne.symm xnd.1.2
 have hw3:(upd (upd H1 w (.lst [])) x.o (.ins k_Branch x.x [(("name":Str),.str b.n),(("place":Str),.ref x.p),(("parts":Str),.ref x.q),(("waiting":Str),.ref w)])) x.w=some (.lst (B3 b.ws)):=D1 (s2 _ _ hx.w) no
 have g:C3 H1 (upd (upd H1 w (.lst [])) x.o (.ins k_Branch x.x [(("name":Str),.str b.n),(("place":Str),.ref x.p),(("parts":Str),.ref x.q),(("waiting":Str),.ref w)])):=C3.tr C3.upd C3.upd
 have est:({st with bs:=l1++{b with ws:=[]}::l2}:Rst)=st:=by
  rw[show({b with ws:=[]}:Brn)=b by rw[<-ew],<-eb]
 rw[est] at u
 have u':Rup K k_Reader k_Branch r bv H1 a (upd (upd H1 w (.lst [])) x.o (.ins k_Branch x.x [(("name":Str),.str b.n),(("place":Str),.ref x.p),(("parts":Str),.ref x.q),(("waiting":Str),.ref w)])) {a with as:=m1++{x with w:=w}::m2} st:=u
 generalize upd (upd H1 w (.lst [])) x.o (.ins k_Branch x.x [(("name":Str),.str b.n),(("place":Str),.ref x.p),(("parts":Str),.ref x.q),(("waiting":Str),.ref w)])=H2 at *
 rw[ew] at hw3
 lk
 refine wt3 (SqL.of hw3) (fun j σ H'=>H'=H2) rfl ?_ ?_ ?_
 ·rintro j σ H' _ rfl;exact SqL.of hw3
 ·intro j v σ H' hv;cases j <;> cases hv
 ·rintro σ H' rfl
  exact q _ _ ((h.up s1).tr u' (A6.grow s1)) (C3.tr (A6.grow s1) g)
abbrev qv1(K:Fg):TS :=
 (G5 (tBM K "list" G6 (Q5 K (A2 4) "parts") (A1 (tOp (qw9 K) (A2 5) (A2 3)) A8)))
def adT(K:Fg):TS :=
 (B7 (G5 (tBM K "list" G6 (Q5 K (A2 0) "laid") (A1 (W3 (A1 (A2 1) (A1 (A2 2) (A1 (tOp (qw9 K) (Q5 K (A2 4) "place") (W3 (A1 (tCB (N5 K) (A1 (Q5 K (A2 4) "parts") A8)) A8))) (A1 (tCB (N5 K) (A1 (A2 5) A8)) A8))))) A8)))
 (qv1 K))
section
variable{kR kB r:Addr}{bv:V}{a:RAd}{st:Rst}
theorem Rup.parts{x:BA}{ps:List Tr}(h:RdO K H kR kB r bv a st)(ea:a.as=m1++x::m2)(eb:st.bs=l1++b::l2)(hl:m1.length=l1.length)(hd:Dvs K H (Tr.das ps) us) :
 Rup K kR kB r bv H a (upd H x.q (.lst us)) {a with as:=m1++x::m2} {st with bs:=l1++{b with ps:=ps}::l2}:=by
 have hb:=h.b
 rw[ea,eb] at hb
 have hx:=(hb.split hl).2.1
 have xnd:=h.xnd ea
 have no:x.o≠x.q:=by simp[BA.fp] at xnd;exact xnd.1.1
 have nq:x.w≠x.q:=by simp[BA.fp] at xnd;exact Ne.symm xnd.2
 obtain⟨us0,q1,q2⟩:=hx.q
 have tk:P8 H (upd H x.q (.lst us)):=J7 (.inl ⟨_,q1⟩)
 refine Rup.swap h ea eb hl (fun z u e n=>D1 e fun y=>n (by rw[y];simp[BA.fp])) ⟨D1 hx.o no,tk.sqT hx.p,⟨us,A4,Dvs.tupK tk _ _ (X3 _) hd⟩,D1 hx.w nq⟩ (fun z hz=>.inl hz) xnd rfl
theorem Rup.laid{p2:Addr}{i:Int}{pl:List Int}(h:RdO K H kR kB r bv a st)(s1:A6 H H1)(e1:SqT K H1 p [.int i,.str g,.ref p2,.int m])(e2:SqT K H1 p2 (D7 pl))(m2:Dvs K H (st.ls.map Lad.da) us) :
 Rup K kR kB r bv H a (upd H1 a.A (.lst (us++[.ref p]))) a {st with ls:=st.ls++[⟨i,g,pl,m⟩]}:=by
 refine .keep ((h.same s1).setA ?_) fun c o e n=>?_
 ·rw[List.map_append]
  exact Dvs.append (Dvs.same s1 _ _ m2) (Dvs.one (C6.mpr ⟨p,_,rfl,e1,B6 (M0.mpr rfl) (B6 (E5.mpr rfl) (B6 (C6.mpr ⟨p2,_,rfl,e2,wh3.mpr rfl⟩) (B6 (M0.mpr rfl) G1)))⟩))
 ·rw[B2 (fun z=>n (by rw[z];simp[RAd.fp]))];exact s1 c o e
theorem zg3(cz:Cz K k_Branch k_Reader){x:BA}{i:Int}{told u:Str}(h:RdO K H k_Reader k_Branch r bv a st)(ea:a.as=m1++x::[])(eb:st.bs=l1++b::[])(hl:m1.length=l1.length)(h1:b.ps.length<=90000)(h2:b.pl.length<=1000)(h3:st.ls.length<=90000)(h4:u.length+told.length<=1000000)(q:∀ a' H',Rup K k_Reader k_Branch r bv H a H' a' {st with bs:=l1++[{b with ps:=b.ps++[Tr.tx (u++told)]}],ls:=st.ls++[⟨i,g,b.pl++[(b.ps.length:Int)],u.length⟩]}->C3 H H'->D.nx [some (.ref r),some (.int i),some (.str g),some (.str told),some (.ref x.o),some (.str u)] H') :
 adT K D [some (.ref r),some (.int i),some (.str g),some (.str told),some (.ref x.o),some (.str u)] H:=by
 unfold adT
 have hb:=h.b
 rw[ea,eb] at hb
 have hx:=(hb.split hl).2.1
 obtain⟨us,q1,q2⟩:=hx.q
 obtain⟨ls,l1',l2'⟩:=h.d
 have hul:=wa1 q2
 have hll:ls.length=st.ls.length:=by have:=l2'.length;rw[List.length_map] at this;exact this
 lk
 refine G0 ?_
 lk
 refine⟨r,_,a.x,_,_,rfl,h.o,cz.cl_Reader,cz.na_Reader_laid,rfl,?_⟩
 lk
 refine⟨.inl ⟨rfl,_,SqL.of l1'⟩,?_⟩
 lk
 refine G0 ?_
 lk
 refine⟨x.o,_,x.x,_,_,rfl,hx.o,cz.cl_Branch,cz.na_Branch_place,rfl,?_⟩
 lk
 refine G0 ?_
 lk
 refine⟨x.o,_,x.x,_,_,rfl,hx.o,cz.cl_Branch,cz.na_Branch_parts,rfl,?_⟩
 lk
 refine R7 (.inl (SqL.of q1)) ?_
 rw[hul]
 lk
 refine⟨D8 (by z_go),fun p1 hp1=>?_⟩
 have s1:=A6.new hp1 (.tup [.int b.ps.length])
 refine wt6 (s1.sqT hx.p) (SqT.of A4) (by rw[M6];exact D8 (by show _+1<=_;omega)) fun p2 H2 s2 hp2=>?_
 rw[show D7 b.pl++[V.int b.ps.length]=D7 (b.pl++[(b.ps.length:Int)]) by simp[D7]] at hp2
 have s12:=A6.tr s1 s2
 lk
 refine .inr (.inl ⟨u,rfl,by rw[sizeLine_eq];omega,?_⟩)
 lk
 refine⟨D8 (by z_go),fun p3 hp3=>?_⟩
 have s3:=A6.new hp3 (.tup [.int i,.str g,.ref p2,.int u.length])
 have s13:=A6.tr s12 s3
 lk
 refine I9 (s13 _ _ l1') (by rw[hll,sizeLine_eq];omega) ?_
 have u1:=Rup.laid h s13 (SqT.of A4) (s3.sqT hp2) l2'
 have g1:C3 H (upd (upd H2 p3 (.tup [.int i,.str g,.ref p2,.int u.length])) a.A (.lst (ls++[.ref p3]))):=C3.tr (A6.grow s13) C3.upd
 generalize upd (upd H2 p3 (.tup [.int i,.str g,.ref p2,.int u.length])) a.A (.lst (ls++[.ref p3]))=H3 at *
 have hb3:=u1.ok.b
 rw[show({st with ls:=st.ls++[⟨i,g,b.pl++[(b.ps.length:Int)],u.length⟩]}:Rst).bs=st.bs from rfl,ea,eb] at hb3
 have hx3:=(hb3.split hl).2.1
 obtain⟨us3,q3,q4⟩:=hx3.q
 have hul3:=wa1 q4
 lk
 refine G0 ?_
 lk
 refine⟨x.o,_,x.x,_,_,rfl,hx3.o,cz.cl_Branch,cz.na_Branch_parts,rfl,?_⟩
 lk
 refine⟨.inl ⟨rfl,_,SqL.of q3⟩,?_⟩
 lk
 refine .inl (qo1 (by rw[sizeLine_eq];omega) ?_)
 lk
 refine I9 q3 (by rw[hul3,sizeLine_eq];omega) ?_
 have u2:=Rup.parts (ps:=b.ps++[Tr.tx (u++told)]) (us:=us3++[.str (u++told)]) u1.ok ea eb hl (by
  rw[Z7,List.map_append,<-Z7]
  exact Dvs.append q4 (Dvs.one (E5.mpr rfl)))
 exact q _ _ (u1.tr u2 g1) (C3.tr g1 C3.upd)
end
def adP(ps:List Tr)(t:Str):List Tr:=match ps.getLast? with|some (.tx u)=>ps.dropLast++[.tx (u++t)]|_=>ps++[.tx t]
def adN(ps:List Tr):Nat:=match ps.getLast? with|some (.tx _)=>ps.length-1|_=>ps.length
def adA(ps:List Tr):Nat:=match ps.getLast? with|some (.tx u)=>u.length|_=>0
theorem xd3(t:Str):("":Str)++t=t:=(qd7 _ _).mpr (by rw[PySem.Str.cps_append,Array.toList_append];rfl)
theorem xp1:∀ {ds:List PyData} {d:PyData} {vs:List V} {v:V},Dvs K H (ds++[d]) (vs++[v])->Dvs K H ds vs
 | [],d,[],v,_=>G1
 | [],d,w::vs,v,h=>by have:=h.length;simp at this
 | e::ds,d,[],v,h=>by have:=h.length;simp at this
 | e::ds,d,w::vs,v,h=>by
   rw[List.cons_append,List.cons_append,Dvs] at h
   obtain⟨w',r,e1,h1,h2⟩:=h
   obtain⟨rfl,rfl⟩:=List.cons.inj e1
   exact B6 h1 (xp1 h2)
abbrev qv2(K:Fg):TS :=
 (B7 (T5 (wp1 (E3 (tOp wy4 (tCB (N5 K) (A1 (Q5 K (A2 4) "parts") A8)) (tC (.int 0)))) (tB (C7 (qr6 K) [] E0 (A1 (tOp (L4 K) (Q5 K (A2 4) "parts") (tUn (rU fun i=>.int (-i)) (tC (.int 1)))) A8))))
 (E1 (xk4 K "list" xk6 (Q5 K (A2 4) "parts")) (B1 5)) O3)
 (adT K))
def P4(K:Fg):Sp:=fun vs H Q _=>∃ (kR kB r:Addr) (bv:V) (a:RAd) (st:Rst) (l1:List Brn) (b:Brn) (i:Int) (g told:Str),vs=[.ref r,.int i,.str g,.str told]/\RdO K H kR kB r bv a st/\st.bs=l1++[b]/\b.ps.length<=90000/\b.pl.length<=1000/\st.ls.length<=90000/\adA b.ps+told.length<=1000000/\∀ a' H',Rup K kR kB r bv H a H' a' {st with bs:=l1++[{b with ps:=adP b.ps told}],ls:=st.ls++[⟨i,g,b.pl++[(adN b.ps:Int)],adA b.ps⟩]}->C3 H H'->Q .non H'
def Q0(K:Fg):TS :=
 (B7 (E1 (tOp (L4 K) (Q5 K (A2 0) "branches") (tUn (rU fun i=>.int (-i)) (tC (.int 1)))) (B1 4))
 (B7 (E1 (tC (.str "")) (B1 5))
 (qv2 K)))
theorem qy1(cz:Cz K k_Branch k_Reader)(h:P4 K vs H Q E):Q0 K {nx:=fun _ H'=>Q .non H',rt:=Q} (C9 ["self","start","signs","told","branch","ahead"] vs) H:=by
 obtain⟨kR,kB,r,bv,a,st,l1,b,i,g,told,rfl,h,eb,h1,h2,h3,h4,q⟩:=h
 obtain rfl:=M1 cz.ns_Reader h.kr
 obtain rfl:=M1 cz.ns_Branch h.kb
 show Q0 K _ [some (.ref r),some (.int i),some (.str g),some (.str told),none,none] H
 unfold Q0
 obtain⟨m1,x,m2,ea,hm,hx⟩:=h.as_split eb
 have hn:=h.b.len
 rw[ea,eb] at hn
 simp only[List.length_append,List.length_cons,List.length_nil] at hn
 obtain rfl:m2=[]:=List.eq_nil_of_length_eq_zero (by omega)
 obtain⟨us,q1,q2⟩:=hx.q
 have hul:=wa1 q2
 lk
 refine G0 ?_
 lk
 refine⟨r,_,a.x,_,_,rfl,h.o,cz.cl_Reader,cz.na_Reader_branches,rfl,?_⟩
 lk
 refine⟨1,rfl,?_⟩
 refine S4 (SqL.of h.l) (v:=.ref x.o) (ql8 (n:=m1.length) (by rw[ea];simp) (by rw[ea];simp)) ?_
 lk
 refine G0 ?_
 lk
 refine⟨x.o,_,x.x,_,_,rfl,hx.o,cz.cl_Branch,cz.na_Branch_parts,rfl,?_⟩
 lk
 refine R7 (.inl (SqL.of q1)) ?_
 rw[hul]
 lk
 rcases List.eq_nil_or_concat b.ps with hps|⟨P,t,hps⟩
 ·rw[hps]
  k_go
  lk
  refine zg3 cz h ea eb hm h1 h2 h3 (by show 0+_<=_;omega) fun a' H' u g'=>q a' H' ?_ g'
  rw[xd3] at u
  have e1:adP b.ps told=b.ps++[.tx told]:=by rw[hps];rfl
  have e2:adN b.ps=b.ps.length:=by rw[hps];rfl
  have e3:adA b.ps=0:=by rw[hps];rfl
  rw[e1,e2,e3]
  exact u
 ·rw [List.concat_eq_append] at hps
  have hgl:b.ps.getLast?=some t:=by rw[hps,List.getLast?_concat]
  rw[hps] at hul
  refine xz6 (by rw[hps];simp) ?_
  lk
  refine G0 ?_
  lk
  refine⟨x.o,_,x.x,_,_,rfl,hx.o,cz.cl_Branch,cz.na_Branch_parts,rfl,?_⟩
  lk
  refine⟨1,rfl,?_⟩
  obtain⟨ut,eu,du⟩:=yv2 q2 (i:=P.length) (t:=t) (by rw[hps];simp)
  refine S4 (SqL.of q1) (v:=ut) (ql8 (n:=P.length) (by rw[hul];simp) eu) ?_
  lk
  refine⟨t,ut,rfl,du,?_⟩
  lk
  cases t with
  | tx u0 =>
    x_go
    lk
    refine G0 ?_
    lk
    refine⟨x.o,_,x.x,_,_,rfl,hx.o,cz.cl_Branch,cz.na_Branch_parts,rfl,?_⟩
    lk
    refine⟨.inl ⟨rfl,_,SqL.of q1⟩,?_⟩
    obtain⟨us1,eus⟩:∃ us1,us=us1++[.str u0]:=by
     have hut:ut=.str u0:=E5.mp du
     refine⟨us.take P.length,?_⟩
     rw[<-hut]
     have:=qe6 eu
     rw[<-this,List.take_of_length_le (by rw[hul];simp)]
    rw[eus] at q1
    refine xl8 q1 ?_
    have dP:Dvs K H (Tr.das P) us1:=by
     rw[eus,hps,Z7,List.map_append,<-Z7] at q2
     exact xp1 q2
    have u1:=Rup.parts (ps:=P) h ea eb hm dP
    have g1:C3 H (upd H x.q (.lst us1)):=C3.upd
    generalize upd H x.q (.lst us1)=H1 at *
    lk
    have e3:adA b.ps=u0.length:=by unfold adA;rw[hgl]
    refine zg3 cz u1.ok rfl rfl hm (by show P.length<=_;rw[hps] at h1;simp at h1;omega) h2 h3 (by rw[e3] at h4;exact h4) fun a' H' u g'=>q a' H' ?_ (C3.tr g1 g')
    have e1:adP b.ps told=P++[.tx (u0++told)]:=by unfold adP;rw[hgl];rw[hps];simp
    have e2:adN b.ps=P.length:=by unfold adN;rw[hgl,hps];simp
    rw[e1,e2,e3]
    exact u1.tr u g1
  | nd nn pp =>
    k_go
    lk
    refine zg3 cz h ea eb hm h1 h2 h3 (by show 0+_<=_;omega) fun a' H' u g'=>q a' H' ?_ g'
    rw[xd3] at u
    have e1:adP b.ps told=b.ps++[.tx told]:=by unfold adP;rw[hgl]
    have e2:adN b.ps=b.ps.length:=by unfold adN;rw[hgl]
    have e3:adA b.ps=0:=by unfold adA;rw[hgl]
    rw[e1,e2,e3]
    exact u
def wz8(st:Rst):List Str:=st.bs.tail.map Brn.n
structure Bnd(st:Rst):Prop where
 c:∀ c∈st.bs,c.n.length<=4000/\c.ps.length<=80000/\c.pl.length<=900/\c.ws.length<=80000
 ne:st.bs≠[]
 l:st.bs.length<=50
 m:st.ms.length<=80000
 d:st.ls.length<=80000
def zg4(rs:List Row)(rk:Str->Nat)(st:Rst)(i:Int)(g n:Str)(st':Rst):Prop:=∃ pre b cl,Bnd st/\st.bs=pre++b::cl/\rk n<=13/\(∃ rw∈rs,Row.name rw=n)/\Q6 rs (some n)≠some ("bare":Str)/\qb7 rs rk (wz8 st) 13 n=(pre.length,[n])/\bar rs ((wz8 st).take pre.length) [n]=false/\pre.length+1<=20/\qe7 rs (cl.map Brn.n)=[] /\
 st'={st with bs:=pre++[{b with ps:=b.ps++Q9 cl}]++[⟨n,b.pl++[((b.ps++Q9 cl).length:Int)],[],[]⟩],ms:=st.ms++cl.reverse.map (clM i "shut")}
theorem xp2{rs:List Row}{f:List Str->List Str}(h:∀ ws,f ws=ws):∀ bs:List Brn,wv9 rs f bs=bs
 | []=>rfl
 | c::t=>by
   rw[wv9,xp2 h t,h]
   split
   ·rfl
   ·split <;> rfl
theorem zg5(h:∀ ws,f ws=ws)(bs:List Brn):wUp rs f bs=bs:=by
 unfold wUp
 rw[xp2 h]
 cases bs with
 | nil=>split <;> rfl
 | cons c t=>rw[yy9,h];split <;> rfl
theorem xd4(cl:List Brn):(Q9 cl).length<=1:=by cases cl <;> simp[Q9]
theorem yo3{n:Str}(h:∃ rw∈rs,Row.name rw=n):Q6 rs (some n)≠none:=by
 obtain⟨r,e,_⟩:=xg4 h
 unfold Q6
 rw[e];exact fun z=>by cases z
theorem zg6{o:Option Str}(h:o≠none):decide (oV o=V.non)=false:=by
 cases o with
 | none=>exact absurd rfl h
 | some x=>exact decide_eq_false fun z=>by cases z
abbrev ql1(K:Fg)(k_Reader:Addr):TS :=
 (B7 (G5 (N1 k_Reader "drop" (L5 K) [] E0 (A2 0) (A1 (A2 1) (A1 (A2 2) (A1 (tC (.str "strange")) A8)))))
 yg7)
abbrev ql2(K:Fg)(k_Reader:Addr):TS :=
 (B7 (G5 (N1 k_Reader "drop" (L5 K) [] E0 (A2 0) (A1 (A2 1) (A1 (A2 2) (A1 (tOp (L4 K) (A2 4) (tC (.int 1))) A8)))))
 yg7)
abbrev ql3(K:Fg)(k_Reader:Addr):TS :=
 (G5 (N1 k_Reader "put_in" (L7 K) [] E0 (A2 0) (A1 (A2 5) (A1 (A2 1) (A1 (tC (.str "frame")) A8)))))
abbrev V6(K:Fg)(k_Reader:Addr):TS :=
 (T5 (E3 (tOp (qb6 K) (C7 (T9 K) [] E0 (A1 (Q5 K (A2 0) "book") (A1 (A2 3) A8))) (tC (.str "bare"))))
 (G5 (N1 k_Reader "leave" (P2 K) [] E0 (A2 0) A8)) O3)
abbrev V7(K:Fg)(k_Reader:Addr):TS :=
 (B7 (G5 (N1 k_Reader "enter" (P0 K) [] E0 (A2 0) (A1 (A2 3) A8)))
 (V6 K k_Reader))
abbrev V8(K:Fg)(k_Reader:Addr):TS :=
 (B7 (qg5 (qw7 K (tSl (xs8 K) (tOp (L4 K) (A2 4) (tC (.int 2))) qg6 (S3 (tUn (rU fun i=>.int (-i)) (tC (.int 1)))))) (B1 5)
 (ql3 K k_Reader))
 (V7 K k_Reader))
abbrev V9(K:Fg)(k_Reader:Addr):TS :=
 (B7 (G5 (N1 k_Reader "close_behind" (G8 K) [] E0 (A2 0) (A1 (tOp (L4 K) (A2 4) (tC (.int 1))) (A1 (A2 1) (A1 (tC (.str "shut")) A8)))))
 (V8 K k_Reader))
abbrev W0(K:Fg)(k_Reader:Addr):TS :=
 (B7 (T5 (E3 (tOp (qb6 K) (tOp (L4 K) (A2 4) (tC (.int 0))) (tC (.str "drop"))))
 (ql2 K k_Reader) O3)
 (V9 K k_Reader))
abbrev W1(K:Fg)(k_Reader:Addr):TS :=
 (B7 (E1 (C7 (qr9 K) [] E0 (A1 (Q5 K (A2 0) "book") (A1 (N1 k_Reader "open_names" (D6 K) [] E0 (A2 0) A8) (A1 (A2 3) A8)))) (B1 4))
 (W0 K k_Reader))
def L8(K:Fg):Sp:=fun vs H Q _=>∃ (kR kB r:Addr) (bv:V) (a:RAd) (st:Rst) (rs:List Row) (rk:Str->Nat) (i:Int) (g n:Str) (st':Rst),vs=[.ref r,.int i,.str g,.str n]/\RdO K H kR kB r bv a st/\BkO K H bv rs/\Boo rs/\qp5 rs rk/\zg4 rs rk st i g n st'/\∀ a' H',Rup K kR kB r bv H a H' a' st'->C3 H H'->Q .non H'
def M5(K:Fg)(k_Reader:Addr):TS :=
 (B7 (T5 (E3 (tOp xk9 (C7 (T9 K) [] E0 (A1 (Q5 K (A2 0) "book") (A1 (A2 3) A8))) (tC .non)))
 (ql1 K k_Reader) O3)
 (W1 K k_Reader))
theorem qo4(cz:Cz K k_Branch k_Reader)(h:L8 K vs H Q E):M5 K k_Reader {nx:=fun _ H'=>Q .non H',rt:=Q} (C9 ["self","start","signs","name","plan","put"] vs) H:=by
 obtain⟨kR,kB,r,bv,a,st,rs,rk,i,g,n,st2,rfl,h,hk,hB,hF,hop,q⟩:=h
 obtain⟨pre,b,cl,bd,eb,hrk,hrow,hbare,hwant,hbar,hlen,hwait,rfl⟩:=hop
 obtain rfl:=M1 cz.ns_Reader h.kr
 show M5 K _ _ [some (.ref r),some (.int i),some (.str g),some (.str n),none,none] H
 unfold M5
 obtain⟨b0,bs0,eb0⟩:=List.exists_cons_of_ne_nil bd.ne
 have hnm:wz8 st=bs0.map Brn.n:=by unfold wz8;rw[eb0];rfl
 have hl0:bs0.length<=49:=by have:=bd.l;rw[eb0] at this;simp at this;omega
 rw[hnm] at hwant hbar
 lk
 refine G0 ?_
 lk
 refine⟨r,_,a.x,_,_,rfl,h.o,cz.cl_Reader,cz.na_Reader_book,rfl,?_⟩
 lk
 refine⟨bv,some n,rs,rfl,hk.rws,?_⟩
 lk
 rw[zg6 (yo3 hrow)]
 k_go
 show W1 K _ _ _ _
 lk
 refine G0 ?_
 lk
 refine⟨r,_,a.x,_,_,rfl,h.o,cz.cl_Reader,cz.na_Reader_book,rfl,?_⟩
 lk
 refine M8 ?_
 lk
 refine⟨r,_,_,rfl,h.o,rfl,?_⟩
 lk
 refine⟨k_Reader,kB,r,bv,a,st,b0,bs0,rfl,h,eb0,by omega,fun p H1 s1 hp=>?_⟩
 lk
 refine⟨bv,p,bs0.map Brn.n,n,rs,rk,rfl,(hk.same s1).rws,hB,hF,hp,by rw[List.length_map];omega,hrow,hrk,fun w H2 s2 hw=>?_⟩
 have ep:xz3 rs rk (bs0.map Brn.n) n=.tuple [.str "open",.int pre.length,.tuple (sDa [n])]:=by
  unfold xz3
  rw[hwant]
  show(if bar rs _ [n]=true then _ else if 20<pre.length+1 then _ else _)=_
  rw[hbar,if_neg (by decide),if_neg (by omega)]
 rw[ep] at hw
 obtain⟨w',ws,e1,hwq,hwd⟩:=C6.mp hw
 cases e1
 rw[Dvs] at hwd;obtain⟨v0,r0,rfl,d0,hwd⟩:=hwd
 rw[Dvs] at hwd;obtain⟨v1,r1,rfl,d1,hwd⟩:=hwd
 rw[Dvs] at hwd;obtain⟨v2,r2,rfl,d2,hwd⟩:=hwd
 rw[Dvs] at hwd;subst hwd
 obtain rfl:=E5.mp d0
 obtain rfl:=M0.mp d1
 obtain⟨pz,zs,rfl,hz,dz⟩:=C6.mp d2
 rw[ql7] at dz;subst dz
 have s12:=A6.tr s1 s2
 have h2:=h.same s12
 have hk2:=hk.same s12
 show W0 K _ _ _ _
 lk
 refine V2 hwq (v:=.str "open") rfl ?_
 lk
 k_go
 show V9 K _ _ _ _
 lk
 refine M8 ?_
 lk
 refine⟨r,_,_,rfl,h2.o,rfl,?_⟩
 lk
 refine V2 hwq (v:=.int pre.length) rfl ?_
 lk
 refine⟨k_Reader,kB,r,bv,a,st,rs,pre,cl,b,i, "shut",rfl,h2,hk2,eb,by have:=bd.l;omega,fun c hc=>?_,?_,fun a3 H3 u3 g3=>?_⟩
 ·have:=bd.c c hc;exact⟨this.1,by omega,by omega⟩
 ·have h1:=bd.m;have h2:=bd.l;rw[eb] at h2;simp at h2;omega
 rw[hwait,zg5 (fun ws=>List.append_nil ws)] at u3
 have tk3:=u3.tupK h2
 have hwq3:=tk3.sqT hwq
 have hz3:=tk3.sqT hz
 show V8 K _ _ _ _
 lk
 refine V2 hwq3 (v:=.ref pz) rfl ?_
 lk
 refine⟨1,rfl,?_⟩
 refine⟨-1,rfl,?_⟩
 refine xl9 hz3 fun c H4 s4 hc=>?_
 have ecut:qf2 (B3 [n]) none (some (-1))=[]:=rfl
 rw[ecut] at hc
 refine wh2 (.inr hc) (A6.refl H4) (fun j σ H'=>σ=[some (.ref r),some (.int i),some (.str g),some (.str n),some (.ref w),none]/\H'=H4) ⟨rfl,rfl⟩ ?_ ?_ ?_
 ·rintro j σ H' ⟨_,rfl⟩;exact A6.refl _
 ·intro j v σ H' hv;cases j <;> cases hv
 rintro σ H' ⟨rfl,rfl⟩
 have h4:=u3.ok.same s4
 show V7 K _ _ _ _
 lk
 refine M8 ?_
 lk
 refine⟨r,_,_,rfl,h4.o,rfl,?_⟩
 lk
 have hbm:=bd.c b (by rw[eb];simp)
 have hnl:=xd4 cl
 refine⟨k_Reader,kB,r,bv,a3,_,n,pre,{b with ps:=b.ps++Q9 cl},rfl,h4,rfl,by omega,by show b.pl.length<=_;omega,by show(b.ps++Q9 cl).length<=_;rw[List.length_append];omega,fun a5 H5 u5 g5=>?_⟩
 have g12:=A6.grow s12
 have uu:=(((h.up s12).tr u3 g12).tr (u3.ok.up s4) (C3.tr g12 g3)).tr u5 (C3.tr (C3.tr g12 g3) (A6.grow s4))
 have gg:=C3.tr (C3.tr (C3.tr g12 g3) (A6.grow s4)) g5
 have hk5:=hk.tupK (uu.tupK h)
 show V6 K _ _ _ _
 lk
 refine G0 ?_
 lk
 refine⟨r,_,a5.x,_,_,rfl,u5.ok.o,cz.cl_Reader,cz.na_Reader_book,rfl,?_⟩
 lk
 refine⟨bv,some n,rs,rfl,hk5.rws,?_⟩
 lk
 refine xu8 ?_
 lk
 rw[decide_eq_false hbare]
 k_go
 exact q _ _ uu gg
def yw3(rs:List Row)(st:Rst)(i:Int)(g t:Str)(st':Rst):Prop:=∃ l1 b,Bnd st/\st.bs=l1++[b]/\st.bs.length<=21/\G7 rs (R8 (wz8 st))=[]/\Q6 rs (some (R8 (wz8 st)))≠some ("frame":Str)/\(∀ c∈st.bs,c.ws=[])/\g.length<=100000/\qx9 g.cps.toList g.cps.toList.length=[]/\adA b.ps+t.length<=1000000 /\
 st'={st with bs:=l1++[{b with ps:=adP b.ps t}],ls:=st.ls++[⟨i,g,b.pl++[(adN b.ps:Int)],adA b.ps⟩]}
abbrev qv4(K:Fg)(k_Reader:Addr):TS :=
 (G5 (N1 k_Reader "put_in" (L7 K) [] E0 (A2 0) (A1 (A2 5) (A1 (A2 1) (A1 (tC (.str "host")) A8)))))
abbrev qv5(K:Fg):TS :=
 (G5 (tBM K "list" G6 (Q5 K (A2 0) "mends") (A1 (W3 (A1 (A2 7) (A1 (tOp (I0 K) (A2 7) (tC (.int 1))) (A1 (C7 (qs4 K) [] E0 (A1 (tOp (L4 K) (A2 2) (A2 6)) A8)) (A1 (tC (.str "sign")) A8))))) A8)))
abbrev qb8(K:Fg)(k_Reader:Addr):TS :=
 (G5 (N1 k_Reader "add_text" (P4 K) [] E0 (A2 0) (A1 (A2 1) (A1 (A2 2) (A1 (A2 3) A8)))))
abbrev qb9(K:Fg)(k_Reader:Addr):TS :=
 (B7 (qg5 (qw7 K (C7 (qh3 K) [] E0 (A1 (A2 2) A8))) (B1 6)
 (B7 (E1 (tOp (I0 K) (A2 1) (A2 6)) (B1 7))
 (qv5 K)))
 (qb8 K k_Reader))
abbrev qc0(K:Fg)(k_Reader:Addr):TS :=
 (B7 (G5 (N1 k_Reader "put_in_waiting" (J8 K) [] E0 (A2 0) (A1 (A2 1) A8)))
 (qb9 K k_Reader))
abbrev qv6(K:Fg)(k_Reader:Addr):TS :=
 (G5 (N1 k_Reader "drop" (L5 K) [] E0 (A2 0) (A1 (A2 1) (A1 (A2 2) (A1 (tC (.str "deep")) A8)))))
abbrev qc1(K:Fg)(k_Reader:Addr):TS :=
 (B7 (qg5 (qw7 K (A2 4)) (B1 5)
 (qv4 K k_Reader))
 (qc0 K k_Reader))
abbrev qv7(K:Fg)(k_Reader:Addr):TS :=
 (G5 (N1 k_Reader "drop" (L5 K) [] E0 (A2 0) (A1 (A2 1) (A1 (A2 2) (A1 (tC (.str "blank")) A8)))))
abbrev qv8(K:Fg)(k_Reader:Addr):TS :=
 (T5 (E3 (tOp xk9 (A2 4) (tC .non)))
 (qv6 K k_Reader) (qc1 K k_Reader))
abbrev qc2(K:Fg)(k_Reader:Addr):TS :=
 (T5 (wp1 (tB (N1 k_Reader "is_in_frame" (M3 K) [] E0 (A2 0) A8)) (E3 (tOp (qb6 K) (tBM K "str" xy4 (A2 3) (A1 (tC (.str " \n")) A8)) (tC (.str "")))))
 (qv7 K k_Reader) (qv8 K k_Reader))
def P5(K:Fg):Sp:=fun vs H Q _=>∃ (kR kB r:Addr) (bv:V) (a:RAd) (st:Rst) (rs:List Row) (i:Int) (g t:Str) (st':Rst),vs=[.ref r,.int i,.str g,.str t]/\RdO K H kR kB r bv a st/\BkO K H bv rs/\Boo rs/\yw3 rs st i g t st'/\∀ a' H',Rup K kR kB r bv H a H' a' st'->C3 H H'->Q .non H'
def Q3(K:Fg)(k_Reader:Addr):TS :=
 (B7 (E1 (C7 (qh1 K) [] E0 (A1 (Q5 K (A2 0) "book") (A1 (N1 k_Reader "open_names" (D6 K) [] E0 (A2 0) A8) A8))) (B1 4))
 (qc2 K k_Reader))
theorem qy2(cz:Cz K k_Branch k_Reader)(h:P5 K vs H Q E):Q3 K k_Reader {nx:=fun _ H'=>Q .non H',rt:=Q} (C9 ["self","start","signs","told","hosts","host","number","place"] vs) H:=by
 obtain⟨kR,kB,r,bv,a,st,rs,i,g,t,st2,rfl,h,hk,hB,hop,q⟩:=h
 obtain⟨l1,b,bd,eb,hl21,hhost,hfr,hws,hg,hlone,had,rfl⟩:=hop
 obtain rfl:=M1 cz.ns_Reader h.kr
 show Q3 K _ _ [some (.ref r),some (.int i),some (.str g),some (.str t),none,none,none,none] H
 unfold Q3
 obtain⟨b0,bs0,eb0⟩:=List.exists_cons_of_ne_nil bd.ne
 have hnm:wz8 st=bs0.map Brn.n:=by unfold wz8;rw[eb0];rfl
 have hl0:bs0.length<=20:=by rw[eb0] at hl21;simp at hl21;omega
 rw[hnm] at hhost hfr
 lk
 refine G0 ?_
 lk
 refine⟨r,_,a.x,_,_,rfl,h.o,cz.cl_Reader,cz.na_Reader_book,rfl,?_⟩
 lk
 refine M8 ?_
 lk
 refine⟨r,_,_,rfl,h.o,rfl,?_⟩
 lk
 refine⟨k_Reader,kB,r,bv,a,st,b0,bs0,rfl,h,eb0,by omega,fun p H1 s1 hp=>?_⟩
 lk
 refine⟨bv,p,bs0.map Brn.n,rs,rfl,(hk.same s1).rws,hB,.inr hp,fun hd=>?_,fun _ c H2 s2 hc=>?_⟩
 ·rw[hhost,List.length_map] at hd;simp at hd;omega
 rw[hhost] at hc
 have s12:=A6.tr s1 s2
 have h2:=h.same s12
 have hk2:=hk.same s12
 show qc2 K _ _ _ _
 lk
 refine M8 ?_
 lk
 refine⟨r,_,_,rfl,h2.o,rfl,?_⟩
 lk
 refine⟨k_Reader,kB,r,bv,a,st,b0,bs0,rs,rfl,h2,hk2,eb0,by omega,fun H3 s3=>?_⟩
 rw[decide_eq_false hfr]
 lk
 have h3:=h2.same s3
 have hk3:=hk2.same s3
 have s13:=A6.tr s12 s3
 k_go
 show qc1 K _ _ _ _
 lk
 refine wh2 (.inr (s3.sqT hc)) (A6.refl H3) (fun j σ H'=>σ=[some (.ref r),some (.int i),some (.str g),some (.str t),some (.ref c),none,none,none]/\H'=H3) ⟨rfl,rfl⟩ ?_ ?_ ?_
 ·rintro j σ H' ⟨_,rfl⟩;exact A6.refl _
 ·intro j v σ H' hv;cases j <;> cases hv
 rintro σ H' ⟨rfl,rfl⟩
 show qc0 K _ _ _ _
 lk
 refine M8 ?_
 lk
 refine⟨r,_,_,rfl,h3.o,rfl,?_⟩
 lk
 refine⟨k_Reader,kB,r,bv,a,st,rs,i,rfl,h3,hk3,bd.ne,by have:=bd.l;omega,hws,fun a4 H4 u4 g4=>?_⟩
 show qb9 K _ _ _ _
 lk
 refine⟨g,rfl,hg,fun p5 H5 s5 _ hp5=>?_⟩
 rw[hlone] at hp5
 have h5:=u4.ok.same s5
 refine wh2 (.inl (SqL.of hp5)) (A6.refl H5) (fun j σ H'=>σ=[some (.ref r),some (.int i),some (.str g),some (.str t),some (.ref c),none,none,none]/\H'=H5) ⟨rfl,rfl⟩ ?_ ?_ ?_
 ·rintro j σ H' ⟨_,rfl⟩;exact A6.refl _
 ·intro j v σ H' hv;cases j <;> cases hv
 rintro σ H' ⟨rfl,rfl⟩
 show qb8 K _ _ _ _
 lk
 refine M8 ?_
 lk
 refine⟨r,_,_,rfl,h5.o,rfl,?_⟩
 lk
 have hbm:=bd.c b (by rw[eb];simp)
 have g13:=A6.grow s13
 refine⟨k_Reader,kB,r,bv,a4,st,l1,b,i,g,t,rfl,h5,eb,by omega,by omega,by have:=bd.d;omega,had,fun a6 H6 u6 g6=>?_⟩
 exact q _ _ ((((h.up s13).tr u4 g13).tr (u4.ok.up s5) (C3.tr g13 g4)).tr u6 (C3.tr (C3.tr g13 g4) (A6.grow s5))) (C3.tr (C3.tr (C3.tr g13 g4) (A6.grow s5)) g6)
def W9(K:Fg):Sp:=fun _ _ _ _=>False
def yo4(rs:List Row)(rk:Str->Nat)(st:Rst)(kind:Str)(i:Int)(g t:Str)(st':Rst):Prop:=(kind=("open":Str)/\zg4 rs rk st i g t st')\/(kind=("run":Str)/\yw3 rs st i g t st')
abbrev wi9(K:Fg)(k_Reader:Addr):TS :=
 (G5 (N1 k_Reader "read_closing" (W9 K) [] E0 (A2 0) (A1 (A2 2) (A1 (A2 3) (A1 (A2 4) A8)))))
abbrev qm6(K:Fg)(k_Reader:Addr):TS :=
 (G5 (N1 k_Reader "read_run" (P5 K) [] E0 (A2 0) (A1 (A2 2) (A1 (A2 3) (A1 (A2 4) A8)))))
abbrev qm7(K:Fg)(k_Reader:Addr):TS :=
 (G5 (N1 k_Reader "read_opening" (L8 K) [] E0 (A2 0) (A1 (A2 2) (A1 (A2 3) (A1 (A2 4) A8)))))
abbrev qm8(K:Fg)(k_Reader:Addr):TS :=
 (T5 (E3 (tOp (qb6 K) (A2 1) (tC (.str "close"))))
 (wi9 K k_Reader) (qm6 K k_Reader))
def V0(K:Fg):Sp:=fun vs H Q _=>∃ (kR kB r:Addr) (bv:V) (a:RAd) (st:Rst) (rs:List Row) (rk:Str->Nat) (kind:Str) (i:Int) (g t:Str) (st':Rst),vs=[.ref r,.str kind,.int i,.str g,.str t]/\RdO K H kR kB r bv a st/\BkO K H bv rs/\Boo rs/\qp5 rs rk/\yo4 rs rk st kind i g t st'/\∀ a' H',Rup K kR kB r bv H a H' a' st'->C3 H H'->Q .non H'
def Y0(K:Fg)(k_Reader:Addr):TS :=
 (T5 (E3 (tOp (qb6 K) (A2 1) (tC (.str "open"))))
 (qm7 K k_Reader) (qm8 K k_Reader))
theorem wm5(cz:Cz K k_Branch k_Reader)(h:V0 K vs H Q E):Y0 K k_Reader {nx:=fun _ H'=>Q .non H',rt:=Q} (C9 ["self","kind","start","signs","told"] vs) H:=by
 obtain⟨kR,kB,r,bv,a,st,rs,rk,kind,i,g,t,st2,rfl,h,hk,hB,hF,hop,q⟩:=h
 obtain rfl:=M1 cz.ns_Reader h.kr
 show Y0 K _ _ [some (.ref r),some (.str kind),some (.int i),some (.str g),some (.str t)] H
 unfold Y0
 lk
 rcases hop with⟨rfl,hop⟩|⟨rfl,hop⟩
 ·x_go
  show qm7 K _ _ _ _
  lk
  refine M8 ?_
  lk
  refine⟨r,_,_,rfl,h.o,rfl,?_⟩
  lk
  exact⟨k_Reader,kB,r,bv,a,st,rs,rk,i,g,t,st2,rfl,h,hk,hB,hF,hop,q⟩
 ·k_go
  show qm8 K _ _ _ _
  lk
  k_go
  show qm6 K _ _ _ _
  lk
  refine M8 ?_
  lk
  refine⟨r,_,_,rfl,h.o,rfl,?_⟩
  lk
  exact⟨k_Reader,kB,r,bv,a,st,rs,i,g,t,st2,rfl,h,hk,hB,hop,q⟩
def st0:Rst:=⟨[⟨"",[],[],[]⟩],[],[]⟩
def yz0(rs:List Row)(rk:Str->Nat)(z:Str)(ds:List PyData)(run:Nat->Rst):Prop:=run 0=st0/\∀ j d,ds[j]?=some d->∃ kind i e t,d=.tuple [.str kind,.int i,.int e,.str t]/\yo4 rs rk (run j) kind i (qi8 z (some i) (some e)) t (run (j+1))
def fin(rs:List Row)(n:Int)(b:Brn)(cl:List Brn)(st:Rst):Rst:={st with bs:=wUp rs (·++qe7 rs (cl.map Brn.n)) [{b with ps:=b.ps++Q9 cl}],ms:=st.ms++cl.reverse.map (clM n "end")}
theorem RdO.nop{kR r:Addr}{bv:V}{a:RAd}(h:RdO K H kR kB r bv a st)(hp:H p=none):p∉RAd.fp r a:=fun hz=>h.dom p hz hp
abbrev wc7(K:Fg)(k_Reader:Addr):TS :=
 (G5 (N1 k_Reader "read" (V0 K) [] E0 (A2 2) (A1 (A2 3) (A1 (A2 4) (A1 (tSl (wg7 K) (A2 1) (S3 (A2 4)) (S3 (A2 5))) (A1 (A2 6) A8))))))
abbrev wc8(K:Fg)(k_Reader:Addr):TS :=
 (B7 (G5 (N1 k_Reader "finish" (S1 K) [] E0 (A2 2) (A1 (tCB (N5 K) (A1 (A2 1) A8)) A8)))
 (G9 (A2 2)))
abbrev wc9(K:Fg)(k_Reader:Addr):TS :=
 (B7 (qg5 (qw7 K (C7 (qh6 K) [] E0 (A1 (A2 1) A8))) (xj6 K 4 (qg2 (B1 3) (qg2 (B1 4) (qg2 (B1 5) (qg2 (B1 6) xj5)))))
 (wc7 K k_Reader))
 (wc8 K k_Reader))
def qi2(K:Fg):Sp:=fun vs H Q _=>∃ (bv:V) (z:Str) (rs:List Row) (rk:Str->Nat) (run:Nat->Rst) (b:Brn) (cl:List Brn),vs=[bv,.str z]/\BkO K H bv rs/\Boo rs/\qp5 rs rk/\z.length<=100000/\yz0 rs rk z (TX.toks z.cps.toList 0 0) run/\Bnd (run (TX.toks z.cps.toList 0 0).length)/\(run (TX.toks z.cps.toList 0 0).length).bs=b::cl/\∀ (kR kB r:Addr) (a:RAd) (H':Hp),RdO K H' kR kB r bv a (fin rs z.length b cl (run (TX.toks z.cps.toList 0 0).length))->A6 H H'->Q (.ref r) H'
def qm9(K:Fg)(k_Reader:Addr):TS :=
 (B7 (E1 (xk2 k_Reader (U7 K) [] E0 (A1 (A2 0) A8)) (B1 2))
 (wc9 K k_Reader))
theorem xh6(cz:Cz K k_Branch k_Reader)(h:qi2 K vs H Q E):qm9 K k_Reader {nx:=fun _ H'=>Q .non H',rt:=Q} (C9 ["book","text","reader","kind","start","stop","told"] vs) H:=by
 obtain⟨bv,z,rs,rk,run,b,cl,rfl,hk,hB,hF,hz,⟨hrun0,hrun⟩,bd,eb,q⟩:=h
 show qm9 K _ _ [some bv,some (.str z),none,none,none,none,none] H
 unfold qm9
 lk
 refine xf9 ?_
 lk
 intro r dx hr hdx ne
 have s0:A6 H (upd (upd H dx (.own r)) r (.ins k_Reader dx [])):=fun c u e=>D1 (D1 e (U0 hdx e)) (U0 hr e)
 have e0:(upd (upd H dx (.own r)) r (.ins k_Reader dx [])) r=some (.ins k_Reader dx []):=A4
 have g0:C3 H (upd (upd H dx (.own r)) r (.ins k_Reader dx [])):=C3.tr C3.upd C3.upd
 generalize upd (upd H dx (.own r)) r (.ins k_Reader dx [])=H0 at *
 refine⟨k_Reader,r,dx,bv,rfl,cz.ns_Reader,e0,fun kB a H1 h1 bt1 fr1 g1=>⟨rfl,?_⟩⟩
 have s1:A6 H H1:=fun c u e=>bt1 c u (s0 c u e) (by simp;exact U0 hr e)
 have hk1:=hk.same s1
 show wc9 K _ _ _ _
 lk
 refine⟨z,rfl,hz,fun p us H2 s2 hp0 hp hd=>?_⟩
 have h2:=h1.same s2
 have hk2:=hk1.same s2
 have np:p∉RAd.fp r a:=h1.nop hp0
 have hul:=hd.length
 refine wt3 (SqL.of hp) (fun j σ H'=>∃ a' x3 x4 x5 x6,σ=[some bv,some (.str z),some (.ref r),x3,x4,x5,x6]/\Rup K k_Reader kB r bv H2 a H' a' (run j)/\C3 H2 H') ?_ ?_ ?_ ?_
 ·refine⟨a,none,none,none,none,rfl,?_,fun z hz=>hz⟩
  rw[hrun0]
  exact .keep h2 fun c o e _=>e
 ·rintro j σ H' _ ⟨a',x3,x4,x5,x6,rfl,u,g⟩
  exact SqL.of (u.bt _ _ hp np)
 ·rintro j v σ H' hv ⟨a',x3,x4,x5,x6,rfl,u,g⟩
  have hj:j<us.length:=by rcases Nat.lt_or_ge j us.length with h|h;exact h;rw[List.getElem?_eq_none_iff.mpr h] at hv;cases hv
  have hjd:(TX.toks z.cps.toList 0 0)[j]?=some ((TX.toks z.cps.toList 0 0)[j]'(by omega)):=List.getElem?_eq_getElem _
  obtain⟨w,hw,dw⟩:=hd.get hjd
  rw[hv] at hw
  obtain rfl:=Option.some.inj hw
  obtain⟨kind,i,e,t,ed,hst⟩:=hrun j _ hjd
  rw[ed] at dw
  have tk:=u.tupK h2
  obtain⟨q1,ws,rfl,hq,hwd⟩:=C6.mp dw
  rw[Dvs] at hwd;obtain⟨v0,r0,rfl,d0,hwd⟩:=hwd
  rw[Dvs] at hwd;obtain⟨v1,r1,rfl,d1,hwd⟩:=hwd
  rw[Dvs] at hwd;obtain⟨v2,r2,rfl,d2,hwd⟩:=hwd
  rw[Dvs] at hwd;obtain⟨v3,r3,rfl,d3,hwd⟩:=hwd
  rw[Dvs] at hwd;subst hwd
  obtain rfl:=E5.mp d0
  obtain rfl:=M0.mp d1
  obtain rfl:=M0.mp d2
  obtain rfl:=E5.mp d3
  refine⟨q1,_,rfl,tk.sqT hq,rfl,_,_,rfl,J0 ⟨_,_,rfl,J0 ⟨_,_,rfl,J0 ⟨_,_,rfl,J0 ⟨rfl,?_⟩⟩⟩⟩⟩
  show wc7 K _ _ _ _
  lk
  refine M8 ?_
  lk
  refine⟨r,_,_,rfl,u.ok.o,rfl,?_⟩
  lk
  refine xc1 (D8 (by omega)) ?_
  lk
  refine⟨k_Reader,kB,r,bv,a',run j,rs,rk,kind,i,_,t,run (j+1),rfl,u.ok,hk2.tupK tk,hB,hF,hst,fun a2 H3 u2 g2=>?_⟩
  exact⟨a2,_,_,_,_,rfl,u.tr u2 g,C3.tr g g2⟩
 ·rintro σ H' ⟨a',x3,x4,x5,x6,rfl,u,g⟩
  rw[hul] at u
  have tk:=u.tupK h2
  show wc8 K _ _ _ _
  lk
  refine M8 ?_
  lk
  refine⟨r,_,_,rfl,u.ok.o,rfl,?_⟩
  lk
  refine .inr (.inl ⟨z,rfl,D8 (by omega),?_⟩)
  lk
  refine⟨k_Reader,kB,r,bv,a',_,rs,cl,b,z.length,rfl,u.ok,hk2.tupK tk,eb,by have:=bd.l;omega,fun c hc=>?_,?_,fun a3 H3 u3 g3=>?_⟩
  ·have:=bd.c c hc;exact⟨this.1,by omega,by omega⟩
  ·have h1:=bd.m;have h2:=bd.l;rw[eb] at h2;simp at h2;omega
  lk
  have uu:=u.tr u3 g
  refine q _ kB r a3 H3 u3.ok fun c o e=>uu.bt c o (s2 c o (s1 c o e)) fun hc=>?_
  rcases fr1 c hc with h5|h5
  ·rw[h5,hr] at e;cases e
  ·have:=g0 _ h5;rw[e] at this;cases this
abbrev wd0(K:Fg)(k_Reader:Addr):TS :=
 (G9 (W3 (A1 (N1 k_Reader "root" (U8 K) [] E0 (A2 2) A8) (A1 (Q5 K (A2 2) "mends") A8))))
theorem yw4(rs:List Row)(f:List Str->List Str)(b:Brn):∃ b',wUp rs f [b]=[b']/\b'.ps=b.ps:=by
 unfold wUp
 split
 ·rw[wv9]
  rw[show xh5 rs []=false from rfl,if_neg (by decide)]
  split
  ·exact⟨_,rfl,rfl⟩
  ·exact⟨_,rfl,rfl⟩
 ·exact⟨_,rfl,rfl⟩
theorem yo5(rs:List Row)(n:Int)(b:Brn)(cl:List Brn)(st:Rst):∃ b',(fin rs n b cl st).bs=b'::[]/\b'.ps=b.ps++Q9 cl:=yw4 _ _ _
def qi3(K:Fg):Sp:=fun vs H Q _=>∃ (bv:V) (z:Str) (rs:List Row) (rk:Str->Nat) (run:Nat->Rst) (b:Brn) (cl:List Brn),vs=[bv,.str z]/\BkO K H bv rs/\Boo rs/\qp5 rs rk/\z.length<=100000/\yz0 rs rk z (TX.toks z.cps.toList 0 0) run/\Bnd (run (TX.toks z.cps.toList 0 0).length)/\(run (TX.toks z.cps.toList 0 0).length).bs=b::cl/\∀ (v1:V) (p q:Addr) (us:List V) (H':Hp),SqT K H' p [v1,.ref q]->Dv K H' (Tr.nd "" (b.ps++Q9 cl)).da v1->H' q=some (.lst us)->Dvs K H' ((fin rs z.length b cl (run (TX.toks z.cps.toList 0 0).length)).ms.map Mnd.da) us->A6 H H'->Q (.ref p) H'
def qn0(K:Fg)(k_Reader:Addr):TS :=
 (B7 (E1 (C7 (qi2 K) [] E0 (A1 (A2 0) (A1 (A2 1) A8))) (B1 2))
 (wd0 K k_Reader))
theorem xh7(cz:Cz K k_Branch k_Reader)(h:qi3 K vs H Q E):qn0 K k_Reader {nx:=fun _ H'=>Q .non H',rt:=Q} (C9 ["book","text","reader"] vs) H:=by
 obtain⟨bv,z,rs,rk,run,b,cl,rfl,hk,hB,hF,hz,hrun,bd,eb,q⟩:=h
 show qn0 K _ _ [some bv,some (.str z),none] H
 unfold qn0
 lk
 refine⟨bv,z,rs,rk,run,b,cl,rfl,hk,hB,hF,hz,hrun,bd,eb,fun kR kB r a H1 h1 s1=>?_⟩
 obtain rfl:=M1 cz.ns_Reader h1.kr
 show wd0 K _ _ _ _
 lk
 refine M8 ?_
 lk
 refine⟨r,_,_,rfl,h1.o,rfl,?_⟩
 lk
 obtain⟨b',ebf,epf⟩:=yo5 rs z.length b cl (run (TX.toks z.cps.toList 0 0).length)
 refine⟨k_Reader,kB,r,bv,a,_,b',[],rfl,h1,ebf,fun v H2 s2 hv=>?_⟩
 rw[epf] at hv
 have h2:=h1.same s2
 obtain⟨us,m1,m2⟩:=h2.m
 lk
 refine G0 ?_
 lk
 refine⟨r,_,a.x,_,_,rfl,h2.o,cz.cl_Reader,cz.na_Reader_mends,rfl,?_⟩
 lk
 refine⟨D8 (by z_go),fun p hp=>?_⟩
 have s3:=A6.new hp (.tup [v,.ref a.M])
 exact q v p a.M us _ (SqT.of A4) (Dv.same s3 _ _ hv) (s3 _ _ m1) (Dvs.same s3 _ _ m2) (A6.tr (A6.tr s1 s2) s3)
def pcs(its:List (Str×Str)):List Nat:=its.flatMap fun p=>60::(p.1.cps.toList++62::p.2.cps.toList)
def tkF:Nat->List (Str×Str)->List PyData
 | _,[]=>[]
 | k,p::t=>.tuple [.str "open",.int (k:Nat),.int ((k+p.1.length+2:Nat):Int),.str p.1]::.tuple [.str "run",.int ((k+p.1.length+2:Nat):Int),.int ((k+p.1.length+2+p.2.length:Nat):Int),.str p.2]::tkF (k+p.1.length+2+p.2.length) t
structure yo6(p:Str×Str):Prop where
 n1:1<=p.1.length
 n8:p.1.length<=8
 lt:∀ c∈p.1.cps.toList,97<=c/\c<=122
 w1:1<=p.2.length
 wl:p.2.length<=100
 no:∀ c∈p.2.cps.toList,c≠60/\c≠38
theorem xz9:∀ {l:List Nat},(∀ c∈l,c≠38)->TX.told 0 l=l
 | [],_=>rfl
 | c::l,h=>by rw[TX.told_n (TX.ne_pre (h c (by simp))) (TX.ne_pre (h c (by simp))),xz9 fun d hd=>h d (by simp[hd])]
theorem qe1(z:Str):z.cps.toList.length=z.length:=Array.length_toList
theorem ya0(z:Str):TX.ofL z.cps.toList=z:=by unfold TX.ofL;cases z;simp
theorem xp3:∀ (its:List (Str×Str)) (P:List Nat) (s:Nat),(∀ p∈its,yo6 p)->TX.toks (P++pcs its) P.length s=TX.runs (P++pcs its) s P.length++tkF P.length its
 | [],P,s,_=>by
   rw[TX.toks_end (by simp[pcs])]
   simp[pcs,tkF]
 | p :: t,P,s,h=>by
   obtain⟨hn1,hn8,hlt,hw1,hwl,hno⟩:=h p (by simp)
   have en:=qe1 p.1
   have ew:=qe1 p.2
   have el:P++pcs (p::t)=P++60::(p.1.cps.toList++62::(p.2.cps.toList++pcs t)):=by simp[pcs]
   have el2:P++pcs (p::t)=(P++60::(p.1.cps.toList++62::p.2.cps.toList))++pcs t:=by simp[pcs]
   have ih:=xp3 t (P++60::(p.1.cps.toList++62::p.2.cps.toList)) (P.length+p.1.length+2) fun q hq=>h q (by simp[hq])
   rw[<-el2] at ih
   have eP:(P++60::(p.1.cps.toList++62::p.2.cps.toList)).length=P.length+p.1.length+2+p.2.length:=by
    simp only[List.length_append,List.length_cons,en,ew];omega
   rw[eP] at ih
   generalize hl:P++pcs (p::t)=l at *
   have at0:l[P.length]?=some 60:=by rw[el];simp
   have dr:l.drop (P.length+1)=p.1.cps.toList++62::(p.2.cps.toList++pcs t):=by
    rw[el,List.drop_append,List.drop_eq_nil_of_le (by omega),show P.length+1-P.length=1 by omega];rfl
   have dr2:l.drop (P.length+p.1.length+2)=p.2.cps.toList++pcs t:=by
    have:l.drop (P.length+p.1.length+2)=(l.drop (P.length+1)).drop (p.1.length+1):=by rw[List.drop_drop];congr 1;omega
    rw[this,dr,List.drop_append,List.drop_eq_nil_of_le (by omega),en,show p.1.length+1-p.1.length=1 by omega];rfl
   have hnm:TX.nm (l.drop (P.length+1))=some p.1.length:=by
    rw[TX.nm_iff,dr]
    refine⟨hn1,hn8,fun i hi=>?_,by rw[List.getElem?_append_right (by omega),en,Nat.sub_self];rfl⟩
    have hi2:i<p.1.cps.toList.length:=by omega
    refine⟨p.1.cps.toList[i],by rw[List.getElem?_append_left hi2,List.getElem?_eq_getElem hi2],?_⟩
    have:=hlt _ (List.getElem_mem hi2)
    unfold TX.letter
    rw[decide_eq_true this.1,decide_eq_true this.2];rfl
   have hns:TX.nst l P.length=P.length+1:=by
    unfold TX.nst
    rw[if_neg]
    intro e
    have e2:(l.drop (P.length+1))[0]?=some 47:=by rw[List.getElem?_drop];exact e
    rw[dr,List.getElem?_append_left (by omega),List.getElem?_eq_getElem (by omega)] at e2
    have:=hlt _ (List.getElem_mem (show 0<p.1.cps.toList.length by omega))
    have e3:=Option.some.inj e2
    omega
   have ht:TX.tagAt l P.length=some (P.length+1,P.length+p.1.length+2):=by
    unfold TX.tagAt
    rw[if_pos at0,hns,hnm]
    show some (P.length+1,P.length+1+p.1.length+1)=_
    rw[show P.length+1+p.1.length+1=P.length+p.1.length+2 by omega]
   have hsk:TX.toks l (P.length+p.1.length+2) (P.length+p.1.length+2)=TX.toks l (P.length+p.1.length+2+p.2.length) (P.length+p.1.length+2):=by
    refine TX.toks_skip p.2.length _ ?_ fun j h1 h2 e=>?_
    ·have:=congrArg List.length dr2
     rw[List.length_drop,List.length_append,ew] at this
     omega
    ·have e2:(l.drop (P.length+p.1.length+2))[j-(P.length+p.1.length+2)]?=some 60:=by rw[List.getElem?_drop];rw[show P.length+p.1.length+2+(j-(P.length+p.1.length+2))=j by omega];exact e
     rw[dr2,List.getElem?_append_left (by omega)] at e2
     exact(hno 60 (List.mem_of_getElem? e2)).1 rfl
   rw[TX.toks_some ht,hsk,ih]
   congr 1
   have r1:TX.runs l (P.length+p.1.length+2) (P.length+p.1.length+2+p.2.length)=[.tuple [.str "run",.int ((P.length+p.1.length+2:Nat):Int),.int ((P.length+p.1.length+2+p.2.length:Nat):Int),.str p.2]]:=by
    unfold TX.runs TX.runD
    rw[if_pos (by omega),dr2,show P.length+p.1.length+2+p.2.length-(P.length+p.1.length+2)=p.2.cps.toList.length by omega,List.take_left' rfl,xz9 fun c hc=>(hno c hc).2,ya0]
   rw[r1]
   show TX.tagD l P.length (P.length+1) (P.length+p.1.length+2)::(_++_)=_
   unfold TX.tagD
   rw[if_pos rfl,dr,show P.length+p.1.length+2-1-(P.length+1)=p.1.cps.toList.length by omega,List.take_left' rfl,ya0]
   rfl
theorem yo7{its:List (Str×Str)}(e:z.cps.toList=pcs its)(h:∀ p∈its,yo6 p):TX.toks z.cps.toList 0 0=tkF 0 its:=by
 have:=xp3 its [] 0 h
 rw[e]
 simpa [TX.runs] using this
theorem zg7{w:List Nat}{v:Str}(e:z.cps.toList=P++(w++R))(hv:v.cps.toList=w):qi8 z (some ((P.length:Nat):Int)) (some ((P.length+v.length:Nat):Int))=v:=by
 rw[qd7,wi4 rfl rfl,e,List.drop_left' rfl,show P.length+v.length-P.length=w.length by rw[<-hv,qe1];omega,List.take_left' rfl,hv]
structure PlB(names:List Str)(c:Nat)(rs:List Row):Prop where
 len:rs.length=c
 row:∀ k r,rs[k]?=some r->r.name=gd names k/\r.sort=("plain":Str)/\r.host=("":Str)/\r.bars=[]/\∀ x,x∈r.shuts↔∃ j,k<=j/\j<c/\x=gd names j
section
variable{names:List Str}{c:Nat}{rs:List Row}
theorem PlB.all(h:PlB names c rs){r:Row}(hr:r∈rs):r.sort=("plain":Str)/\r.host=("":Str)/\r.bars=[]:=by
 obtain⟨k,hk,e⟩:=List.getElem_of_mem hr
 have:=h.row k r (by rw[List.getElem?_eq_getElem hk,e])
 exact⟨this.2.1,this.2.2.1,this.2.2.2.1⟩
theorem PlB.nofr(h:PlB names c rs){r:Row}(hr:r∈rs):r.sort≠("frame":Str):=by rw[(h.all hr).1];decide
theorem PlB.names_eq(h:PlB names c rs)(hc:c<=names.length):rs.map (·.name)=names.take c:=by
 apply List.ext_getElem?
 intro i
 rw[List.getElem?_map,List.getElem?_take]
 by_cases hi:i<c
 ·have hi':i<rs.length:=by rw[h.len];exact hi
  have e1:rs[i]?=some rs[i]:=List.getElem?_eq_getElem hi'
  rw[if_pos hi,e1,qr7 (by omega)]
  show some (rs[i].name)=_
  rw[(h.row i _ e1).1]
 ·rw[if_neg hi,List.getElem?_eq_none_iff.mpr (by rw[h.len];omega)];rfl
theorem PlB.boo(h:PlB names c rs)(hN:Nms names)(hc:c<=names.length)(h1:1<=c)(h12:c<=12):Boo rs:=by
 refine⟨by rw[h.len];exact h1,by rw[h.len];exact h12,?_,fun r hr=>?_,⟨fun _=>0,fun r hr=>Nat.zero_lt_succ _,fun r hr hf=>absurd hf (h.nofr hr)⟩,fun r hr _=>(h.all hr).2.1,fun r hr r' hr' hf=>absurd hf (h.nofr hr),fun r hr=>?_,fun r hr x hx f hf hs=>absurd hs (h.nofr hf)⟩
 ·rw[h.names_eq hc];exact hN.nd.sublist (List.take_sublist _ _)
 ·have:r.name∈names.take c:=by rw[<-h.names_eq hc];exact List.mem_map_of_mem hr
  exact hN.ne _ (List.mem_of_mem_take this)
 ·rw[(h.all hr).1];exact .inr (.inl rfl)
theorem PlB.frame(h:PlB names c rs)(x:Option Str):J4 rs x=none:=by
 unfold J4
 rw[List.find?_eq_none.mpr fun r hr=>?_];rfl
 rw[decide_eq_false (h.nofr hr)];simp
theorem PlB.falls(h:PlB names c rs):qp5 rs fun _=>0:=fun x y e=>by rw[h.frame] at e;cases e
theorem PlB.host(h:PlB names c rs)(x:Option Str):N6 rs x=none:=by
 unfold N6
 cases e:Z0 rs x with
 | none=>rfl
 | some r =>
   show(if r.sort=("frame":Str) then _ else _)=_
   rw[if_neg (h.nofr (List.mem_of_find?_eq_some e))]
theorem PlB.hosts(h:PlB names c rs)(x:Str):G7 rs x=[]:=by
 unfold G7 qa0
 rw[h.host]
theorem PlB.sort(h:PlB names c rs)(x:Option Str):Q6 rs x=none\/Q6 rs x=some ("plain":Str):=by
 unfold Q6
 cases e:Z0 rs x with
 | none=>exact .inl rfl
 | some r=>exact .inr (by show some r.sort=_;rw[(h.all (List.mem_of_find?_eq_some e)).1])
theorem PlB.wall(h:PlB names c rs)(x:Str):wall rs x=false:=by
 unfold My.wall
 cases e:Z0 rs (some x) with
 | none=>rfl
 | some r =>
   show decide (r.sort∈_)=false
   rw[(h.all (List.mem_of_find?_eq_some e)).1];decide
theorem PlB.near(h:PlB names c rs)(ys:List Str):near rs ys=ys:=by
 have:∀ (k:Nat) (zs:List Str),zs.length=k->My.near rs zs=zs:=by
  intro k
  induction k with
  | zero=>intro zs e;rw[List.eq_nil_of_length_eq_zero e];rfl
  | succ k ih =>
    intro zs e
    rcases List.eq_nil_or_concat zs with rfl|⟨z,x,rfl⟩
    ·simp at e
    ·rw[List.concat_eq_append] at e ⊢
     rw[wa3,h.wall,ih z (by simpa using e)];rfl
 exact this _ ys rfl
theorem PlB.rowAt(h:PlB names c rs)(hN:Nms names)(hc:c<=names.length)(hk:k<c):∃ r,Z0 rs (some (gd names k))=some r/\rs[k]?=some r:=by
 have hk2:k<rs.length:=by rw[h.len];exact hk
 have e:rs[k]?=some rs[k]:=List.getElem?_eq_getElem hk2
 have hr:rs[k]∈rs:=List.getElem_mem hk2
 refine⟨rs[k],?_,e⟩
 have:=yf4 (rs:=rs) (by rw[h.names_eq hc];exact hN.nd.sublist (List.take_sublist _ _)) hr
 rw[(h.row k _ e).1] at this
 exact this
theorem PlB.bar(h:PlB names c rs)(ks:List Str)(x:Str):bar rs ks [x]=false:=by
 have e:wv1 rs x=[]:=by
  unfold wv1
  cases e:Z0 rs (some x) with
  | none=>rfl
  | some r=>exact(h.all (List.mem_of_find?_eq_some e)).2.2
 rw[My.bar,e,My.bar]
 simp
end
abbrev Lv:=Nat×List Tr
def wc2(nm:List Str):List Lv->List Tr
 | []=>[]
 | e::t=>[Tr.nd (gd nm e.1) (e.2++wc2 nm t)]
def ltR(r:Nat)(e:Lv):Bool:=decide (e.1<r)
def kp(r:Nat)(W:List Lv):Nat:=(W.tail.takeWhile (ltR r)).length
def clW(nm:List Str)(i:Nat)(W:List Lv):List Lv:=match W.drop i with | []=>W|y::C=>W.take i++[(y.1,y.2++wc2 nm C)]
def stW(nm:List Str)(W:List Lv)(r:Nat)(w:Str):List Lv:=clW nm (kp r W) W++[(r,[Tr.tx w])]
def shM(nm:List Str)(k:Nat)(W:List Lv)(r:Nat):List Mnd:=(W.drop (kp r W+1)).reverse.map fun e=>⟨k,k,cls (gd nm e.1), "shut"⟩
def itS(nm:List Str)(its:List (Nat×Str)):List (Str×Str):=its.map fun p=>(gd nm p.1,p.2)
def mW(nm:List Str):List (Nat×Str)->List Lv->List Lv
 | [],W=>W
 | p::t,W=>mW nm t (stW nm W p.1 p.2)
def itL(nm:List Str)(p:Nat×Str):Nat:=(gd nm p.1).length+2+p.2.length
def mM(nm:List Str):Nat->List (Nat×Str)->List Lv->List Mnd
 | _,[],_=>[]
 | k,p::t,W=>shM nm k W p.1++mM nm (k+itL nm p) t (stW nm W p.1 p.2)
theorem xh8(nm:List Str)(p:Nat×Str):∀ (t:List (Nat×Str)) (W:List Lv),mW nm (t++[p]) W=stW nm (mW nm t W) p.1 p.2
 | [],W=>rfl
 | q::t,W=>by rw[List.cons_append,mW,mW,xh8 nm p t]
theorem ya1(nm:List Str)(p:Nat×Str):∀ (t:List (Nat×Str)) (k:Nat) (W:List Lv),mM nm k (t++[p]) W=mM nm k t W++shM nm (k+(t.map (itL nm)).sum) (mW nm t W) p.1
 | [],k,W=>by simp[mM,mW]
 | q::t,k,W=>by
   rw[List.cons_append,mM,mM,ya1 nm p t,mW,List.map_cons,List.sum_cons,List.append_assoc]
   congr 3;omega
theorem xh9{nm:List Str}:∀ {cl:List Brn} {C:List Lv},cl.map Brn.ps=C.map Prod.snd->cl.map Brn.n=C.map (fun e=>gd nm e.1)->Q9 cl=wc2 nm C
 | [],[],_,_=>rfl
 | [],_::_,h,_=>by cases h
 | _::_,[],h,_=>by cases h
 | b::cl,e::C,h1,h2=>by
   rw[List.map_cons,List.map_cons] at h1 h2
   injection h1 with h1 h3
   injection h2 with h2 h4
   rw[Q9,wc2,xh9 h3 h4,h1,h2]
structure WOk(c:Nat)(W:List Lv):Prop where
 ne:W≠[]
 inc:(W.tail.map Prod.fst).Pairwise (· < ·)
 lt:∀ e∈W.tail,e.1<c
theorem ya2:∀ (l:List Nat) (a c:Nat),l.Pairwise (· < ·)->(∀ x∈l,a<=x/\x<c)->a<=c->l.length<=c-a
 | [],_,_,_,_,_=>by simp
 | x::l,a,c,hp,hb,ha=>by
   rw[List.pairwise_cons] at hp
   have hx:=hb x (by simp)
   have:=ya2 l (x+1) c hp.2 (fun y hy=>⟨hp.1 y hy,(hb y (by simp[hy])).2⟩) (by omega)
   rw[List.length_cons];omega
variable{W:List Lv}
theorem WOk.len(h:WOk c W):W.length<=c+1:=by
 have:=ya2 _ 0 c h.inc (fun x hx=>by obtain⟨e,he,rfl⟩:=List.mem_map.mp hx;exact⟨Nat.zero_le _,h.lt e he⟩) (Nat.zero_le _)
 rw[List.length_map,List.length_tail] at this
 omega
theorem wj1(h:W≠[]):kp r W<W.length:=by
 unfold kp
 have h1:(W.tail.takeWhile (ltR r)).length<=W.tail.length:=(List.takeWhile_sublist _).length_le
 rw[List.length_tail] at h1
 have:0<W.length:=List.length_pos_iff.mpr h
 omega
theorem yw5(h:i<W.length):W=W.take i++W[i]::W.drop (i+1):=by rw[List.getElem_cons_drop,List.take_append_drop]
theorem Y7{nm:List Str}(h:i<W.length):clW nm i W=W.take i++[(W[i].1,W[i].2++wc2 nm (W.drop (i+1)))]:=by
 unfold clW
 rw[<-List.getElem_cons_drop (h:=h)]
theorem xi0{α:Type}{p:α->Bool}:∀ l:List α,l.take (l.takeWhile p).length=l.takeWhile p
 | []=>rfl
 | x::l=>by
   rw[List.takeWhile_cons]
   split
   ·rw[List.length_cons,List.take_succ_cons,xi0 l]
   ·rfl
theorem yo8{nm:List Str}(h:W≠[]):(stW nm W r w).tail.map Prod.fst=(W.tail.takeWhile (ltR r)).map Prod.fst++[r]:=by
 unfold stW
 have hk:=wj1 (r:=r) h
 rw[Y7 hk]
 obtain⟨e0,S,rfl⟩:=List.exists_cons_of_ne_nil h
 have hkS:kp r (e0::S)=(S.takeWhile (ltR r)).length:=rfl
 have e2:S.takeWhile (ltR r)=S.take (kp r (e0::S)):=by rw[hkS,xi0]
 show _=(S.takeWhile (ltR r)).map Prod.fst++[r]
 rw[e2]
 generalize kp r (e0::S)=k at *
 cases k with
 | zero=>rfl
 | succ k =>
   have hk':k<S.length:=by simpa using hk
   rw[List.take_succ_cons,List.cons_append,List.cons_append,List.tail_cons,qe6 (List.getElem?_eq_getElem hk'),List.map_append,List.map_append,List.map_append]
   rfl
theorem xu9{α:Type}{p:α->Bool}:∀ {l:List α} {x:α},x∈l.takeWhile p->p x=true
 | [],_,h=>by cases h
 | y :: l,x,h=>by
   rw[List.takeWhile_cons] at h
   cases e:p y with
   | true =>
     rw[e] at h
     rcases List.mem_cons.mp h with h|h
     ·rw[h];exact e
     ·exact xu9 h
   | false=>rw[e] at h;cases h
theorem xi1{nm:List Str}(h:WOk c W)(hr:r<c):WOk c (stW nm W r w):=by
 have e:=yo8 (nm:=nm) (w:=w) (r:=r) h.ne
 have hs:((W.tail.takeWhile (ltR r)).map Prod.fst).Sublist (W.tail.map Prod.fst):=(List.takeWhile_sublist _).map _
 have hlt:∀ x∈(W.tail.takeWhile (ltR r)).map Prod.fst,x<r:=fun x hx=>by
  obtain⟨y,hy,rfl⟩:=List.mem_map.mp hx
  have:=xu9 hy
  exact of_decide_eq_true this
 refine⟨by unfold stW;simp,?_,fun y hy=>?_⟩
 ·rw[e,List.pairwise_append]
  exact⟨h.inc.sublist hs,by simp,fun x hx y hy=>by rw[List.mem_singleton.mp hy];exact hlt x hx⟩
 ·have:y.1∈(stW nm W r w).tail.map Prod.fst:=List.mem_map_of_mem hy
  rw[e] at this
  rcases List.mem_append.mp this with h1|h1
  ·have:=hlt _ h1;omega
  ·rw[List.mem_singleton.mp h1];exact hr
theorem yo9(ys sh:List Str):∀ (m k:Nat),k+m=ys.length->kpt ys sh k m=k+((ys.drop k).takeWhile fun y=>!decide (y∈sh)).length
 | 0,k,h=>by rw[kpt,List.drop_eq_nil_of_le (by omega)];rfl
 | m+1,k,h=>by
   have hk:k<ys.length:=by omega
   rw[kpt,<-List.getElem_cons_drop (h:=hk),List.takeWhile_cons]
   have eg:gd ys k=ys[k]:=by have:=qr7 hk;rw[List.getElem?_eq_getElem hk] at this;exact(Option.some.inj this).symm
   by_cases hm:ys[k]∈sh
   ·rw[eg,if_pos hm,decide_eq_true hm];rfl
   ·rw[eg,if_neg hm,decide_eq_false hm,yo9 ys sh m (k+1) (by omega)]
    show _=k+(_::_).length
    rw[List.length_cons];omega
theorem yp0{α β:Type}{f:α->β}{p:β->Bool}{q:α->Bool}:∀ {l:List α},(∀ x∈l,p (f x)=q x)->((l.map f).takeWhile p).length=(l.takeWhile q).length
 | [],_=>rfl
 | x::l,h=>by
   rw[List.map_cons,List.takeWhile_cons,List.takeWhile_cons,h x (by simp)]
   cases q x with
   | true=>show(_::_).length=(_::_).length;rw[List.length_cons,List.length_cons,yp0 fun y hy=>h y (by simp[hy])]
   | false=>rfl
section
variable{names:List Str}{c:Nat}{rs:List Row}
theorem PlB.wait(h:PlB names c rs)(ns:List Str):qe7 rs ns=[]:=by
 unfold qe7 wz7
 rw[List.filter_eq_nil_iff]
 intro x _
 rcases h.sort (some x) with e|e <;> rw[e] <;> decide
theorem PlB.kept(h:PlB names c rs)(hN:Nms names)(hc:c<=names.length)(hW:WOk c W)(hr:r<c):wi2 rs (W.tail.map fun e=>gd names e.1) (gd names r)=kp r W:=by
 unfold wi2
 rw[h.near,Nat.sub_self,yo9 _ _ _ _ (by omega),Nat.zero_add,List.drop_zero]
 unfold kp
 refine yp0 fun e he=>?_
 obtain⟨rw',e1,e2⟩:=h.rowAt hN hc hr
 have hs:wa7 rs (gd names r)=rw'.shuts:=by unfold wa7;rw[e1]
 have hm:=(h.row r rw' e2).2.2.2.2 (gd names e.1)
 have hlt:=hW.lt e he
 rw[hs]
 unfold ltR
 by_cases hlr:e.1<r
 ·rw[decide_eq_true hlr,decide_eq_false];rfl
  rw[hm]
  rintro⟨j,h1,h2,h3⟩
  have:=zf0 hN.nd (by omega) (by omega) h3
  omega
 ·rw[decide_eq_false hlr,decide_eq_true];rfl
  rw[hm]
  exact⟨e.1,by omega,hlt,rfl⟩
theorem PlB.want(h:PlB names c rs)(hN:Nms names)(hc:c<=names.length)(hW:WOk c W)(hr:r<c):qb7 rs (fun _=>0) (W.tail.map fun e=>gd names e.1) 13 (gd names r)=(kp r W,[gd names r]):=by
 rw[qb7,wv2,h.frame]
 show qj2 rs _ _=_
 unfold qj2
 rw[if_pos (h.hosts _),h.kept hN hc hW hr]
end
inductive yg0(rs:List Row)(rk:Str->Nat)(z:Str):Rst->List PyData->Rst->Prop
 | nil {st:Rst}:yg0 rs rk z st [] st
 | cons {st st1 st2:Rst} {kind t:Str} {i e:Int} {ds:List PyData}:yo4 rs rk st kind i (qi8 z (some i) (some e)) t st1->yg0 rs rk z st1 ds st2->yg0 rs rk z st (.tuple [.str kind,.int i,.int e,.str t]::ds) st2
theorem yg0.run(h:yg0 rs rk z st ds st'):∃ run:Nat->Rst,run 0=st/\run ds.length=st'/\∀ j d,ds[j]?=some d->∃ kind i e t,d=.tuple [.str kind,.int i,.int e,.str t]/\yo4 rs rk (run j) kind i (qi8 z (some i) (some e)) t (run (j+1)):=by
 induction h with
 | nil=>rename_i st;exact⟨fun _=>st,rfl,rfl,fun j d h=>by simp at h⟩
 | cons h1 _ ih =>
   rename_i st st1 st2 kind t i e ds _
   obtain⟨run,e0,e1,hr⟩:=ih
   refine⟨fun|0=>st|j+1=>run j,rfl,e1,fun j d hd=>?_⟩
   cases j with
   | zero=>simp at hd;subst hd;exact⟨_,_,_,_,rfl,by show yo4 rs rk st kind i _ t (run 0);rw[e0];exact h1⟩
   | succ j=>exact hr j d (by simpa using hd)
structure Cor(nm:List Str)(W:List Lv)(st:Rst)(j:Nat):Prop where
 cp:st.bs.map Brn.ps=W.map Prod.snd
 cn:st.bs.tail.map Brn.n=W.tail.map (fun e=>gd nm e.1)
 n0:∀ b∈st.bs,b.n.length<=8
 ws:∀ b∈st.bs,b.ws=[]
 pl:∀ b∈st.bs,b.pl.length<=j
 ps:∀ b∈st.bs,b.ps.length<=2*j
 ms:st.ms.length+st.bs.length=j+1
 ls:st.ls.length=j
theorem Cor.len{nm:List Str}(h:Cor nm W st j):st.bs.length=W.length:=by
 have:=congrArg List.length h.cp
 simpa using this
theorem Cor.bnd{nm:List Str}(h:Cor nm W st j)(hW:WOk c W)(hc:c<=12)(hj:j<=100):Bnd st:=by
 have e:=h.len
 have:=hW.len
 have hm:=h.ms
 have hl:=h.ls
 refine⟨fun b hb=>?_,fun z=>?_,by omega,by omega,by omega⟩
 ·have h1:=h.n0 b hb
  have h2:=h.ps b hb
  have h3:=h.pl b hb
  have h4:=h.ws b hb
  exact⟨by omega,by omega,by omega,by rw[h4];simp⟩
 ·rw[z] at e
  exact hW.ne (List.eq_nil_of_length_eq_zero e.symm)
theorem yp1(h:∀ c∈w.cps.toList,c≠60/\c≠38):qx9 w.cps.toList w.cps.toList.length=[]:=by
 unfold qx9
 rw[List.filter_eq_nil_iff]
 intro i _ e
 unfold xu3 at e
 have n1:¬w.cps.toList[i]?=some 60:=fun z=>(h 60 (List.mem_of_getElem? z)).1 rfl
 have n2:¬w.cps.toList[i]?=some 38:=fun z=>(h 38 (List.mem_of_getElem? z)).2 rfl
 rw[decide_eq_false n1,decide_eq_false n2] at e
 cases e
theorem ya3(l:List α)(n:Nat):(l.take (n+1)).tail=l.tail.take n:=by cases l <;> simp
theorem Cor.step{nm:List Str}(P:PlB nm c rs)(hN:Nms nm)(hc:c<=nm.length)(hc12:c<=12)(hW:WOk c W)(h:Cor nm W st j)(hj:j<=80)(hr:r<c)(hwl:w.length<=100)(hno:∀ c∈w.cps.toList,c≠60/\c≠38)(k:Nat)(i2:Int)(g:Str) :
 ∃ st1 st2,zg4 rs (fun _=>0) st k g (gd nm r) st1/\yw3 rs st1 i2 w w st2/\Cor nm (stW nm W r w) st2 (j+1)/\st2.ms=st.ms++shM nm k W r:=by
 have hl:=h.len
 have bd:=h.bnd hW hc12 (by omega)
 have hWl:=hW.len
 have hi:kp r W<W.length:=wj1 hW.ne
 have hib:kp r W<st.bs.length:=by omega
 have eb:st.bs=st.bs.take (kp r W)++st.bs[kp r W]::st.bs.drop (kp r W+1):=by rw[List.getElem_cons_drop,List.take_append_drop]
 have hpre:(st.bs.take (kp r W)).length=kp r W:=by rw[List.length_take];omega
 have c1:(st.bs.drop (kp r W+1)).map Brn.ps=(W.drop (kp r W+1)).map Prod.snd:=by rw[List.map_drop,List.map_drop,h.cp]
 have c2:(st.bs.drop (kp r W+1)).map Brn.n=(W.drop (kp r W+1)).map (fun e=>gd nm e.1):=by
  have d1:st.bs.drop (kp r W+1)=st.bs.tail.drop (kp r W):=by rw[<-List.drop_one,List.drop_drop];congr 1;omega
  have d2:W.drop (kp r W+1)=W.tail.drop (kp r W):=by rw[<-List.drop_one,List.drop_drop];congr 1;omega
  rw[d1,d2,List.map_drop,List.map_drop,h.cn]
 have en:=xh9 c1 c2
 have hbm:st.bs[kp r W]∈st.bs:=List.getElem_mem hib
 have ebW:(st.bs[kp r W]).ps=(W[kp r W]).2:=by
  have h1:(st.bs.map Brn.ps)[kp r W]?=some (st.bs[kp r W]).ps:=by rw[List.getElem?_map,List.getElem?_eq_getElem hib];rfl
  rw[h.cp,List.getElem?_map,List.getElem?_eq_getElem hi] at h1
  exact(Option.some.inj h1).symm
 have enm:wz8 st=W.tail.map fun e=>gd nm e.1:=h.cn
 have hnst:=xd4 (st.bs.drop (kp r W+1))
 have hgl:(gd nm r).length<=8:=hN.le _ (wu6 (by omega))
 let B:Brn:={st.bs[kp r W] with ps:=(st.bs[kp r W]).ps++Q9 (st.bs.drop (kp r W+1))}
 let nw:Brn:=⟨gd nm r,(st.bs[kp r W]).pl++[(((st.bs[kp r W]).ps++Q9 (st.bs.drop (kp r W+1))).length:Int)],[],[]⟩
 let st1:Rst:={st with bs:=st.bs.take (kp r W)++[B]++[nw],ms:=st.ms++(st.bs.drop (kp r W+1)).reverse.map (clM k "shut")}
 have ems:(st.bs.drop (kp r W+1)).reverse.map (clM k "shut")=shM nm k W r:=by
  unfold shM
  have e1:(st.bs.drop (kp r W+1)).map (clM k "shut")=((st.bs.drop (kp r W+1)).map Brn.n).map (fun n=>(⟨k,k,cls n, "shut"⟩:Mnd)):=by rw[List.map_map];rfl
  rw[List.map_reverse,List.map_reverse,e1,c2,List.map_map]
  rfl
 have mem1:∀ b∈st.bs.take (kp r W)++[B],b.n.length<=8/\b.ws=[]/\b.pl.length<=j/\b.ps.length<=2*j+1:=fun b hb=>by
  rcases List.mem_append.mp hb with hb|hb
  ·have hb:=List.mem_of_mem_take hb
   have:=h.ps b hb
   exact⟨h.n0 b hb,h.ws b hb,h.pl b hb,by omega⟩
  ·rw[List.mem_singleton.mp hb]
   have:=h.ps _ hbm
   exact⟨(h.n0 _ hbm:(st.bs[kp r W]).n.length<=8),(h.ws _ hbm:(st.bs[kp r W]).ws=[]),(h.pl _ hbm:(st.bs[kp r W]).pl.length<=j),by show((st.bs[kp r W]).ps++Q9 (st.bs.drop (kp r W+1))).length<=_;rw[List.length_append];omega⟩
 have hpl:=h.pl _ hbm
 have hms:=h.ms
 have hls:=h.ls
 have hdl:(st.bs.drop (kp r W+1)).length=st.bs.length-(kp r W+1):=List.length_drop
 have l1:(st.bs.take (kp r W)++[B]++[nw]).length=kp r W+2:=by simp only[List.length_append,List.length_singleton,hpre]
 have ms1:st1.ms.length+(kp r W+1)=j+1:=by
  show(st.ms++(st.bs.drop (kp r W+1)).reverse.map (clM k "shut")).length+_=_
  rw[List.length_append,List.length_map,List.length_reverse,hdl]
  omega
 have bd1:Bnd st1:=by
  refine⟨fun b hb=>?_,by show _++[_]≠[];simp,by rw[show st1.bs.length=kp r W+2 from l1];omega,by omega,by show st.ls.length<=_;omega⟩
  rcases List.mem_append.mp hb with hb|hb
  ·obtain⟨h1,h2,h3,h4⟩:=mem1 b hb
   exact⟨by omega,by omega,by omega,by rw[h2];simp⟩
  ·rw[List.mem_singleton.mp hb]
   exact⟨by show(gd nm r).length<=_;omega,by simp[nw],by show((st.bs[kp r W]).pl++[_]).length<=_;rw[List.length_append,List.length_singleton];omega,by simp[nw]⟩
 refine⟨st1,{st1 with bs:=(st.bs.take (kp r W)++[B])++[{nw with ps:=adP nw.ps w}],ls:=st1.ls++[⟨i2,w,nw.pl++[(adN nw.ps:Int)],adA nw.ps⟩]},⟨st.bs.take (kp r W),st.bs[kp r W],st.bs.drop (kp r W+1),bd,eb,Nat.zero_le _,?_,?_,?_,P.bar _ _,by omega,P.wait _,rfl⟩,⟨st.bs.take (kp r W)++[B],nw,bd1,rfl,by rw[show st1.bs.length=kp r W+2 from l1];omega,P.hosts _,?_,fun b hb=>?_,by omega,yp1 hno,by show 0+_<=_;omega,rfl⟩,?_,?_⟩
 ·obtain⟨rw',e1,e2⟩:=P.rowAt hN hc hr
  exact⟨rw',List.mem_of_getElem? e2,(P.row r rw' e2).1⟩
 ·rcases P.sort (some (gd nm r)) with e|e <;> rw[e] <;> decide
 ·rw[enm,P.want hN hc hW hr,hpre]
 ·rcases P.sort (some (R8 (wz8 st1))) with e|e <;> rw[e] <;> decide
 ·rcases List.mem_append.mp hb with hb|hb
  ·exact(mem1 b hb).2.1
  ·rw[List.mem_singleton.mp hb]
 ·have hX:st.bs.take (kp r W)++[B]≠[]:=by simp
  have hY:W.take (kp r W)++[((W[kp r W]).1,(W[kp r W]).2++wc2 nm (W.drop (kp r W+1)))]≠[]:=by simp
  refine⟨?_,?_,fun b hb=>?_,fun b hb=>?_,fun b hb=>?_,fun b hb=>?_,?_,?_⟩
  ·show((st.bs.take (kp r W)++[B])++[_]).map Brn.ps=_
   unfold stW
   rw[Y7 hi]
   simp only[List.map_append,List.map_cons,List.map_nil,List.map_take]
   rw[h.cp]
   show _++[(st.bs[kp r W]).ps++Q9 (st.bs.drop (kp r W+1))]++[adP [] w]=_
   rw[ebW,en];rfl
  ·show((st.bs.take (kp r W)++[B])++[_]).tail.map Brn.n=_
   unfold stW
   rw[Y7 hi,List.tail_append_of_ne_nil hX,List.tail_append_of_ne_nil hY,List.map_append,List.map_append]
   congr 1
   rw[List.map_tail,List.map_tail]
   have t1:(st.bs.take (kp r W)++[B]).map Brn.n=(st.bs.map Brn.n).take (kp r W+1):=by
    rw[<-List.map_take,qe6 (List.getElem?_eq_getElem hib),List.map_append,List.map_append];rfl
   have t2:(W.take (kp r W)++[((W[kp r W]).1,(W[kp r W]).2++wc2 nm (W.drop (kp r W+1)))]).map (fun e=>gd nm e.1)=(W.map fun e=>gd nm e.1).take (kp r W+1):=by
    rw[<-List.map_take,qe6 (List.getElem?_eq_getElem hi),List.map_append,List.map_append];rfl
   rw[t1,t2,ya3,ya3,<-List.map_tail,<-List.map_tail,h.cn]
  ·rcases List.mem_append.mp hb with hb|hb
   ·exact(mem1 b hb).1
   ·rw[List.mem_singleton.mp hb];exact hgl
  ·rcases List.mem_append.mp hb with hb|hb
   ·exact(mem1 b hb).2.1
   ·rw[List.mem_singleton.mp hb]
  ·rcases List.mem_append.mp hb with hb|hb
   ·have:=(mem1 b hb).2.2.1;omega
   ·rw[List.mem_singleton.mp hb];show((st.bs[kp r W]).pl++[_]).length<=_;rw[List.length_append,List.length_singleton];omega
  ·rcases List.mem_append.mp hb with hb|hb
   ·have:=(mem1 b hb).2.2.2;omega
   ·rw[List.mem_singleton.mp hb];show([_]:List Tr).length<=_;simp;omega
  ·show st1.ms.length+((st.bs.take (kp r W)++[B])++[_]).length=_
   simp only[List.length_append,List.length_singleton,hpre]
   omega
  ·show(st.ls++[_]).length=_
   rw[List.length_append,List.length_singleton,hls]
 ·show st.ms++_=_
  rw[ems]
theorem ya4{nm:List Str}{c:Nat}{rs:List Row}{z:Str}(P:PlB nm c rs)(hN:Nms nm)(hc:c<=nm.length)(hc12:c<=12):∀ (its:List (Nat×Str)) (Pz:List Nat) (W:List Lv) (st:Rst) (j:Nat),z.cps.toList=Pz++pcs (itS nm its)->WOk c W->Cor nm W st j->(∀ p∈its,p.1<c/\yo6 (gd nm p.1,p.2))->j+its.length<=80 ->
 ∃ st',yg0 rs (fun _=>0) z st (tkF Pz.length (itS nm its)) st'/\Cor nm (mW nm its W) st' (j+its.length)/\WOk c (mW nm its W)/\st'.ms=st.ms++mM nm Pz.length its W
 | [],Pz,W,st,j,_,hW,h,_,_=>⟨st,.nil,h,hW,by simp[mM]⟩
 | p :: t,Pz,W,st,j,ez,hW,h,hit,hj=>by
   obtain⟨hr,ok⟩:=hit p (by simp)
   rw[List.length_cons] at hj
   have en:=qe1 (gd nm p.1)
   have ew:=qe1 p.2
   have ez2:z.cps.toList=(Pz++60::((gd nm p.1).cps.toList++62::p.2.cps.toList))++pcs (itS nm t):=by rw[ez];simp[pcs,itS]
   have ez3:z.cps.toList=(Pz++60::((gd nm p.1).cps.toList++[62]))++(p.2.cps.toList++pcs (itS nm t)):=by rw[ez];simp[pcs,itS]
   have l3:(Pz++60::((gd nm p.1).cps.toList++[62])).length=Pz.length+(gd nm p.1).length+2:=by simp only[List.length_append,List.length_cons,List.length_nil,en];omega
   have l2:(Pz++60::((gd nm p.1).cps.toList++62::p.2.cps.toList)).length=Pz.length+(gd nm p.1).length+2+p.2.length:=by simp only[List.length_append,List.length_cons,en,ew];omega
   obtain⟨st1,st2,h1,h2,h3,h4⟩:=h.step P hN hc hc12 hW (by omega) hr ok.wl ok.no Pz.length ((Pz.length+(gd nm p.1).length+2:Nat):Int) (qi8 z (some ((Pz.length:Nat):Int)) (some ((Pz.length+(gd nm p.1).length+2:Nat):Int)))
   obtain⟨st',g1,g2,g3,g4⟩:=ya4 P hN hc hc12 t _ _ st2 (j+1) ez2 (xi1 hW hr) h3 (fun q hq=>hit q (by simp[hq])) (by omega)
   rw[l2] at g1 g4
   refine⟨st',?_,by rw[List.length_cons,show j+(t.length+1)=j+1+t.length by omega];exact g2,g3,?_⟩
   ·have hcut:qi8 z (some ((Pz.length+(gd nm p.1).length+2:Nat):Int)) (some ((Pz.length+(gd nm p.1).length+2+p.2.length:Nat):Int))=p.2:=by
     have:=zg7 (v:=p.2) ez3 rfl
     rw[l3] at this
     exact this
    refine .cons (.inl ⟨rfl,h1⟩) (.cons (.inr ⟨rfl,?_⟩) g1)
    show yw3 rs st1 _ (qi8 z (some ((Pz.length+(gd nm p.1).length+2:Nat):Int)) (some ((Pz.length+(gd nm p.1).length+2+p.2.length:Nat):Int))) p.2 st2
    rw[hcut];exact h2
   ·rw[g4,h4,mM,List.append_assoc]
    congr 3
    unfold itL;omega
def rml(H:Hp)(ps:List Addr):Hp:=fun z=>if z∈ps then none else H z
theorem yp2{z:Addr}(h:z∈ps):rml H ps z=none:=if_pos h
theorem wr5{z:Addr}(h:z∉ps):rml H ps z=H z:=if_neg h
theorem yp3:A6 (rml H ps) H:=fun c o e=>by
 by_cases h:c∈ps
 ·rw[yp2 h] at e;cases e
 ·rw[wr5 h] at e;exact e
theorem A6.rml(s:A6 H0 H)(h:∀ z∈ps,H0 z=none):A6 H0 (rml H ps):=fun c o e=>by
 rw[wr5 fun hc=>by rw[h c hc] at e;cases e];exact s c o e
inductive HsB(K:Fg)(H:Hp):List Addr->List (List Tr)->Prop
 | nil:HsB K H [] []
 | cons {a:Addr} {w:List Tr} {us:List V} {as:List Addr} {ws:List (List Tr)}:H a=some (.lst us)->Dvs K H (Tr.das w) us->HsB K H as ws->HsB K H (a::as) (w::ws)
structure Hps(K:Fg)(H:Hp)(L:Addr)(as:List Addr)(ws:List (List Tr)):Prop where
 l:H L=some (.lst (as.map V.ref))
 b:HsB K H as ws
 nd:(L::as).Nodup
section
variable{H':Hp}{L:Addr}{as as2:List Addr}{ws ws2:List (List Tr)}{w:List Tr}{ps:List Addr}
theorem HsB.len(h:HsB K H as ws):as.length=ws.length:=by
 induction h with
 | nil=>rfl
 | cons _ _ _ ih=>simp[ih]
theorem HsB.but(h:HsB K H as ws)(bt:But ps H H')(tk:P8 H H')(hd:∀ z∈as,z∉ps):HsB K H' as ws:=by
 induction h with
 | nil=>exact .nil
 | cons h1 h2 _ ih=>exact .cons (bt _ _ h1 (hd _ (by simp))) (Dvs.tupK tk _ _ (X3 _) h2) (ih fun z hz=>hd z (by simp[hz]))
theorem HsB.app(h:HsB K H as ws)(h2:HsB K H as2 ws2):HsB K H (as++as2) (ws++ws2):=by
 induction h with
 | nil=>exact h2
 | cons h1 h3 _ ih=>exact .cons h1 h3 ih
theorem HsB.snoc(h:HsB K H as (ws++[w])):∃ as' a us,as=as'++[a]/\HsB K H as' ws/\H a=some (.lst us)/\Dvs K H (Tr.das w) us:=by
 induction ws generalizing as with
 | nil=>cases h with|cons h1 h2 h3=>cases h3;exact⟨[],_,_,rfl,.nil,h1,h2⟩
 | cons c ws ih =>
   cases h with
   | cons h1 h2 h3 =>
     obtain⟨as',a,us,rfl,h4,h5,h6⟩:=ih h3
     exact⟨_::as',a,us,rfl,.cons h1 h2 h4,h5,h6⟩
theorem HsB.mut(h:HsB K H as ws):∀ z∈as,wy6 H z:=by
 induction h with
 | nil=>intro z hz;cases hz
 | cons h1 _ _ ih =>
   intro z hz
   rcases List.mem_cons.mp hz with rfl|hz
   ·exact .inl ⟨_,h1⟩
   ·exact ih z hz
theorem Hps.mut(h:Hps K H L as ws):∀ z∈L::as,wy6 H z:=fun z hz=>by
 rcases List.mem_cons.mp hz with rfl|hz
 ·exact .inl ⟨_,h.l⟩
 ·exact h.b.mut z hz
theorem wy6.some{z:Addr}(h:wy6 H z):H z≠none:=fun e=>by
 rcases h with⟨xs,e2⟩|⟨C,dx,fs,e2⟩ <;> rw[e] at e2 <;> cases e2
theorem Hps.but(h:Hps K H L as ws)(bt:But ps H H')(tk:P8 H H')(hd:∀ z∈L::as,z∉ps):Hps K H' L as ws :=
 ⟨bt _ _ h.l (hd _ (by simp)),h.b.but bt tk fun z hz=>hd z (by simp[hz]),h.nd⟩
theorem Hps.same(h:Hps K H L as ws)(s:A6 H H'):Hps K H' L as ws:=h.but (ps:=[]) (fun c o e _=>s c o e) s.tupK fun _ _ z=>by cases z
theorem Hps.upd(h:Hps K H L as ws)(hp:wy6 H p\/H p=none)(hn:p∉L::as):Hps K (upd H p o) L as ws :=
 h.but But.upd1 (hp.elim J7 fun e=>(A6.new e o).tupK) fun z hz e=>hn (by rw[List.mem_singleton.mp e] at hz;exact hz)
theorem Hps.pop(h:Hps K H L as (ws++[w])):∃ as' a us,as=as'++[a]/\H L=some (.lst (as'.map V.ref++[.ref a]))/\Hps K (L2.upd H L (.lst (as'.map V.ref))) L as' ws/\(L2.upd H L (.lst (as'.map V.ref))) a=some (.lst us)/\Dvs K (L2.upd H L (.lst (as'.map V.ref))) (Tr.das w) us:=by
 obtain⟨as',a,us,rfl,h1,h2,h3⟩:=h.b.snoc
 have nd:=h.nd
 rw[List.nodup_cons,List.nodup_append] at nd
 have tk:P8 H (L2.upd H L (.lst (as'.map V.ref))):=J7 (.inl ⟨_,h.l⟩)
 have nL:∀ z∈as'++[a],z≠L:=fun z hz e=>nd.1 (e▸hz)
 refine⟨as',a,us,rfl,by rw[h.l,List.map_append];rfl,⟨A4,h1.but But.upd1 tk fun z hz e=>nL z (by simp[hz]) (List.mem_singleton.mp e),?_⟩,D1 h2 (nL a (by simp)),Dvs.tupK tk _ _ (X3 _) h3⟩
 rw[List.nodup_cons]
 exact⟨fun e=>nd.1 (by simp[e]),nd.2.1⟩
theorem Hps.top(h:Hps K H L as (ws++[w])):∃ as' a us,as=as'++[a]/\H a=some (.lst us)/\Dvs K H (Tr.das w) us/\H L=some (.lst (as'.map V.ref++[.ref a]))/\∀ w' us',Dvs K H (Tr.das w') us'->Hps K (L2.upd H a (.lst us')) L as (ws++[w']):=by
 obtain⟨as',a,us,rfl,h1,h2,h3⟩:=h.b.snoc
 have nd:=h.nd
 rw[List.nodup_cons,List.nodup_append] at nd
 refine⟨as',a,us,rfl,h2,h3,by rw[h.l,List.map_append];rfl,fun w' us' hd=>?_⟩
 have tk:P8 H (L2.upd H a (.lst us')):=J7 (.inl ⟨_,h2⟩)
 refine⟨D1 h.l fun e=>nd.1 (by rw[e];simp),(h1.but But.upd1 tk fun z hz e=>nd.2.2.2 z hz a (by simp) (List.mem_singleton.mp e)).app (.cons A4 (Dvs.tupK tk _ _ (X3 _) hd) .nil),h.nd⟩
theorem Hps.get(h:Hps K H L (as++[a]) (ws++[w])):∃ us,H a=some (.lst us)/\Dvs K H (Tr.das w) us:=by
 obtain⟨as',a',us,e,h1,h2,h3⟩:=h.b.snoc
 obtain⟨rfl,e2⟩:=List.append_inj' e rfl
 obtain rfl:=(List.cons.inj e2).1
 exact⟨us,h2,h3⟩
theorem Hps.put{w':List Tr}{us':List V}(h:Hps K H L (as++[a]) (ws++[w]))(hd:Dvs K H (Tr.das w') us'):Hps K (L2.upd H a (.lst us')) L (as++[a]) (ws++[w']):=by
 obtain⟨as',a',us,e,_,_,_,q⟩:=h.top
 obtain⟨rfl,e2⟩:=List.append_inj' e rfl
 obtain rfl:=(List.cons.inj e2).1
 exact q w' us' hd
theorem Hps.push(h:Hps K H L as ws)(hp:H p=none)(hd:Dvs K H (Tr.das w) us):Hps K (L2.upd (L2.upd H p (.lst us)) L (.lst (as.map V.ref++[.ref p]))) L (as++[p]) (ws++[w]):=by
 have nd:=h.nd
 have s:=A6.new hp (.lst us)
 have nL:p≠L:=fun e=>by rw[e,h.l] at hp;cases hp
 have na:∀ z∈as,z≠p:=fun z hz e=>(h.b.mut z hz).some (e▸hp)
 have h1:=h.same s
 have e1:(L2.upd H p (.lst us)) p=some (.lst us):=A4
 have d1:=Dvs.same s _ _ hd
 generalize L2.upd H p (.lst us)=H1 at *
 have tk:P8 H1 (L2.upd H1 L (.lst (as.map V.ref++[.ref p]))):=J7 (.inl ⟨_,h1.l⟩)
 rw[List.nodup_cons] at nd
 refine⟨by rw[A4,List.map_append];rfl,(h1.b.but But.upd1 tk fun z hz e=>nd.1 (by rw[List.mem_singleton.mp e] at hz;exact hz)).app (.cons (D1 e1 nL) (Dvs.tupK tk _ _ (X3 _) d1) .nil),?_⟩
 rw[List.nodup_cons,List.nodup_append]
 exact⟨fun e=>(List.mem_append.mp e).elim nd.1 fun e=>nL (List.mem_singleton.mp e).symm,nd.2,by simp,fun x hx y hy e=>na x hx (by rw[e];exact List.mem_singleton.mp hy)⟩
theorem Hps.one(h1:H p=some (.lst []))(h2:H L=some (.lst [.ref p])):Hps K H L [p] [[]] :=
 ⟨h2,.cons h1 (by rw[Tr.das];exact G1) .nil,by
  rw[List.nodup_cons]
  exact⟨fun e=>(by rw[List.mem_singleton.mp e,h1] at h2;cases h2),by simp⟩⟩
theorem Hps.first(h:Hps K H L as (w::ws)):∃ a as' us,as=a::as'/\H a=some (.lst us)/\Dvs K H (Tr.das w) us:=by
 have:=h.b
 cases this with
 | cons h1 h2 h3=>exact⟨_,_,_,rfl,h1,h2⟩
end
theorem xp4{w:List Tr}(h:Dvs K H (Tr.das w) us)(hv:Dv K H t.da v):Dvs K H (Tr.das (w++[t])) (us++[v]):=by
 rw[Z7,List.map_append,<-Z7]
 exact Dvs.append h (Dvs.one hv)
theorem yp4(h1:H p=some (.lst (D7 ns)))(h2:H e=some (.lst []))(h:Q (.bl (!ns.isEmpty)) H):wp3 K (.ref p) (.ref e) H Q:=by
 refine zl8 (ds:=xt5 ns) (ql6.mpr ⟨p,_,rfl,SqL.of h1,wh3.mpr rfl⟩) h2 ?_
 have:(xt5 ns).isEmpty=ns.isEmpty:=by cases ns <;> rfl
 rw[this];exact h
def rkI(W:List Lv):List Int:=W.tail.map fun e=>((e.1:Nat):Int)
theorem yp5{α:Type}{p:α->Bool}:∀ (l:List α) (h:(l.takeWhile p).length<l.length),p (l[(l.takeWhile p).length]'h)=false
 | [],h=>by simp at h
 | x :: l,h=>by
   cases e:p x with
   | true =>
     have e1:(x::l).takeWhile p=x::l.takeWhile p:=by rw[List.takeWhile_cons,e];rfl
     have h2:(l.takeWhile p).length<l.length:=by rw[e1] at h;simpa using h
     have:=yp5 l h2
     simp only[e1,List.length_cons,List.getElem_cons_succ]
     exact this
   | false =>
     have e1:(x::l).takeWhile p=[]:=by rw[List.takeWhile_cons,e];rfl
     simp only[e1,List.length_nil,List.getElem_cons_zero]
     exact e
theorem qy3(h0:0<i)(h:i<W.length):W.tail[i-1]?=some (W[i]'h):=by
 cases W with
 | nil=>simp at h
 | cons x W =>
   cases i with
   | zero=>omega
   | succ i=>simp at h ⊢
theorem yz1(h0:0<i)(h1:i<=kp r W)(h2:i<W.length):(W[i]'h2).1<r:=by
 have e:=qy3 h0 h2
 have e2:(W.tail.take (kp r W))[i-1]?=some (W[i]'h2):=by rw[List.getElem?_take,if_pos (by omega)];exact e
 unfold kp at e2
 rw[xi0] at e2
 have:=xu9 (List.mem_of_getElem? e2)
 unfold ltR at this
 simpa using this
theorem yz2(hW:WOk c W)(h1:kp r W<i)(h2:i<W.length):r<=(W[i]'h2).1:=by
 have hl:(W.tail.takeWhile (ltR r)).length<W.tail.length:=by rw[List.length_tail];unfold kp at h1;omega
 have n:decide ((W.tail[(W.tail.takeWhile (ltR r)).length]'hl).1<r)=false:=yp5 W.tail hl
 have n2:r<=(W.tail[(W.tail.takeWhile (ltR r)).length]'hl).1:=by
  have:=of_decide_eq_false n
  omega
 by_cases e:i=kp r W+1
 ·have e3:=qy3 (i:=i) (by omega) h2
  rw[show i-1=(W.tail.takeWhile (ltR r)).length by unfold kp at e;omega,List.getElem?_eq_getElem hl] at e3
  rw[<-Option.some.inj e3];exact n2
 ·have hp:=List.pairwise_iff_getElem.mp hW.inc (W.tail.takeWhile (ltR r)).length (i-1) (by rw[List.length_map];exact hl) (by rw[List.length_map,List.length_tail];omega) (by unfold kp at h1 e;omega)
  rw[List.getElem_map,List.getElem_map] at hp
  have e3:=qy3 (i:=i) (by omega) h2
  rw[List.getElem?_eq_getElem (by rw[List.length_tail];omega)] at e3
  rw[<-Option.some.inj e3];omega
theorem yp6{nm:List Str}(h:W≠[]):clW nm (W.length-1) W=W:=by
 have hp:0<W.length:=List.length_pos_iff.mpr h
 rw[Y7 (by omega),List.drop_eq_nil_of_le (by omega)]
 have e:=yw5 (W:=W) (i:=W.length-1) (by omega)
 rw[List.drop_eq_nil_of_le (by omega)] at e
 show _++[(_,_++[])]=_
 rw[List.append_nil]
 exact e.symm
theorem yp7{nm:List Str}(h:i+1<W.length):clW nm (i+1) W=(W.take i++[W[i]'(by omega)])++[((W[i+1]'h).1,(W[i+1]'h).2++wc2 nm (W.drop (i+2)))]:=by
 rw[Y7 h,qe6 (List.getElem?_eq_getElem (by omega))]
theorem yp8{nm:List Str}(h:i+1<W.length):clW nm i W=W.take i++[((W[i]'(by omega)).1,(W[i]'(by omega)).2++[Tr.nd (gd nm (W[i+1]'h).1) ((W[i+1]'h).2++wc2 nm (W.drop (i+2)))])]:=by
 rw[Y7 (by omega),<-List.getElem_cons_drop (h:=h)];rfl
inductive NS(K:Fg)(H0:Hp)(pr pw pn:Addr)(x5 x6:Option V)(W:List Lv):St->Hp->Prop
 | mk {H':Hp} {L T:Addr} {as:List Addr} {x7:Option V} (s:A6 H0 H') (h:Hps K H' L as (W.map Prod.snd)) (ht:H' T=some (.lst (D7 (rkI W)))) (nT:T∉L::as) (n0:∀ z∈T::L::as,H0 z=none):NS K H0 pr pw pn x5 x6 W [some (.ref pr),some (.ref pw),some (.ref pn),some (.ref L),some (.ref T),x5,x6,x7] H'
theorem WOk.get(hW:WOk c W)(h0:0<i)(h:i<W.length):(W[i]'h).1<c:=hW.lt _ (List.mem_of_getElem? (qy3 h0 h))
abbrev qt6(K:Fg):TS :=
 (G5 (tBM K "list" G6 (tOp (L4 K) (A2 3) (tUn (rU fun i=>.int (-i)) (tC (.int 1)))) (A1 (W3 (A1 (tOp (L4 K) (A2 2) (xk4 K "list" xk6 (A2 4))) (A1 (tCB (Z5 K) (A1 (A2 7) A8)) A8))) A8)))
abbrev qt7(K:Fg):TS :=
 (B7 (G5 (tBM K "list" G6 (A2 4) (A1 (A2 5) A8)))
 (G5 (tBM K "list" G6 (A2 3) (A1 (T7 (A1 (A2 6) A8)) A8))))
theorem yp9{pr pw:Addr}{x6:Option V}{nm:List Str}(hρ:∀ n:Nat,ρ<=(n:Int)↔r<=n)(hn:SqL K H0 pn (B3 nm))(hc:c<=nm.length)(hW:WOk c W)(hWl:∀ w∈W,w.2.length<=1000)(h:NS K H0 pr pw pn (some (.int ρ)) x6 W σ H)(q:∀ σ' H',NS K H0 pr pw pn (some (.int ρ)) x6 (clW nm (kp r W) W) σ' H'->D.nx σ' H') :
 qn9 (wp1 (E3 (tOp (wp3 K) (A2 4) (T7 A8))) (E3 (tOp xf0 (tOp (L4 K) (A2 4) (tUn (rU fun i=>.int (-i)) (tC (.int 1)))) (A2 5)))) (B7 (E1 (xk4 K "list" xk6 (A2 3)) (B1 7)) (qt6 K)) D σ H:=by
 have hp:0<W.length:=List.length_pos_iff.mpr hW.ne
 refine⟨fun i σ H=>kp r W<=i/\i<W.length/\NS K H0 pr pw pn (some (.int ρ)) x6 (clW nm i W) σ H,⟨W.length-1,by have:=wj1 (r:=r) hW.ne;omega,by omega,by rw[yp6 hW.ne];exact h⟩,?_⟩
 rintro i σ H ⟨hk,hi,h⟩
 obtain⟨s,hh,ht,nT,n0⟩:=h
 rename_i L T as x7
 refine xs3 ?_
 lk
 refine⟨D8 (by z_go),fun e he=>?_⟩
 have s1:=A6.new he (.lst [])
 lk
 refine yp4 (s1 _ _ ht) A4 ?_
 lk
 have hh1:=hh.same s1
 have ht1:=s1 _ _ ht
 have ss1:=A6.tr s s1
 generalize L2.upd H e (.lst [])=H1 at *
 cases i with
 | zero =>
   have e0:rkI (clW nm 0 W)=[]:=by rw[Y7 hi];rfl
   rw[e0]
   k_go
   lk
   have:kp r W=0:=by omega
   rw[this] at q
   exact q _ _ ⟨ss1,hh1,ht1,nT,n0⟩
 | succ i =>
   have er:rkI (clW nm (i+1) W)=rkI (clW nm i W)++[(((W[i+1]'hi).1:Nat):Int)]:=by
    rw[yp7 hi,yp8 hi]
    unfold rkI
    have hA:W.take i++[W[i]'(by omega)]≠[]:=List.append_ne_nil_of_right_ne_nil _ (List.cons_ne_nil _ _)
    rw[List.tail_append_of_ne_nil hA,List.map_append]
    congr 1
    cases i with
    | zero=>rfl
    | succ i =>
      have:W.take (i+1)≠[]:=by
       intro e2
       have:=congrArg List.length e2
       rw[List.length_take,List.length_nil] at this;omega
      rw[List.tail_append_of_ne_nil this,List.tail_append_of_ne_nil this,List.map_append,List.map_append];rfl
   rw[er] at ht1 ⊢
   refine xz6 (by simp) ?_
   lk
   refine⟨1,rfl,?_⟩
   refine S4 (SqL.of ht1) (v:=.int (((W[i+1]'hi).1:Nat):Int)) (ql8 (n:=(rkI (clW nm i W)).length) (by rw[M6];simp) (by unfold D7;simp)) ?_
   lk
   by_cases hg:r<=(W[i+1]'hi).1
   ·rw[decide_eq_true (show(((W[i+1]'hi).1:Nat):Int)>=ρ from (hρ _).mpr hg)]
    x_go
    have hk2:kp r W<=i:=by
     rcases Nat.lt_or_ge i (kp r W) with hlt|hge
     ·have:=yz1 (r:=r) (i:=i+1) (by omega) (by omega) hi;omega
     ·exact hge
    refine⟨fun σ' H'=>NS K H0 pr pw pn (some (.int ρ)) x6 (clW nm i W) σ' H',fun σ' H' hN=>⟨i,by omega,hk2,by omega,hN⟩,?_⟩
    rw[yp7 hi,List.map_append] at hh1
    obtain⟨as',a,us,rfl,hL,hh2,ha,hd⟩:=hh1.pop
    have nTL:T≠L:=fun e=>nT (by rw[e];simp)
    have nTa:T∉L::as':=fun e=>nT (by rcases List.mem_cons.mp e with e|e;exact e▸(by simp);simp[e])
    have ht2:=D1 (o:=.lst (as'.map V.ref)) ht1 nTL
    have s2:A6 H0 (L2.upd H1 L (.lst (as'.map V.ref))):=A6.put ss1 (n0 L (by simp)) _
    lk
    refine⟨.inl ⟨rfl,_,SqL.of hL⟩,?_⟩
    refine xl8 hL ?_
    generalize L2.upd H1 L (.lst (as'.map V.ref))=H2 at *
    rw[List.map_append] at hh2
    obtain⟨as2,x,us2,rfl,hx,hxd,hL2,_⟩:=hh2.top
    lk
    refine⟨1,rfl,?_⟩
    refine S4 (SqL.of hL2) (v:=.ref x) (ql8 (n:=as2.length) (by simp) (by simp)) ?_
    lk
    refine⟨.inl ⟨rfl,_,SqL.of hx⟩,?_⟩
    lk
    have eT:D7 (rkI (clW nm i W)++[(((W[i+1]'hi).1:Nat):Int)])=D7 (rkI (clW nm i W))++[.int (((W[i+1]'hi).1:Nat):Int)]:=by simp[D7]
    rw[eT] at ht2
    refine⟨.inl ⟨rfl,_,SqL.of ht2⟩,?_⟩
    refine xl8 ht2 ?_
    have hh3:=hh2.upd (p:=T) (o:=.lst (D7 (rkI (clW nm i W)))) (.inl (.inl ⟨_,ht2⟩)) nTa
    have s3:A6 H0 (L2.upd H2 T (.lst (D7 (rkI (clW nm i W))))):=A6.put s2 (n0 T (by simp)) _
    have tk3:P8 H2 (L2.upd H2 T (.lst (D7 (rkI (clW nm i W))))):=J7 (.inl ⟨_,ht2⟩)
    have na:a≠T:=fun e=>nT (by rw[<-e];simp)
    have ha3:=D1 (o:=.lst (D7 (rkI (clW nm i W)))) ha na
    have hd3:=Dvs.tupK tk3 _ _ (X3 _) hd
    have ht3:(L2.upd H2 T (.lst (D7 (rkI (clW nm i W))))) T=_:=A4
    generalize L2.upd H2 T (.lst (D7 (rkI (clW nm i W))))=H3 at *
    have hlt:(W[i+1]'hi).1<nm.length:=Nat.lt_of_lt_of_le (hW.get (by omega) hi) hc
    lk
    refine S4 (s3.sqL hn) (qx7 hlt) ?_
    lk
    refine⟨_,_,rfl,.inl ⟨SqL.of ha3,fun l hl=>?_⟩⟩
    lk
    refine⟨D8 (by z_go),fun p hp=>?_⟩
    have s4:=A6.tr (A6.new hl (.tup us)) (A6.new hp (.tup [.str (gd nm (W[i+1]'hi).1),.ref l]))
    have s4b:=A6.new hp (.tup [.str (gd nm (W[i+1]'hi).1),.ref l])
    have dt:Dv K _ (Tr.nd (gd nm (W[i+1]'hi).1) ((W[i+1]'hi).2++wc2 nm (W.drop (i+2)))).da (.ref p):=xz0 (SqT.of (A4 (H:=upd H3 l (.tup us)) (a:=p) (o:=.tup [.str (gd nm (W[i+1]'hi).1),.ref l]))) (s4b.sqT (SqT.of A4)) (Dvs.same s4 _ _ hd3)
    generalize L2.upd (L2.upd H3 l (.tup us)) p (.tup [.str (gd nm (W[i+1]'hi).1),.ref l])=H4 at *
    have hh4:=hh3.same s4
    lk
    obtain⟨us4,hx4,hxd4⟩:=hh4.get
    have hul:=wa1 hxd4
    have hwi:=hWl (W[i]'(by omega)) (List.getElem_mem _)
    have sx:H4 x=_:=hx4
    refine I9 hx4 (by rw[hul,sizeLine_eq];omega) ?_
    have hh5:=hh4.put (xp4 hxd4 dt)
    have s5:A6 H0 (L2.upd H4 x (.lst (us4++[.ref p]))):=A6.put (A6.tr s3 s4) (n0 x (by simp)) _
    refine⟨s5,?_,D1 (s4 _ _ ht3) fun e=>nTa (by rw[e];simp),nTa,fun z hz=>n0 z ?_⟩
    ·rw[yp8 hi,List.map_append]
     exact hh5
    ·simp only[List.mem_cons,List.mem_append] at hz ⊢
     rcases hz with h|h|h|h
     ·exact .inl h
     ·exact .inr (.inl h)
     ·exact .inr (.inr (.inl (.inl h)))
     ·exact .inr (.inr (.inl (.inr h)))
   ·rw[decide_eq_false (show ¬(((W[i+1]'hi).1:Nat):Int)>=ρ from fun h=>hg ((hρ _).mp h))]
    k_go
    have hk2:kp r W=i+1:=by
     rcases Nat.lt_or_ge (kp r W) (i+1) with hlt|hge
     ·have:=yz2 (r:=r) (i:=i+1) hW hlt hi;omega
     ·omega
    rw[hk2] at q
    rw[<-er] at ht1
    exact q _ _ ⟨ss1,hh1,ht1,nT,n0⟩
def rt0(nm:List Str):List Lv->List Tr
 | []=>[]
 | e::t=>e.2++wc2 nm t
def ntF(nm:List Str)(its:List (Nat×Str)):List Tr:=rt0 nm (mW nm its [(0,[])])
theorem yq0{nm:List Str}(h:W≠[]):∃ e,clW nm 0 W=[e]/\e.2=rt0 nm W:=by
 cases W with
 | nil=>exact absurd rfl h
 | cons e t=>exact⟨_,rfl,rfl⟩
theorem ww0{nm:List Str}{c:Nat}:∀ {its:List (Nat×Str)} {W:List Lv},WOk c W->(∀ p∈its,p.1<c)->WOk c (mW nm its W)
 | [],W,h,_=>h
 | p::t,W,h,hp=>by rw[mW];exact ww0 (xi1 h (hp p (by simp))) fun q hq=>hp q (by simp[hq])
theorem wr6(nm:List Str)(i:Nat)(W:List Lv):(clW nm i W).length<=W.length:=by
 rcases Nat.lt_or_ge i W.length with h|h
 ·rw[Y7 h,List.length_append,List.length_take];simp;omega
 ·unfold clW
  rw[List.drop_eq_nil_of_le h];exact Nat.le_refl _
theorem xv0(nm:List Str):∀ (its:List (Nat×Str)) (W:List Lv),(mW nm its W).length<=W.length+its.length
 | [],W=>by simp[mW]
 | p::t,W=>by
   have:=xv0 nm t (stW nm W p.1 p.2)
   have h2:=wr6 nm (kp p.1 W) W
   unfold stW at this
   rw[List.length_append,List.length_singleton] at this
   rw[mW,List.length_cons];unfold stW;omega
theorem yq1(nm:List Str)(W:List Lv):(wc2 nm W).length<=1:=by cases W <;> simp[wc2]
theorem zg8{nm:List Str}{m:Nat}(h:∀ w∈W,w.2.length<=m):∀ w∈clW nm i W,w.2.length<=m+1:=fun w hw=>by
 rcases Nat.lt_or_ge i W.length with hi|hi
 ·rw[Y7 hi] at hw
  rcases List.mem_append.mp hw with hw|hw
  ·have:=h w (List.mem_of_mem_take hw);omega
  ·rw[List.mem_singleton.mp hw]
   have h1:=h (W[i]) (List.getElem_mem hi)
   have h2:=yq1 nm (W.drop (i+1))
   show(_++_:List Tr).length<=_
   rw[List.length_append];omega
 ·unfold clW at hw
  rw[List.drop_eq_nil_of_le hi] at hw
  have:=h w hw;omega
theorem yz3{nm:List Str}:∀ {its:List (Nat×Str)} {W:List Lv} {m:Nat},(∀ w∈W,w.2.length<=m)->∀ w∈mW nm its W,w.2.length<=m+its.length
 | [],W,m,h=>fun w hw=>by have:=h w hw;simp;omega
 | p::t,W,m,h=>fun w hw=>by
   have:=yz3 (its:=t) (W:=stW nm W p.1 p.2) (m:=m+1) (fun w hw=>by
    rcases List.mem_append.mp hw with hw|hw
    ·exact zg8 h w hw
    ·rw[List.mem_singleton.mp hw];simp) w hw
   rw[List.length_cons];omega
abbrev qt8(K:Fg):TS :=
 (B7 (qn9 (wp1 (E3 (tOp (wp3 K) (A2 4) (T7 A8))) (E3 (tOp xf0 (tOp (L4 K) (A2 4) (tUn (rU fun i=>.int (-i)) (tC (.int 1)))) (A2 5))))
 (B7 (E1 (xk4 K "list" xk6 (A2 3)) (B1 7))
 (qt6 K)))
 (T5 (E3 (tOp xf0 (A2 5) (tC (.int 0))))
 (qt7 K) O3))
abbrev qt9(K:Fg):TS :=
 (G9 (W3 (A1 (tC (.str "")) (A1 (tCB (Z5 K) (A1 (tOp (L4 K) (A2 3) (tC (.int 0))) A8)) A8))))
abbrev qu0(K:Fg):TS :=
 (B7 (qg5 (xy5 K (A1 (tOp (I0 K) (A2 0) (T7 (A1 (tOp (rI0 fun i j=>.int (i-j)) (tC (.int 0)) (tC (.int 1))) A8))) (A1 (tOp (I0 K) (A2 1) (T7 (A1 (tC (.str "")) A8))) A8))) (xj6 K 2 (qg2 (B1 5) (qg2 (B1 6) xj5)))
 (qt8 K))
 (qt9 K))
def qa6(K:Fg):Sp:=fun vs H Q _=>∃ (pr pw pn:Addr) (its:List (Nat×Str)) (nm:List Str) (c:Nat),vs=[.ref pr,.ref pw,.ref pn]/\H pr=some (.lst (D7 (its.map fun p=>((p.1:Nat):Int))))/\H pw=some (.lst (B3 (its.map Prod.snd)))/\SqL K H pn (B3 nm)/\c<=nm.length/\(∀ p∈its,p.1<c)/\its.length<=80/\∀ (v:V) (H':Hp),A6 H H'->Dv K H' (Tr.nd "" (ntF nm its)).da v->Q v H'
def qe2(K:Fg):TS :=
 (B7 (E1 (T7 (A1 (T7 A8) A8)) (B1 3))
 (B7 (E1 (T7 A8) (B1 4))
 (qu0 K)))
theorem ww1(h:qa6 K vs H Q E):qe2 K {nx:=fun _ H'=>Q .non H',rt:=Q} (C9 ["_law_ranks","_law_words","_law_names_here","_law_heaps","_law_there","_law_rank","_law_word","_law_heap"] vs) H:=by
 obtain⟨pr,pw,pn,its,nm,c,rfl,hr,hw,hn,hc,hit,hl,q⟩:=h
 show qe2 K _ [some (.ref pr),some (.ref pw),some (.ref pn),none,none,none,none,none] H
 unfold qe2
 have hW0:WOk c [((0,[]):Lv)]:=⟨by simp,by simp,fun e he=>by cases he⟩
 lk
 refine⟨D8 (by z_go),fun p0 h0=>?_⟩
 lk
 refine⟨D8 (by z_go),fun L hL=>?_⟩
 lk
 refine⟨D8 (by z_go),fun T hT=>?_⟩
 lk
 have s1:=A6.new h0 (.lst [])
 have s2:=A6.new hL (.lst [.ref p0])
 have s3:=A6.new hT (.lst [])
 have s13:=A6.tr (A6.tr s1 s2) s3
 have eT:(L2.upd (L2.upd (L2.upd H p0 (.lst [])) L (.lst [.ref p0])) T (.lst [])) T=some (.lst []):=A4
 have hh:=(Hps.one (K:=K) (s2 _ _ (A4 (H:=H) (a:=p0) (o:=.lst []))) A4).same s3
 have hL0:H L=none:=A6.grow s1 _ hL
 have hT0:H T=none:=A6.grow (A6.tr s1 s2) _ hT
 have nTL:T∉[L,p0]:=fun e=>(hh.mut T (by simpa using e)).elim (fun⟨xs,e2⟩=>by
  simp only[List.mem_cons,List.not_mem_nil,or_false] at e
  rcases e with rfl|rfl
  ·rw[A4] at hT;cases hT
  ·rw[D1 (A4 (H:=H) (a:=T) (o:=.lst [])) (fun e=>by rw[e,A4] at hL;cases hL)] at hT;cases hT) fun⟨C,d,fs,e2⟩=>by rw[eT] at e2;cases e2
 generalize L2.upd (L2.upd (L2.upd H p0 (.lst [])) L (.lst [.ref p0])) T (.lst [])=H3 at *
 show qu0 K _ _ _
 refine Y5 (wt1 (xy7 ?_))
 lk
 refine⟨D8 (by z_go),fun m1 hm1=>?_⟩
 lk
 have t1:=A6.new hm1 (.lst [.int (0-1)])
 refine xx6 (t1 _ _ (s13 _ _ hr)) A4 (by rw[M6,List.length_map];exact D8 (by simp;omega)) fun A hA=>?_
 lk
 have t2:=A6.new hA (.lst (D7 (its.map fun p=>((p.1:Nat):Int))++[.int (0-1)]))
 refine⟨D8 (by z_go),fun m2 hm2=>?_⟩
 lk
 have t3:=A6.new hm2 (.lst [.str ""])
 have t13:=A6.tr (A6.tr t1 t2) t3
 refine xx6 (t13 _ _ (s13 _ _ hw)) A4 (by rw[C1,List.length_map];exact D8 (by simp;omega)) fun B hB=>?_
 lk
 have t4:=A6.new hB (.lst (B3 (its.map Prod.snd)++[.str ""]))
 have t14:=A6.tr t13 t4
 have eA:=t4 _ _ (t3 _ _ (A4 (H:=L2.upd H3 m1 (.lst [.int (0-1)])) (a:=A) (o:=.lst (D7 (its.map fun p=>((p.1:Nat):Int))++[.int (0-1)]))))
 have eB:=A4 (H:=L2.upd (L2.upd (L2.upd H3 m1 (.lst [.int (0-1)])) A (.lst (D7 (its.map fun p=>((p.1:Nat):Int))++[.int (0-1)]))) m2 (.lst [.str ""])) (a:=B) (o:=.lst (B3 (its.map Prod.snd)++[.str ""]))
 have nA:∀ z∈[T,L,p0],z≠A:=fun z hz e=>by
  have:H3 z≠none:=by
   rcases List.mem_cons.mp hz with h|h
   ·rw[h,eT];exact fun z=>by cases z
   ·exact(hh.mut z h).some
  rw[e] at this
  exact this (A6.grow t1 _ hA)
 have nB:∀ z∈[T,L,p0],z≠B:=fun z hz e=>by
  have:H3 z≠none:=by
   rcases List.mem_cons.mp hz with h|h
   ·rw[h,eT];exact fun z=>by cases z
   ·exact(hh.mut z h).some
  rw[e] at this
  exact this (A6.grow t13 _ hB)
 have hh4:=hh.same t14
 have eT4:=t14 _ _ eT
 have s14:=A6.tr s13 t14
 obtain⟨H4,e4⟩:∃ H4,H4=L2.upd (L2.upd (L2.upd (L2.upd H3 m1 (.lst [.int (0-1)])) A (.lst (D7 (its.map fun p=>((p.1:Nat):Int))++[.int (0-1)]))) m2 (.lst [.str ""])) B (.lst (B3 (its.map Prod.snd)++[.str ""])):=⟨_,rfl⟩
 rw[<-e4] at eA eB hh4 eT4 s14 ⊢
 have lA:(D7 (its.map fun p=>((p.1:Nat):Int))++[V.int (0-1)]).length=its.length+1:=by simp[D7]
 have lB:(B3 (its.map Prod.snd)++[V.str ""]).length=its.length+1:=by simp[B3]
 have n00:∀ z∈[T,L,p0],H z=none:=fun z hz=>by
  simp only[List.mem_cons,List.not_mem_nil,or_false] at hz
  rcases hz with h|h|h
  ·rw[h];exact hT0
  ·rw[h];exact hL0
  ·rw[h];exact h0
 have sH:=A6.rml s14 n00
 have s0:=yp3 (H:=H4) (ps:=[T,L,p0])
 have n0:∀ z∈[T,L,p0],rml H4 [T,L,p0] z=none:=fun z hz=>yp2 hz
 have eA0:rml H4 [T,L,p0] A=_:=(wr5 fun h=>nA A h rfl).trans eA
 have eB0:rml H4 [T,L,p0] B=_:=(wr5 fun h=>nB B h rfl).trans eB
 generalize rml H4 [T,L,p0]=H0 at *
 have hn0:=sH.sqL hn
 refine xm2 (SqL.of eA) (SqL.of eB) (fun i σ H'=>∃ W x5 x6,NS K H0 pr pw pn x5 x6 W σ H'/\((i<=its.length/\W=mW nm (its.take i) [(0,[])])\/(i=its.length+1/\W=clW nm 0 (mW nm its [(0,[])])))) ?_ ?_ ?_ ?_
 ·exact⟨[(0,[])],none,none,⟨s0,hh4,eT4,nTL,n0⟩,.inl ⟨Nat.zero_le _,rfl⟩⟩
 ·rintro i σ H' ⟨W,x5,x6,hN,_⟩
  obtain⟨s,_⟩:=hN
  exact⟨SqL.of (s _ _ eA0),SqL.of (s _ _ eB0)⟩
 ·rintro i x z σ H' p hx hz ⟨W,x5,x6,hN,hW⟩ hp
  obtain⟨s,hh5,ht5,nT5,n5⟩:=hN
  rename_i L T as x7
  have hi:i<its.length+1:=by
   rcases Nat.lt_or_ge i (its.length+1) with h|h
   ·exact h
   ·rw[List.getElem?_eq_none_iff.mpr (by rw[lA];exact h)] at hx;cases hx
  have eW:i<=its.length/\W=mW nm (its.take i) [(0,[])]:=by
   rcases hW with h|⟨h,_⟩
   ·exact h
   ·omega
  obtain⟨_,eW⟩:=eW
  have hit2:∀ p∈its.take i,p.1<c:=fun p hp=>hit p (List.mem_of_mem_take hp)
  have hWok:WOk c W:=by rw[eW];exact ww0 hW0 hit2
  have hWsz:∀ w∈W,w.2.length<=1000:=fun w hw=>by
   rw[eW] at hw
   have:=yz3 (m:=0) (fun w hw=>by rw[List.mem_singleton.mp hw];simp) w hw
   have h2:(its.take i).length<=its.length:=by rw[List.length_take];omega
   omega
  have sp:=A6.new hp (.tup [x,z])
  refine⟨p,_,rfl,SqT.of A4,rfl,_,_,rfl,J0 ⟨_,_,rfl,J0 ⟨rfl,?_⟩⟩⟩
  show qt8 K _ _ _
  have hNp:NS K H0 pr pw pn (some x) (some z) W [some (.ref pr),some (.ref pw),some (.ref pn),some (.ref L),some (.ref T),some x,some z,x7] (L2.upd H' p (.tup [x,z])):=⟨A6.tr s sp,hh5.same sp,sp _ _ ht5,nT5,n5⟩
  generalize L2.upd H' p (.tup [x,z])=H5 at *
  rcases Nat.lt_or_ge i its.length with hlt|hge
  ·have ei:its[i]?=some its[i]:=List.getElem?_eq_getElem hlt
   obtain rfl:x=.int ((its[i].1:Nat):Int):=by
    rw[List.getElem?_append_left (by simp[D7];exact hlt)] at hx
    simp[D7,ei] at hx
    exact hx.symm
   obtain rfl:z=.str its[i].2:=by
    rw[List.getElem?_append_left (by simp[B3];exact hlt)] at hz
    simp[B3,ei] at hz
    exact hz.symm
   refine Y5 ?_
   refine yp9 (r:=its[i].1) (fun n=>by omega) hn0 hc hWok hWsz hNp fun σ' H6 hN=>?_
   obtain⟨s6,hh6,ht6,nT6,n6⟩:=hN
   rename_i L6 T6 as6 x76
   lk
   rw[decide_eq_true (show((its[i].1:Nat):Int)>=0 by omega)]
   x_go
   show qt7 K _ _ _
   lk
   refine⟨.inl ⟨rfl,_,SqL.of ht6⟩,?_⟩
   lk
   refine I9 ht6 ?_ ?_
   ·rw[M6,sizeLine_eq]
    have:=(xi1 (nm:=nm) (w:=its[i].2) hWok (hit _ (List.getElem_mem hlt))).len
    have h2:(rkI (clW nm (kp its[i].1 W) W)).length<=W.length:=by
     have:=wj1 (r:=its[i].1) hWok.ne
     rw[Y7 this]
     unfold rkI
     rw[List.length_map,List.length_tail,List.length_append,List.length_take]
     simp;omega
    have h3:=hWok.len
    have h4:c<=1000\/1000<c:=by omega
    rcases h4 with h4|h4
    ·omega
    ·have h5:=xv0 nm (its.take i) [(0,[])]
     rw[<-eW] at h5
     have h6:(its.take i).length<=its.length:=by rw[List.length_take];omega
     simp at h5
     omega
   have hh7:=hh6.upd (p:=T6) (o:=.lst (D7 (rkI (clW nm (kp its[i].1 W) W))++[.int ((its[i].1:Nat):Int)])) (.inl (.inl ⟨_,ht6⟩)) nT6
   have s7:A6 H0 _:=A6.put s6 (n6 T6 (by simp)) (.lst (D7 (rkI (clW nm (kp its[i].1 W) W))++[.int ((its[i].1:Nat):Int)]))
   have ht7:(L2.upd H6 T6 (.lst (D7 (rkI (clW nm (kp its[i].1 W) W))++[.int ((its[i].1:Nat):Int)]))) T6=_:=A4
   generalize L2.upd H6 T6 (.lst (D7 (rkI (clW nm (kp its[i].1 W) W))++[.int ((its[i].1:Nat):Int)]))=H7 at *
   lk
   refine⟨.inl ⟨rfl,_,SqL.of hh7.l⟩,?_⟩
   lk
   refine⟨D8 (by z_go),fun p8 h8=>?_⟩
   lk
   have hh8:=hh7.push (w:=[Tr.tx its[i].2]) (us:=[.str its[i].2]) h8 (xp4 (w:=[]) (us:=[]) (by rw[Tr.das];exact G1) (E5.mpr rfl))
   refine I9 ((A6.new h8 _) _ _ hh7.l) ?_ ?_
   ·rw[List.length_map,hh7.b.len,List.length_map,sizeLine_eq]
    have h5:=xv0 nm (its.take i) [(0,[])]
    rw[<-eW] at h5
    have h6:(its.take i).length<=its.length:=by rw[List.length_take];omega
    have h7:=wr6 nm (kp its[i].1 W) W
    simp at h5
    omega
   have n8:H0 p8=none:=by
    have:=A6.grow s7 _ h8
    exact this
   have nT8:T6≠p8:=U0 h8 ht7
   have nL8:T6≠L6:=fun e=>nT6 (by rw[e];simp)
   refine⟨stW nm W its[i].1 its[i].2,_,_,⟨A6.put (A6.put s7 n8 _) (n6 L6 (by simp)) _,by unfold stW;rw[List.map_append];exact hh8,?_,?_,?_⟩,.inl ⟨hlt,by rw[qe6 ei,xh8,eW]⟩⟩
   ·rw[D1 (D1 ht7 nT8) nL8]
    have er:rkI (stW nm W its[i].1 its[i].2)=rkI (clW nm (kp its[i].1 W) W)++[((its[i].1:Nat):Int)]:=by
     unfold rkI stW
     have:=wj1 (r:=its[i].1) hWok.ne
     rw[List.tail_append_of_ne_nil (by rw[Y7 this];simp),List.map_append];rfl
    rw[er];simp[D7]
   ·intro e
    rcases List.mem_cons.mp e with e|e
    ·exact nL8 e
    ·rcases List.mem_append.mp e with e|e
     ·exact nT6 (by simp[e])
     ·exact nT8 (List.mem_singleton.mp e)
   ·intro z hz
    simp only[List.mem_cons,List.mem_append,List.not_mem_nil,or_false] at hz
    rcases hz with h|h|h|h
    ·exact n6 z (by simp[h])
    ·exact n6 z (by simp[h])
    ·exact n6 z (by simp[h])
    ·rw[h];exact n8
  ·have ei:i=its.length:=by omega
   obtain rfl:x=.int (0-1):=by
    rw[ei,List.getElem?_append_right (by simp[D7])] at hx
    simp[D7] at hx
    exact hx.symm
   refine Y5 ?_
   refine yp9 (r:=0) (fun n=>by omega) hn0 hc hWok hWsz hNp fun σ' H6 hN=>?_
   obtain⟨s6,hh6,ht6,nT6,n6⟩:=hN
   have ek:kp 0 W=0:=by
    unfold kp
    have:W.tail.takeWhile (ltR 0)=[]:=by cases W.tail with|nil=>rfl|cons e t=>rw[List.takeWhile_cons];rfl
    rw[this];rfl
   rw[ek] at hh6 ht6
   lk
   k_go
   lk
   refine⟨_,_,_,⟨s6,hh6,ht6,nT6,n6⟩,.inr ⟨by omega,by rw[eW,ei,List.take_length]⟩⟩
 ·rintro σ H' ⟨W,x5,x6,hN,hW⟩
  rw[lA,lB,Nat.min_self] at hW
  have eW:W=clW nm 0 (mW nm its [(0,[])]):=by
   rcases hW with⟨h,_⟩|⟨_,h⟩
   ·omega
   ·exact h
  obtain⟨s,hh5,ht5,nT5,n5⟩:=hN
  obtain⟨e,e1,e2⟩:=yq0 (nm:=nm) (ww0 (nm:=nm) hW0 hit).ne
  rw[eW,e1] at hh5
  obtain⟨a,as',us,rfl,ha,hd⟩:=hh5.first
  have e3:e.2=ntF nm its:=e2
  rw[e3] at hd
  show qt9 K _ _ _
  lk
  refine S4 (SqL.of hh5.l) (v:=.ref a) yo1 ?_
  lk
  refine⟨_,_,rfl,.inl ⟨SqL.of ha,fun l hl=>?_⟩⟩
  lk
  refine⟨D8 (by z_go),fun p hp=>?_⟩
  have u1:=A6.new hl (.tup us)
  have u2:=A6.new hp (.tup [.str "",.ref l])
  exact q _ _ (A6.tr (A6.tr (A6.tr sH s) u1) u2) (xz0 (SqT.of A4) (u2.sqT (SqT.of A4)) (Dvs.same (A6.tr u1 u2) _ _ hd))
theorem dg(n:Nat)(h:n<1000):(fun z:Str=>(decide (1<=z.length) && decide (z.length<=3) && z.cps.toList.all fun c=>decide (48<=c) && decide (c<=57))) (Str.ofString (toString (n:Int)))=true:=by
 revert n;decide +kernel
def wdS(i:Int):Str:=("w":Str)++Str.ofString (toString (i % 1000))
structure zm4(w:Str):Prop where
 w1:1<=w.length
 wl:w.length<=100
 no:∀ c∈w.cps.toList,c≠60/\c≠38
theorem yz4(i:Int):zm4 (wdS i):=by
 have h0:0<=i % 1000:=Int.emod_nonneg _ (by decide)
 have h1:i % 1000<1000:=Int.emod_lt_of_pos _ (by decide)
 obtain⟨n,hn⟩:=Int.eq_ofNat_of_zero_le h0
 have:=dg n (by omega)
 unfold wdS
 rw[hn]
 simp only[Bool.and_eq_true,decide_eq_true_eq,List.all_eq_true] at this
 obtain⟨⟨h2,h3⟩,h4⟩:=this
 have l1:(("w":Str)++Str.ofString (toString (n:Int))).length=1+(Str.ofString (toString (n:Int))).length:=qd5 _ _
 refine⟨by rw[l1];omega,by rw[l1];omega,fun c hc=>?_⟩
 rw[PySem.Str.cps_append,Array.toList_append] at hc
 rcases List.mem_append.mp hc with hc|hc
 ·have e:(("w":Str).cps.toList:List Nat)=[119]:=rfl
  rw[e] at hc
  have:=List.mem_singleton.mp hc
  omega
 ·have:=h4 c hc
  omega
mutual
theorem yz5:∀ t:Tr,nd t.da=true
 | .tx s=>by rw[Tr.da,nd]
 | .nd n ps=>by rw[Tr.da,nd,nds,nd,nds,nd,nds,ya5 ps];rfl
theorem ya5:∀ ts:List Tr,nds (Tr.das ts)=true
 | []=>by rw[Tr.das,nds]
 | t::ts=>by rw[Tr.das,nds,yz5 t,ya5 ts];rfl
end
mutual
theorem xp5:∀ t:Tr,t.da.depth<=2*hgt t+4
 | .tx s=>by rw[Tr.da];simp[PyData.depth]
 | .nd n ps=>by
   have:=xd5 ps
   rw[Tr.da,hgt]
   simp[PyData.depth,PyData.depthAll] at this ⊢
   omega
theorem xd5:∀ ts:List Tr,PyData.depthAll (Tr.das ts)<=2*qk9 ts+4
 | []=>by rw[Tr.das];simp[PyData.depthAll]
 | t::ts=>by
   have h1:=xp5 t
   have h2:=xd5 ts
   rw[Tr.das,qk9]
   simp[PyData.depthAll] at h2 ⊢
   omega
end
theorem yq2:∀ ms:List Mnd,nds (ms.map Mnd.da)=true
 | []=>rfl
 | m::ms=>by rw[List.map_cons,nds,yq2 ms];rfl
theorem xp6:∀ ms:List Mnd,PyData.depthAll (ms.map Mnd.da)<=4
 | []=>by simp[PyData.depthAll]
 | m::ms=>by
   have:=xp6 ms
   rw[List.map_cons,PyData.depthAll]
   have h2:m.da.depth<=4:=by unfold Mnd.da;simp[PyData.depth,PyData.depthAll]
   omega
theorem yw6{ms:List Mnd}{x y:V}(hh:hgt t<=80)(h1:Dv K H (.tuple [t.da,.list (ms.map Mnd.da)]) x)(h2:Dv K H (.tuple [t.da,.list (ms.map Mnd.da)]) y)(q:Q (.bl true) H):qb6 K x y H Q:=by
 refine zk7 h1 h2 ?_ ?_
 ·have e1:=xp5 t
  have e2:=xp6 ms
  simp only[PyData.depth,PyData.depthAll]
  omega
 ·rw[wg2 _ (by rw[nd,nds,yz5,nds,nd,yq2,nds];rfl)];exact q
def hW(m:Nat)(W:List Lv):Prop:=∀ i e,W[i]?=some e->qk9 e.2+i<=m
theorem xv1{nm:List Str}{m:Nat}:∀ (C:List Lv) (j:Nat),(∀ i e,C[i]?=some e->qk9 e.2+(j+i)<=m)->j<=m+1->qk9 (wc2 nm C)+j<=m+1
 | [],j,_,hj=>by rw[wc2,qk9];omega
 | e::t,j,h,hj=>by
   have h0:=h 0 e rfl
   have h1:=xv1 (nm:=nm) (m:=m) t (j+1) (fun i e he=>by have:=h (i+1) e (by simpa using he);omega) (by omega)
   rw[wc2,qk9,qk9,hgt,wh4]
   omega
variable{W:List Lv}
theorem zm5{nm:List Str}{m:Nat}(h:hW m W)(hi:i<W.length)(hl:W.length<=m):hW m (clW nm i W):=by
 intro k e he
 rw[Y7 hi] at he
 rcases Nat.lt_or_ge k i with hk|hk
 ·rw[List.getElem?_append_left (by rw[List.length_take];omega),List.getElem?_take,if_pos hk] at he
  exact h k e he
 ·have hlen:(W.take i).length=i:=by rw[List.length_take];omega
  rw[List.getElem?_append_right (by omega),hlen] at he
  have hk0:k-i=0:=by
   rcases Nat.eq_zero_or_pos (k-i) with h|h
   ·exact h
   ·rw[List.getElem?_eq_none_iff.mpr (by simp;omega)] at he;cases he
  rw[hk0] at he
  obtain rfl:=Option.some.inj he
  have h0:=h i _ (List.getElem?_eq_getElem hi)
  have h1:=xv1 (nm:=nm) (m:=m) (W.drop (i+1)) (i+1) (fun j e he=>by
   rw[List.getElem?_drop] at he
   exact h _ e he) (by omega)
  show qk9 (_++_)+k<=m
  rw[wh4];omega
theorem zm6{nm:List Str}{c m:Nat}(hm:c+2<=m):∀ {its:List (Nat×Str)} {W:List Lv},WOk c W->hW m W->(∀ p∈its,p.1<c)->hW m (mW nm its W)
 | [],W,_,h,_=>h
 | p :: t,W,hw,h,hp=>by
   rw[mW]
   have hl:=hw.len
   have hk:=wj1 (r:=p.1) hw.ne
   refine zm6 hm (xi1 hw (hp p (by simp))) ?_ fun q hq=>hp q (by simp[hq])
   intro k e he
   unfold stW at he
   have hcl:=wr6 nm (kp p.1 W) W
   rcases Nat.lt_or_ge k (clW nm (kp p.1 W) W).length with hlt|hge
   ·rw[List.getElem?_append_left hlt] at he
    exact zm5 h hk (by omega) k e he
   ·rw[List.getElem?_append_right hge] at he
    rcases Nat.eq_zero_or_pos (k-(clW nm (kp p.1 W) W).length) with h0|h0
    ·rw[h0] at he
     obtain rfl:=Option.some.inj he
     show qk9 [Tr.tx p.2]+k<=m
     rw[qk9,qk9,hgt]
     omega
    ·rw[List.getElem?_eq_none_iff.mpr (by simp;omega)] at he;cases he
theorem zm7{nm:List Str}{its:List (Nat×Str)}(h12:c<=12)(hp:∀ p∈its,p.1<c):hgt (Tr.nd "" (ntF nm its))<=80:=by
 have hw0:WOk c [((0,[]):Lv)]:=⟨by simp,by simp,fun e he=>by cases he⟩
 have h:=zm6 (nm:=nm) (m:=14) (c:=c) (by omega) hw0 (fun i e he=>by
  cases i with
  | zero=>simp at he;subst he;rw[qk9];omega
  | succ i=>simp at he) hp
 rw[hgt]
 unfold ntF
 cases e:mW nm its [(0,[])] with
 | nil=>rw[rt0,qk9];omega
 | cons x t =>
   rw[e] at h
   rw[rt0,wh4]
   have h0:=h 0 x rfl
   have h1:=xv1 (nm:=nm) (m:=14) t 1 (fun i e he=>by have:=h (i+1) e (by simpa using he);omega) (by omega)
   omega
theorem xi2(nm:List Str):∀ t:List (Nat×Str),(pcs (itS nm t)).length=(t.map (itL nm)).sum
 | []=>rfl
 | p::t=>by
   have ih:=xi2 nm t
   have e:pcs (itS nm (p::t))=60::((gd nm p.1).cps.toList++62::p.2.cps.toList)++pcs (itS nm t):=rfl
   rw[e,List.length_append,ih,List.map_cons,List.sum_cons,List.length_cons,List.length_append,List.length_cons,qe1,qe1]
   unfold itL;omega
theorem yw7(a b:List (Str×Str)):pcs (a++b)=pcs a++pcs b:=by unfold pcs;rw[List.flatMap_append]
inductive LS(K:Fg)(H0:Hp)(pre:List (Option V))(M T:Addr)(x10 x11:Option V)(z:Str)(ms:List Mnd)(rk:List Int):St->Hp->Prop
 | mk {H':Hp} {us:List V} (s:A6 H0 H') (hm:H' M=some (.lst us)) (hd:Dvs K H' (ms.map Mnd.da) us) (ht:H' T=some (.lst (D7 rk))) (n:M≠T) (nM:H0 M=none) (nT:H0 T=none):LS K H0 pre M T x10 x11 z ms rk (pre++[some (.str z),some (.ref M),some (.ref T),x10,x11]) H'
def mdK(nm:List Str)(k:Nat)(rule:Str)(e:Lv):Mnd:=⟨k,k,cls (gd nm e.1),rule⟩
theorem yw8{nm:List Str}(h:i<W.length):rkI (clW nm i W)=rkI (W.take (i+1)):=by
 rw[Y7 h,qe6 (List.getElem?_eq_getElem h)]
 unfold rkI
 cases i with
 | zero=>rfl
 | succ i =>
   have:W.take (i+1)≠[]:=by
    intro e2
    have:=congrArg List.length e2
    rw[List.length_take,List.length_nil] at this;omega
   rw[List.tail_append_of_ne_nil this,List.tail_append_of_ne_nil this,List.map_append,List.map_append];rfl
theorem yz6(h:i+1<W.length):rkI (W.take (i+2))=rkI (W.take (i+1))++[(((W[i+1]'h).1:Nat):Int)]:=by
 rw[qe6 (i:=i+1) (List.getElem?_eq_getElem h)]
 have:W.take (i+1)≠[]:=by
  intro e2
  have:=congrArg List.length e2
  rw[List.length_take,List.length_nil] at this;omega
 unfold rkI
 rw[List.tail_append_of_ne_nil this,List.map_append];rfl
theorem zg9(W:List Lv):(rkI W).length<=W.length:=by unfold rkI;rw[List.length_map,List.length_tail];omega
theorem yq3{m:Mnd}(h:H p=some (.tup [.int m.s,.int m.e,.str m.t,.str m.r])):Dv K H m.da (.ref p):=C6.mpr ⟨p,_,rfl,SqT.of h,B6 (M0.mpr rfl) (B6 (M0.mpr rfl) (B6 (E5.mpr rfl) (B6 (E5.mpr rfl) G1)))⟩
abbrev ya6(K:Fg):TS :=
 (G5 (tBM K "list" G6 (A2 3) (A1 (W3 (A1 (tOp (L4 K) (A2 1) (A2 4)) (A1 (tC (.str "plain")) (A1 (tC (.str "")) (A1 (tCB (Z5 K) (A1 (tCB (xl0 K) (A1 (tSl (wg7 K) (A2 1) (S3 (A2 4)) (S3 (A2 2))) A8)) A8)) (A1 (W3 A8) A8)))))) A8)))
abbrev ya7(K:Fg):TS :=
 (G5 (tBM K "list" G6 (A2 8) (A1 (W3 (A1 (tCB (N5 K) (A1 (A2 7) A8)) (A1 (tCB (N5 K) (A1 (A2 7) A8)) (A1 (tOp (I0 K) (tOp (I0 K) (tC (.str "</")) (tOp (L4 K) (A2 1) (xk4 K "list" xk6 (A2 9)))) (tC (.str ">"))) (A1 (tC (.str "shut")) A8))))) A8)))
variable{M T:Addr}{a0 a2 a3 a4 x11:Option V}
theorem zm8{nm:List Str}{ms:List Mnd}(hn:SqL K H0 pn (B3 nm))(h8:∀ x∈nm,x.length<=8)(hc:c<=nm.length)(hW:WOk c W)(hz:z.length<=50000)(hms:ms.length+W.length<=5000)(h:LS K H0 [a0,some (.ref pn),a2,a3,a4,a5,a6] M T (some (.int r)) x11 z ms (rkI W) σ H)(q:∀ σ' H',LS K H0 [a0,some (.ref pn),a2,a3,a4,a5,a6] M T (some (.int r)) x11 z (ms++shM nm z.length W r) (rkI (clW nm (kp r W) W)) σ' H'->D.nx σ' H') :
 qn9 (wp1 (E3 (tOp (wp3 K) (A2 9) (T7 A8))) (E3 (tOp xf0 (tOp (L4 K) (A2 9) (tUn (rU fun i=>.int (-i)) (tC (.int 1)))) (A2 10)))) (ya7 K) D σ H:=by
 have hp:0<W.length:=List.length_pos_iff.mpr hW.ne
 have ew:W.take (W.length-1+1)=W:=by rw[show W.length-1+1=W.length by omega,List.take_length]
 have ed:W.drop (W.length-1+1)=[]:=List.drop_eq_nil_of_le (by omega)
 refine⟨fun i σ H=>kp r W<=i/\i<W.length/\LS K H0 [a0,some (.ref pn),a2,a3,a4,a5,a6] M T (some (.int r)) x11 z (ms++(W.drop (i+1)).reverse.map (mdK nm z.length "shut")) (rkI (W.take (i+1))) σ H,⟨W.length-1,by have:=wj1 (r:=r) hW.ne;omega,by omega,by rw[ew,ed,List.reverse_nil,List.map_nil,List.append_nil];exact h⟩,?_⟩
 rintro i σ H ⟨hk,hi,h⟩
 obtain⟨s,hm,hd,ht,nMT,nM,nT⟩:=h
 rename_i us
 show wp1 _ _ [a0,some (.ref pn),a2,a3,a4,a5,a6,some (.str z),some (.ref M),some (.ref T),some (.int r),x11] H _
 refine xs3 ?_
 lk
 refine⟨D8 (by z_go),fun e he=>?_⟩
 have s1:=A6.new he (.lst [])
 lk
 refine yp4 (s1 _ _ ht) A4 ?_
 lk
 have hm1:=s1 _ _ hm
 have hd1:=Dvs.same s1 _ _ hd
 have ht1:=s1 _ _ ht
 have ss1:=A6.tr s s1
 generalize L2.upd H e (.lst [])=H1 at *
 have fin:kp r W=i->D.nx [a0,some (.ref pn),a2,a3,a4,a5,a6,some (.str z),some (.ref M),some (.ref T),some (.int r),x11] H1:=fun e=>by
  subst e
  rw[<-yw8 (nm:=nm) hi] at ht1
  exact q _ _ ⟨ss1,hm1,hd1,ht1,nMT,nM,nT⟩
 cases i with
 | zero =>
   have e0:rkI (W.take (0+1))=[]:=by
    cases W with
    | nil=>rfl
    | cons x t=>rfl
   rw[e0]
   k_go
   lk
   exact fin (by omega)
 | succ i =>
   rw[yz6 hi] at ht1 ⊢
   refine xz6 (by simp) ?_
   lk
   refine⟨1,rfl,?_⟩
   refine S4 (SqL.of ht1) (v:=.int (((W[i+1]'hi).1:Nat):Int)) (ql8 (n:=(rkI (W.take (i+1))).length) (by rw[M6];simp) (by unfold D7;simp)) ?_
   lk
   by_cases hg:r<=(W[i+1]'hi).1
   ·rw[decide_eq_true (show(((W[i+1]'hi).1:Nat):Int)>=(r:Int) by omega)]
    x_go
    have hk2:kp r W<=i:=by
     rcases Nat.lt_or_ge i (kp r W) with hlt|hge
     ·have:=yz1 (r:=r) (i:=i+1) (by omega) (by omega) hi;omega
     ·exact hge
    refine⟨fun σ' H'=>LS K H0 [a0,some (.ref pn),a2,a3,a4,a5,a6] M T (some (.int r)) x11 z (ms++(W.drop (i+1)).reverse.map (mdK nm z.length "shut")) (rkI (W.take (i+1))) σ' H',fun σ' H' hN=>⟨i,by omega,hk2,by omega,hN⟩,?_⟩
    have hlt:(W[i+1]'hi).1<nm.length:=Nat.lt_of_lt_of_le (hW.get (by omega) hi) hc
    have hl8:=h8 _ (wu6 hlt)
    have hul:us.length=(ms++(W.drop (i+2)).reverse.map (mdK nm z.length "shut")).length:=by have:=hd1.length;rw[List.length_map] at this;exact this
    rw[List.length_append,List.length_map,List.length_reverse,List.length_drop] at hul
    lk
    refine⟨.inl ⟨rfl,_,SqL.of hm1⟩,?_⟩
    lk
    refine wk7 (by rw[sizeLine_eq];omega) ?_
    lk
    refine wk7 (by rw[sizeLine_eq];omega) ?_
    lk
    have eT:D7 (rkI (W.take (i+1))++[(((W[i+1]'hi).1:Nat):Int)])=D7 (rkI (W.take (i+1)))++[.int (((W[i+1]'hi).1:Nat):Int)]:=by simp[D7]
    rw[eT] at ht1
    refine⟨.inl ⟨rfl,_,SqL.of ht1⟩,?_⟩
    refine xl8 ht1 ?_
    have hm2:=D1 (o:=.lst (D7 (rkI (W.take (i+1))))) hm1 nMT
    have tk2:P8 H1 (L2.upd H1 T (.lst (D7 (rkI (W.take (i+1)))))):=J7 (.inl ⟨_,ht1⟩)
    have hd2:=Dvs.tupK tk2 _ _ (N7 Mnd.fix _) hd1
    have s2:A6 H0 (L2.upd H1 T (.lst (D7 (rkI (W.take (i+1)))))):=A6.put ss1 nT _
    have ht2:(L2.upd H1 T (.lst (D7 (rkI (W.take (i+1)))))) T=_:=A4
    generalize L2.upd H1 T (.lst (D7 (rkI (W.take (i+1)))))=H2 at *
    lk
    refine S4 (s2.sqL hn) (qx7 hlt) ?_
    refine qo1 (by rw[sizeLine_eq];show 2+_<=_;omega) ?_
    lk
    refine qo1 (by rw[sizeLine_eq,qd5];show 2+_+1<=_;omega) ?_
    lk
    refine⟨D8 (by z_go),fun p hp=>?_⟩
    have s3:=A6.new hp (.tup [.int z.length,.int z.length,.str (cls (gd nm (W[i+1]'hi).1)),.str "shut"])
    have dp:Dv K _ (mdK nm z.length "shut" (W[i+1]'hi)).da (.ref p):=yq3 (A4 (H:=H2) (a:=p) (o:=.tup [.int z.length,.int z.length,.str (cls (gd nm (W[i+1]'hi).1)),.str "shut"]))
    lk
    have hm3:=s3 _ _ hm2
    have hd3:=Dvs.same s3 _ _ hd2
    have ht3:=s3 _ _ ht2
    have s03:=A6.tr s2 s3
    show G6 (.ref M) [.ref p] (L2.upd H2 p (.tup [.int z.length,.int z.length,.str (cls (gd nm (W[i+1]'hi).1)),.str "shut"])) _
    generalize L2.upd H2 p (.tup [.int z.length,.int z.length,.str (cls (gd nm (W[i+1]'hi).1)),.str "shut"])=H3 at *
    refine I9 hm3 (by rw[hul,sizeLine_eq];omega) ?_
    have tk4:P8 H3 (L2.upd H3 M (.lst (us++[.ref p]))):=J7 (.inl ⟨_,hm3⟩)
    have ed2:ms++(W.drop (i+1)).reverse.map (mdK nm z.length "shut")=(ms++(W.drop (i+2)).reverse.map (mdK nm z.length "shut"))++[mdK nm z.length "shut" (W[i+1]'hi)]:=by
     rw[<-List.getElem_cons_drop (h:=hi),List.reverse_cons,List.map_append,List.append_assoc];rfl
    refine⟨A6.put s03 nM _,A4,?_,D1 ht3 (Ne.symm nMT),nMT,nM,nT⟩
    rw[ed2]
    refine Dvs.tupK tk4 _ _ (N7 Mnd.fix _) ?_
    rw[List.map_append]
    exact Dvs.append hd3 (Dvs.one dp)
   ·rw[decide_eq_false (show ¬(((W[i+1]'hi).1:Nat):Int)>=(r:Int) by omega)]
    k_go
    rw[<-yz6 hi] at ht1
    refine fin ?_
    rcases Nat.lt_or_ge (kp r W) (i+1) with hlt|hge
    ·have:=yz2 (r:=r) (i:=i+1) hW hlt hi;omega
    ·omega
theorem xv2(nm:List Str):∀ (t:List (Nat×Str)) (k:Nat) (W:List Lv),W≠[]->(mM nm k t W).length+(mW nm t W).length=W.length+t.length
 | [],k,W,_=>by simp[mM,mW]
 | p::t,k,W,h=>by
   have hk:=wj1 (r:=p.1) h
   have:=xv2 nm t (k+itL nm p) (stW nm W p.1 p.2) (by unfold stW;simp)
   have e1:(stW nm W p.1 p.2).length=kp p.1 W+2:=by unfold stW;rw[Y7 hk];simp;omega
   have e2:(shM nm k W p.1).length=W.length-(kp p.1 W+1):=by unfold shM;rw[List.length_map,List.length_reverse,List.length_drop]
   rw[mM,mW,List.length_append,e2,List.length_cons]
   omega
theorem yq4{f:α->V}(xs:List α)(lo hi:Option Int):∃ cs:List α,qf2 (xs.map f) lo hi=cs.map f/\cs.length<=xs.length:=by
 unfold qf2
 refine⟨(xs.drop (HT.sIx (xs.map f).length 0 lo)).take (HT.sIx (xs.map f).length (xs.map f).length hi-HT.sIx (xs.map f).length 0 lo),?_,?_⟩
 ·rw[List.map_take,List.map_drop]
 ·rw[List.length_take,List.length_drop];omega
theorem yw9(h1:i<=c)(h2:c<=xs.length):qf2 xs (some (i:Int)) (some (c:Int))=(xs.drop i).take (c-i):=by
 have e1:HT.sIx xs.length 0 (some (i:Int))=i:=by rw[HT.qr2];omega
 have e2:HT.sIx xs.length xs.length (some (c:Int))=c:=by rw[HT.qr2];omega
 unfold qf2
 rw[e1,e2]
theorem yx0{nm:List Str}(h1:i<=c)(h2:c<=nm.length)(x:Str):x∈(nm.drop i).take (c-i)↔∃ j,i<=j/\j<c/\x=gd nm j:=by
 constructor
 ·intro h
  obtain⟨k,hk,e⟩:=List.getElem_of_mem h
  rw[List.length_take,List.length_drop] at hk
  refine⟨i+k,by omega,by omega,?_⟩
  rw[List.getElem_take,List.getElem_drop] at e
  have:=qr7 (l:=nm) (i:=i+k) (by omega)
  rw[List.getElem?_eq_getElem (by omega)] at this
  rw[<-e];exact Option.some.inj this
 ·rintro⟨j,h3,h4,rfl⟩
  have:((nm.drop i).take (c-i))[j-i]?=some (gd nm j):=by
   rw[List.getElem?_take,if_pos (by omega),List.getElem?_drop,show i+(j-i)=j by omega]
   exact qr7 (by omega)
  exact List.mem_of_getElem? this
def RwF(names:List Str)(c k:Nat)(r:Row):Prop:=r.name=gd names k/\r.sort=("plain":Str)/\r.host=("":Str)/\r.bars=[]/\∀ x,x∈r.shuts↔∃ j,k<=j/\j<c/\x=gd names j
theorem zh0{nm:List Str}(hN:Nms nm)(h:zm4 w)(hr:r<nm.length):yo6 (gd nm r,w):=by
 have hm:=wu6 hr
 refine⟨?_,hN.le _ hm,hN.lt _ hm,h.w1,h.wl,h.no⟩
 have h0:=hN.ne _ hm
 have:(gd nm r).length≠0:=fun e=>h0 ((qd7 _ _).mpr (by
  have e2:=qe1 (gd nm r)
  rw[e] at e2
  rw[List.eq_nil_of_length_eq_zero e2];rfl))
 show 1<=(gd nm r).length
 omega
theorem xv3(h:n<1000):n.log2<1920:=by
 by_cases e:n=0
 ·subst e;decide
 ·have:=(Nat.log2_lt e (k:=10)).mpr (by omega);omega
theorem yq5{α:Type}{f:α->Nat}{m:Nat}:∀ (l:List α),(∀ x∈l,f x<=m)->(l.map f).sum<=m*l.length
 | [],_=>by simp
 | x::l,h=>by
   have h1:=h x (by simp)
   have h2:=yq5 l fun y hy=>h y (by simp[hy])
   rw[List.map_cons,List.sum_cons,List.length_cons,Nat.mul_add];omega
abbrev yx1(K:Fg):TS :=
 (E1 (tOp (I0 K) (tOp (I0 K) (tOp (I0 K) (tOp (I0 K) (A2 7) (tC (.str "<"))) (tOp (L4 K) (A2 1) (A2 10))) (tC (.str ">"))) (A2 11)) (B1 7))
abbrev ya8(K:Fg):TS :=
 (B7 (qn9 (wp1 (E3 (tOp (wp3 K) (A2 9) (T7 A8))) (E3 (tOp xf0 (tOp (L4 K) (A2 9) (tUn (rU fun i=>.int (-i)) (tC (.int 1)))) (A2 10))))
 (ya7 K))
 (B7 (G5 (tBM K "list" G6 (A2 9) (A1 (A2 10) A8)))
 (yx1 K)))
abbrev xi3(K:Fg):TS :=
 (G5 (tBM K "list" G6 (A2 8) (A1 (W3 (A1 (tCB (N5 K) (A1 (A2 7) A8)) (A1 (tCB (N5 K) (A1 (A2 7) A8)) (A1 (tOp (I0 K) (tOp (I0 K) (tC (.str "</")) (tOp (L4 K) (A2 1) (A2 10))) (tC (.str ">"))) (A1 (tC (.str "end")) A8))))) A8)))
theorem zm9{x10:Option V}{nm:List Str}{ms:List Mnd}(hn:SqL K H0 pn (B3 nm))(h8:∀ x∈nm,x.length<=8)(hc:c<=nm.length)(hW:WOk c W)(hz:z.length<=50000)(hms:ms.length+W.length<=5000)(h:LS K H0 [a0,some (.ref pn),a2,a3,a4,a5,a6] M T x10 x11 z ms (rkI W) σ H)(q:∀ x10 σ' H',LS K H0 [a0,some (.ref pn),a2,a3,a4,a5,a6] M T x10 x11 z (ms++W.tail.reverse.map (mdK nm z.length "end")) (rkI W) σ' H'->D.nx σ' H') :
 qg5 (xy2 K (A1 (A2 9) A8)) (B1 10) (xi3 K) D σ H:=by
 obtain⟨s,hm,hd,ht,nMT,nM,nT⟩:=h
 rename_i us
 show qg5 _ _ _ D [a0,some (.ref pn),a2,a3,a4,a5,a6,some (.str z),some (.ref M),some (.ref T),x10,x11] H
 have hp:0<W.length:=List.length_pos_iff.mpr hW.ne
 have lr:(D7 (rkI W)).length=W.length-1:=by unfold D7 rkI;rw[List.length_map,List.length_map,List.length_tail]
 refine wt1 (xy3 ?_)
 lk
 refine yl8 (SqL.of ht) (fun i σ H'=>∃ x10,LS K H0 [a0,some (.ref pn),a2,a3,a4,a5,a6] M T x10 x11 z (ms++(W.drop (W.length-i)).reverse.map (mdK nm z.length "end")) (rkI W) σ H') ?_ ?_ ?_ ?_
 ·refine⟨x10,?_⟩
  rw[Nat.sub_zero,List.drop_length,List.reverse_nil,List.map_nil,List.append_nil]
  exact⟨s,hm,hd,ht,nMT,nM,nT⟩
 ·rintro i σ H' ⟨x,h⟩;obtain⟨_,_,_,h,_⟩:=h;exact SqL.of h
 ·rintro i x σ H' hx hi ⟨y10,hL⟩
  obtain⟨s,hm,hd,ht,nMT,nM,nT⟩:=hL
  rename_i us
  rw[lr] at hx hi
  have hj:W.length-1-i<W.length:=by omega
  have hx2:x=.int (((W[W.length-1-i]'hj).1:Nat):Int):=by
   have e:=qy3 (W:=W) (i:=W.length-1-i) (by omega) hj
   unfold D7 rkI at hx
   rw[List.map_map,List.getElem?_map,show W.length-1-1-i=W.length-1-i-1 by omega,e] at hx
   exact(Option.some.inj hx).symm
  subst hx2
  refine J0 ?_
  show xi3 K _ [a0,some (.ref pn),a2,a3,a4,a5,a6,some (.str z),some (.ref M),some (.ref T),_,x11] _
  have hlt:(W[W.length-1-i]'hj).1<nm.length:=Nat.lt_of_lt_of_le (hW.get (by omega) hj) hc
  have hl8:=h8 _ (wu6 hlt)
  have hul:us.length=(ms++(W.drop (W.length-i)).reverse.map (mdK nm z.length "end")).length:=by have:=hd.length;rw[List.length_map] at this;exact this
  rw[List.length_append,List.length_map,List.length_reverse,List.length_drop] at hul
  lk
  refine⟨.inl ⟨rfl,_,SqL.of hm⟩,?_⟩
  lk
  refine wk7 (by rw[sizeLine_eq];omega) ?_
  lk
  refine wk7 (by rw[sizeLine_eq];omega) ?_
  lk
  refine S4 (s.sqL hn) (qx7 hlt) ?_
  refine qo1 (by rw[sizeLine_eq];show 2+_<=_;omega) ?_
  lk
  refine qo1 (by rw[sizeLine_eq,qd5];show 2+_+1<=_;omega) ?_
  lk
  refine⟨D8 (by z_go),fun p hp=>?_⟩
  have s3:=A6.new hp (.tup [.int z.length,.int z.length,.str (cls (gd nm (W[W.length-1-i]'hj).1)),.str "end"])
  have dp:Dv K _ (mdK nm z.length "end" (W[W.length-1-i]'hj)).da (.ref p):=yq3 (A4 (H:=H') (a:=p) (o:=.tup [.int z.length,.int z.length,.str (cls (gd nm (W[W.length-1-i]'hj).1)),.str "end"]))
  lk
  have hm3:=s3 _ _ hm
  have hd3:=Dvs.same s3 _ _ hd
  have ht3:=s3 _ _ ht
  have s03:=A6.tr s s3
  show G6 (.ref M) [.ref p] (L2.upd H' p (.tup [.int z.length,.int z.length,.str (cls (gd nm (W[W.length-1-i]'hj).1)),.str "end"])) _
  generalize L2.upd H' p (.tup [.int z.length,.int z.length,.str (cls (gd nm (W[W.length-1-i]'hj).1)),.str "end"])=H3 at *
  refine I9 hm3 (by rw[hul,sizeLine_eq];omega) ?_
  have tk4:P8 H3 (L2.upd H3 M (.lst (us++[.ref p]))):=J7 (.inl ⟨_,hm3⟩)
  have ed2:ms++(W.drop (W.length-(i+1))).reverse.map (mdK nm z.length "end")=(ms++(W.drop (W.length-i)).reverse.map (mdK nm z.length "end"))++[mdK nm z.length "end" (W[W.length-1-i]'hj)]:=by
   have e1:W.length-(i+1)=W.length-1-i:=by omega
   have e2:W.length-i=W.length-1-i+1:=by omega
   rw[e1,e2,<-List.getElem_cons_drop (h:=hj),List.reverse_cons,List.map_append,List.append_assoc];rfl
  refine⟨_,⟨A6.put s03 nM _,A4,?_,D1 ht3 (Ne.symm nMT),nMT,nM,nT⟩⟩
  rw[ed2]
  refine Dvs.tupK tk4 _ _ (N7 Mnd.fix _) ?_
  rw[List.map_append]
  exact Dvs.append hd3 (Dvs.one dp)
 ·rintro σ H' ⟨y10,hL⟩
  rw[lr,show W.length-(W.length-1)=1 by omega,List.drop_one] at hL
  exact q _ _ _ hL
abbrev ya9(K:Fg):TS :=
 (G9 (tOp (qb6 K) (C7 (qi3 K) [] E0 (A1 (tCB (Z5 K) (A1 (A2 3) A8)) (A1 (A2 7) A8))) (W3 (A1 (C7 (qa6 K) [] E0 (A1 (A2 5) (A1 (A2 6) (A1 (A2 1) A8)))) (A1 (A2 8) A8)))))
abbrev yb0(K:Fg):TS :=
 (B7 (qg5 (xy5 K (A1 (A2 5) (A1 (A2 6) A8))) (xj6 K 2 (qg2 (B1 10) (qg2 (B1 11) xj5)))
 (ya8 K))
 (B7 (qg5 (xy2 K (A1 (A2 9) A8)) (B1 10)
 (xi3 K))
 (ya9 K)))
abbrev yb1(K:Fg):TS :=
 (B7 (E1 (tC (.str "")) (B1 7))
 (B7 (E1 (T7 A8) (B1 8))
 (B7 (E1 (T7 A8) (B1 9))
 (yb0 K))))
abbrev yb2(K:Fg):TS :=
 (B7 (E1 (qt3 [none] (qw7 K (tSl (wg7 K) (A2 0) (S3 (tC (.int 2))) (S3 (tC (.int 62))))) (B1 0) tTT (tOp (I0 K) (tC (.str "w")) (tCB (yy7 K) (A1 (tOp (rI (fun _ j=>0<j) fun i j=>.int (i % j)) (A2 0) (tC (.int 1000))) A8)))) (B1 6))
 (yb1 K))
abbrev yb3(K:Fg):TS :=
 (B7 (E1 (qt3 [some 2,none] (qw7 K (tSl (wg7 K) (A2 0) (S3 (tC (.int 2))) (S3 (tC (.int 62))))) (B1 1) tTT (tOp (rI (fun _ j=>0<j) fun i j=>.int (i % j)) (C7 (S7 K) [] E0 (A1 (A2 1) (A1 (tC (.int 2)) A8))) (A2 0))) (B1 5))
 (yb2 K))
abbrev xp7(K:Fg):TS :=
 (B7 (E1 (T7 A8) (B1 3))
 (B7 (qg5 (xj8 (A1 (A2 2) A8)) (B1 4)
 (ya6 K))
 (yb3 K)))
abbrev xp8(K:Fg):TS :=
 (B7 (E1 (tOp (I0 K) (tC (.int 2)) (tOp (rI (fun _ j=>0<j) fun i j=>.int (i % j)) (C7 (S5 K) [] E0 (A1 (A2 0) (A1 (tC (.int 1)) A8))) (tC (.int 5)))) (B1 2))
 (xp7 K))
def wm6(K:Fg):Sp:=fun vs H Q _=>∃ (a:Addr) (ns:List Int),vs=[.ref a]/\SqL K H a (ns.map V.int)/\ns.length<=63/\∀ H',Q (.bl true) H'
def yb4(K:Fg):TS :=
 (B7 (E1 (C7 (qd6 K) [] E0 (A1 (C7 (S5 K) [] E0 (A1 (A2 0) (A1 (tC (.int 0)) A8))) A8)) (B1 1))
 (xp8 K))
theorem zh1(h:wm6 K vs H Q E):yb4 K {nx:=fun _ H'=>Q .non H',rt:=Q} (C9 ["_law_script","_law_names_here","_law_count","_law_book","_law_k","_law_ranks","_law_words","_law_text","_law_mends","_law_there","_law_rank","_law_word"] vs) H:=by
 obtain⟨sc,ns,rfl,hS,hn63,q⟩:=h
 show yb4 K _ [some (.ref sc),none,none,none,none,none,none,none,none,none,none,none] H
 unfold yb4
 lk
 refine⟨sc,ns,0,rfl,hS,by decide,fun c0=>?_⟩
 lk
 refine⟨c0,rfl,fun d nm H1 s1 hd0 hd hnl hN=>?_⟩
 show xp8 K _ _ _
 lk
 refine⟨sc,ns,1,rfl,s1.sqL hS,by decide,fun c1=>?_⟩
 lk
 have hm5:=Int.emod_nonneg c1 (show(5:Int)≠0 by decide)
 have hm5b:=Int.emod_lt_of_pos c1 (show(0:Int)<5 by decide)
 obtain⟨c,hc⟩:∃ c:Nat,(2+c1 % 5:Int)=c:=Int.eq_ofNat_of_zero_le (by omega)
 have hc2:2<=c:=by omega
 have hc6:c<=6:=by omega
 rw[hc]
 have hcn:c<=nm.length:=by omega
 show xp7 K _ _ _
 lk
 refine⟨D8 (by z_go),fun pb hpb=>?_⟩
 lk
 have sb:=A6.new hpb (.lst [])
 refine wt2 (by omega) (by omega) (fun i σ H'=>∃ x4 rs us,σ=[some (.ref sc),some (.ref d),some (.int c),some (.ref pb),x4,none,none,none,none,none,none,none]/\A6 H1 H'/\H' pb=some (.lst us)/\Dvs K H' (rs.map Row.da) us/\rs.length=i/\∀ k r,rs[k]?=some r->RwF nm c k r) ⟨none,[],[],rfl,sb,A4,G1,rfl,fun k r h=>by simp at h⟩ ?_ ?_
 ·rintro i σ H2 hi ⟨x4,rs,us,rfl,s2,hp2,hr2,hl2,hrow⟩
  have hi':i<c:=by omega
  have hul:us.length=rs.length:=by have:=hr2.length;rw[List.length_map] at this;exact this
  refine J0 ?_
  show ya6 K _ _ _
  lk
  refine⟨.inl ⟨rfl,_,SqL.of hp2⟩,?_⟩
  lk
  refine S4 (SqL.of (s2 _ _ hd)) (qx7 (by omega)) ?_
  lk
  refine xx9 (SqL.of (s2 _ _ hd)) fun p1 hp1=>?_
  have ecut:qf2 (B3 nm) (some (i:Int)) (some (c:Int))=B3 ((nm.drop i).take (c-i)):=by
   rw[yw9 (by omega) (by rw[C1];omega)]
   simp[B3,List.map_take,List.map_drop]
  rw[ecut]
  have t1:=A6.new hp1 (.lst (B3 ((nm.drop i).take (c-i))))
  lk
  refine⟨p1,_,rfl,SqL.of A4,by rw[List.length_take];omega,fun l ys' hperm hsort hl=>?_⟩
  have t2:=A6.new hl (.lst (B3 ys'))
  lk
  refine⟨_,_,rfl,.inl ⟨SqL.of A4,fun p3 hp3=>?_⟩⟩
  have t3:=A6.new hp3 (.tup (B3 ys'))
  lk
  refine⟨D8 (by z_go),fun p4 hp4=>?_⟩
  have t4:=A6.new hp4 (.tup [])
  lk
  refine⟨D8 (by z_go),fun p5 hp5=>?_⟩
  have t5:=A6.new hp5 (.tup [.str (gd nm i),.str "plain",.str "",.ref p3,.ref p4])
  lk
  have e3:(L2.upd (L2.upd (L2.upd (L2.upd (L2.upd H2 p1 (.lst (B3 ((nm.drop i).take (c-i))))) l (.lst (B3 ys'))) p3 (.tup (B3 ys'))) p4 (.tup [])) p5 (.tup [.str (gd nm i),.str "plain",.str "",.ref p3,.ref p4])) p3=some (.tup (B3 ys')):=t5 _ _ (t4 _ _ A4)
  have e4:(L2.upd (L2.upd (L2.upd (L2.upd (L2.upd H2 p1 (.lst (B3 ((nm.drop i).take (c-i))))) l (.lst (B3 ys'))) p3 (.tup (B3 ys'))) p4 (.tup [])) p5 (.tup [.str (gd nm i),.str "plain",.str "",.ref p3,.ref p4])) p4=some (.tup []):=t5 _ _ A4
  have e5:(L2.upd (L2.upd (L2.upd (L2.upd (L2.upd H2 p1 (.lst (B3 ((nm.drop i).take (c-i))))) l (.lst (B3 ys'))) p3 (.tup (B3 ys'))) p4 (.tup [])) p5 (.tup [.str (gd nm i),.str "plain",.str "",.ref p3,.ref p4])) p5=some (.tup [.str (gd nm i),.str "plain",.str "",.ref p3,.ref p4]):=A4
  have t15:=A6.tr (A6.tr (A6.tr (A6.tr t1 t2) t3) t4) t5
  generalize L2.upd (L2.upd (L2.upd (L2.upd (L2.upd H2 p1 (.lst (B3 ((nm.drop i).take (c-i))))) l (.lst (B3 ys'))) p3 (.tup (B3 ys'))) p4 (.tup [])) p5 (.tup [.str (gd nm i),.str "plain",.str "",.ref p3,.ref p4])=H3 at *
  refine I9 (t15 _ _ hp2) (by rw[hul,sizeLine_eq];omega) ?_
  have tk:=J7 (H:=H3) (p:=pb) (o:=.lst (us++[.ref p5])) (.inl ⟨_,t15 _ _ hp2⟩)
  have dr:Dv K H3 (Row.da ⟨gd nm i, "plain","",ys',[]⟩) (.ref p5):=C6.mpr ⟨p5,_,rfl,SqT.of e5,B6 (E5.mpr rfl) (B6 (E5.mpr rfl) (B6 (E5.mpr rfl) (B6 (C6.mpr ⟨p3,_,rfl,SqT.of e3,ql7.mpr rfl⟩) (B6 (C6.mpr ⟨p4,_,rfl,SqT.of e4,ql7.mpr rfl⟩) G1))))⟩
  refine⟨_,rs++[⟨gd nm i, "plain","",ys',[]⟩],_,rfl,A6.put (A6.tr s2 t15) hpb _,A4,?_,by simp[hl2],fun k r hk=>?_⟩
  ·refine Dvs.tupK tk _ _ (wu7 _) ?_
   rw[List.map_append]
   exact Dvs.append (Dvs.same t15 _ _ hr2) (Dvs.one dr)
  ·rcases Nat.lt_or_ge k rs.length with h|h
   ·rw[List.getElem?_append_left h] at hk
    exact hrow k r hk
   ·rw[List.getElem?_append_right h] at hk
    rcases Nat.eq_zero_or_pos (k-rs.length) with h0|h0
    ·rw[h0] at hk
     obtain rfl:=Option.some.inj hk
     have ek:k=i:=by omega
     subst ek
     refine⟨rfl,rfl,rfl,rfl,fun x=>?_⟩
     rw[<-yx0 (by omega) hcn x]
     exact hperm.mem_iff
    ·rw[List.getElem?_eq_none_iff.mpr (by simp;omega)] at hk;cases hk
 rintro σ H2 ⟨x4,rs,us,rfl,s2,hp2,hr2,hl2,hrow⟩
 have P:PlB nm c rs:=⟨by omega,hrow⟩
 have s12:=A6.tr s1 s2
 show yb3 K _ _ _
 obtain⟨cs,ecs,hcs⟩:=yq4 (f:=V.int) ns (some 2) (some 62)
 lk
 refine xx9 (s12.sqL hS) fun q1 hq1=>?_
 rw[ecs]
 have u1:=A6.new hq1 (.lst (cs.map V.int))
 have eq1:(L2.upd H2 q1 (.lst (cs.map V.int))) q1=_:=A4
 generalize L2.upd H2 q1 (.lst (cs.map V.int))=H3 at *
 refine wg6 (.inl (SqL.of eq1)) (fun i ys H'=>H'=H3/\∃ rk:List Nat,ys=D7 (rk.map fun r=>((r:Nat):Int))/\rk.length=i/\∀ r∈rk,r<c) ⟨rfl,[],rfl,rfl,by simp⟩ ?_ ?_ ?_ ?_ ?_
 ·rintro i ys H' hi ⟨_,rk,rfl,e,_⟩
  rw[List.length_map] at hi
  rw[M6,List.length_map];exact D8 (by omega)
 ·rintro _ i ys H' _ ⟨rfl,_⟩;exact SqL.of eq1
 ·rintro hq i ys H' _ ⟨rfl,_⟩;exact hq
 ·rintro i v ys H' hi ⟨rfl,rk,rfl,e,hr⟩
  rw[List.getElem?_map] at hi
  obtain⟨y,hy,rfl⟩:=Option.map_eq_some_iff.mp hi
  refine J0 ?_
  have hcp:(0:Int)<(c:Int):=by omega
  lk
  refine⟨y,2,rfl,by decide,by decide,fun n hn=>?_⟩
  lk
  have h1:=Int.emod_nonneg n (show(c:Int)≠0 by omega)
  have h2:=Int.emod_lt_of_pos n hcp
  obtain⟨r,hr2⟩:=Int.eq_ofNat_of_zero_le h1
  rw[hr2]
  refine⟨rfl,rk++[r],by simp[D7],by simp[e],fun x hx=>?_⟩
  rcases List.mem_append.mp hx with h|h
  ·exact hr x h
  ·rw[List.mem_singleton.mp h];omega
 rintro ys H' ⟨rfl,rk,rfl,erk,hrk⟩ pr hpr
 rw[List.length_map] at erk
 have u2:=A6.new hpr (.lst (D7 (rk.map fun r=>((r:Nat):Int))))
 have epr:(L2.upd H' pr (.lst (D7 (rk.map fun r=>((r:Nat):Int))))) pr=_:=A4
 generalize L2.upd H' pr (.lst (D7 (rk.map fun r=>((r:Nat):Int))))=H4 at *
 have s14:=A6.tr (A6.tr s12 u1) u2
 show yb2 K _ _ _
 lk
 refine xx9 (s14.sqL hS) fun q2 hq2=>?_
 rw[ecs]
 have u3:=A6.new hq2 (.lst (cs.map V.int))
 have eq2:(L2.upd H4 q2 (.lst (cs.map V.int))) q2=_:=A4
 generalize L2.upd H4 q2 (.lst (cs.map V.int))=H5 at *
 refine wg6 (.inl (SqL.of eq2)) (fun i ys H'=>H'=H5/\ys=B3 ((cs.take i).map wdS)) ⟨rfl,rfl⟩ ?_ ?_ ?_ ?_ ?_
 ·rintro i ys H' hi ⟨_,rfl⟩
  rw[C1,List.length_map,List.length_take];exact D8 (by omega)
 ·rintro _ i ys H' _ ⟨rfl,_⟩;exact SqL.of eq2
 ·rintro hq i ys H' _ ⟨rfl,_⟩;exact hq
 ·rintro i v ys H' hi ⟨rfl,rfl⟩
  rw[List.getElem?_map] at hi
  obtain⟨y,hy,rfl⟩:=Option.map_eq_some_iff.mp hi
  refine J0 ?_
  lk
  have h1:=Int.emod_nonneg y (show(1000:Int)≠0 by decide)
  have h2:=Int.emod_lt_of_pos y (show(0:Int)<1000 by decide)
  refine⟨y % 1000,rfl,xv3 (by omega),?_⟩
  have hw:=(yz4 y).wl
  unfold wdS at hw
  rw[qd5] at hw
  refine qo1 (by rw[sizeLine_eq];exact Nat.le_trans hw (by decide)) ?_
  refine⟨rfl,?_⟩
  rw[qe6 hy,List.map_append]
  unfold B3
  rw[List.map_append]
  rfl
 rintro ys H' ⟨rfl,rfl⟩ pw hpw
 have elen:cs.take (cs.map V.int).length=cs:=by rw[List.length_map];exact List.take_length
 rw[elen]
 have u4:=A6.new hpw (.lst (B3 (cs.map wdS)))
 have epw:(L2.upd H' pw (.lst (B3 (cs.map wdS)))) pw=_:=A4
 generalize L2.upd H' pw (.lst (B3 (cs.map wdS)))=H6 at *
 have s16:=A6.tr (A6.tr s14 u3) u4
 have s26:=A6.tr (A6.tr (A6.tr u1 u2) u3) u4
 have epr6:=u4 _ _ (u3 _ _ epr)
 have epb6:=s26 _ _ hp2
 have hr6:=Dvs.same s26 _ _ hr2
 have ed6:H6 d=_:=s26 _ _ (s2 _ _ hd)
 let its:=rk.zip (cs.map wdS)
 have lits:its.length=cs.length:=by show(rk.zip _).length=_;rw[List.length_zip,List.length_map,erk,Nat.min_self]
 have e1:its.map Prod.fst=rk:=List.map_fst_zip (by rw[List.length_map,erk];exact Nat.le_refl _)
 have e2:its.map Prod.snd=cs.map wdS:=List.map_snd_zip (by rw[List.length_map,erk];exact Nat.le_refl _)
 have hits:∀ p∈its,p.1<c/\yo6 (gd nm p.1,p.2):=fun p hp=>by
  have h1:p.1∈rk:=by rw[<-e1];exact List.mem_map_of_mem hp
  have h2:p.2∈cs.map wdS:=by rw[<-e2];exact List.mem_map_of_mem hp
  obtain⟨y,_,hy⟩:=List.mem_map.mp h2
  have h3:=hrk _ h1
  exact⟨h3,zh0 hN (by rw[<-hy];exact yz4 y) (by omega)⟩
 have epr7:H6 pr=some (.lst (D7 (its.map fun p=>((p.1:Nat):Int)))):=by
  rw[epr6,<-e1,List.map_map];rfl
 have epw7:H6 pw=some (.lst (B3 (its.map Prod.snd))):=by rw[e2];exact epw
 clear_value its
 show yb1 K _ _ _
 lk
 refine⟨D8 (by z_go),fun M hM=>?_⟩
 lk
 refine⟨D8 (by z_go),fun T hT=>?_⟩
 lk
 have w1:=A6.new hM (.lst [])
 have w2:=A6.new hT (.lst [])
 have nMT:M≠T:=U0 hT A4
 have w12:=A6.tr w1 w2
 have eM:(L2.upd (L2.upd H6 M (.lst [])) T (.lst [])) M=some (.lst []):=w2 _ _ A4
 have eT:(L2.upd (L2.upd H6 M (.lst [])) T (.lst [])) T=some (.lst []):=A4
 have hT6:=A6.grow w1 _ hT
 obtain⟨H7,eH7⟩:∃ H7,H7=L2.upd (L2.upd H6 M (.lst [])) T (.lst []):=⟨_,rfl⟩
 rw[<-eH7] at w12 eM eT ⊢
 have hits1:∀ p∈its,p.1<c:=fun p hp=>(hits p hp).1
 have hW0:WOk c [((0,[]):Lv)]:=⟨by simp,by simp,fun e he=>by cases he⟩
 have sz:∀ i,((its.take i).map (itL nm)).sum<=110*63:=fun i=>by
  have:=yq5 (f:=itL nm) (m:=110) (its.take i) fun p hp=>by
   have h:=(hits p (List.mem_of_mem_take hp)).2
   have h1:(gd nm p.1).length<=8:=h.n8
   have h2:p.2.length<=100:=h.wl
   unfold itL
   omega
  have h3:(its.take i).length<=its.length:=by rw[List.length_take];omega
  have h4:=Nat.mul_le_mul_left 110 (show(its.take i).length<=63 by omega)
  omega
 show yb0 K _ _ _
 refine Y5 (wt1 (xy7 ?_))
 lk
 refine xm2 (SqL.of (w12 _ _ epr7)) (SqL.of (w12 _ _ epw7)) (fun i σ H'=>∃ z x10 x11,LS K H6 [some (.ref sc),some (.ref d),some (.int c),some (.ref pb),x4,some (.ref pr),some (.ref pw)] M T x10 x11 z (mM nm 0 (its.take i) [(0,[])]) (rkI (mW nm (its.take i) [(0,[])])) σ H'/\z.cps.toList=pcs (itS nm (its.take i))) ?_ ?_ ?_ ?_
 ·exact⟨"",none,none,⟨w12,eM,G1,eT,nMT,hM,hT6⟩,rfl⟩
 ·rintro i σ H' ⟨z,x10,x11,hL,_⟩
  obtain⟨s,_⟩:=hL
  exact⟨SqL.of (s _ _ epr7),SqL.of (s _ _ epw7)⟩
 ·rintro i x y σ H' p hx hy ⟨z,x10,x11,hL,ez⟩ hp
  have hi:i<its.length:=by
   rcases Nat.lt_or_ge i its.length with h|h
   ·exact h
   ·rw[List.getElem?_eq_none_iff.mpr (by rw[M6,List.length_map];exact h)] at hx;cases hx
  have ei:its[i]?=some its[i]:=List.getElem?_eq_getElem hi
  obtain rfl:x=.int ((its[i].1:Nat):Int):=by
   simp[D7,ei] at hx
   exact hx.symm
  obtain rfl:y=.str its[i].2:=by
   simp[B3,ei] at hy
   exact hy.symm
  obtain⟨s,hm,hdm,ht,_,nM,nT⟩:=hL
  rename_i us
  have sp:=A6.new hp (.tup [.int ((its[i].1:Nat):Int),.str its[i].2])
  refine⟨p,_,rfl,SqT.of A4,rfl,_,_,rfl,J0 ⟨_,_,rfl,J0 ⟨rfl,?_⟩⟩⟩
  show ya8 K _ [some (.ref sc),some (.ref d),some (.int c),some (.ref pb),x4,some (.ref pr),some (.ref pw),some (.str z),some (.ref M),some (.ref T),some (.int ((its[i].1:Nat):Int)),some (.str its[i].2)] _
  have zl:z.length=((its.take i).map (itL nm)).sum:=by rw[<-qe1,ez,xi2]
  have hsz:=sz i
  have hsz2:=sz (i+1)
  have hit2:∀ p∈its.take i,p.1<c:=fun p hp=>hits1 p (List.mem_of_mem_take hp)
  have hWok:=ww0 (nm:=nm) hW0 hit2
  have hml:=xv2 nm (its.take i) 0 [(0,[])] (by simp)
  have htl:(its.take i).length<=its.length:=by rw[List.length_take];omega
  rw[List.length_singleton] at hml
  refine Y5 ?_
  refine zm8 (c:=c) (pn:=d) (SqL.of ed6) hN.le hcn hWok (by omega) (by omega) ⟨A6.tr s sp,sp _ _ hm,Dvs.same sp _ _ hdm,sp _ _ ht,nMT,nM,nT⟩ fun σ' H8 hL8=>?_
  obtain⟨s8,hm8,hd8,ht8,_,_,_⟩:=hL8
  rename_i us8
  have hrl:(rkI (clW nm (kp its[i].1 (mW nm (its.take i) [(0,[])])) (mW nm (its.take i) [(0,[])]))).length<=1000:=by
   have h1:=zg9 (clW nm (kp its[i].1 (mW nm (its.take i) [(0,[])])) (mW nm (its.take i) [(0,[])]))
   have h2:=wr6 nm (kp its[i].1 (mW nm (its.take i) [(0,[])])) (mW nm (its.take i) [(0,[])])
   omega
  show B7 _ _ _ [some (.ref sc),some (.ref d),some (.int c),some (.ref pb),x4,some (.ref pr),some (.ref pw),some (.str z),some (.ref M),some (.ref T),some (.int ((its[i].1:Nat):Int)),some (.str its[i].2)] _
  lk
  refine⟨.inl ⟨rfl,_,SqL.of ht8⟩,?_⟩
  lk
  refine I9 ht8 (by rw[M6,sizeLine_eq];omega) ?_
  have hlt:its[i].1<nm.length:=by have:=hits1 _ (List.getElem_mem hi);omega
  have h8:=hN.le _ (wu6 hlt)
  have hw:=(hits _ (List.getElem_mem hi)).2.wl
  have hw':its[i].2.length<=100:=hw
  have s9:A6 H6 _:=A6.put s8 nT (.lst (D7 (rkI (clW nm (kp its[i].1 (mW nm (its.take i) [(0,[])])) (mW nm (its.take i) [(0,[])])))++[.int ((its[i].1:Nat):Int)]))
  have tk9:=J7 (H:=H8) (p:=T) (o:=.lst (D7 (rkI (clW nm (kp its[i].1 (mW nm (its.take i) [(0,[])])) (mW nm (its.take i) [(0,[])])))++[.int ((its[i].1:Nat):Int)])) (.inl ⟨_,ht8⟩)
  have hm9:=D1 (o:=.lst (D7 (rkI (clW nm (kp its[i].1 (mW nm (its.take i) [(0,[])])) (mW nm (its.take i) [(0,[])])))++[.int ((its[i].1:Nat):Int)])) hm8 nMT
  have ht9:(L2.upd H8 T (.lst (D7 (rkI (clW nm (kp its[i].1 (mW nm (its.take i) [(0,[])])) (mW nm (its.take i) [(0,[])])))++[.int ((its[i].1:Nat):Int)]))) T=_:=A4
  have hd9:=Dvs.tupK tk9 _ _ (N7 Mnd.fix _) hd8
  generalize L2.upd H8 T (.lst (D7 (rkI (clW nm (kp its[i].1 (mW nm (its.take i) [(0,[])])) (mW nm (its.take i) [(0,[])])))++[.int ((its[i].1:Nat):Int)]))=H9 at *
  lk
  have o1:(("<":Str)).length=1:=rfl
  have o2:((">":Str)).length=1:=rfl
  refine qo1 (by rw[sizeLine_eq];omega) ?_
  lk
  refine S4 (SqL.of (s9 _ _ ed6)) (qx7 hlt) ?_
  refine qo1 (by rw[sizeLine_eq,qd5];omega) ?_
  lk
  refine qo1 (by rw[sizeLine_eq,qd5,qd5];omega) ?_
  lk
  refine qo1 (by rw[sizeLine_eq,qd5,qd5,qd5];omega) ?_
  lk
  refine⟨_,_,_,⟨s9,hm9,?_,?_,nMT,nM,nT⟩,?_⟩
  ·rw[qe6 ei,ya1]
   rw[zl] at hd9
   rw[Nat.zero_add]
   exact hd9
  ·rw[ht9,qe6 ei,xh8]
   have er:rkI (stW nm (mW nm (its.take i) [(0,[])]) its[i].1 its[i].2)=rkI (clW nm (kp its[i].1 (mW nm (its.take i) [(0,[])])) (mW nm (its.take i) [(0,[])]))++[((its[i].1:Nat):Int)]:=by
    unfold rkI stW
    have:=wj1 (r:=its[i].1) hWok.ne
    rw[List.tail_append_of_ne_nil (by rw[Y7 this];exact List.append_ne_nil_of_right_ne_nil _ (List.cons_ne_nil _ _)),List.map_append];rfl
   rw[er];simp[D7]
  ·rw[qe6 ei]
   have:itS nm (its.take i++[its[i]])=itS nm (its.take i)++[(gd nm its[i].1,its[i].2)]:=by unfold itS;rw[List.map_append];rfl
   rw[this,yw7,<-ez]
   have o3:("<":Str).cps.toList=[60]:=rfl
   have o4:(">":Str).cps.toList=[62]:=rfl
   simp only[PySem.Str.cps_append,Array.toList_append,List.append_assoc,o3,o4]
   simp[pcs]
 rintro σ H' ⟨z,x10,x11,hL,ez⟩
 have lmin:min (D7 (its.map fun p=>((p.1:Nat):Int))).length (B3 (its.map Prod.snd)).length=its.length:=by rw[M6,C1,List.length_map,List.length_map,Nat.min_self]
 rw[lmin,List.take_length] at hL ez
 have zl:z.length=(its.map (itL nm)).sum:=by rw[<-qe1,ez,xi2]
 have hsz:=sz its.length
 rw[List.take_length] at hsz
 have hml:=xv2 nm its 0 [(0,[])] (by simp)
 rw[List.length_singleton] at hml
 have hWok:=ww0 (nm:=nm) hW0 hits1
 refine Y5 ?_
 refine zm9 (c:=c) (pn:=d) (SqL.of ed6) hN.le hcn hWok (by omega) (by omega) hL fun y10 σ' H8 hL8=>?_
 obtain⟨s8,hm8,hd8,ht8,nx1,nx2,nx3⟩:=hL8
 rename_i us8
 show ya9 K _ [some (.ref sc),some (.ref d),some (.int c),some (.ref pb),x4,some (.ref pr),some (.ref pw),some (.str z),some (.ref M),some (.ref T),y10,x11] _
 lk
 refine⟨_,_,rfl,.inl ⟨SqL.of (s8 _ _ epb6),fun tb htb=>?_⟩⟩
 have s9:=A6.new htb (.tup us)
 have e9:(L2.upd H8 tb (.tup us)) tb=_:=A4
 have hr9:=Dvs.same (A6.tr s8 s9) _ _ hr6
 have hm9:=s9 _ _ hm8
 have hd9:=Dvs.same s9 _ _ hd8
 have s69:=A6.tr s8 s9
 generalize L2.upd H8 tb (.tup us)=H9 at *
 lk
 have cor0:Cor nm [((0,[]):Lv)] st0 0:=⟨rfl,rfl,fun b hb=>by rw[List.mem_singleton.mp hb];decide,fun b hb=>by rw[List.mem_singleton.mp hb],fun b hb=>by rw[List.mem_singleton.mp hb];simp,fun b hb=>by rw[List.mem_singleton.mp hb];simp,rfl,rfl⟩
 obtain⟨st',g1,g2,g3,g4⟩:=ya4 (z:=z) P hN hcn (by omega) its [] [(0,[])] st0 0 ez hW0 cor0 hits (by omega)
 have etk:=yo7 ez fun p hp=>by
  obtain⟨o,ho,rfl⟩:=List.mem_map.mp hp
  exact(hits o ho).2
 obtain⟨run,r0,r1,r2⟩:=g1.run
 have hl0:([]:List Nat).length=0:=rfl
 rw[hl0] at r1 r2 g4
 have bd:=g2.bnd hWok (by omega) (by omega)
 obtain⟨b,cl,eb⟩:=List.exists_cons_of_ne_nil bd.ne
 obtain⟨w0,Wt,eW⟩:=List.exists_cons_of_ne_nil hWok.ne
 have cp:=g2.cp
 have cn:=g2.cn
 rw[eb,eW,List.map_cons,List.map_cons] at cp
 rw[eb,eW] at cn
 have cn':cl.map Brn.n=Wt.map (fun e=>gd nm e.1):=cn
 injection cp with cp1 cp2
 have eroot:b.ps++Q9 cl=ntF nm its:=by
  unfold ntF
  rw[eW,rt0,cp1,xh9 cp2 cn']
 have ems:(fin rs z.length b cl st').ms=mM nm 0 its [(0,[])]++(mW nm its [(0,[])]).tail.reverse.map (mdK nm z.length "end"):=by
  show st'.ms++cl.reverse.map (clM z.length "end")=_
  rw[g4,eW]
  show([]:List Mnd)++_++_=_++Wt.reverse.map _
  rw[List.nil_append]
  congr 1
  have e3:cl.map (clM z.length "end")=(cl.map Brn.n).map (fun n=>(⟨z.length,z.length,cls n, "end"⟩:Mnd)):=by rw[List.map_map];rfl
  rw[List.map_reverse,List.map_reverse,e3,cn',List.map_map];rfl
 refine⟨.ref tb,z,rs,fun _=>0,run,b,cl,rfl,⟨tb,us,rfl,SqT.of e9,hr9⟩,P.boo hN hcn (by omega) (by omega),P.falls,by omega,?_,?_,?_,fun v1 p1 q1 us1 H10 hp1 hv1 hq1 hu1 s10=>?_⟩
 ·rw[etk];exact⟨r0,r2⟩
 ·rw[etk,r1];exact bd
 ·rw[etk,r1];exact eb
 rw[etk,r1] at hu1
 rw[eroot] at hv1
 rw[ems] at hu1
 have s610:=A6.tr s69 s10
 lk
 refine⟨pr,pw,d,its,nm,c,rfl,s610 _ _ epr7,s610 _ _ epw7,SqL.of (s610 _ _ ed6),hcn,hits1,by omega,fun v H11 s11 hv=>?_⟩
 lk
 refine⟨D8 (by z_go),fun p12 hp12=>?_⟩
 have s12':=A6.new hp12 (.tup [v,.ref M])
 have s1012:=A6.tr s11 s12'
 refine yw6 (t:=Tr.nd "" (ntF nm its)) (ms:=mM nm 0 its [(0,[])]++(mW nm its [(0,[])]).tail.reverse.map (mdK nm z.length "end")) (zm7 (by omega) hits1) (C6.mpr ⟨p1,_,rfl,s1012.sqT hp1,B6 (Dv.same s1012 _ _ hv1) (B6 (ql6.mpr ⟨q1,us1,rfl,SqL.of (s1012 _ _ hq1),Dvs.same s1012 _ _ hu1⟩) G1)⟩) (C6.mpr ⟨p12,_,rfl,SqT.of A4,B6 (Dv.same s12' _ _ hv) (B6 (ql6.mpr ⟨M,us8,rfl,SqL.of ((A6.tr s10 s1012) _ _ hm9),Dvs.same (A6.tr s10 s1012) _ _ hd9⟩) G1)⟩) ?_
 exact q _
end
variable{X:Cx}{pos:Pos}{mg:Str->Option Value}{h:Heap}
section
open PyProof.Rows
set_option maxHeartbeats 0
def top(i:Nat):Stmt:=PySem.Challenge.pw_tagmend_k42_tags_that_shut.main.body.getD i (.Pass ⟨0,0,0,0⟩)
def qc3(s:Stmt)(j:Nat):Stmt:=match s with
 | .ClassDef _ _ _ b _ _ _ _ _ _ _=>b.getD j (.Pass ⟨0,0,0,0⟩)
 | _=>.Pass ⟨0,0,0,0⟩
abbrev O1:Stmt:=top 8
abbrev ww2:Stmt:=top 9
abbrev wm7:Stmt:=top 10
abbrev wm8:Stmt:=top 11
abbrev wm9:Stmt:=top 12
abbrev wf0:Stmt:=top 13
abbrev wn0:Stmt:=top 14
abbrev wn1:Stmt:=top 17
abbrev qd0:Stmt:=top 18
abbrev wn2:Stmt:=top 19
abbrev qa7:Stmt:=top 21
abbrev wn3:Stmt:=top 24
abbrev wn4:Stmt:=top 25
abbrev qy4:Stmt:=top 26
abbrev ww3:Stmt:=top 27
abbrev qa8:Stmt:=top 28
abbrev qf5:Stmt:=top 29
abbrev qj7:Stmt:=top 30
abbrev qy5:Stmt:=top 31
abbrev wn5:Stmt:=top 35
abbrev wn6:Stmt:=top 36
abbrev qn1:Stmt:=top 37
abbrev qy6:Stmt:=top 41
abbrev qd1:Stmt:=top 42
abbrev qy7:Stmt:=top 43
abbrev qs7:Stmt:=top 44
abbrev wf1:Stmt:=top 45
abbrev qo5:Stmt:=top 46
abbrev qj8:Stmt:=top 47
abbrev qs8:Stmt:=top 48
abbrev qs9:Stmt:=top 49
abbrev qy8:Stmt:=top 52
abbrev qy9:Stmt:=top 53
abbrev qa9:Stmt:=top 56
abbrev qz0:Stmt:=top 57
abbrev qu1:Stmt:=top 58
abbrev qj9:Stmt:=top 60
abbrev qt0:Stmt:=top 61
abbrev qk0:Stmt:=top 62
abbrev qb0:Stmt:=top 63
abbrev qo6:Stmt:=top 64
abbrev wo8:Stmt:=top 65
abbrev qf6:Stmt:=qc3 (top 54) 0
abbrev qf7:Stmt:=qc3 (top 55) 0
abbrev qf8:Stmt:=qc3 (top 55) 1
abbrev qf9:Stmt:=qc3 (top 55) 2
abbrev qb1:Stmt:=qc3 (top 55) 3
abbrev R0:Stmt:=qc3 (top 55) 4
abbrev Z2:Stmt:=qc3 (top 55) 5
abbrev W5:Stmt:=qc3 (top 55) 6
abbrev O2:Stmt:=qc3 (top 55) 7
abbrev S2:Stmt:=qc3 (top 55) 8
abbrev P6:Stmt:=qc3 (top 55) 9
abbrev qd2:Stmt:=qc3 (top 55) 10
abbrev qd3:Stmt:=qc3 (top 55) 11
abbrev qg0:Stmt:=qc3 (top 55) 12
abbrev qb2:Stmt:=qc3 (top 55) 13
abbrev R1:Stmt:=qc3 (top 55) 14
abbrev O5:Stmt:=qc3 (top 55) 15
abbrev W6:Stmt:=qc3 (top 55) 16
set_option genInjectivity false in
structure Fa where
 a:Addr
 d:FuncData
structure Fok(K:Fg)(mg:Str->Option Value)(x:Str)(st:Stmt)(ps:List Str)(f:Fa):Prop where
 F:Fun K x x st f.a f.d
 b:P7 K f.d ps []
 m:mg x=some (.ref f.a)
theorem zcl{CX:CXT}{fa:Fa}{st:Stmt}{ps:List Str}{sp:Sp}{p:Pos}{e:Expr}{es:List Expr}{t:TA}(F:E9 X.prog X.w X.K X.mg X.base CX k fa.a fa.d ps sp)(hr:qc6 j X.A)(f:Fok X.K X.mg x st ps fa)(hx:qw2 CX X E)(ha:PA X (e::es) t)(hk:k<=j:=by walk_at "le")(hg:autoParam (Gl X x) zAr)(hdb:autoParam ((x == ("__debug__":Str))=false) zAd)(he:autoParam (starEach (e::es) X.env=(false,eval e X.env)::starEach es X.env) zAr)(hpl:autoParam ((backTo pos (starEach es X.env)).any (·.1)=false) zAr):PE X (.Call (.Name x p) (e::es) [] pos) (C7 sp [] E t):=yr7 F (hr.mono hk) hg f.m f.F.kp f.b .nil hx ha hdb he hpl
theorem zst{P:List Str}{sc:Scope}{e:Expr}{pos':Pos}(S:B4 X.N P sc)(he:PE X e te)(hi:autoParam (X.N[i]?=some x) zAr)(hx:Loc X.env.scope x:=by exact Or.inl rfl)(hs:autoParam (swapsWith e (some (.Name x pos')) pos.line X.env=pure false) zAr)(hf:X.fn x=true\/X.env.scope.names.lookup x=some .local:=by walk_at "or"):PS X (.Assign [.Name x pos'] e pos) (E1 te (B1 i)):=qf1 S.nd hi hx he hs hf
set_option genInjectivity false in
structure Adr where
 za:Fa
 zb:Fa
 zc:Fa
 zd:Fa
 ze:Fa
 zf:Fa
 zh:Fa
 zi:Fa
 zj:Fa
 zk:Fa
 zm:Fa
 zn:Fa
 zo:Fa
 zp:Fa
 zr:Fa
 zt:Fa
 zu:Fa
 zv:Fa
 zw:Fa
 zx:Fa
 zy:Fa
 zz:Fa
 ya:Fa
 yb:Fa
 yc:Fa
 yd:Fa
 ye:Fa
 yf:Fa
 yg:Fa
 yh:Fa
 yi:Fa
 yj:Fa
 yk:Fa
 yl:Fa
 ym:Fa
 yn:Fa
 yo:Fa
 yp:Fa
 yq:Fa
 yr:Fa
 yt:Fa
 yu:Fa
 a_c_Branch_init:Addr
 d_c_Branch_init:FuncData
 a_c_Reader_init:Addr
 d_c_Reader_init:FuncData
 a_c_Reader_root:Addr
 d_c_Reader_root:FuncData
 a_c_Reader_read:Addr
 d_c_Reader_read:FuncData
 a_c_Reader_finish:Addr
 d_c_Reader_finish:FuncData
 a_c_Reader_read_opening:Addr
 d_c_Reader_read_opening:FuncData
 a_c_Reader_read_closing:Addr
 d_c_Reader_read_closing:FuncData
 a_c_Reader_read_run:Addr
 d_c_Reader_read_run:FuncData
 a_c_Reader_open_names:Addr
 d_c_Reader_open_names:FuncData
 a_c_Reader_is_in_frame:Addr
 d_c_Reader_is_in_frame:FuncData
 a_c_Reader_last_wall:Addr
 d_c_Reader_last_wall:FuncData
 a_c_Reader_enter:Addr
 d_c_Reader_enter:FuncData
 a_c_Reader_leave:Addr
 d_c_Reader_leave:FuncData
 a_c_Reader_drop:Addr
 d_c_Reader_drop:FuncData
 a_c_Reader_put_in:Addr
 d_c_Reader_put_in:FuncData
 a_c_Reader_close_behind:Addr
 d_c_Reader_close_behind:FuncData
 a_c_Reader_put_in_waiting:Addr
 d_c_Reader_put_in_waiting:FuncData
 a_c_Reader_add_text:Addr
 d_c_Reader_add_text:FuncData
 c_WALL_SORTS:Addr
 v_LONGEST_NAME:Value
 v_NAME:Value
 v_SORT:Value
 v_HOST:Value
 v_SHUTS:Value
 v_BARS:Value
 v_ROOT_NAME:Value
 v_MOST_OPEN:Value
 c_TOLD_FOR:Addr
 c_ESCAPED:Addr
 v_START:Value
 v_STOP:Value
 v_BLANKS:Value
 k_Branch:Addr
 k_Reader:Addr
structure Txt(K:Fg)(mg:Str->Option Value)(t:Adr):Prop where
 za:Fok K mg "has_letters_of_name" O1 ["word"] t.za
 zb:Fok K mg "row_of" ww2 ["rows","name"] t.zb
 zc:Fok K mg "sort_of" wm7 ["book","name"] t.zc
 zd:Fok K mg "is_wall" wm8 ["book","name"] t.zd
 ze:Fok K mg "host_of" wm9 ["book","name"] t.ze
 zf:Fok K mg "frame_of" wf0 ["book","name"] t.zf
 zh:Fok K mg "belongs" wn0 ["book","name","frame"] t.zh
 zi:Fok K mg "is_text" wn1 ["part"] t.zi
 zj:Fok K mg "straight_above" qd0 ["names"] t.zj
 zk:Fok K mg "near_of" wn2 ["book","names"] t.zk
 zm:Fok K mg "share_a_name" qa7 ["names","others"] t.zm
 zn:Fok K mg "closing" wn3 ["book","names","name"] t.zn
 zo:Fok K mg "opening" wn4 ["book","names","name"] t.zo
 zp:Fok K mg "hosts_for" qy4 ["book","names"] t.zp
 zr:Fok K mg "wanted" ww3 ["book","names","name"] t.zr
 zt:Fok K mg "wanted_by_guest" qa8 ["book","names","name"] t.zt
 zu:Fok K mg "kept_by_shuts" qf5 ["book","names","name"] t.zu
 zv:Fok K mg "hosts_within" qj7 ["book","name"] t.zv
 zw:Fok K mg "is_barred" qy5 ["book","kept","put"] t.zw
 zx:Fok K mg "escaped" wn5 ["text"] t.zx
 zy:Fok K mg "told_by" wn6 ["run"] t.zy
 zz:Fok K mg "lone_ones" qn1 ["run"] t.zz
 ya:Fok K mg "tokens_of" qy6 ["text"] t.ya
 yb:Fok K mg "settled_tokens" qd1 ["text","settled","searched"] t.yb
 yc:Fok K mg "tags_from" qy7 ["text","searched"] t.yc
 yd:Fok K mg "name_start" qs7 ["text","start"] t.yd
 ye:Fok K mg "tag_stop" wf1 ["text","start"] t.ye
 yf:Fok K mg "tag_between" qo5 ["text","start","stop"] t.yf
 yg:Fok K mg "runs_between" qj8 ["text","start","stop"] t.yg
 yh:Fok K mg "opening_of" qs8 ["name"] t.yh
 yi:Fok K mg "closing_of" qs9 ["name"] t.yi
 yj:Fok K mg "read_text" qy8 ["book","text"] t.yj
 yk:Fok K mg "reader_of" qy9 ["book","text"] t.yk
 yl:Fok K mg "those_that_wait" qa9 ["book","closed"] t.yl
 ym:Fok K mg "without_last" qz0 ["names","name"] t.ym
 yn:Fok K mg "may_come_anew" qu1 ["book","names","name"] t.yn
 yo:Fok K mg "_law_cell_at" qj9 ["_law_script","_law_k"] t.yo
 yp:Fok K mg "_law_mixed" qt0 ["_law_cell","_law_k"] t.yp
 yq:Fok K mg "_law_letters" qk0 ["_law_number"] t.yq
 yr:Fok K mg "_law_names" qb0 ["_law_cell"] t.yr
 yt:Fok K mg "_law_nested" qo6 ["_law_ranks","_law_words","_law_names_here"] t.yt
 yu:Fok K mg "law" wo8 ["_law_script"] t.yu
 F_c_Branch_init:Fun K "__init__" "Branch.__init__" qf6 t.a_c_Branch_init t.d_c_Branch_init
 b_c_Branch_init:P7 K t.d_c_Branch_init ["self","name","place"] []
 m_c_Branch_init:Mk K t.k_Branch t.a_c_Branch_init
 F_c_Reader_init:Fun K "__init__" "Reader.__init__" qf7 t.a_c_Reader_init t.d_c_Reader_init
 b_c_Reader_init:P7 K t.d_c_Reader_init ["self","book"] []
 m_c_Reader_init:Mk K t.k_Reader t.a_c_Reader_init
 F_c_Reader_root:Fun K "root" "Reader.root" qf8 t.a_c_Reader_root t.d_c_Reader_root
 b_c_Reader_root:P7 K t.d_c_Reader_root ["self"] []
 m_c_Reader_root:qr0 K t.k_Reader "root" t.a_c_Reader_root
 F_c_Reader_read:Fun K "read" "Reader.read" qf9 t.a_c_Reader_read t.d_c_Reader_read
 b_c_Reader_read:P7 K t.d_c_Reader_read ["self","kind","start","signs","told"] []
 m_c_Reader_read:qr0 K t.k_Reader "read" t.a_c_Reader_read
 F_c_Reader_finish:Fun K "finish" "Reader.finish" qb1 t.a_c_Reader_finish t.d_c_Reader_finish
 b_c_Reader_finish:P7 K t.d_c_Reader_finish ["self","size"] []
 m_c_Reader_finish:qr0 K t.k_Reader "finish" t.a_c_Reader_finish
 F_c_Reader_read_opening:Fun K "read_opening" "Reader.read_opening" R0 t.a_c_Reader_read_opening t.d_c_Reader_read_opening
 b_c_Reader_read_opening:P7 K t.d_c_Reader_read_opening ["self","start","signs","name"] []
 m_c_Reader_read_opening:qr0 K t.k_Reader "read_opening" t.a_c_Reader_read_opening
 F_c_Reader_read_closing:Fun K "read_closing" "Reader.read_closing" Z2 t.a_c_Reader_read_closing t.d_c_Reader_read_closing
 b_c_Reader_read_closing:P7 K t.d_c_Reader_read_closing ["self","start","signs","name"] []
 m_c_Reader_read_closing:qr0 K t.k_Reader "read_closing" t.a_c_Reader_read_closing
 F_c_Reader_read_run:Fun K "read_run" "Reader.read_run" W5 t.a_c_Reader_read_run t.d_c_Reader_read_run
 b_c_Reader_read_run:P7 K t.d_c_Reader_read_run ["self","start","signs","told"] []
 m_c_Reader_read_run:qr0 K t.k_Reader "read_run" t.a_c_Reader_read_run
 F_c_Reader_open_names:Fun K "open_names" "Reader.open_names" O2 t.a_c_Reader_open_names t.d_c_Reader_open_names
 b_c_Reader_open_names:P7 K t.d_c_Reader_open_names ["self"] []
 m_c_Reader_open_names:qr0 K t.k_Reader "open_names" t.a_c_Reader_open_names
 F_c_Reader_is_in_frame:Fun K "is_in_frame" "Reader.is_in_frame" S2 t.a_c_Reader_is_in_frame t.d_c_Reader_is_in_frame
 b_c_Reader_is_in_frame:P7 K t.d_c_Reader_is_in_frame ["self"] []
 m_c_Reader_is_in_frame:qr0 K t.k_Reader "is_in_frame" t.a_c_Reader_is_in_frame
 F_c_Reader_last_wall:Fun K "last_wall" "Reader.last_wall" P6 t.a_c_Reader_last_wall t.d_c_Reader_last_wall
 b_c_Reader_last_wall:P7 K t.d_c_Reader_last_wall ["self"] []
 m_c_Reader_last_wall:qr0 K t.k_Reader "last_wall" t.a_c_Reader_last_wall
 F_c_Reader_enter:Fun K "enter" "Reader.enter" qd2 t.a_c_Reader_enter t.d_c_Reader_enter
 b_c_Reader_enter:P7 K t.d_c_Reader_enter ["self","name"] []
 m_c_Reader_enter:qr0 K t.k_Reader "enter" t.a_c_Reader_enter
 F_c_Reader_leave:Fun K "leave" "Reader.leave" qd3 t.a_c_Reader_leave t.d_c_Reader_leave
 b_c_Reader_leave:P7 K t.d_c_Reader_leave ["self"] []
 m_c_Reader_leave:qr0 K t.k_Reader "leave" t.a_c_Reader_leave
 F_c_Reader_drop:Fun K "drop" "Reader.drop" qg0 t.a_c_Reader_drop t.d_c_Reader_drop
 b_c_Reader_drop:P7 K t.d_c_Reader_drop ["self","start","signs","rule"] []
 m_c_Reader_drop:qr0 K t.k_Reader "drop" t.a_c_Reader_drop
 F_c_Reader_put_in:Fun K "put_in" "Reader.put_in" qb2 t.a_c_Reader_put_in t.d_c_Reader_put_in
 b_c_Reader_put_in:P7 K t.d_c_Reader_put_in ["self","name","start","rule"] []
 m_c_Reader_put_in:qr0 K t.k_Reader "put_in" t.a_c_Reader_put_in
 F_c_Reader_close_behind:Fun K "close_behind" "Reader.close_behind" R1 t.a_c_Reader_close_behind t.d_c_Reader_close_behind
 b_c_Reader_close_behind:P7 K t.d_c_Reader_close_behind ["self","kept","start","rule"] []
 m_c_Reader_close_behind:qr0 K t.k_Reader "close_behind" t.a_c_Reader_close_behind
 F_c_Reader_put_in_waiting:Fun K "put_in_waiting" "Reader.put_in_waiting" O5 t.a_c_Reader_put_in_waiting t.d_c_Reader_put_in_waiting
 b_c_Reader_put_in_waiting:P7 K t.d_c_Reader_put_in_waiting ["self","start"] []
 m_c_Reader_put_in_waiting:qr0 K t.k_Reader "put_in_waiting" t.a_c_Reader_put_in_waiting
 F_c_Reader_add_text:Fun K "add_text" "Reader.add_text" W6 t.a_c_Reader_add_text t.d_c_Reader_add_text
 b_c_Reader_add_text:P7 K t.d_c_Reader_add_text ["self","start","signs","told"] []
 m_c_Reader_add_text:qr0 K t.k_Reader "add_text" t.a_c_Reader_add_text
 g_WALL_SORTS:mg "WALL_SORTS"=some (.ref t.c_WALL_SORTS)
 q_WALL_SORTS:∀ H:Hp,SqT K H t.c_WALL_SORTS [.str "room",.str "frame"]
 g_LONGEST_NAME:mg "LONGEST_NAME"=some t.v_LONGEST_NAME/\E7 (.int 8) t.v_LONGEST_NAME
 g_NAME:mg "NAME"=some t.v_NAME/\E7 (.int 0) t.v_NAME
 g_SORT:mg "SORT"=some t.v_SORT/\E7 (.int 1) t.v_SORT
 g_HOST:mg "HOST"=some t.v_HOST/\E7 (.int 2) t.v_HOST
 g_SHUTS:mg "SHUTS"=some t.v_SHUTS/\E7 (.int 3) t.v_SHUTS
 g_BARS:mg "BARS"=some t.v_BARS/\E7 (.int 4) t.v_BARS
 g_ROOT_NAME:mg "ROOT_NAME"=some t.v_ROOT_NAME/\E7 (.str "") t.v_ROOT_NAME
 g_MOST_OPEN:mg "MOST_OPEN"=some t.v_MOST_OPEN/\E7 (.int 20) t.v_MOST_OPEN
 g_TOLD_FOR:mg "TOLD_FOR"=some (.ref t.c_TOLD_FOR)
 q_TOLD_FOR:∀ H:Hp,SqT K H t.c_TOLD_FOR [.str "&l;",.str "&a;"]
 g_ESCAPED:mg "ESCAPED"=some (.ref t.c_ESCAPED)
 q_ESCAPED:∀ H:Hp,SqT K H t.c_ESCAPED [.str "<",.str "&"]
 g_START:mg "START"=some t.v_START/\E7 (.int 1) t.v_START
 g_STOP:mg "STOP"=some t.v_STOP/\E7 (.int 2) t.v_STOP
 g_BLANKS:mg "BLANKS"=some t.v_BLANKS/\E7 (.str " \n") t.v_BLANKS
 z_all:mg "all"=none
 z_any:mg "any"=none
 z_enumerate:mg "enumerate"=none
 z_int:mg "int"=none
 z_isinstance:mg "isinstance"=none
 z_len:mg "len"=none
 z_range:mg "range"=none
 z_reversed:mg "reversed"=none
 z_sorted:mg "sorted"=none
 z_str:mg "str"=none
 z_tuple:mg "tuple"=none
 z_zip:mg "zip"=none
 n_Branch:mg "Branch"=some (.ref t.k_Branch)
 n_Reader:mg "Reader"=some (.ref t.k_Reader)
 cz:Cz K t.k_Branch t.k_Reader
section
variable{P:Program}{w:World}{base:Heap}{t:Adr}
theorem qb3:B4 ["word"] ["word"] (A9 O1):=by walk_at "k"
theorem xd6:B4 ["rows","name","row"] ["rows","name"] (A9 ww2):=by walk_at "k"
theorem ww4:B4 ["book","name","row"] ["book","name"] (A9 wm7):=by walk_at "k"
theorem ww5:B4 ["book","name"] ["book","name"] (A9 wm8):=by walk_at "k"
theorem ww6:B4 ["book","name","row"] ["book","name"] (A9 wm9):=by walk_at "k"
theorem wo9:B4 ["book","name","row"] ["book","name"] (A9 wf0):=by walk_at "k"
theorem ww7:B4 ["book","name","frame","above"] ["book","name","frame"] (A9 wn0):=by walk_at "k"
theorem ww8:B4 ["part"] ["part"] (A9 wn1):=by walk_at "k"
theorem qn2:B4 ["names"] ["names"] (A9 qd0):=by walk_at "k"
theorem ww9:B4 ["book","names","start","number","name"] ["book","names"] (A9 wn2):=by walk_at "k"
theorem qu2:B4 ["names","others"] ["names","others"] (A9 qa7):=by walk_at "k"
theorem wx0:B4 ["book","names","name","number"] ["book","names","name"] (A9 wn3):=by walk_at "k"
theorem wx1:B4 ["book","names","name","plan","kept","put"] ["book","names","name"] (A9 wn4):=by walk_at "k"
theorem wj2:B4 ["book","names","hosts"] ["book","names"] (A9 qy4):=by walk_at "k"
theorem wb2:B4 ["book","names","name","frame","number","plan"] ["book","names","name"] (A9 ww3):=by walk_at "k"
theorem qk1:B4 ["book","names","name","hosts"] ["book","names","name"] (A9 qa8):=by walk_at "k"
theorem qq0:B4 ["book","names","name","shuts","first_near","number"] ["book","names","name"] (A9 qf5):=by walk_at "k"
theorem qu3:B4 ["book","name","hosts","host"] ["book","name"] (A9 qj7):=by walk_at "k"
theorem wj3:B4 ["book","kept","put","number","name","near"] ["book","kept","put"] (A9 qy5):=by walk_at "k"
theorem wx2:B4 ["text"] ["text"] (A9 wn5):=by walk_at "k"
theorem wx3:B4 ["run"] ["run"] (A9 wn6):=by walk_at "k"
theorem wj4:B4 ["run"] ["run"] (A9 qn1):=by walk_at "k"
theorem wj5:B4 ["text","tokens","settled"] ["text"] (A9 qy6):=by walk_at "k"
theorem qn3:B4 ["text","settled","searched","tokens","tag"] ["text","settled","searched"] (A9 qd1):=by walk_at "k"
theorem wj6:B4 ["text","searched","tags","start","stop"] ["text","searched"] (A9 qy7):=by walk_at "k"
theorem wd1:B4 ["text","start"] ["text","start"] (A9 qs7):=by walk_at "k"
theorem wp0:B4 ["text","start","first","end"] ["text","start"] (A9 wf1):=by walk_at "k"
theorem qz1:B4 ["text","start","stop","first","kind"] ["text","start","stop"] (A9 qo5):=by walk_at "k"
theorem qu4:B4 ["text","start","stop"] ["text","start","stop"] (A9 qj8):=by walk_at "k"
theorem wd2:B4 ["name"] ["name"] (A9 qs8):=by walk_at "k"
theorem wd3:B4 ["name"] ["name"] (A9 qs9):=by walk_at "k"
theorem wj7:B4 ["book","text","reader"] ["book","text"] (A9 qy8):=by walk_at "k"
theorem wj8:B4 ["book","text","reader","kind","start","stop","told"] ["book","text"] (A9 qy9):=by walk_at "k"
theorem qk2:B4 ["book","closed","waiting","name"] ["book","closed"] (A9 qa9):=by walk_at "k"
theorem qu5:B4 ["_law_script","_law_k"] ["_law_script","_law_k"] (A9 qj9):=by walk_at "k"
theorem wd4:B4 ["_law_cell","_law_k","_law_half","_law_number"] ["_law_cell","_law_k"] (A9 qt0):=by walk_at "k"
theorem qu6:B4 ["_law_number","_law_signs","_law_width","_law_j"] ["_law_number"] (A9 qk0):=by walk_at "k"
theorem wd5:B4 ["_law_cell","_law_letters_here","_law_names_here","_law_k","_law_signs","_law_name","_law_spare"] ["_law_cell"] (A9 qb0):=by walk_at "k"
theorem qz2:B4 ["_law_ranks","_law_words","_law_names_here","_law_heaps","_law_there","_law_rank","_law_word","_law_heap"] ["_law_ranks","_law_words","_law_names_here"] (A9 qo6):=by walk_at "k"
theorem yq6:B4 ["_law_script","_law_names_here","_law_count","_law_book","_law_k","_law_ranks","_law_words","_law_text","_law_mends","_law_there","_law_rank","_law_word"] ["_law_script"] (A9 wo8):=by walk_at "k"
theorem qq1:B4 ["self","name","place"] ["self","name","place"] (A9 qf6):=by walk_at "k"
theorem qq2:B4 ["self","book"] ["self","book"] (A9 qf7):=by walk_at "k"
theorem qq3:B4 ["self"] ["self"] (A9 qf8):=by walk_at "k"
theorem qq4:B4 ["self","kind","start","signs","told"] ["self","kind","start","signs","told"] (A9 qf9):=by walk_at "k"
theorem qk3:B4 ["self","size"] ["self","size"] (A9 qb1):=by walk_at "k"
theorem X0:B4 ["self","start","signs","name","plan","put"] ["self","start","signs","name"] (A9 R0):=by walk_at "k"
theorem qe8:B4 ["self","start","signs","told","hosts","host","number","place"] ["self","start","signs","told"] (A9 W5):=by walk_at "k"
theorem qb4:B4 ["self"] ["self"] (A9 O2):=by walk_at "k"
theorem Z3:B4 ["self"] ["self"] (A9 S2):=by walk_at "k"
theorem qc4:B4 ["self","walls"] ["self"] (A9 P6):=by walk_at "k"
theorem qn4:B4 ["self","name","above"] ["self","name"] (A9 qd2):=by walk_at "k"
theorem qn5:B4 ["self","branch"] ["self"] (A9 qd3):=by walk_at "k"
theorem qq5:B4 ["self","start","signs","rule"] ["self","start","signs","rule"] (A9 qg0):=by walk_at "k"
theorem qk4:B4 ["self","name","start","rule"] ["self","name","start","rule"] (A9 qb2):=by walk_at "k"
theorem X1:B4 ["self","kept","start","rule","closed","name"] ["self","kept","start","rule"] (A9 R1):=by walk_at "k"
theorem U1:B4 ["self","start","wall","names","name"] ["self","start"] (A9 O5):=by walk_at "k"
theorem qe9:B4 ["self","start","signs","told","branch","ahead"] ["self","start","signs","told"] (A9 W6):=by walk_at "k"
theorem qt1(T:Txt K mg t):E9 P w K mg base CX0 1 t.za.a t.za.d ["word"] (M9 K):=by
 refine T.za.F.ok qb3 (by walk_at "n") (fun cdv A outer s H vs Q E hr h=>⟨N9 K,?_,qs2 h⟩)
 have S:=qb3
 refine A7 ?_
 refine B8 ?_
 exact(za3 (xk0 xf1 xf1 B0 (D0 C8 rfl T.z_len boot_len (A0 (pv 0) A3)) (J5 rfl T.g_LONGEST_NAME.1 T.g_LONGEST_NAME.2)) (za2 (D0 (ye3 rfl) rfl T.z_all boot_all (A0 (wf9 rfl (R6 (osc:=A9 O1) (ON:=["word"]) (N:=["sign"]) (fr:=[none]) (by decide +kernel) rfl rfl) (xx8 (pv 0)) (fun _ _ _ _ _ _=>(D2 (i:=0) (show List.Nodup (["sign"]:List Str) by decide +kernel) rfl (Or.inl rfl))) ql5 (fun _ _ _ _ _ _=>qz8) (fun _ _ _ _ _ _=>(xk0 xf1 xf1 C5 (pv 0) C5))) A3))))
theorem wb3(T:Txt K mg t):E9 P w K mg base CX0 1 t.zb.a t.zb.d ["rows","name"] (qc7 K):=by
 refine T.zb.F.ok xd6 (xt1 K) (fun cdv A outer s H vs Q E hr h=>⟨wh1 K,?_,yf1 h⟩)
 have S:=xd6
 refine A5 ?_ ?_
 ·refine Q4 PassesOwn.never rfl ?_ ?_ ?_
  ·exact(Y4 (pv 0))
  ·exact(D2 (i:=2) S.nd rfl (Or.inl rfl))
  ·refine A7 ?_
   refine L9 ?_ ?_ ?_
   ·exact(C2 (S8 (qo0 hr)) (E4 (B9 (D5 hr)) (pv 2) (J5 rfl T.g_NAME.1 T.g_NAME.2) (fun _ _=>rfl)) (pv 1) (D4 _))
   ·refine A7 ?_
    exact(B8 (pv 2))
   ·exact E6
 refine A7 ?_
 exact(B8 R5)
theorem qn6(T:Txt K mg t):E9 P w K mg base CX0 1 t.zf.a t.zf.d ["book","name"] (Z1 K):=by
 refine T.zf.F.ok wo9 (by walk_at "n") (fun cdv A outer s H vs Q E hr h=>⟨we0 K,?_,xm5 h⟩)
 have S:=wo9
 refine A5 ?_ ?_
 ·refine Q4 PassesOwn.never rfl ?_ ?_ ?_
  ·exact(Y4 (pv 0))
  ·exact(D2 (i:=2) S.nd rfl (Or.inl rfl))
  ·refine A7 ?_
   refine L9 ?_ ?_ ?_
   ·exact(PW.pt (wd7 (C2 (S8 (qo0 hr)) (E4 (B9 (D5 hr)) (pv 2) (J5 rfl T.g_SORT.1 T.g_SORT.2) (fun _ _=>rfl)) C5 (D4 _)) (qq8 (C2 (S8 (qo0 hr)) (E4 (B9 (D5 hr)) (pv 2) (J5 rfl T.g_HOST.1 T.g_HOST.2) (fun _ _=>rfl)) (pv 1) (D4 _)))))
   ·refine A7 ?_
    exact(B8 (E4 (B9 (D5 hr)) (pv 2) (J5 rfl T.g_NAME.1 T.g_NAME.2) (fun _ _=>rfl)))
   ·exact E6
 refine A7 ?_
 exact(B8 R5)
theorem xv4(T:Txt K mg t):E9 P w K mg base CX0 1 t.zi.a t.zi.d ["part"] (qr6 K):=by
 refine T.zi.F.ok ww8 (by walk_at "n") (fun cdv A outer s H vs Q E hr h=>⟨wa2 K,?_,xt6 h⟩)
 have S:=ww8
 refine A7 ?_
 exact(B8 (D0 wk8 rfl T.z_isinstance boot_isinstance (A0 (pv 0) (A0 (yq8 rfl T.z_str boot_str rfl) A3))))
theorem qb5(T:Txt K mg t):E9 P w K mg base CX0 1 t.zj.a t.zj.d ["names"] (M2 K):=by
 refine T.zj.F.ok qn2 (by walk_at "n") (fun cdv A outer s H vs Q E hr h=>⟨U4 K,?_,wi1 h⟩)
 have S:=qn2
 refine A7 ?_
 exact(B8 (qi5 (C2 qw6 (D0 C8 rfl T.z_len boot_len (A0 (pv 0) A3)) B0 (D4 _)) (E4 (B9 (D5 hr)) (pv 0) (qi6 Y2 B0) (fun _ _=>rfl)) (J5 rfl T.g_ROOT_NAME.1 T.g_ROOT_NAME.2)))
theorem wq5(T:Txt K mg t):E9 P w K mg base CX0 1 t.zm.a t.zm.d ["names","others"] (X6 K):=by
 refine T.zm.F.ok qu2 (by walk_at "n") (fun cdv A outer s H vs Q E hr h=>⟨qa2 K,?_,wq1 h⟩)
 have S:=qu2
 refine A7 ?_
 refine B8 ?_
 exact(D0 (ye4 rfl) rfl T.z_any boot_any (A0 (wf9 rfl (R6 (osc:=A9 qa7) (ON:=["names","others"]) (N:=["others","name"]) (fr:=[some 1,none]) (by decide +kernel) rfl rfl) (Y4 (pv 0)) (fun _ _ _ _ _ _=>(D2 (i:=1) (show List.Nodup (["others","name"]:List Str) by decide +kernel) rfl (Or.inl rfl))) ql5 (fun _ _ _ _ _ _=>qz8) (fun _ _ _ _ _ _=>(qz6 (wt4 (D5 hr)) (pv 1) (pv 0) (by with_unfolding_all rfl)))) A3))
theorem xv5(T:Txt K mg t):E9 P w K mg base CX0 1 t.zx.a t.zx.d ["text"] (qs4 K):=by
 refine T.zx.F.ok wx2 (by walk_at "n") (fun cdv A outer s H vs Q E hr h=>⟨wb1 K,?_,xu7 h⟩)
 have S:=wx2
 refine A7 ?_
 exact(B8 (wr1 (wr1 (pv 0))))
theorem xv6(T:Txt K mg t):E9 P w K mg base CX0 1 t.zy.a t.zy.d ["run"] (qs1 K):=by
 refine T.zy.F.ok wx3 (by walk_at "n") (fun cdv A outer s H vs Q E hr h=>⟨wb0 K,?_,xu5 h⟩)
 have S:=wx3
 refine A7 ?_
 exact(B8 (wr1 (wr1 (pv 0))))
theorem xi4(T:Txt K mg t):E9 P w K mg base CX0 1 t.zz.a t.zz.d ["run"] (qh3 K):=by
 refine T.zz.F.ok wj4 (by walk_at "n") (fun cdv A outer s H vs Q E hr h=>⟨qm1 K t.c_TOLD_FOR t.c_ESCAPED,?_,xg8 T.q_TOLD_FOR T.q_ESCAPED h⟩)
 have S:=wj4
 refine A7 ?_
 refine B8 ?_
 exact(wf9 rfl (R6 (osc:=A9 qn1) (ON:=["run"]) (N:=["run","number","sign"]) (fr:=[some 0,none,none]) (by decide +kernel) rfl rfl) (yk7 rfl T.z_enumerate (A0 (pv 0) A3)) (fun _ _ _ _ _ _=>(wk0 rfl (O9 (D2 (i:=1) (show List.Nodup (["run","number","sign"]:List Str) by decide +kernel) rfl (Or.inl rfl)) (O9 (D2 (i:=2) (show List.Nodup (["run","number","sign"]:List Str) by decide +kernel) rfl (Or.inl rfl)) qz5)))) (zc1 (xx1 rfl (xx1 rfl zc0))) (fun _ _ _ _ _ _=>(xe9 (PW.pt (wd7 (C2 (wt4 (D5 hr)) (pv 2) (J5 rfl T.g_ESCAPED rfl) (by with_unfolding_all rfl)) (qq8 (C2 (xb9 (D5 hr)) (N4 qi9 (pv 0) (J6 (pv 1)) (J6 (C0 D3 (pv 1) B0))) (J5 rfl T.g_TOLD_FOR rfl) (by with_unfolding_all rfl))))))) (fun _ _ _ _ _ _=>(pv 1)))
theorem wd6(T:Txt K mg t):E9 P w K mg base CX0 1 t.yd.a t.yd.d ["text","start"] (W8 K):=by
 refine T.yd.F.ok wd1 (by walk_at "n") (fun cdv A outer s H vs Q E hr h=>⟨qh4 K,?_,wz2 h⟩)
 have S:=wd1
 refine A7 ?_
 exact(B8 (qi5 (qf0 (O4 PySem.F.plainAttrs_str PySem.F.slot_str_startswith PySem.F.type_str_startswith ye0 (pv 0) (A0 C5 (A0 (pv 1) A3)))) (C0 D3 (pv 1) B0) (C0 D3 (pv 1) B0)))
theorem xa1(T:Txt K mg t):E9 P w K mg base CX0 1 t.yh.a t.yh.d ["name"] (qd9 K):=by
 refine T.yh.F.ok wd2 (by walk_at "n") (fun cdv A outer s H vs Q E hr h=>⟨qh7 K,?_,wz5 h⟩)
 have S:=wd2
 refine A7 ?_
 exact(B8 (yy6 (pv 0)))
theorem xa2(T:Txt K mg t):E9 P w K mg base CX0 1 t.yi.a t.yi.d ["name"] (qe0 K):=by
 refine T.yi.F.ok wd3 (by walk_at "n") (fun cdv A outer s H vs Q E hr h=>⟨qh8 K,?_,wz6 h⟩)
 have S:=wd3
 refine A7 ?_
 exact(B8 (yy6 (pv 0)))
theorem qu7(T:Txt K mg t):E9 P w K mg base CX0 1 t.yo.a t.yo.d ["_law_script","_law_k"] (S5 K):=by
 refine T.yo.F.ok qu5 (by walk_at "n") (fun cdv A outer s H vs Q E hr h=>⟨Z8 K,?_,wp8 h⟩)
 have S:=qu5
 refine A5 ?_ ?_
 ·refine L9 ?_ ?_ ?_
  ·exact(C2 yj0 (pv 1) (D0 C8 rfl T.z_len boot_len (A0 (pv 0) A3)) (D4 _))
  ·refine A7 ?_
   exact(B8 (E4 (B9 (D5 hr)) (pv 0) (pv 1) (fun _ _=>rfl)))
  ·exact E6
 refine A7 ?_
 exact(B8 B0)
theorem qo7(T:Txt K mg t):E9 P w K mg base CX0 1 t.yp.a t.yp.d ["_law_cell","_law_k"] (S7 K):=by
 refine T.yp.F.ok wd4 (by walk_at "n") (fun cdv A outer s H vs Q E hr h=>⟨qg9 K,?_,wy7 h⟩)
 have S:=wd4
 refine A5 ?_ ?_
 ·refine zst (i:=2) S ?_
  exact(C0 wq6 (pv 0) B0)
 refine A5 ?_ ?_
 ·refine L9 ?_ ?_ ?_
  ·exact(C2 (S8 (qo0 hr)) (C0 W2 (pv 0) B0) B0 (D4 _))
  ·refine A7 ?_
   exact(B8 (C0 W2 (C0 yh5 (pv 2) (C0 qd4 B0 (pv 1))) (C0 yh4 B0 B0)))
  ·exact E6
 refine A5 ?_ ?_
 ·refine zst (i:=3) S ?_
  exact(C0 D3 (C0 W2 (pv 2) B0) (C0 qd4 B0 (C0 D3 (pv 1) B0)))
 refine A5 ?_ ?_
 ·refine zst (i:=3) S ?_
  exact(C0 W2 (C0 D3 (C0 qd4 (pv 3) (pv 3)) (C0 qd4 B0 (pv 1))) B0)
 refine A7 ?_
 exact(B8 (C0 W2 (C0 D3 (C0 D3 (C0 qd4 (pv 3) (pv 3)) (C0 qd4 B0 (pv 1))) B0) B0))
theorem qg1(T:Txt K mg t):E9 P w K mg base CX0 1 t.yq.a t.yq.d ["_law_number"] (O6 K):=by
 refine T.yq.F.ok qu6 (by walk_at "n") (fun cdv A outer s H vs Q E hr h=>⟨Z9 K,?_,wp9 h⟩)
 have S:=qu6
 refine A5 ?_ ?_
 ·refine zst (i:=1) S ?_
  exact(L3 A3)
 refine A5 ?_ ?_
 ·refine zst (i:=2) S ?_
  exact(C0 D3 B0 (C0 W2 (pv 0) B0))
 refine A5 ?_ ?_
 ·refine zst (i:=0) S ?_
  exact(C0 wq6 (pv 0) B0)
 refine A5 ?_ ?_
 ·refine Q4 PassesOwn.never rfl ?_ ?_ ?_
  ·exact(wk2 rfl T.z_range (A0 (pv 2) A3))
  ·exact(D2 (i:=3) S.nd rfl (Or.inl rfl))
  ·refine A5 ?_ ?_
   ·exact(C4 (O4 PySem.F.plainAttrs_list PySem.F.slot_list_append PySem.F.type_list_append E8 (pv 1) (A0 (C0 W2 (pv 0) B0) A3)))
   refine A7 ?_
   refine zst (i:=0) S ?_
   exact(C0 wq6 (pv 0) B0)
 refine A7 ?_
 exact(B8 (pv 1))
theorem wx4(T:Txt K mg t):E9 P w K mg base CX0 1 t.yt.a t.yt.d ["_law_ranks","_law_words","_law_names_here"] (qa6 K):=by
 refine T.yt.F.ok qz2 (by walk_at "n") (fun cdv A outer s H vs Q E hr h=>⟨qe2 K,?_,ww1 h⟩)
 have S:=qz2
 refine A5 ?_ ?_
 ·refine zst (i:=3) S ?_
  exact(L3 (A0 (L3 A3) A3))
 refine A5 ?_ ?_
 ·refine zst (i:=4) S ?_
  exact(L3 A3)
 refine A5 ?_ ?_
 ·refine Q4 PassesOwn.never rfl ?_ ?_ ?_
  ·exact(xy6 rfl T.z_zip (A0 (C0 D3 (pv 0) (L3 (A0 (C0 xd9 B0 B0) A3))) (A0 (C0 D3 (pv 1) (L3 (A0 C5 A3))) A3)))
  ·exact(wk0 rfl (O9 (D2 (i:=5) S.nd rfl (Or.inl rfl)) (O9 (D2 (i:=6) S.nd rfl (Or.inl rfl)) qz5)))
  ·refine A5 ?_ ?_
   ·refine qw0 PassesOwn.never ?_ ?_
    ·exact(PW.pt (wd7 (C2 (xr9 (qo0 hr)) (pv 4) (L3 A3) (D4 _)) (qq8 (C2 xf2 (E4 (B9 (D5 hr)) (pv 4) (qi6 Y2 B0) (fun _ _=>rfl)) (pv 5) (D4 _)))))
    ·refine A5 ?_ ?_
     ·refine zst (i:=7) S ?_
      exact(ws3 PySem.F.plainAttrs_list PySem.F.slot_list_pop PySem.F.type_list_pop ws4 (pv 3))
     refine A7 ?_
     exact(C4 (O4 PySem.F.plainAttrs_list PySem.F.slot_list_append PySem.F.type_list_append E8 (E4 (B9 (D5 hr)) (pv 3) (qi6 Y2 B0) (fun _ _=>rfl)) (A0 (G2 (A0 (E4 (B9 (D5 hr)) (pv 2) (ws3 PySem.F.plainAttrs_list PySem.F.slot_list_pop PySem.F.type_list_pop ws4 (pv 4)) (fun _ _=>rfl)) (A0 (N3 N2 rfl T.z_tuple boot_tuple (A0 (pv 7) A3)) A3))) A3)))
   refine A7 ?_
   refine L9 ?_ ?_ ?_
   ·exact(C2 xf2 (pv 5) B0 (D4 _))
   ·refine A5 ?_ ?_
    ·exact(C4 (O4 PySem.F.plainAttrs_list PySem.F.slot_list_append PySem.F.type_list_append E8 (pv 4) (A0 (pv 5) A3)))
    refine A7 ?_
    exact(C4 (O4 PySem.F.plainAttrs_list PySem.F.slot_list_append PySem.F.type_list_append E8 (pv 3) (A0 (L3 (A0 (pv 6) A3)) A3)))
   ·exact E6
 refine A7 ?_
 exact(B8 (G2 (A0 C5 (A0 (N3 N2 rfl T.z_tuple boot_tuple (A0 (E4 (B9 (D5 hr)) (pv 3) B0 (fun _ _=>rfl)) A3)) A3))))
theorem qq6(T:Txt K mg t):E9 P w K mg base CX0 1 t.a_c_Branch_init t.d_c_Branch_init ["self","name","place"] (Q8 K):=by
 refine T.F_c_Branch_init.ok qq1 (by walk_at "n") (fun cdv A outer s H vs Q E hr h=>⟨X4 K,?_,wl2 T.cz h⟩)
 have S:=qq1
 refine A5 ?_ ?_
 ·exact(qr1 (pv 0) (pv 1) rfl)
 refine A5 ?_ ?_
 ·exact(qr1 (pv 0) (pv 2) rfl)
 refine A5 ?_ ?_
 ·exact(qr1 (pv 0) (L3 A3) rfl)
 refine A7 ?_
 exact(qr1 (pv 0) (L3 A3) rfl)
theorem wn7(T:Txt K mg t):E9 P w K mg base CX0 1 t.a_c_Reader_root t.d_c_Reader_root ["self"] (U8 K):=by
 refine T.F_c_Reader_root.ok qq3 (by walk_at "n") (fun cdv A outer s H vs Q E hr h=>⟨X9 K,?_,wm4 T.cz h⟩)
 have S:=qq3
 refine A7 ?_
 exact(B8 (G2 (A0 (J5 rfl T.g_ROOT_NAME.1 T.g_ROOT_NAME.2) (A0 (N3 N2 rfl T.z_tuple boot_tuple (A0 (E2 (E4 (B9 (D5 hr)) (E2 (pv 0) rfl) B0 (fun _ _=>rfl)) rfl) A3)) A3))))
theorem J9(T:Txt K mg t):E9 P w K mg base CX0 1 t.a_c_Reader_open_names t.d_c_Reader_open_names ["self"] (D6 K):=by
 refine T.F_c_Reader_open_names.ok qb4 (by walk_at "n") (fun cdv A outer s H vs Q E hr h=>⟨O0 K,?_,qs5 T.cz h⟩)
 have S:=qb4
 refine A7 ?_
 exact(B8 (N3 N2 rfl T.z_tuple boot_tuple (A0 (wf9 rfl (R6 (osc:=A9 O2) (ON:=["self"]) (N:=["branch"]) (fr:=[none]) (by decide +kernel) rfl rfl) (Y4 (N4 qi9 (E2 (pv 0) rfl) (J6 B0) qr3)) (fun _ _ _ _ _ _=>(D2 (i:=0) (show List.Nodup (["branch"]:List Str) by decide +kernel) rfl (Or.inl rfl))) ql5 (fun _ _ _ _ _ _=>qz8) (fun _ _ _ _ _ _=>(E2 (pv 0) rfl))) A3)))
theorem qn7(T:Txt K mg t):E9 P w K mg base CX0 1 t.a_c_Reader_leave t.d_c_Reader_leave ["self"] (P2 K):=by
 refine T.F_c_Reader_leave.ok qn5 (by walk_at "n") (fun cdv A outer s H vs Q E hr h=>⟨U9 K,?_,wi8 T.cz h⟩)
 have S:=qn5
 refine A5 ?_ ?_
 ·refine zst (i:=1) S ?_
  exact(ws3 PySem.F.plainAttrs_list PySem.F.slot_list_pop PySem.F.type_list_pop ws4 (E2 (pv 0) rfl))
 refine A7 ?_
 exact(C4 (O4 PySem.F.plainAttrs_list PySem.F.slot_list_append PySem.F.type_list_append E8 (E2 (E4 (B9 (D5 hr)) (E2 (pv 0) rfl) (qi6 Y2 B0) (fun _ _=>rfl)) rfl) (A0 (G2 (A0 (E2 (pv 1) rfl) (A0 (N3 N2 rfl T.z_tuple boot_tuple (A0 (E2 (pv 1) rfl) A3)) A3))) A3)))
theorem V1(T:Txt K mg t):E9 P w K mg base CX0 1 t.a_c_Reader_drop t.d_c_Reader_drop ["self","start","signs","rule"] (L5 K):=by
 refine T.F_c_Reader_drop.ok qq5 (by walk_at "n") (fun cdv A outer s H vs Q E hr h=>⟨X5 K,?_,wl3 T.cz h⟩)
 have S:=qq5
 refine A7 ?_
 exact(C4 (O4 PySem.F.plainAttrs_list PySem.F.slot_list_append PySem.F.type_list_append E8 (E2 (pv 0) rfl) (A0 (G2 (A0 (pv 1) (A0 (C0 D3 (pv 1) (D0 C8 rfl T.z_len boot_len (A0 (pv 2) A3))) (A0 C5 (A0 (pv 3) A3))))) A3)))
theorem qk5(T:Txt K mg t):E9 P w K mg base CX0 2 t.zc.a t.zc.d ["book","name"] (T9 K):=by
 refine T.zc.F.ok ww4 (by walk_at "n") (fun cdv A outer s H vs Q E hr h=>⟨wk9 K,?_,xt2 h⟩)
 have S:=ww4
 refine A5 ?_ ?_
 ·refine zst (i:=2) S ?_
  exact(zcl (wb3 T) hr T.zb B5 (A0 (pv 0) (A0 (pv 1) A3)))
 refine A7 ?_
 exact(B8 (qi5 (C2 wd9 (pv 2) R5 (D4 _)) R5 (E4 (B9 (D5 hr)) (pv 2) (J5 rfl T.g_SORT.1 T.g_SORT.2) (fun _ _=>rfl))))
theorem wx5(T:Txt K mg t):E9 P w K mg base CX0 2 t.ze.a t.ze.d ["book","name"] (qj1 K):=by
 refine T.ze.F.ok ww6 (by walk_at "n") (fun cdv A outer s H vs Q E hr h=>⟨wl0 K,?_,xt3 h⟩)
 have S:=ww6
 refine A5 ?_ ?_
 ·refine zst (i:=2) S ?_
  exact(zcl (wb3 T) hr T.zb B5 (A0 (pv 0) (A0 (pv 1) A3)))
 refine A5 ?_ ?_
 ·refine L9 ?_ ?_ ?_
  ·exact(PW.pt (yx3 (C2 wd9 (pv 2) R5 (D4 _)) (yg3 (C2 (xr9 (qo0 hr)) (E4 (B9 (D5 hr)) (pv 2) (J5 rfl T.g_SORT.1 T.g_SORT.2) (fun _ _=>rfl)) C5 (D4 _)))))
  ·refine A7 ?_
   exact(B8 R5)
  ·exact E6
 refine A7 ?_
 exact(B8 (E4 (B9 (D5 hr)) (pv 2) (J5 rfl T.g_HOST.1 T.g_HOST.2) (fun _ _=>rfl)))
theorem xv7(T:Txt K mg t):E9 P w K mg base CX0 2 t.zh.a t.zh.d ["book","name","frame"] (qr5 K):=by
 refine T.zh.F.ok ww7 (by walk_at "n") (fun cdv A outer s H vs Q E hr h=>⟨wl1 K,?_,xt4 h⟩)
 have S:=ww7
 refine A5 ?_ ?_
 ·refine zst (i:=3) S ?_
  exact(zcl (qn6 T) hr T.zf B5 (A0 (pv 0) (A0 (pv 1) A3)))
 refine A5 ?_ ?_
 ·refine qw0 PassesOwn.never ?_ ?_
  ·exact(C2 wa0 (pv 3) R5 (D4 _))
  ·refine A5 ?_ ?_
   ·refine L9 ?_ ?_ ?_
    ·exact(C2 (S8 (qo0 hr)) (pv 3) (pv 2) (D4 _))
    ·refine A7 ?_
     exact(B8 xv9)
    ·exact E6
   refine A7 ?_
   refine zst (i:=3) S ?_
   exact(zcl (qn6 T) hr T.zf B5 (A0 (pv 0) (A0 (pv 3) A3)))
 refine A7 ?_
 exact(B8 xv9)
theorem xp9(T:Txt K mg t):E9 P w K mg base CX0 2 t.ye.a t.ye.d ["text","start"] (qm2 K):=by
 refine T.ye.F.ok wp0 (by walk_at "n") (fun cdv A outer s H vs Q E hr h=>⟨qs3 K,?_,xo4 h⟩)
 have S:=wp0
 refine A5 ?_ ?_
 ·refine zst (i:=2) S ?_
  exact(zcl (wd6 T) hr T.yd B5 (A0 (pv 0) (A0 (pv 1) A3)))
 refine A5 ?_ ?_
 ·refine zst (i:=3) S ?_
  exact(O4 PySem.F.plainAttrs_str PySem.F.slot_str_find PySem.F.type_str_find yl1 (pv 0) (A0 C5 (A0 (pv 2) (A0 (C0 D3 (C0 D3 (pv 2) (J5 rfl T.g_LONGEST_NAME.1 T.g_LONGEST_NAME.2)) B0) A3))))
 refine A5 ?_ ?_
 ·refine L9 ?_ ?_ ?_
  ·exact(PW.pt (yx3 (C2 yj0 (pv 3) B0 (D4 _)) (yg3 (yg4 (qf0 (zcl (qt1 T) hr T.za B5 (A0 (N4 qi9 (pv 0) (J6 (pv 2)) (J6 (pv 3))) A3)))))))
  ·refine A7 ?_
   exact(B8 R5)
  ·exact E6
 refine A7 ?_
 exact(B8 (C0 D3 (pv 3) B0))
theorem wx6(T:Txt K mg t):E9 P w K mg base CX0 2 t.yf.a t.yf.d ["text","start","stop"] (qa3 K):=by
 refine T.yf.F.ok qz1 (by walk_at "n") (fun cdv A outer s H vs Q E hr h=>⟨qd8 K,?_,wv5 h⟩)
 have S:=qz1
 refine A5 ?_ ?_
 ·refine zst (i:=3) S ?_
  exact(zcl (wd6 T) hr T.yd B5 (A0 (pv 0) (A0 (pv 1) A3)))
 refine A5 ?_ ?_
 ·refine zst (i:=4) S ?_
  exact(qi5 (C2 (S8 (qo0 hr)) (pv 3) (C0 D3 (pv 1) B0) (D4 _)) C5 C5)
 refine A7 ?_
 exact(B8 (G2 (A0 (pv 4) (A0 (pv 1) (A0 (pv 2) (A0 (N4 qi9 (pv 0) (J6 (pv 3)) (J6 (C0 xd9 (pv 2) B0))) A3))))))
theorem qu8(T:Txt K mg t):E9 P w K mg base CX0 2 t.yg.a t.yg.d ["text","start","stop"] (O7 K):=by
 refine T.yg.F.ok qu4 (by walk_at "n") (fun cdv A outer s H vs Q E hr h=>⟨qa4 K,?_,wq3 h⟩)
 have S:=qu4
 refine A5 ?_ ?_
 ·refine L9 ?_ ?_ ?_
  ·exact(C2 (S8 (qo0 hr)) (pv 1) (pv 2) (D4 _))
  ·refine A7 ?_
   exact(B8 (L3 A3))
  ·exact E6
 refine A7 ?_
 exact(B8 (L3 (A0 (G2 (A0 C5 (A0 (pv 1) (A0 (pv 2) (A0 (zcl (xv6 T) hr T.zy B5 (A0 (N4 qi9 (pv 0) (J6 (pv 1)) (J6 (pv 2))) A3)) A3))))) A3)))
theorem xa3(T:Txt K mg t):E9 P w K mg base CX0 2 t.yr.a t.yr.d ["_law_cell"] (qd6 K):=by
 refine T.yr.F.ok wd5 (by walk_at "n") (fun cdv A outer s H vs Q E hr h=>⟨qh0 K,?_,wy8 h⟩)
 have S:=wd5
 refine A5 ?_ ?_
 ·refine qf1 (i:=1) S.nd rfl (Or.inr rfl) ?_ rfl ?_
  ·exact C5
  ·walk_at "or"
 refine A5 ?_ ?_
 ·refine qf1 (i:=2) S.nd rfl (Or.inr rfl) ?_ rfl ?_
  ·exact(L3 A3)
  ·walk_at "or"
 refine A5 ?_ ?_
 ·refine Q4 PassesOwn.never rfl ?_ ?_ ?_
  ·exact(wk2 rfl T.z_range (A0 B0 A3))
  ·exact(D2 (i:=3) S.nd rfl (Or.inl rfl))
  ·refine A5 ?_ ?_
   ·refine qf1 (i:=4) S.nd rfl (Or.inl rfl) ?_ rfl ?_
    ·refine zcl (qg1 T) hr T.yq B5 ?_
     refine A0 ?_ ?_
     ·exact(C0 W2 (C0 yh5 (C0 wq6 (pv 0) B0) (C0 qd4 B0 (pv 3))) (C0 yh4 B0 B0))
     exact A3
    ·walk_at "or"
   refine A5 ?_ ?_
   ·refine L9 ?_ ?_ ?_
    ·exact(C2 (S8 (qo0 hr)) (C0 W2 (pv 0) B0) B0 (D4 _))
    ·refine A5 ?_ ?_
     ·refine qf1 (i:=4) S.nd rfl (Or.inl rfl) ?_ rfl ?_
      ·refine zcl (qg1 T) hr T.yq B5 ?_
       refine A0 ?_ ?_
       ·exact(zcl (qo7 T) hr T.yp B5 (A0 (pv 0) (A0 B0 A3)))
       exact A3
      ·walk_at "or"
     refine A7 ?_
     exact(yh0 (C0 W2 (C0 D3 (E4 (B9 (D5 hr)) (pv 4) (qi6 Y2 B0) (fun _ _=>rfl)) (pv 3)) B0) (yg9 (pv 4) (qi6 Y2 B0) (xl2 (D5 hr))))
    ·exact E6
   refine A5 ?_ ?_
   ·refine L9 ?_ ?_ ?_
    ·exact(C2 (S8 (qo0 hr)) (C0 W2 (pv 0) B0) B0 (D4 _))
    ·refine A5 ?_ ?_
     ·refine zst (i:=4) S ?_
      exact(N4 qi9 (zcl (qg1 T) hr T.yq B5 (A0 (C0 D3 B0 (C0 qd4 B0 (zcl (qo7 T) hr T.yp B5 (A0 (pv 0) (A0 B0 A3))))) A3)) qr3 (J6 (C0 D3 (C0 W2 (pv 3) B0) B0)))
     refine A7 ?_
     exact(yh0 (C0 W2 (C0 D3 (E4 (B9 (D5 hr)) (pv 4) B0 (fun _ _=>rfl)) (N3 xb6 rfl T.z_int boot_int (A0 (qz6 qw6 (pv 3) B0 (D4 _)) A3))) B0) (yg9 (pv 4) B0 (xl2 (D5 hr))))
    ·exact E6
   refine A5 ?_ ?_
   ·refine zst (i:=5) S ?_
    exact(O4 PySem.F.plainAttrs_str PySem.F.slot_str_join PySem.F.type_str_join ys8 C5 (A0 (wf9 rfl (R6 (osc:=A9 qb0) (ON:=["_law_cell","_law_letters_here","_law_names_here","_law_k","_law_signs","_law_name","_law_spare"]) (N:=["_law_letters_here","_law_j"]) (fr:=[some 1,none]) (by decide +kernel) rfl rfl) (Y4 (pv 4)) (fun _ _ _ _ _ _=>(D2 (i:=1) (show List.Nodup (["_law_letters_here","_law_j"]:List Str) by decide +kernel) rfl (Or.inl rfl))) ql5 (fun _ _ _ _ _ _=>qz8) (fun _ _ _ _ _ _=>(E4 (B9 (D5 hr)) (pv 0) (pv 1) (fun _ _=>rfl)))) A3))
   refine A5 ?_ ?_
   ·exact(wq9 (i:=6) S.nd rfl rfl rfl (R6 (osc:=A9 qb0) (ON:=["_law_cell","_law_letters_here","_law_names_here","_law_k","_law_signs","_law_name","_law_spare"]) (N:=["_law_names_here","_law_letter"]) (fr:=[some 2,none]) (by decide +kernel) rfl rfl) (xx8 (pv 1)) (fun _ _ _ _ _ _=>(D2 (i:=1) (show List.Nodup (["_law_names_here","_law_letter"]:List Str) by decide +kernel) rfl (Or.inl rfl))) ql5 (fun _ _ _ _ _ _=>(xe9 (C2 (xb9 (D5 hr)) (C0 qd4 (pv 1) B0) (pv 0) (by with_unfolding_all rfl)))) (fun _ _ _ _ _ _=>(C0 qd4 (pv 1) B0)))
   refine A7 ?_
   exact(C4 (O4 PySem.F.plainAttrs_list PySem.F.slot_list_append PySem.F.type_list_append E8 (pv 2) (A0 (E4 (B9 (D5 hr)) (L3 (A0 (pv 5) (A0 (E4 (B9 (D5 hr)) (pv 6) B0 (fun _ _=>rfl)) A3))) (N3 xb6 rfl T.z_int boot_int (A0 (qz6 (wt4 (D5 hr)) (pv 5) (C0 D3 (pv 2) (L3 (A0 C5 (A0 C5 A3)))) (by with_unfolding_all rfl)) A3)) (fun _ _=>rfl)) A3)))
 refine A7 ?_
 exact(B8 (pv 2))
theorem qz3(T:Txt K mg t):E9 P w K mg base CX0 2 t.a_c_Reader_add_text t.d_c_Reader_add_text ["self","start","signs","told"] (P4 K):=by
 refine T.F_c_Reader_add_text.ok qe9 (by walk_at "n") (fun cdv A outer s H vs Q E hr h=>⟨Q0 K,?_,qy1 T.cz h⟩)
 have S:=qe9
 refine A5 ?_ ?_
 ·refine zst (i:=4) S ?_
  exact(E4 (B9 (D5 hr)) (E2 (pv 0) rfl) (qi6 Y2 B0) (fun _ _=>rfl))
 refine A5 ?_ ?_
 ·refine zst (i:=5) S ?_
  exact C5
 refine A5 ?_ ?_
 ·refine L9 ?_ ?_ ?_
  ·exact(PW.pt (wd7 (C2 qw6 (D0 C8 rfl T.z_len boot_len (A0 (E2 (pv 4) rfl) A3)) B0 (D4 _)) (qq8 (qf0 (zcl (xv4 T) hr T.zi B5 (A0 (E4 (B9 (D5 hr)) (E2 (pv 4) rfl) (qi6 Y2 B0) (fun _ _=>rfl)) A3))))))
  ·refine A7 ?_
   refine zst (i:=5) S ?_
   exact(ws3 PySem.F.plainAttrs_list PySem.F.slot_list_pop PySem.F.type_list_pop ws4 (E2 (pv 4) rfl))
  ·exact E6
 refine A5 ?_ ?_
 ·exact(C4 (O4 PySem.F.plainAttrs_list PySem.F.slot_list_append PySem.F.type_list_append E8 (E2 (pv 0) rfl) (A0 (G2 (A0 (pv 1) (A0 (pv 2) (A0 (C0 Z6 (E2 (pv 4) rfl) (G2 (A0 (D0 C8 rfl T.z_len boot_len (A0 (E2 (pv 4) rfl) A3)) A3))) (A0 (D0 C8 rfl T.z_len boot_len (A0 (pv 5) A3)) A3))))) A3)))
 refine A7 ?_
 exact(C4 (O4 PySem.F.plainAttrs_list PySem.F.slot_list_append PySem.F.type_list_append E8 (E2 (pv 4) rfl) (A0 (C0 Z6 (pv 5) (pv 3)) A3)))
theorem qt2(T:Txt K mg t):E9 P w K mg base CX0 3 t.zd.a t.zd.d ["book","name"] (Y6 K):=by
 refine T.zd.F.ok ww5 (by walk_at "n") (fun cdv A outer s H vs Q E hr h=>⟨wa5 K t.c_WALL_SORTS,?_,xt7 T.q_WALL_SORTS h⟩)
 have S:=ww5
 refine A7 ?_
 exact(B8 (qz6 (wt4 (D5 hr)) (zcl (qk5 T) hr T.zc B5 (A0 (pv 0) (A0 (pv 1) A3))) (J5 rfl T.g_WALL_SORTS rfl) (by with_unfolding_all rfl)))
theorem qu9(T:Txt K mg t):E9 P w K mg base CX0 3 t.zv.a t.zv.d ["book","name"] (S6 K):=by
 refine T.zv.F.ok qu3 (by walk_at "n") (fun cdv A outer s H vs Q E hr h=>⟨qa1 K,?_,wq0 h⟩)
 have S:=qu3
 refine A5 ?_ ?_
 ·refine zst (i:=2) S ?_
  exact(L3 A3)
 refine A5 ?_ ?_
 ·refine zst (i:=3) S ?_
  exact(zcl (wx5 T) hr T.ze B5 (A0 (pv 0) (A0 (pv 1) A3)))
 refine A5 ?_ ?_
 ·refine qw0 PassesOwn.never ?_ ?_
  ·exact(C2 wa0 (pv 3) R5 (D4 _))
  ·refine A5 ?_ ?_
   ·exact(C4 (O4 PySem.F.plainAttrs_list PySem.F.slot_list_append PySem.F.type_list_append E8 (pv 2) (A0 (pv 3) A3)))
   refine A7 ?_
   refine zst (i:=3) S ?_
   exact(zcl (wx5 T) hr T.ze B5 (A0 (pv 0) (A0 (pv 3) A3)))
 refine A7 ?_
 exact(B8 (N3 N2 rfl T.z_tuple boot_tuple (A0 (pv 2) A3)))
theorem xi5(T:Txt K mg t):E9 P w K mg base CX0 3 t.yc.a t.yc.d ["text","searched"] (qh5 K):=by
 refine T.yc.F.ok wj6 (by walk_at "n") (fun cdv A outer s H vs Q E hr h=>⟨qm3 K,?_,xh2 h⟩)
 have S:=wj6
 refine A5 ?_ ?_
 ·refine zst (i:=2) S ?_
  exact(L3 A3)
 refine A5 ?_ ?_
 ·refine zst (i:=3) S ?_
  exact(O4 PySem.F.plainAttrs_str PySem.F.slot_str_find PySem.F.type_str_find wt5 (pv 0) (A0 C5 (A0 (pv 1) A3)))
 refine A5 ?_ ?_
 ·refine qw0 PassesOwn.never ?_ ?_
  ·exact(C2 xf2 (pv 3) B0 (D4 _))
  ·refine A5 ?_ ?_
   ·refine zst (i:=4) S ?_
    exact(zcl (xp9 T) hr T.ye B5 (A0 (pv 0) (A0 (pv 3) A3)))
   refine A7 ?_
   refine L9 ?_ ?_ ?_
   ·exact(C2 wd9 (pv 4) R5 (D4 _))
   ·refine A7 ?_
    refine zst (i:=3) S ?_
    exact(O4 PySem.F.plainAttrs_str PySem.F.slot_str_find PySem.F.type_str_find wt5 (pv 0) (A0 C5 (A0 (C0 D3 (pv 3) B0) A3)))
   ·refine A5 ?_ ?_
    ·exact(C4 (O4 PySem.F.plainAttrs_list PySem.F.slot_list_append PySem.F.type_list_append E8 (pv 2) (A0 (zcl (wx6 T) hr T.yf B5 (A0 (pv 0) (A0 (pv 3) (A0 (pv 4) A3)))) A3)))
    refine A7 ?_
    refine zst (i:=3) S ?_
    exact(O4 PySem.F.plainAttrs_str PySem.F.slot_str_find PySem.F.type_str_find wt5 (pv 0) (A0 C5 (A0 (pv 4) A3)))
 refine A7 ?_
 exact(B8 (pv 2))
theorem wn8(T:Txt K mg t):E9 P w K mg base CX0 3 t.a_c_Reader_init t.d_c_Reader_init ["self","book"] (U7 K):=by
 refine T.F_c_Reader_init.ok qq2 (by walk_at "n") (fun cdv A outer s H vs Q E hr h=>⟨X8 K t.k_Branch,?_,wm3 T.cz h⟩)
 have S:=qq2
 refine A5 ?_ ?_
 ·exact(qr1 (pv 0) (pv 1) rfl)
 refine A5 ?_ ?_
 ·exact(qr1 (pv 0) (L3 (A0 (xe2 T.m_c_Branch_init (qq6 T) (hr.mono (by walk_at "le")) rfl T.n_Branch T.b_c_Branch_init .nil B5 (A0 (J5 rfl T.g_ROOT_NAME.1 T.g_ROOT_NAME.2) (A0 (G2 A3) A3))) A3)) rfl)
 refine A5 ?_ ?_
 ·exact(qr1 (pv 0) (L3 A3) rfl)
 refine A7 ?_
 exact(qr1 (pv 0) (L3 A3) rfl)
theorem qq7(T:Txt K mg t):E9 P w K mg base CX0 3 t.a_c_Reader_is_in_frame t.d_c_Reader_is_in_frame ["self"] (M3 K):=by
 refine T.F_c_Reader_is_in_frame.ok Z3 (by walk_at "n") (fun cdv A outer s H vs Q E hr h=>⟨N0 K t.k_Reader,?_,qp8 T.cz h⟩)
 have S:=Z3
 refine A7 ?_
 refine B8 ?_
 refine qz6 (S8 (qo0 hr)) ?_ ?_ (D4 _)
 ·refine zcl (qk5 T) hr T.zc B5 ?_
  refine A0 ?_ ?_
  ·exact(E2 (pv 0) rfl)
  refine A0 ?_ ?_
  ·refine zcl (qb5 T) hr T.zj B5 ?_
   refine A0 ?_ ?_
   ·exact(T8 (pv 0) T.cz.cl_Reader T.m_c_Reader_open_names (J9 T) (hr.mono (by walk_at "le")) T.b_c_Reader_open_names .nil B5)
   exact A3
  exact A3
 ·exact C5
theorem qn8(T:Txt K mg t):E9 P w K mg base CX0 3 t.a_c_Reader_enter t.d_c_Reader_enter ["self","name"] (P0 K):=by
 refine T.F_c_Reader_enter.ok qn4 (by walk_at "n") (fun cdv A outer s H vs Q E hr h=>⟨U3 K t.k_Branch,?_,wh9 T.cz h⟩)
 have S:=qn4
 refine A5 ?_ ?_
 ·refine zst (i:=2) S ?_
  exact(E4 (B9 (D5 hr)) (E2 (pv 0) rfl) (qi6 Y2 B0) (fun _ _=>rfl))
 refine A7 ?_
 exact(C4 (O4 PySem.F.plainAttrs_list PySem.F.slot_list_append PySem.F.type_list_append E8 (E2 (pv 0) rfl) (A0 (xe2 T.m_c_Branch_init (qq6 T) (hr.mono (by walk_at "le")) rfl T.n_Branch T.b_c_Branch_init .nil B5 (A0 (pv 1) (A0 (C0 Z6 (E2 (pv 2) rfl) (G2 (A0 (D0 C8 rfl T.z_len boot_len (A0 (E2 (pv 2) rfl) A3)) A3))) A3))) A3)))
theorem wx7(T:Txt K mg t):E9 P w K mg base CX0 4 t.zk.a t.zk.d ["book","names"] (qj3 K):=by
 refine T.zk.F.ok ww9 (by walk_at "n") (fun cdv A outer s H vs Q E hr h=>⟨wa8 K,?_,xt9 h⟩)
 have S:=ww9
 refine A5 ?_ ?_
 ·refine zst (i:=2) S ?_
  exact B0
 refine A5 ?_ ?_
 ·refine Q4 PassesOwn.never rfl ?_ ?_ ?_
  ·exact(xm1 rfl T.z_enumerate (A0 (pv 1) A3))
  ·exact(wk0 rfl (O9 (D2 (i:=3) S.nd rfl (Or.inl rfl)) (O9 (D2 (i:=4) S.nd rfl (Or.inl rfl)) qz5)))
  ·refine A7 ?_
   refine L9 ?_ ?_ ?_
   ·exact(qf0 (zcl (qt2 T) hr T.zd B5 (A0 (pv 0) (A0 (pv 4) A3))))
   ·refine A7 ?_
    refine zst (i:=2) S ?_
    exact(C0 Z6 (pv 3) B0)
   ·exact E6
 refine A7 ?_
 exact(B8 (N3 N2 rfl T.z_tuple boot_tuple (A0 (N4 wg8 (pv 1) (J6 (pv 2)) qr3) A3)))
theorem wx8(T:Txt K mg t):E9 P w K mg base CX0 4 t.zn.a t.zn.d ["book","names","name"] (qr8 K):=by
 refine T.zn.F.ok wx0 (by walk_at "n") (fun cdv A outer s H vs Q E hr h=>⟨wa6 K,?_,xt8 h⟩)
 have S:=wx0
 refine A5 ?_ ?_
 ·refine Q4 PassesOwn.never rfl ?_ ?_ ?_
  ·exact(ye5 rfl T.z_range (A0 (C0 xd9 (D0 C8 rfl T.z_len boot_len (A0 (pv 1) A3)) B0) (A0 (qi6 Y2 B0) (A0 (qi6 Y2 B0) A3))))
  ·exact(D2 (i:=3) S.nd rfl (Or.inl rfl))
  ·refine A5 ?_ ?_
   ·refine L9 ?_ ?_ ?_
    ·exact(C2 (S8 (qo0 hr)) (E4 (B9 (D5 hr)) (pv 1) (pv 3) (fun _ _=>rfl)) (pv 2) (D4 _))
    ·refine A7 ?_
     exact(B8 (pv 3))
    ·exact E6
   refine A7 ?_
   refine L9 ?_ ?_ ?_
   ·exact(PW.pt (wd7 (qf0 (zcl (qt2 T) hr T.zd B5 (A0 (pv 0) (A0 (E4 (B9 (D5 hr)) (pv 1) (pv 3) (fun _ _=>rfl)) A3)))) (qq8 (yg4 (qf0 (zcl (xv7 T) hr T.zh B5 (A0 (pv 0) (A0 (E4 (B9 (D5 hr)) (pv 1) (pv 3) (fun _ _=>rfl)) (A0 (pv 2) A3)))))))))
   ·refine A7 ?_
    exact(B8 R5)
   ·exact E6
 refine A7 ?_
 exact(B8 R5)
theorem xi6(T:Txt K mg t):E9 P w K mg base CX0 4 t.zp.a t.zp.d ["book","names"] (qh1 K):=by
 refine T.zp.F.ok wj2 (by walk_at "n") (fun cdv A outer s H vs Q E hr h=>⟨ql9 K,?_,xg5 h⟩)
 have S:=wj2
 refine A5 ?_ ?_
 ·refine qf1 (i:=2) S.nd rfl (Or.inl rfl) ?_ rfl ?_
  ·refine zcl (qu9 T) hr T.zv B5 ?_
   refine A0 ?_ ?_
   ·exact(pv 0)
   refine A0 ?_ ?_
   ·exact(zcl (qb5 T) hr T.zj B5 (A0 (pv 1) A3))
   exact A3
  ·walk_at "or"
 refine A7 ?_
 exact(B8 (qi5 (C2 qw6 (C0 D3 (D0 C8 rfl T.z_len boot_len (A0 (pv 1) A3)) (D0 C8 rfl T.z_len boot_len (A0 (pv 2) A3))) (J5 rfl T.g_MOST_OPEN.1 T.g_MOST_OPEN.2) (D4 _)) R5 (pv 2)))
theorem wj9(T:Txt K mg t):E9 P w K mg base CX0 4 t.yb.a t.yb.d ["text","settled","searched"] (T0 K):=by
 refine T.yb.F.ok qn3 (by walk_at "n") (fun cdv A outer s H vs Q E hr h=>⟨U6 K,?_,wi5 h⟩)
 have S:=qn3
 refine A5 ?_ ?_
 ·refine zst (i:=3) S ?_
  exact(L3 A3)
 refine A5 ?_ ?_
 ·refine Q4 PassesOwn.never rfl ?_ ?_ ?_
  ·exact(Y4 (zcl (xi5 T) hr T.yc B5 (A0 (pv 0) (A0 (pv 2) A3))))
  ·exact(D2 (i:=4) S.nd rfl (Or.inl rfl))
  ·refine A5 ?_ ?_
   ·exact(C4 (O4 PySem.F.plainAttrs_list PySem.F.slot_list_extend PySem.F.type_list_extend xb3 (pv 3) (A0 (zcl (qu8 T) hr T.yg B5 (A0 (pv 0) (A0 (pv 1) (A0 (E4 (B9 (D5 hr)) (pv 4) (J5 rfl T.g_START.1 T.g_START.2) (fun _ _=>rfl)) A3)))) A3)))
   refine A5 ?_ ?_
   ·exact(C4 (O4 PySem.F.plainAttrs_list PySem.F.slot_list_append PySem.F.type_list_append E8 (pv 3) (A0 (pv 4) A3)))
   refine A7 ?_
   refine zst (i:=1) S ?_
   exact(E4 (B9 (D5 hr)) (pv 4) (J5 rfl T.g_STOP.1 T.g_STOP.2) (fun _ _=>rfl))
 refine A7 ?_
 exact(B8 (pv 3))
theorem wf2(T:Txt K mg t):E9 P w K mg base CX0 4 t.yl.a t.yl.d ["book","closed"] (S0 K):=by
 refine T.yl.F.ok qk2 (by walk_at "n") (fun cdv A outer s H vs Q E hr h=>⟨T2 K,?_,we8 h⟩)
 have S:=qk2
 refine A5 ?_ ?_
 ·refine zst (i:=2) S ?_
  exact(L3 A3)
 refine A5 ?_ ?_
 ·refine Q4 PassesOwn.never rfl ?_ ?_ ?_
  ·exact(Y4 (pv 1))
  ·exact(D2 (i:=3) S.nd rfl (Or.inl rfl))
  ·refine A5 ?_ ?_
   ·refine L9 ?_ ?_ ?_
    ·exact(qf0 (zcl (qt2 T) hr T.zd B5 (A0 (pv 0) (A0 (pv 3) A3))))
    ·refine A7 ?_
     exact yg6
    ·exact E6
   refine A7 ?_
   refine L9 ?_ ?_ ?_
   ·exact(C2 (S8 (qo0 hr)) (zcl (qk5 T) hr T.zc B5 (A0 (pv 0) (A0 (pv 3) A3))) C5 (D4 _))
   ·refine A7 ?_
    exact(C4 (O4 PySem.F.plainAttrs_list PySem.F.slot_list_append PySem.F.type_list_append E8 (pv 2) (A0 (pv 3) A3)))
   ·exact E6
 refine A7 ?_
 exact(B8 (pv 2))
theorem qc5(T:Txt K mg t):E9 P w K mg base CX0 4 t.a_c_Reader_last_wall t.d_c_Reader_last_wall ["self"] (L1 K):=by
 refine T.F_c_Reader_last_wall.ok qc4 (by walk_at "n") (fun cdv A outer s H vs Q E hr h=>⟨P3 K,?_,qv0 T.cz h⟩)
 have S:=qc4
 refine A5 ?_ ?_
 ·exact(wq9 (i:=1) S.nd rfl rfl rfl (R6 (osc:=A9 P6) (ON:=["self","walls"]) (N:=["self","branch"]) (fr:=[some 0,none]) (by decide +kernel) rfl rfl) (Y4 (E2 (pv 0) rfl)) (fun _ _ _ _ _ _=>(D2 (i:=1) (show List.Nodup (["self","branch"]:List Str) by decide +kernel) rfl (Or.inl rfl))) ql5 (fun _ _ _ _ _ _=>(xe9 (qf0 (zcl (qt2 T) hr T.zd B5 (A0 (E2 (pv 0) rfl) (A0 (E2 (pv 1) rfl) A3)))))) (fun _ _ _ _ _ _=>(pv 1)))
 refine A7 ?_
 refine B8 ?_
 exact(qi5 (C2 qw6 (D0 C8 rfl T.z_len boot_len (A0 (pv 1) A3)) B0 (D4 _)) (E4 (B9 (D5 hr)) (pv 1) (qi6 Y2 B0) (fun _ _=>rfl)) (E4 (B9 (D5 hr)) (E2 (pv 0) rfl) B0 (fun _ _=>rfl)))
theorem Y8(T:Txt K mg t):E9 P w K mg base CX0 4 t.a_c_Reader_put_in t.d_c_Reader_put_in ["self","name","start","rule"] (L7 K):=by
 refine T.F_c_Reader_put_in.ok qk4 (by walk_at "n") (fun cdv A outer s H vs Q E hr h=>⟨T1 K t.k_Reader,?_,we7 T.cz h⟩)
 have S:=qk4
 refine A5 ?_ ?_
 ·exact(C4 (O4 PySem.F.plainAttrs_list PySem.F.slot_list_append PySem.F.type_list_append E8 (E2 (pv 0) rfl) (A0 (G2 (A0 (pv 2) (A0 (pv 2) (A0 (zcl (xa1 T) hr T.yh B5 (A0 (pv 1) A3)) (A0 (pv 3) A3))))) A3)))
 refine A7 ?_
 exact(C4 (N8 (pv 0) T.cz.cl_Reader T.m_c_Reader_enter (qn8 T) (hr.mono (by walk_at "le")) T.b_c_Reader_enter .nil B5 (A0 (pv 1) A3)))
theorem wn9(T:Txt K mg t):E9 P w K mg base CX0 5 t.zu.a t.zu.d ["book","names","name"] (U5 K):=by
 refine T.zu.F.ok qq0 (by walk_at "n") (fun cdv A outer s H vs Q E hr h=>⟨X7 K,?_,wl8 h⟩)
 have S:=qq0
 refine A5 ?_ ?_
 ·refine zst (i:=3) S ?_
  exact(E4 (B9 (D5 hr)) (zcl (wb3 T) hr T.zb B5 (A0 (pv 0) (A0 (pv 2) A3))) (J5 rfl T.g_SHUTS.1 T.g_SHUTS.2) (fun _ _=>rfl))
 refine A5 ?_ ?_
 ·refine qf1 (i:=4) S.nd rfl (Or.inl rfl) ?_ rfl ?_
  ·refine C0 xd9 ?_ ?_
   ·exact(D0 C8 rfl T.z_len boot_len (A0 (pv 1) A3))
   ·exact(D0 C8 rfl T.z_len boot_len (A0 (zcl (wx7 T) hr T.zk B5 (A0 (pv 0) (A0 (pv 1) A3))) A3))
  ·walk_at "or"
 refine A5 ?_ ?_
 ·refine Q4 PassesOwn.never rfl ?_ ?_ ?_
  ·exact(yb9 rfl T.z_range (A0 (pv 4) (A0 (D0 C8 rfl T.z_len boot_len (A0 (pv 1) A3)) A3)))
  ·exact(D2 (i:=5) S.nd rfl (Or.inl rfl))
  ·refine A7 ?_
   refine L9 ?_ ?_ ?_
   ·exact(C2 (wt4 (D5 hr)) (E4 (B9 (D5 hr)) (pv 1) (pv 5) (fun _ _=>rfl)) (pv 3) (by with_unfolding_all rfl))
   ·refine A7 ?_
    exact(B8 (pv 5))
   ·exact E6
 refine A7 ?_
 exact(B8 (D0 C8 rfl T.z_len boot_len (A0 (pv 1) A3)))
theorem xi7(T:Txt K mg t):E9 P w K mg base CX0 5 t.zw.a t.zw.d ["book","kept","put"] (qh2 K):=by
 refine T.zw.F.ok wj3 (by walk_at "n") (fun cdv A outer s H vs Q E hr h=>⟨qm0 K,?_,xg7 h⟩)
 have S:=wj3
 refine A5 ?_ ?_
 ·refine Q4 PassesOwn.never rfl ?_ ?_ ?_
  ·exact(xm1 rfl T.z_enumerate (A0 (pv 2) A3))
  ·exact(wk0 rfl (O9 (D2 (i:=3) S.nd rfl (Or.inl rfl)) (O9 (D2 (i:=4) S.nd rfl (Or.inl rfl)) qz5)))
  ·refine A5 ?_ ?_
   ·refine zst (i:=5) S ?_
    exact(zcl (wx7 T) hr T.zk B5 (A0 (pv 0) (A0 (C0 Z6 (pv 1) (N4 wg8 (pv 2) qr3 (J6 (pv 3)))) A3)))
   refine A7 ?_
   refine L9 ?_ ?_ ?_
   ·exact(qf0 (zcl (wq5 T) hr T.zm B5 (A0 (pv 5) (A0 (E4 (B9 (D5 hr)) (zcl (wb3 T) hr T.zb B5 (A0 (pv 0) (A0 (pv 4) A3))) (J5 rfl T.g_BARS.1 T.g_BARS.2) (fun _ _=>rfl)) A3))))
   ·refine A7 ?_
    exact(B8 xv9)
   ·exact E6
 refine A7 ?_
 exact(B8 xv9)
theorem xi8(T:Txt K mg t):E9 P w K mg base CX0 5 t.ya.a t.ya.d ["text"] (qh6 K):=by
 refine T.ya.F.ok wj5 (by walk_at "n") (fun cdv A outer s H vs Q E hr h=>⟨qm4 K,?_,xh3 h⟩)
 have S:=wj5
 refine A5 ?_ ?_
 ·refine zst (i:=1) S ?_
  exact(zcl (wj9 T) hr T.yb B5 (A0 (pv 0) (A0 B0 (A0 B0 A3))))
 refine A5 ?_ ?_
 ·refine zst (i:=2) S ?_
  exact(qi5 (C2 qw6 (D0 C8 rfl T.z_len boot_len (A0 (pv 1) A3)) B0 (D4 _)) (E4 (B9 (D5 hr)) (E4 (B9 (D5 hr)) (pv 1) (qi6 Y2 B0) (fun _ _=>rfl)) (J5 rfl T.g_STOP.1 T.g_STOP.2) (fun _ _=>rfl)) B0)
 refine A7 ?_
 exact(B8 (C0 D3 (pv 1) (zcl (qu8 T) hr T.yg B5 (A0 (pv 0) (A0 (pv 2) (A0 (D0 C8 rfl T.z_len boot_len (A0 (pv 0) A3)) A3))))))
theorem wo0(T:Txt K mg t):E9 P w K mg base CX0 5 t.yn.a t.yn.d ["book","names","name"] (qp9 K):=⟨fun _ _ _ _ h=>h.elim,fun _ _ _ _ _ _ _ _ _ _ _ _ _ h=>h.elim⟩
theorem X2(T:Txt K mg t):E9 P w K mg base CX0 5 t.a_c_Reader_close_behind t.d_c_Reader_close_behind ["self","kept","start","rule"] (G8 K):=by
 refine T.F_c_Reader_close_behind.ok X1 (by walk_at "n") (fun cdv A outer s H vs Q E hr h=>⟨M4 K t.k_Reader,?_,qo3 T.cz h⟩)
 have S:=X1
 refine A5 ?_ ?_
 ·refine zst (i:=4) S ?_
  exact(N4 wg8 (T8 (pv 0) T.cz.cl_Reader T.m_c_Reader_open_names (J9 T) (hr.mono (by walk_at "le")) T.b_c_Reader_open_names .nil B5) (J6 (pv 1)) qr3)
 refine A5 ?_ ?_
 ·refine Q4 PassesOwn.never rfl ?_ ?_ ?_
  ·exact(yu7 rfl T.z_reversed (A0 (pv 4) A3))
  ·exact(D2 (i:=5) S.nd rfl (Or.inl rfl))
  ·refine A5 ?_ ?_
   ·exact(C4 (O4 PySem.F.plainAttrs_list PySem.F.slot_list_append PySem.F.type_list_append E8 (E2 (pv 0) rfl) (A0 (G2 (A0 (pv 2) (A0 (pv 2) (A0 (zcl (xa2 T) hr T.yi B5 (A0 (pv 5) A3)) (A0 (pv 3) A3))))) A3)))
   refine A7 ?_
   exact(C4 (T8 (pv 0) T.cz.cl_Reader T.m_c_Reader_leave (qn7 T) (hr.mono (by walk_at "le")) T.b_c_Reader_leave .nil B5))
 refine A7 ?_
 exact(C4 (O4 PySem.F.plainAttrs_list PySem.F.slot_list_extend PySem.F.type_list_extend xb3 (E2 (T8 (pv 0) T.cz.cl_Reader T.m_c_Reader_last_wall (qc5 T) (hr.mono (by walk_at "le")) T.b_c_Reader_last_wall .nil B5) rfl) (A0 (zcl (wf2 T) hr T.yl B5 (A0 (E2 (pv 0) rfl) (A0 (pv 4) A3))) A3)))
theorem qk6(T:Txt K mg t):E9 P w K mg base CX0 6 t.zt.a t.zt.d ["book","names","name"] (R9 K):=by
 refine T.zt.F.ok qk1 (by walk_at "n") (fun cdv A outer s H vs Q E hr h=>⟨S9 K,?_,we4 h⟩)
 have S:=qk1
 refine A5 ?_ ?_
 ·refine qf1 (i:=3) S.nd rfl (Or.inl rfl) ?_ rfl ?_
  ·refine zcl (qu9 T) hr T.zv B5 ?_
   refine A0 ?_ ?_
   ·exact(pv 0)
   refine A0 ?_ ?_
   ·exact(zcl (qb5 T) hr T.zj B5 (A0 (pv 1) A3))
   exact A3
  ·walk_at "or"
 refine A5 ?_ ?_
 ·refine L9 ?_ ?_ ?_
  ·exact(C2 qw6 (D0 C8 rfl T.z_len boot_len (A0 (pv 3) A3)) B0 (D4 _))
  ·refine A7 ?_
   exact(B8 (G2 (A0 (D0 C8 rfl T.z_len boot_len (A0 (pv 1) A3)) (A0 (C0 Z6 (pv 3) (G2 (A0 (pv 2) A3))) A3))))
  ·exact E6
 refine A7 ?_
 exact(B8 (G2 (A0 (zcl (wn9 T) hr T.zu B5 (A0 (pv 0) (A0 (pv 1) (A0 (pv 2) A3)))) (A0 (G2 (A0 (pv 2) A3)) A3))))
theorem wf3(T:Txt K mg t):E9 P w K mg base CX0 6 t.a_c_Reader_finish t.d_c_Reader_finish ["self","size"] (S1 K):=by
 refine T.F_c_Reader_finish.ok qk3 (by walk_at "n") (fun cdv A outer s H vs Q E hr h=>⟨T3 K t.k_Reader,?_,we9 T.cz h⟩)
 have S:=qk3
 refine A7 ?_
 exact(C4 (N8 (pv 0) T.cz.cl_Reader T.m_c_Reader_close_behind (X2 T) (hr.mono (by walk_at "le")) T.b_c_Reader_close_behind .nil B5 (A0 B0 (A0 (pv 1) (A0 C5 A3)))))
theorem qo8(T:Txt K mg t):E9 P w K mg base CX0 6 t.a_c_Reader_read_closing t.d_c_Reader_read_closing ["self","start","signs","name"] (W9 K):=⟨fun _ _ _ _ h=>h.elim,fun _ _ _ _ _ _ _ _ _ _ _ _ _ h=>h.elim⟩
theorem qk7(T:Txt K mg t):E9 P w K mg base CX0 6 t.a_c_Reader_put_in_waiting t.d_c_Reader_put_in_waiting ["self","start"] (J8 K):=by
 refine T.F_c_Reader_put_in_waiting.ok U1 (by walk_at "n") (fun cdv A outer s H vs Q E hr h=>⟨L0 K t.k_Reader,?_,qj6 T.cz h⟩)
 have S:=U1
 refine A5 ?_ ?_
 ·refine zst (i:=2) S ?_
  exact(T8 (pv 0) T.cz.cl_Reader T.m_c_Reader_last_wall (qc5 T) (hr.mono (by walk_at "le")) T.b_c_Reader_last_wall .nil B5)
 refine A5 ?_ ?_
 ·refine zst (i:=3) S ?_
  exact(E2 (pv 2) rfl)
 refine A5 ?_ ?_
 ·exact(qr1 (pv 2) (L3 A3) rfl)
 refine A7 ?_
 refine Q4 PassesOwn.never rfl ?_ ?_ ?_
 ·exact(Y4 (pv 3))
 ·exact(D2 (i:=4) S.nd rfl (Or.inl rfl))
 ·refine A7 ?_
  refine L9 ?_ ?_ ?_
  ·exact(qf0 (zcl (wo0 T) hr T.yn B5 (A0 (E2 (pv 0) rfl) (A0 (T8 (pv 0) T.cz.cl_Reader T.m_c_Reader_open_names (J9 T) (hr.mono (by walk_at "le")) T.b_c_Reader_open_names .nil B5) (A0 (pv 4) A3)))))
  ·refine A7 ?_
   exact(C4 (N8 (pv 0) T.cz.cl_Reader T.m_c_Reader_put_in (Y8 T) (hr.mono (by walk_at "le")) T.b_c_Reader_put_in .nil B5 (A0 (pv 4) (A0 (pv 1) (A0 C5 A3)))))
  ·exact E6
theorem qz4(T:Txt K mg t):E9 P w K mg base CX0 7 t.a_c_Reader_read_run t.d_c_Reader_read_run ["self","start","signs","told"] (P5 K):=by
 refine T.F_c_Reader_read_run.ok qe8 (by walk_at "n") (fun cdv A outer s H vs Q E hr h=>⟨Q3 K t.k_Reader,?_,qy2 T.cz h⟩)
 have S:=qe8
 refine A5 ?_ ?_
 ·refine qf1 (i:=4) S.nd rfl (Or.inl rfl) ?_ rfl ?_
  ·refine zcl (xi6 T) hr T.zp B5 ?_
   refine A0 ?_ ?_
   ·exact(E2 (pv 0) rfl)
   refine A0 ?_ ?_
   ·exact(T8 (pv 0) T.cz.cl_Reader T.m_c_Reader_open_names (J9 T) (hr.mono (by walk_at "le")) T.b_c_Reader_open_names .nil B5)
   exact A3
  ·walk_at "or"
 refine A7 ?_
 refine L9 ?_ ?_ ?_
 ·exact(PW.pt (wd7 (qf0 (T8 (pv 0) T.cz.cl_Reader T.m_c_Reader_is_in_frame (qq7 T) (hr.mono (by walk_at "le")) T.b_c_Reader_is_in_frame .nil B5)) (qq8 (C2 (S8 (qo0 hr)) (O4 PySem.F.plainAttrs_str PySem.F.slot_str_strip PySem.F.type_str_strip ye8 (pv 3) (A0 (J5 rfl T.g_BLANKS.1 T.g_BLANKS.2) A3)) C5 (D4 _)))))
 ·refine A7 ?_
  exact(C4 (N8 (pv 0) T.cz.cl_Reader T.m_c_Reader_drop (V1 T) (hr.mono (by walk_at "le")) T.b_c_Reader_drop .nil B5 (A0 (pv 1) (A0 (pv 2) (A0 C5 A3)))))
 ·refine A7 ?_
  refine L9 ?_ ?_ ?_
  ·exact(C2 wd9 (pv 4) R5 (D4 _))
  ·refine A7 ?_
   exact(C4 (N8 (pv 0) T.cz.cl_Reader T.m_c_Reader_drop (V1 T) (hr.mono (by walk_at "le")) T.b_c_Reader_drop .nil B5 (A0 (pv 1) (A0 (pv 2) (A0 C5 A3)))))
  ·refine A5 ?_ ?_
   ·refine Q4 PassesOwn.never rfl ?_ ?_ ?_
    ·exact(Y4 (pv 4))
    ·exact(D2 (i:=5) S.nd rfl (Or.inl rfl))
    ·refine A7 ?_
     exact(C4 (N8 (pv 0) T.cz.cl_Reader T.m_c_Reader_put_in (Y8 T) (hr.mono (by walk_at "le")) T.b_c_Reader_put_in .nil B5 (A0 (pv 5) (A0 (pv 1) (A0 C5 A3)))))
   refine A5 ?_ ?_
   ·exact(C4 (N8 (pv 0) T.cz.cl_Reader T.m_c_Reader_put_in_waiting (qk7 T) (hr.mono (by walk_at "le")) T.b_c_Reader_put_in_waiting .nil B5 (A0 (pv 1) A3)))
   refine A5 ?_ ?_
   ·refine Q4 PassesOwn.never rfl ?_ ?_ ?_
    ·exact(Y4 (zcl (xi4 T) hr T.zz B5 (A0 (pv 2) A3)))
    ·exact(D2 (i:=6) S.nd rfl (Or.inl rfl))
    ·refine A5 ?_ ?_
     ·refine zst (i:=7) S ?_
      exact(C0 D3 (pv 1) (pv 6))
     refine A7 ?_
     exact(C4 (O4 PySem.F.plainAttrs_list PySem.F.slot_list_append PySem.F.type_list_append E8 (E2 (pv 0) rfl) (A0 (G2 (A0 (pv 7) (A0 (C0 D3 (pv 7) B0) (A0 (zcl (xv5 T) hr T.zx B5 (A0 (E4 (B9 (D5 hr)) (pv 2) (pv 6) (fun _ _=>rfl)) A3)) (A0 C5 A3))))) A3)))
   refine A7 ?_
   exact(C4 (N8 (pv 0) T.cz.cl_Reader T.m_c_Reader_add_text (qz3 T) (hr.mono (by walk_at "le")) T.b_c_Reader_add_text .nil B5 (A0 (pv 1) (A0 (pv 2) (A0 (pv 3) A3)))))
theorem wx9(T:Txt K mg t):∀ n:Nat,E9 P w K mg base CX0 (7+n) t.zr.a t.zr.d ["book","names","name"] (qj4 n K)
 | 0 => by
   have FR:E9 P w K mg base CX0 6 t.zr.a t.zr.d ["book","names","name"] (qe5 K 0):=⟨fun _ _ _ _ h=>h.elim,fun _ _ _ _ _ _ _ _ _ _ _ _ _ h=>h.elim⟩
   refine T.zr.F.ok (k:=6) wb2 (by walk_at "n") (fun cdv A outer s H vs Q E hr h=>⟨qx8 K (qe5 K 0),?_,xc9 0 h⟩)
   have S:=wb2
   refine A5 ?_ ?_
   ·refine zst (i:=3) S ?_
    exact(zcl (qn6 T) hr T.zf B5 (A0 (pv 0) (A0 (pv 2) A3)))
   refine A5 ?_ ?_
   ·refine L9 ?_ ?_ ?_
    ·exact(C2 wd9 (pv 3) R5 (D4 _))
    ·refine A7 ?_
     exact(B8 (zcl (qk6 T) hr T.zt B5 (A0 (pv 0) (A0 (pv 1) (A0 (pv 2) A3)))))
    ·exact E6
   refine A5 ?_ ?_
   ·refine zst (i:=4) S ?_
    exact(zcl (wx8 T) hr T.zn B5 (A0 (pv 0) (A0 (pv 1) (A0 (pv 3) A3))))
   refine A5 ?_ ?_
   ·refine L9 ?_ ?_ ?_
    ·exact(C2 wa0 (pv 4) R5 (D4 _))
    ·refine A7 ?_
     exact(B8 (G2 (A0 (C0 Z6 (pv 4) B0) (A0 (G2 (A0 (pv 2) A3)) A3))))
    ·exact E6
   refine A5 ?_ ?_
   ·refine zst (i:=5) S ?_
    exact(zcl FR hr T.zr B5 (A0 (pv 0) (A0 (pv 1) (A0 (pv 3) A3))))
   refine A7 ?_
   refine B8 ?_
   refine G2 ?_
   refine A0 ?_ ?_
   ·exact(E4 (B9 (D5 hr)) (pv 5) B0 (fun _ _=>rfl))
   refine A0 ?_ ?_
   ·exact(C0 Z6 (E4 (B9 (D5 hr)) (pv 5) B0 (fun _ _=>rfl)) (G2 (A0 (pv 2) A3)))
   exact A3
 | n + 1=>by
   have FR:E9 P w K mg base CX0 (7+n) t.zr.a t.zr.d ["book","names","name"] (qe5 K (n+1)):=wx9 T n
   refine T.zr.F.ok (k:=(7+n)) wb2 (by walk_at "n") (fun cdv A outer s H vs Q E hr h=>⟨qx8 K (qe5 K (n+1)),?_,xc9 (n+1) h⟩)
   have S:=wb2
   refine A5 ?_ ?_
   ·refine zst (i:=3) S ?_
    exact(zcl (qn6 T) hr T.zf B5 (A0 (pv 0) (A0 (pv 2) A3)))
   refine A5 ?_ ?_
   ·refine L9 ?_ ?_ ?_
    ·exact(C2 wd9 (pv 3) R5 (D4 _))
    ·refine A7 ?_
     exact(B8 (zcl (qk6 T) hr T.zt B5 (A0 (pv 0) (A0 (pv 1) (A0 (pv 2) A3)))))
    ·exact E6
   refine A5 ?_ ?_
   ·refine zst (i:=4) S ?_
    exact(zcl (wx8 T) hr T.zn B5 (A0 (pv 0) (A0 (pv 1) (A0 (pv 3) A3))))
   refine A5 ?_ ?_
   ·refine L9 ?_ ?_ ?_
    ·exact(C2 wa0 (pv 4) R5 (D4 _))
    ·refine A7 ?_
     exact(B8 (G2 (A0 (C0 Z6 (pv 4) B0) (A0 (G2 (A0 (pv 2) A3)) A3))))
    ·exact E6
   refine A5 ?_ ?_
   ·refine zst (i:=5) S ?_
    exact(zcl FR hr T.zr B5 (A0 (pv 0) (A0 (pv 1) (A0 (pv 3) A3))))
   refine A7 ?_
   refine B8 ?_
   refine G2 ?_
   refine A0 ?_ ?_
   ·exact(E4 (B9 (D5 hr)) (pv 5) B0 (fun _ _=>rfl))
   refine A0 ?_ ?_
   ·exact(C0 Z6 (E4 (B9 (D5 hr)) (pv 5) B0 (fun _ _=>rfl)) (G2 (A0 (pv 2) A3)))
   exact A3
theorem yg1(T:Txt K mg t):E9 P w K mg base CX0 20 t.zr.a t.zr.d ["book","names","name"] (xc8 K):=wx9 T 13
theorem xv8(T:Txt K mg t):E9 P w K mg base CX0 21 t.zo.a t.zo.d ["book","names","name"] (qr9 K):=by
 refine T.zo.F.ok wx1 (by walk_at "n") (fun cdv A outer s H vs Q E hr h=>⟨wa9 K,?_,xu0 h⟩)
 have S:=wx1
 refine A5 ?_ ?_
 ·refine zst (i:=3) S ?_
  exact(zcl (yg1 T) hr T.zr B5 (A0 (pv 0) (A0 (pv 1) (A0 (pv 2) A3))))
 refine A5 ?_ ?_
 ·refine zst (i:=4) S ?_
  exact(N3 N2 rfl T.z_tuple boot_tuple (A0 (N4 wg8 (pv 1) qr3 (J6 (E4 (B9 (D5 hr)) (pv 3) B0 (fun _ _=>rfl)))) A3))
 refine A5 ?_ ?_
 ·refine zst (i:=5) S ?_
  exact(E4 (B9 (D5 hr)) (pv 3) B0 (fun _ _=>rfl))
 refine A5 ?_ ?_
 ·refine L9 ?_ ?_ ?_
  ·exact(qf0 (zcl (xi7 T) hr T.zw B5 (A0 (pv 0) (A0 (pv 4) (A0 (pv 5) A3)))))
  ·refine A7 ?_
   exact(B8 (G2 (A0 C5 (A0 C5 A3))))
  ·exact E6
 refine A5 ?_ ?_
 ·refine L9 ?_ ?_ ?_
  ·exact(C2 qw6 (C0 Z6 (D0 C8 rfl T.z_len boot_len (A0 (pv 4) A3)) (D0 C8 rfl T.z_len boot_len (A0 (pv 5) A3))) (J5 rfl T.g_MOST_OPEN.1 T.g_MOST_OPEN.2) (D4 _))
  ·refine A7 ?_
   exact(B8 (G2 (A0 C5 (A0 C5 A3))))
  ·exact E6
 refine A7 ?_
 exact(B8 (G2 (A0 C5 (A0 (D0 C8 rfl T.z_len boot_len (A0 (pv 4) A3)) (A0 (pv 5) A3)))))
theorem qo9(T:Txt K mg t):E9 P w K mg base CX0 22 t.a_c_Reader_read_opening t.d_c_Reader_read_opening ["self","start","signs","name"] (L8 K):=by
 refine T.F_c_Reader_read_opening.ok X0 (by walk_at "n") (fun cdv A outer s H vs Q E hr h=>⟨M5 K t.k_Reader,?_,qo4 T.cz h⟩)
 have S:=X0
 refine A5 ?_ ?_
 ·refine L9 ?_ ?_ ?_
  ·exact(C2 wd9 (zcl (qk5 T) hr T.zc B5 (A0 (E2 (pv 0) rfl) (A0 (pv 3) A3))) R5 (D4 _))
  ·refine A5 ?_ ?_
   ·exact(C4 (N8 (pv 0) T.cz.cl_Reader T.m_c_Reader_drop (V1 T) (hr.mono (by walk_at "le")) T.b_c_Reader_drop .nil B5 (A0 (pv 1) (A0 (pv 2) (A0 C5 A3)))))
   refine A7 ?_
   exact xw0
  ·exact E6
 refine A5 ?_ ?_
 ·refine qf1 (i:=4) S.nd rfl (Or.inl rfl) ?_ rfl ?_
  ·refine zcl (xv8 T) hr T.zo B5 ?_
   refine A0 ?_ ?_
   ·exact(E2 (pv 0) rfl)
   refine A0 ?_ ?_
   ·exact(T8 (pv 0) T.cz.cl_Reader T.m_c_Reader_open_names (J9 T) (hr.mono (by walk_at "le")) T.b_c_Reader_open_names .nil B5)
   refine A0 ?_ ?_
   ·exact(pv 3)
   exact A3
  ·walk_at "or"
 refine A5 ?_ ?_
 ·refine L9 ?_ ?_ ?_
  ·exact(C2 (S8 (qo0 hr)) (E4 (B9 (D5 hr)) (pv 4) B0 (fun _ _=>rfl)) C5 (D4 _))
  ·refine A5 ?_ ?_
   ·exact(C4 (N8 (pv 0) T.cz.cl_Reader T.m_c_Reader_drop (V1 T) (hr.mono (by walk_at "le")) T.b_c_Reader_drop .nil B5 (A0 (pv 1) (A0 (pv 2) (A0 (E4 (B9 (D5 hr)) (pv 4) B0 (fun _ _=>rfl)) A3)))))
   refine A7 ?_
   exact xw0
  ·exact E6
 refine A5 ?_ ?_
 ·exact(C4 (N8 (pv 0) T.cz.cl_Reader T.m_c_Reader_close_behind (X2 T) (hr.mono (by walk_at "le")) T.b_c_Reader_close_behind .nil B5 (A0 (E4 (B9 (D5 hr)) (pv 4) B0 (fun _ _=>rfl)) (A0 (pv 1) (A0 C5 A3)))))
 refine A5 ?_ ?_
 ·refine Q4 PassesOwn.never rfl ?_ ?_ ?_
  ·exact(Y4 (N4 wg8 (E4 (B9 (D5 hr)) (pv 4) B0 (fun _ _=>rfl)) qr3 (J6 (qi6 Y2 B0))))
  ·exact(D2 (i:=5) S.nd rfl (Or.inl rfl))
  ·refine A7 ?_
   exact(C4 (N8 (pv 0) T.cz.cl_Reader T.m_c_Reader_put_in (Y8 T) (hr.mono (by walk_at "le")) T.b_c_Reader_put_in .nil B5 (A0 (pv 5) (A0 (pv 1) (A0 C5 A3)))))
 refine A5 ?_ ?_
 ·exact(C4 (N8 (pv 0) T.cz.cl_Reader T.m_c_Reader_enter (qn8 T) (hr.mono (by walk_at "le")) T.b_c_Reader_enter .nil B5 (A0 (pv 3) A3)))
 refine A7 ?_
 refine L9 ?_ ?_ ?_
 ·exact(C2 (S8 (qo0 hr)) (zcl (qk5 T) hr T.zc B5 (A0 (E2 (pv 0) rfl) (A0 (pv 3) A3))) C5 (D4 _))
 ·refine A7 ?_
  exact(C4 (T8 (pv 0) T.cz.cl_Reader T.m_c_Reader_leave (qn7 T) (hr.mono (by walk_at "le")) T.b_c_Reader_leave .nil B5))
 ·exact E6
theorem wo1(T:Txt K mg t):E9 P w K mg base CX0 23 t.a_c_Reader_read t.d_c_Reader_read ["self","kind","start","signs","told"] (V0 K):=by
 refine T.F_c_Reader_read.ok qq4 (by walk_at "n") (fun cdv A outer s H vs Q E hr h=>⟨Y0 K t.k_Reader,?_,wm5 T.cz h⟩)
 have S:=qq4
 refine A7 ?_
 refine L9 ?_ ?_ ?_
 ·exact(C2 (S8 (qo0 hr)) (pv 1) C5 (D4 _))
 ·refine A7 ?_
  exact(C4 (N8 (pv 0) T.cz.cl_Reader T.m_c_Reader_read_opening (qo9 T) (hr.mono (by walk_at "le")) T.b_c_Reader_read_opening .nil B5 (A0 (pv 2) (A0 (pv 3) (A0 (pv 4) A3)))))
 ·refine A7 ?_
  refine L9 ?_ ?_ ?_
  ·exact(C2 (S8 (qo0 hr)) (pv 1) C5 (D4 _))
  ·refine A7 ?_
   exact(C4 (N8 (pv 0) T.cz.cl_Reader T.m_c_Reader_read_closing (qo8 T) (hr.mono (by walk_at "le")) T.b_c_Reader_read_closing .nil B5 (A0 (pv 2) (A0 (pv 3) (A0 (pv 4) A3)))))
  ·refine A7 ?_
   exact(C4 (N8 (pv 0) T.cz.cl_Reader T.m_c_Reader_read_run (qz4 T) (hr.mono (by walk_at "le")) T.b_c_Reader_read_run .nil B5 (A0 (pv 2) (A0 (pv 3) (A0 (pv 4) A3)))))
theorem xi9(T:Txt K mg t):E9 P w K mg base CX0 24 t.yk.a t.yk.d ["book","text"] (qi2 K):=by
 refine T.yk.F.ok wj8 (by walk_at "n") (fun cdv A outer s H vs Q E hr h=>⟨qm9 K t.k_Reader,?_,xh6 T.cz h⟩)
 have S:=wj8
 refine A5 ?_ ?_
 ·refine zst (i:=2) S ?_
  exact(xe2 T.m_c_Reader_init (wn8 T) (hr.mono (by walk_at "le")) rfl T.n_Reader T.b_c_Reader_init .nil B5 (A0 (pv 0) A3))
 refine A5 ?_ ?_
 ·refine Q4 PassesOwn.never rfl ?_ ?_ ?_
  ·exact(Y4 (zcl (xi8 T) hr T.ya B5 (A0 (pv 1) A3)))
  ·exact(wk0 rfl (O9 (D2 (i:=3) S.nd rfl (Or.inl rfl)) (O9 (D2 (i:=4) S.nd rfl (Or.inl rfl)) (O9 (D2 (i:=5) S.nd rfl (Or.inl rfl)) (O9 (D2 (i:=6) S.nd rfl (Or.inl rfl)) qz5)))))
  ·refine A7 ?_
   exact(C4 (N8 (pv 2) T.cz.cl_Reader T.m_c_Reader_read (wo1 T) (hr.mono (by walk_at "le")) T.b_c_Reader_read .nil B5 (A0 (pv 3) (A0 (pv 4) (A0 (N4 qi9 (pv 1) (J6 (pv 4)) (J6 (pv 5))) (A0 (pv 6) A3))))))
 refine A5 ?_ ?_
 ·exact(C4 (N8 (pv 2) T.cz.cl_Reader T.m_c_Reader_finish (wf3 T) (hr.mono (by walk_at "le")) T.b_c_Reader_finish .nil B5 (A0 (D0 C8 rfl T.z_len boot_len (A0 (pv 1) A3)) A3)))
 refine A7 ?_
 exact(B8 (pv 2))
theorem xj0(T:Txt K mg t):E9 P w K mg base CX0 25 t.yj.a t.yj.d ["book","text"] (qi3 K):=by
 refine T.yj.F.ok wj7 (by walk_at "n") (fun cdv A outer s H vs Q E hr h=>⟨qn0 K t.k_Reader,?_,xh7 T.cz h⟩)
 have S:=wj7
 refine A5 ?_ ?_
 ·refine zst (i:=2) S ?_
  exact(zcl (xi9 T) hr T.yk B5 (A0 (pv 0) (A0 (pv 1) A3)))
 refine A7 ?_
 exact(B8 (G2 (A0 (T8 (pv 2) T.cz.cl_Reader T.m_c_Reader_root (wn7 T) (hr.mono (by walk_at "le")) T.b_c_Reader_root .nil B5) (A0 (E2 (pv 2) rfl) A3))))
theorem zh2(T:Txt K mg t):E9 P w K mg base CX0 26 t.yu.a t.yu.d ["_law_script"] (wm6 K):=by
 refine T.yu.F.ok yq6 (by walk_at "n") (fun cdv A outer s H vs Q E hr h=>⟨yb4 K,?_,zh1 h⟩)
 have S:=yq6
 refine A5 ?_ ?_
 ·refine qf1 (i:=1) S.nd rfl (Or.inl rfl) ?_ rfl ?_
  ·refine zcl (xa3 T) hr T.yr B5 ?_
   refine A0 ?_ ?_
   ·exact(zcl (qu7 T) hr T.yo B5 (A0 (pv 0) (A0 B0 A3)))
   exact A3
  ·walk_at "or"
 refine A5 ?_ ?_
 ·refine qf1 (i:=2) S.nd rfl (Or.inr rfl) ?_ rfl ?_
  ·exact(C0 D3 B0 (C0 W2 (zcl (qu7 T) hr T.yo B5 (A0 (pv 0) (A0 B0 A3))) B0))
  ·walk_at "or"
 refine A5 ?_ ?_
 ·refine zst (i:=3) S ?_
  exact(L3 A3)
 refine A5 ?_ ?_
 ·refine Q4 PassesOwn.never rfl ?_ ?_ ?_
  ·exact(wk2 rfl T.z_range (A0 (pv 2) A3))
  ·exact(D2 (i:=4) S.nd rfl (Or.inl rfl))
  ·refine A7 ?_
   exact(C4 (O4 PySem.F.plainAttrs_list PySem.F.slot_list_append PySem.F.type_list_append E8 (pv 3) (A0 (G2 (A0 (E4 (B9 (D5 hr)) (pv 1) (pv 4) (fun _ _=>rfl)) (A0 C5 (A0 C5 (A0 (N3 N2 rfl T.z_tuple boot_tuple (A0 (D0 xf3 rfl T.z_sorted boot_sorted (A0 (N4 qi9 (pv 1) (J6 (pv 4)) (J6 (pv 2))) A3)) A3)) (A0 (G2 A3) A3)))))) A3)))
 refine A5 ?_ ?_
 ·exact(wq9 (i:=5) S.nd rfl rfl rfl (R6 (osc:=A9 wo8) (ON:=["_law_script","_law_names_here","_law_count","_law_book","_law_k","_law_ranks","_law_words","_law_text","_law_mends","_law_there","_law_rank","_law_word"]) (N:=["_law_count","_law_cell"]) (fr:=[some 2,none]) (by decide +kernel) rfl rfl) (Y4 (N4 qi9 (pv 0) (J6 B0) (J6 B0))) (fun _ _ _ _ _ _=>(D2 (i:=1) (show List.Nodup (["_law_count","_law_cell"]:List Str) by decide +kernel) rfl (Or.inl rfl))) ql5 (fun _ _ _ _ _ _=>qz8) (fun _ _ _ _ _ _=>(C0 W2 (zcl (qo7 T) hr T.yp B5 (A0 (pv 1) (A0 B0 A3))) (pv 0))))
 refine A5 ?_ ?_
 ·exact(wq9 (i:=6) S.nd rfl rfl rfl (R6 (osc:=A9 wo8) (ON:=["_law_script","_law_names_here","_law_count","_law_book","_law_k","_law_ranks","_law_words","_law_text","_law_mends","_law_there","_law_rank","_law_word"]) (N:=["_law_cell"]) (fr:=[none]) (by decide +kernel) rfl rfl) (Y4 (N4 qi9 (pv 0) (J6 B0) (J6 B0))) (fun _ _ _ _ _ _=>(D2 (i:=0) (show List.Nodup (["_law_cell"]:List Str) by decide +kernel) rfl (Or.inl rfl))) ql5 (fun _ _ _ _ _ _=>qz8) (fun _ _ _ _ _ _=>(C0 D3 C5 (N3 yf0 rfl T.z_str boot_str (A0 (C0 W2 (pv 0) B0) A3)))))
 refine A5 ?_ ?_
 ·refine zst (i:=7) S ?_
  exact C5
 refine A5 ?_ ?_
 ·refine zst (i:=8) S ?_
  exact(L3 A3)
 refine A5 ?_ ?_
 ·refine zst (i:=9) S ?_
  exact(L3 A3)
 refine A5 ?_ ?_
 ·refine Q4 PassesOwn.never rfl ?_ ?_ ?_
  ·exact(xy6 rfl T.z_zip (A0 (pv 5) (A0 (pv 6) A3)))
  ·exact(wk0 rfl (O9 (D2 (i:=10) S.nd rfl (Or.inl rfl)) (O9 (D2 (i:=11) S.nd rfl (Or.inl rfl)) qz5)))
  ·refine A5 ?_ ?_
   ·refine qw0 PassesOwn.never ?_ ?_
    ·exact(PW.pt (wd7 (C2 (xr9 (qo0 hr)) (pv 9) (L3 A3) (D4 _)) (qq8 (C2 xf2 (E4 (B9 (D5 hr)) (pv 9) (qi6 Y2 B0) (fun _ _=>rfl)) (pv 10) (D4 _)))))
    ·refine A7 ?_
     exact(C4 (O4 PySem.F.plainAttrs_list PySem.F.slot_list_append PySem.F.type_list_append E8 (pv 8) (A0 (G2 (A0 (D0 C8 rfl T.z_len boot_len (A0 (pv 7) A3)) (A0 (D0 C8 rfl T.z_len boot_len (A0 (pv 7) A3)) (A0 (C0 D3 (C0 D3 C5 (E4 (B9 (D5 hr)) (pv 1) (ws3 PySem.F.plainAttrs_list PySem.F.slot_list_pop PySem.F.type_list_pop ws4 (pv 9)) (fun _ _=>rfl))) C5) (A0 C5 A3))))) A3)))
   refine A5 ?_ ?_
   ·exact(C4 (O4 PySem.F.plainAttrs_list PySem.F.slot_list_append PySem.F.type_list_append E8 (pv 9) (A0 (pv 10) A3)))
   refine A7 ?_
   refine zst (i:=7) S ?_
   exact(C0 D3 (C0 D3 (C0 D3 (C0 D3 (pv 7) C5) (E4 (B9 (D5 hr)) (pv 1) (pv 10) (fun _ _=>rfl))) C5) (pv 11))
 refine A5 ?_ ?_
 ·refine Q4 PassesOwn.never rfl ?_ ?_ ?_
  ·exact(yu5 rfl T.z_reversed (A0 (pv 9) A3))
  ·exact(D2 (i:=10) S.nd rfl (Or.inl rfl))
  ·refine A7 ?_
   exact(C4 (O4 PySem.F.plainAttrs_list PySem.F.slot_list_append PySem.F.type_list_append E8 (pv 8) (A0 (G2 (A0 (D0 C8 rfl T.z_len boot_len (A0 (pv 7) A3)) (A0 (D0 C8 rfl T.z_len boot_len (A0 (pv 7) A3)) (A0 (C0 D3 (C0 D3 C5 (E4 (B9 (D5 hr)) (pv 1) (pv 10) (fun _ _=>rfl))) C5) (A0 C5 A3))))) A3)))
 refine A7 ?_
 refine B8 ?_
 refine qz6 (S8 (qo0 hr)) ?_ ?_ (D4 _)
 ·refine zcl (xj0 T) hr T.yj B5 ?_
  refine A0 ?_ ?_
  ·exact(N3 N2 rfl T.z_tuple boot_tuple (A0 (pv 3) A3))
  refine A0 ?_ ?_
  ·exact(pv 7)
  exact A3
 ·refine G2 ?_
  refine A0 ?_ ?_
  ·exact(zcl (wx4 T) hr T.yt B5 (A0 (pv 5) (A0 (pv 6) (A0 (pv 1) A3))))
  refine A0 ?_ ?_
  ·exact(pv 8)
  exact A3
end
theorem ln1{us:List Value}(h:us.length=1):∃ x0,us=[x0]:=by
 rcases us with _|⟨x0,_|⟨y,us⟩⟩
 ·cases h
 ·exact⟨x0,rfl⟩
 ·cases h
theorem ln2{us:List Value}(h:us.length=2):∃ x0 x1,us=[x0,x1]:=by
 rcases us with _|⟨x0,_|⟨x1,_|⟨y,us⟩⟩⟩
 ·cases h
 ·cases h
 ·exact⟨x0,x1,rfl⟩
 ·cases h
theorem ln3{us:List Value}(h:us.length=3):∃ x0 x1 x2,us=[x0,x1,x2]:=by
 rcases us with _|⟨x0,_|⟨x1,_|⟨x2,_|⟨y,us⟩⟩⟩⟩
 ·cases h
 ·cases h
 ·cases h
 ·exact⟨x0,x1,x2,rfl⟩
 ·cases h
theorem ln4{us:List Value}(h:us.length=4):∃ x0 x1 x2 x3,us=[x0,x1,x2,x3]:=by
 rcases us with _|⟨x0,_|⟨x1,_|⟨x2,_|⟨x3,_|⟨y,us⟩⟩⟩⟩⟩
 ·cases h
 ·cases h
 ·cases h
 ·cases h
 ·exact⟨x0,x1,x2,x3,rfl⟩
 ·cases h
theorem ln5{us:List Value}(h:us.length=5):∃ x0 x1 x2 x3 x4,us=[x0,x1,x2,x3,x4]:=by
 rcases us with _|⟨x0,_|⟨x1,_|⟨x2,_|⟨x3,_|⟨x4,_|⟨y,us⟩⟩⟩⟩⟩⟩
 ·cases h
 ·cases h
 ·cases h
 ·cases h
 ·cases h
 ·exact⟨x0,x1,x2,x3,x4,rfl⟩
 ·cases h
theorem all_mk{l:PySem.W.OpenLaw}{w:World}{fa f0 f1 f2 f3 f4 f5 f6 f7 f8 f9 f10 f11 f12 f13 f14 f15 f16 f17 f18 f19 f20 f21 f22 f23 f24 f25 f26 f27 f28 f29 f30 f31 f32 f33 f34 f35 f36 f37 f38 f39 f40 f41 f42 f43 f44 f45 f46 f47 f48 f49 f50 f51 f52 f53 f54 f55 f56 f57 f58 f59:Addr}(X:K.In h)(G:h.Ns mainGlobals mg)(hfa:mg "law"=some (.ref fa)){d0 d1 d2 d3 d4 d5 d6 d7 d8 d9 d10 d11 d12 d13 d14 d15 d16 d17 d18 d19 d20 d21 d22 d23 d24 d25 d26 d27 d28 d29 d30 d31 d32 d33 d34 d35 d36 d37 d38 d39 d40 d41 d42 d43 d44 d45 d46 d47 d48 d49 d50 d51 d52 d53 d54 d55 d56 d57 d58 d59:FuncData}{k_LONGEST_NAME k_NAME k_SORT k_HOST k_SHUTS k_BARS k_ROOT_NAME k_MOST_OPEN k_START k_STOP k_BLANKS:Tok}{c_WALL_SORTS:Addr}{d_WALL_SORTS:Option Addr}{n_WALL_SORTS:Nat}{sl_WALL_SORTS:Array (Option Value)}{k_WALL_SORTS_0 k_WALL_SORTS_1:Tok}{c_TOLD_FOR:Addr}{d_TOLD_FOR:Option Addr}{n_TOLD_FOR:Nat}{sl_TOLD_FOR:Array (Option Value)}{k_TOLD_FOR_0 k_TOLD_FOR_1:Tok}{d_ESCAPED:Option Addr}{n_ESCAPED:Nat}{sl_ESCAPED:Array (Option Value)}{k_ESCAPED_0 k_ESCAPED_1:Tok}(eBranch:PySem.W.nsIn K mainGlobals "Branch"=some (some (.ref k_Branch)))(eReader:PySem.W.nsIn K mainGlobals "Reader"=some (some (.ref k_Reader)))(a0:PySem.W.nsIn K mainGlobals "has_letters_of_name"=some (some (.ref f0)))(F0:Fun K "has_letters_of_name" "has_letters_of_name" O1 f0 d0)(a1:PySem.W.nsIn K mainGlobals "row_of"=some (some (.ref f1)))(F1:Fun K "row_of" "row_of" ww2 f1 d1)(a2:PySem.W.nsIn K mainGlobals "sort_of"=some (some (.ref f2)))(F2:Fun K "sort_of" "sort_of" wm7 f2 d2)(a3:PySem.W.nsIn K mainGlobals "is_wall"=some (some (.ref f3)))(F3:Fun K "is_wall" "is_wall" wm8 f3 d3)(a4:PySem.W.nsIn K mainGlobals "host_of"=some (some (.ref f4)))(F4:Fun K "host_of" "host_of" wm9 f4 d4)(a5:PySem.W.nsIn K mainGlobals "frame_of"=some (some (.ref f5)))(F5:Fun K "frame_of" "frame_of" wf0 f5 d5)(a6:PySem.W.nsIn K mainGlobals "belongs"=some (some (.ref f6)))(F6:Fun K "belongs" "belongs" wn0 f6 d6)(a7:PySem.W.nsIn K mainGlobals "is_text"=some (some (.ref f7)))(F7:Fun K "is_text" "is_text" wn1 f7 d7)(a8:PySem.W.nsIn K mainGlobals "straight_above"=some (some (.ref f8)))(F8:Fun K "straight_above" "straight_above" qd0 f8 d8)(a9:PySem.W.nsIn K mainGlobals "near_of"=some (some (.ref f9)))(F9:Fun K "near_of" "near_of" wn2 f9 d9)(a10:PySem.W.nsIn K mainGlobals "share_a_name"=some (some (.ref f10)))(F10:Fun K "share_a_name" "share_a_name" qa7 f10 d10)(a11:PySem.W.nsIn K mainGlobals "closing"=some (some (.ref f11)))(F11:Fun K "closing" "closing" wn3 f11 d11)(a12:PySem.W.nsIn K mainGlobals "opening"=some (some (.ref f12)))(F12:Fun K "opening" "opening" wn4 f12 d12)(a13:PySem.W.nsIn K mainGlobals "hosts_for"=some (some (.ref f13)))(F13:Fun K "hosts_for" "hosts_for" qy4 f13 d13)(a14:PySem.W.nsIn K mainGlobals "wanted"=some (some (.ref f14)))(F14:Fun K "wanted" "wanted" ww3 f14 d14)(a15:PySem.W.nsIn K mainGlobals "wanted_by_guest"=some (some (.ref f15)))(F15:Fun K "wanted_by_guest" "wanted_by_guest" qa8 f15 d15)(a16:PySem.W.nsIn K mainGlobals "kept_by_shuts"=some (some (.ref f16)))(F16:Fun K "kept_by_shuts" "kept_by_shuts" qf5 f16 d16)(a17:PySem.W.nsIn K mainGlobals "hosts_within"=some (some (.ref f17)))(F17:Fun K "hosts_within" "hosts_within" qj7 f17 d17)(a18:PySem.W.nsIn K mainGlobals "is_barred"=some (some (.ref f18)))(F18:Fun K "is_barred" "is_barred" qy5 f18 d18)(a19:PySem.W.nsIn K mainGlobals "escaped"=some (some (.ref f19)))(F19:Fun K "escaped" "escaped" wn5 f19 d19)(a20:PySem.W.nsIn K mainGlobals "told_by"=some (some (.ref f20)))(F20:Fun K "told_by" "told_by" wn6 f20 d20)(a21:PySem.W.nsIn K mainGlobals "lone_ones"=some (some (.ref f21)))(F21:Fun K "lone_ones" "lone_ones" qn1 f21 d21)(a22:PySem.W.nsIn K mainGlobals "tokens_of"=some (some (.ref f22)))(F22:Fun K "tokens_of" "tokens_of" qy6 f22 d22)(a23:PySem.W.nsIn K mainGlobals "settled_tokens"=some (some (.ref f23)))(F23:Fun K "settled_tokens" "settled_tokens" qd1 f23 d23)(a24:PySem.W.nsIn K mainGlobals "tags_from"=some (some (.ref f24)))(F24:Fun K "tags_from" "tags_from" qy7 f24 d24)(a25:PySem.W.nsIn K mainGlobals "name_start"=some (some (.ref f25)))(F25:Fun K "name_start" "name_start" qs7 f25 d25)(a26:PySem.W.nsIn K mainGlobals "tag_stop"=some (some (.ref f26)))(F26:Fun K "tag_stop" "tag_stop" wf1 f26 d26)(a27:PySem.W.nsIn K mainGlobals "tag_between"=some (some (.ref f27)))(F27:Fun K "tag_between" "tag_between" qo5 f27 d27)(a28:PySem.W.nsIn K mainGlobals "runs_between"=some (some (.ref f28)))(F28:Fun K "runs_between" "runs_between" qj8 f28 d28)(a29:PySem.W.nsIn K mainGlobals "opening_of"=some (some (.ref f29)))(F29:Fun K "opening_of" "opening_of" qs8 f29 d29)(a30:PySem.W.nsIn K mainGlobals "closing_of"=some (some (.ref f30)))(F30:Fun K "closing_of" "closing_of" qs9 f30 d30)(a31:PySem.W.nsIn K mainGlobals "read_text"=some (some (.ref f31)))(F31:Fun K "read_text" "read_text" qy8 f31 d31)(a32:PySem.W.nsIn K mainGlobals "reader_of"=some (some (.ref f32)))(F32:Fun K "reader_of" "reader_of" qy9 f32 d32)(a33:PySem.W.nsIn K mainGlobals "those_that_wait"=some (some (.ref f33)))(F33:Fun K "those_that_wait" "those_that_wait" qa9 f33 d33)(a34:PySem.W.nsIn K mainGlobals "without_last"=some (some (.ref f34)))(F34:Fun K "without_last" "without_last" qz0 f34 d34)(a35:PySem.W.nsIn K mainGlobals "may_come_anew"=some (some (.ref f35)))(F35:Fun K "may_come_anew" "may_come_anew" qu1 f35 d35)(a36:PySem.W.nsIn K mainGlobals "_law_cell_at"=some (some (.ref f36)))(F36:Fun K "_law_cell_at" "_law_cell_at" qj9 f36 d36)(a37:PySem.W.nsIn K mainGlobals "_law_mixed"=some (some (.ref f37)))(F37:Fun K "_law_mixed" "_law_mixed" qt0 f37 d37)(a38:PySem.W.nsIn K mainGlobals "_law_letters"=some (some (.ref f38)))(F38:Fun K "_law_letters" "_law_letters" qk0 f38 d38)(a39:PySem.W.nsIn K mainGlobals "_law_names"=some (some (.ref f39)))(F39:Fun K "_law_names" "_law_names" qb0 f39 d39)(a40:PySem.W.nsIn K mainGlobals "_law_nested"=some (some (.ref f40)))(F40:Fun K "_law_nested" "_law_nested" qo6 f40 d40)(a41:PySem.W.nsIn K mainGlobals "law"=some (some (.ref f41)))(F41:Fun K "law" "law" wo8 f41 d41)(a42:PySem.W.findIn K (.ref k_Branch) "__init__"=some (some (.ref f42)))(F42:Fun K "__init__" "Branch.__init__" qf6 f42 d42)(fn42:PySem.W.isFn K (.ref f42)=true)(a43:PySem.W.findIn K (.ref k_Reader) "__init__"=some (some (.ref f43)))(F43:Fun K "__init__" "Reader.__init__" qf7 f43 d43)(fn43:PySem.W.isFn K (.ref f43)=true)(a44:PySem.W.findIn K (.ref k_Reader) "root"=some (some (.ref f44)))(F44:Fun K "root" "Reader.root" qf8 f44 d44)(fn44:PySem.W.isFn K (.ref f44)=true)(a45:PySem.W.findIn K (.ref k_Reader) "read"=some (some (.ref f45)))(F45:Fun K "read" "Reader.read" qf9 f45 d45)(fn45:PySem.W.isFn K (.ref f45)=true)(a46:PySem.W.findIn K (.ref k_Reader) "finish"=some (some (.ref f46)))(F46:Fun K "finish" "Reader.finish" qb1 f46 d46)(fn46:PySem.W.isFn K (.ref f46)=true)(a47:PySem.W.findIn K (.ref k_Reader) "read_opening"=some (some (.ref f47)))(F47:Fun K "read_opening" "Reader.read_opening" R0 f47 d47)(fn47:PySem.W.isFn K (.ref f47)=true)(a48:PySem.W.findIn K (.ref k_Reader) "read_closing"=some (some (.ref f48)))(F48:Fun K "read_closing" "Reader.read_closing" Z2 f48 d48)(fn48:PySem.W.isFn K (.ref f48)=true)(a49:PySem.W.findIn K (.ref k_Reader) "read_run"=some (some (.ref f49)))(F49:Fun K "read_run" "Reader.read_run" W5 f49 d49)(fn49:PySem.W.isFn K (.ref f49)=true)(a50:PySem.W.findIn K (.ref k_Reader) "open_names"=some (some (.ref f50)))(F50:Fun K "open_names" "Reader.open_names" O2 f50 d50)(fn50:PySem.W.isFn K (.ref f50)=true)(a51:PySem.W.findIn K (.ref k_Reader) "is_in_frame"=some (some (.ref f51)))(F51:Fun K "is_in_frame" "Reader.is_in_frame" S2 f51 d51)(fn51:PySem.W.isFn K (.ref f51)=true)(a52:PySem.W.findIn K (.ref k_Reader) "last_wall"=some (some (.ref f52)))(F52:Fun K "last_wall" "Reader.last_wall" P6 f52 d52)(fn52:PySem.W.isFn K (.ref f52)=true)(a53:PySem.W.findIn K (.ref k_Reader) "enter"=some (some (.ref f53)))(F53:Fun K "enter" "Reader.enter" qd2 f53 d53)(fn53:PySem.W.isFn K (.ref f53)=true)(a54:PySem.W.findIn K (.ref k_Reader) "leave"=some (some (.ref f54)))(F54:Fun K "leave" "Reader.leave" qd3 f54 d54)(fn54:PySem.W.isFn K (.ref f54)=true)(a55:PySem.W.findIn K (.ref k_Reader) "drop"=some (some (.ref f55)))(F55:Fun K "drop" "Reader.drop" qg0 f55 d55)(fn55:PySem.W.isFn K (.ref f55)=true)(a56:PySem.W.findIn K (.ref k_Reader) "put_in"=some (some (.ref f56)))(F56:Fun K "put_in" "Reader.put_in" qb2 f56 d56)(fn56:PySem.W.isFn K (.ref f56)=true)(a57:PySem.W.findIn K (.ref k_Reader) "close_behind"=some (some (.ref f57)))(F57:Fun K "close_behind" "Reader.close_behind" R1 f57 d57)(fn57:PySem.W.isFn K (.ref f57)=true)(a58:PySem.W.findIn K (.ref k_Reader) "put_in_waiting"=some (some (.ref f58)))(F58:Fun K "put_in_waiting" "Reader.put_in_waiting" O5 f58 d58)(fn58:PySem.W.isFn K (.ref f58)=true)(a59:PySem.W.findIn K (.ref k_Reader) "add_text"=some (some (.ref f59)))(F59:Fun K "add_text" "Reader.add_text" W6 f59 d59)(fn59:PySem.W.isFn K (.ref f59)=true)(uLONGEST_NAME:PySem.W.nsIn K mainGlobals "LONGEST_NAME"=some (some (.int 8 k_LONGEST_NAME)))(uNAME:PySem.W.nsIn K mainGlobals "NAME"=some (some (.int 0 k_NAME)))(uSORT:PySem.W.nsIn K mainGlobals "SORT"=some (some (.int 1 k_SORT)))(uHOST:PySem.W.nsIn K mainGlobals "HOST"=some (some (.int 2 k_HOST)))(uSHUTS:PySem.W.nsIn K mainGlobals "SHUTS"=some (some (.int 3 k_SHUTS)))(uBARS:PySem.W.nsIn K mainGlobals "BARS"=some (some (.int 4 k_BARS)))(uROOT_NAME:PySem.W.nsIn K mainGlobals "ROOT_NAME"=some (some (.str "" k_ROOT_NAME)))(uMOST_OPEN:PySem.W.nsIn K mainGlobals "MOST_OPEN"=some (some (.int 20 k_MOST_OPEN)))(uSTART:PySem.W.nsIn K mainGlobals "START"=some (some (.int 1 k_START)))(uSTOP:PySem.W.nsIn K mainGlobals "STOP"=some (some (.int 2 k_STOP)))(uBLANKS:PySem.W.nsIn K mainGlobals "BLANKS"=some (some (.str " \n" k_BLANKS)))(uWALL_SORTS:PySem.W.nsIn K mainGlobals "WALL_SORTS"=some (some (.ref c_WALL_SORTS)))(wWALL_SORTS:K.lookup c_WALL_SORTS=some ⟨.type "tuple",d_WALL_SORTS,.seq #[.str "room" k_WALL_SORTS_0,.str "frame" k_WALL_SORTS_1] n_WALL_SORTS,sl_WALL_SORTS⟩)(uTOLD_FOR:PySem.W.nsIn K mainGlobals "TOLD_FOR"=some (some (.ref c_TOLD_FOR)))(wTOLD_FOR:K.lookup c_TOLD_FOR=some ⟨.type "tuple",d_TOLD_FOR,.seq #[.str "&l;" k_TOLD_FOR_0,.str "&a;" k_TOLD_FOR_1] n_TOLD_FOR,sl_TOLD_FOR⟩)(uESCAPED:PySem.W.nsIn K mainGlobals "ESCAPED"=some (some (.ref c_ESCAPED)))(wESCAPED:K.lookup c_ESCAPED=some ⟨.type "tuple",d_ESCAPED,.seq #[.str "<" k_ESCAPED_0,.str "&" k_ESCAPED_1] n_ESCAPED,sl_ESCAPED⟩)(pg0Branch:PySem.W.plainGet K k_Branch Str.empty=true)(hd0Branch:PySem.W.hasDictIn K k_Branch=true)(po0Branch:PySem.W.plainOver K k_Branch=true)(sa0Branch:PySem.W.findIn K (.ref k_Branch) "__setattr__"=some (some (.builtin "object.__setattr__")))(ns0Branch:PySem.W.nsIn K mainGlobals "Branch"=some (some (.ref k_Branch)))(na0Branch0name:PySem.W.findIn K (.ref k_Branch) "name"=some none)(na0Branch0place:PySem.W.findIn K (.ref k_Branch) "place"=some none)(na0Branch0parts:PySem.W.findIn K (.ref k_Branch) "parts"=some none)(na0Branch0waiting:PySem.W.findIn K (.ref k_Branch) "waiting"=some none)(pg0Reader:PySem.W.plainGet K k_Reader Str.empty=true)(hd0Reader:PySem.W.hasDictIn K k_Reader=true)(po0Reader:PySem.W.plainOver K k_Reader=true)(sa0Reader:PySem.W.findIn K (.ref k_Reader) "__setattr__"=some (some (.builtin "object.__setattr__")))(ns0Reader:PySem.W.nsIn K mainGlobals "Reader"=some (some (.ref k_Reader)))(na0Reader0book:PySem.W.findIn K (.ref k_Reader) "book"=some none)(na0Reader0branches:PySem.W.findIn K (.ref k_Reader) "branches"=some none)(na0Reader0mends:PySem.W.findIn K (.ref k_Reader) "mends"=some none)(na0Reader0laid:PySem.W.findIn K (.ref k_Reader) "laid"=some none)(mk0Branch:PySem.W.makesIn K k_Branch=true)(kp0Branch:PySem.W.keepIn K (.ref k_Branch)=true)(mk0Reader:PySem.W.makesIn K k_Reader=true)(kp0Reader:PySem.W.keepIn K (.ref k_Reader)=true)(zall:PySem.W.nsIn K mainGlobals "all"=some none)(zany:PySem.W.nsIn K mainGlobals "any"=some none)(zenumerate:PySem.W.nsIn K mainGlobals "enumerate"=some none)(zint:PySem.W.nsIn K mainGlobals "int"=some none)(zisinstance:PySem.W.nsIn K mainGlobals "isinstance"=some none)(zlen:PySem.W.nsIn K mainGlobals "len"=some none)(zrange:PySem.W.nsIn K mainGlobals "range"=some none)(zreversed:PySem.W.nsIn K mainGlobals "reversed"=some none)(zsorted:PySem.W.nsIn K mainGlobals "sorted"=some none)(zstr:PySem.W.nsIn K mainGlobals "str"=some none)(ztuple:PySem.W.nsIn K mainGlobals "tuple"=some none)(zzip:PySem.W.nsIn K mainGlobals "zip"=some none) :
 ∃ fd:FuncData,(∀ (s:Shared) (v:Value),BindsTo s fd ⟨[v],[]⟩ [("_law_script",v)])/\∀ base:Heap,K.In base->base.Ns mainGlobals mg->E9 l.prog w K mg base CX0 26 fa fd ["_law_script"] (wm6 K):=by
 have e:=hfa.symm.trans (PySem.W.mg_of X G a41)
 have e:f41=fa:=by cases e;rfl
 subst e
 obtain⟨_,_,kV,dc,pm,an,cd,ct,_,rfl,_,_⟩:=id F41.ex
 have b0:=F0.binds (ps:=["word"]) fun _ _ _ _ _ _ us hl=>by obtain⟨_,rfl⟩:=ln1 hl;rfl
 have b1:=F1.binds (ps:=["rows","name"]) fun _ _ _ _ _ _ us hl=>by obtain⟨_,_,rfl⟩:=ln2 hl;rfl
 have b2:=F2.binds (ps:=["book","name"]) fun _ _ _ _ _ _ us hl=>by obtain⟨_,_,rfl⟩:=ln2 hl;rfl
 have b3:=F3.binds (ps:=["book","name"]) fun _ _ _ _ _ _ us hl=>by obtain⟨_,_,rfl⟩:=ln2 hl;rfl
 have b4:=F4.binds (ps:=["book","name"]) fun _ _ _ _ _ _ us hl=>by obtain⟨_,_,rfl⟩:=ln2 hl;rfl
 have b5:=F5.binds (ps:=["book","name"]) fun _ _ _ _ _ _ us hl=>by obtain⟨_,_,rfl⟩:=ln2 hl;rfl
 have b6:=F6.binds (ps:=["book","name","frame"]) fun _ _ _ _ _ _ us hl=>by obtain⟨_,_,_,rfl⟩:=ln3 hl;rfl
 have b7:=F7.binds (ps:=["part"]) fun _ _ _ _ _ _ us hl=>by obtain⟨_,rfl⟩:=ln1 hl;rfl
 have b8:=F8.binds (ps:=["names"]) fun _ _ _ _ _ _ us hl=>by obtain⟨_,rfl⟩:=ln1 hl;rfl
 have b9:=F9.binds (ps:=["book","names"]) fun _ _ _ _ _ _ us hl=>by obtain⟨_,_,rfl⟩:=ln2 hl;rfl
 have b10:=F10.binds (ps:=["names","others"]) fun _ _ _ _ _ _ us hl=>by obtain⟨_,_,rfl⟩:=ln2 hl;rfl
 have b11:=F11.binds (ps:=["book","names","name"]) fun _ _ _ _ _ _ us hl=>by obtain⟨_,_,_,rfl⟩:=ln3 hl;rfl
 have b12:=F12.binds (ps:=["book","names","name"]) fun _ _ _ _ _ _ us hl=>by obtain⟨_,_,_,rfl⟩:=ln3 hl;rfl
 have b13:=F13.binds (ps:=["book","names"]) fun _ _ _ _ _ _ us hl=>by obtain⟨_,_,rfl⟩:=ln2 hl;rfl
 have b14:=F14.binds (ps:=["book","names","name"]) fun _ _ _ _ _ _ us hl=>by obtain⟨_,_,_,rfl⟩:=ln3 hl;rfl
 have b15:=F15.binds (ps:=["book","names","name"]) fun _ _ _ _ _ _ us hl=>by obtain⟨_,_,_,rfl⟩:=ln3 hl;rfl
 have b16:=F16.binds (ps:=["book","names","name"]) fun _ _ _ _ _ _ us hl=>by obtain⟨_,_,_,rfl⟩:=ln3 hl;rfl
 have b17:=F17.binds (ps:=["book","name"]) fun _ _ _ _ _ _ us hl=>by obtain⟨_,_,rfl⟩:=ln2 hl;rfl
 have b18:=F18.binds (ps:=["book","kept","put"]) fun _ _ _ _ _ _ us hl=>by obtain⟨_,_,_,rfl⟩:=ln3 hl;rfl
 have b19:=F19.binds (ps:=["text"]) fun _ _ _ _ _ _ us hl=>by obtain⟨_,rfl⟩:=ln1 hl;rfl
 have b20:=F20.binds (ps:=["run"]) fun _ _ _ _ _ _ us hl=>by obtain⟨_,rfl⟩:=ln1 hl;rfl
 have b21:=F21.binds (ps:=["run"]) fun _ _ _ _ _ _ us hl=>by obtain⟨_,rfl⟩:=ln1 hl;rfl
 have b22:=F22.binds (ps:=["text"]) fun _ _ _ _ _ _ us hl=>by obtain⟨_,rfl⟩:=ln1 hl;rfl
 have b23:=F23.binds (ps:=["text","settled","searched"]) fun _ _ _ _ _ _ us hl=>by obtain⟨_,_,_,rfl⟩:=ln3 hl;rfl
 have b24:=F24.binds (ps:=["text","searched"]) fun _ _ _ _ _ _ us hl=>by obtain⟨_,_,rfl⟩:=ln2 hl;rfl
 have b25:=F25.binds (ps:=["text","start"]) fun _ _ _ _ _ _ us hl=>by obtain⟨_,_,rfl⟩:=ln2 hl;rfl
 have b26:=F26.binds (ps:=["text","start"]) fun _ _ _ _ _ _ us hl=>by obtain⟨_,_,rfl⟩:=ln2 hl;rfl
 have b27:=F27.binds (ps:=["text","start","stop"]) fun _ _ _ _ _ _ us hl=>by obtain⟨_,_,_,rfl⟩:=ln3 hl;rfl
 have b28:=F28.binds (ps:=["text","start","stop"]) fun _ _ _ _ _ _ us hl=>by obtain⟨_,_,_,rfl⟩:=ln3 hl;rfl
 have b29:=F29.binds (ps:=["name"]) fun _ _ _ _ _ _ us hl=>by obtain⟨_,rfl⟩:=ln1 hl;rfl
 have b30:=F30.binds (ps:=["name"]) fun _ _ _ _ _ _ us hl=>by obtain⟨_,rfl⟩:=ln1 hl;rfl
 have b31:=F31.binds (ps:=["book","text"]) fun _ _ _ _ _ _ us hl=>by obtain⟨_,_,rfl⟩:=ln2 hl;rfl
 have b32:=F32.binds (ps:=["book","text"]) fun _ _ _ _ _ _ us hl=>by obtain⟨_,_,rfl⟩:=ln2 hl;rfl
 have b33:=F33.binds (ps:=["book","closed"]) fun _ _ _ _ _ _ us hl=>by obtain⟨_,_,rfl⟩:=ln2 hl;rfl
 have b34:=F34.binds (ps:=["names","name"]) fun _ _ _ _ _ _ us hl=>by obtain⟨_,_,rfl⟩:=ln2 hl;rfl
 have b35:=F35.binds (ps:=["book","names","name"]) fun _ _ _ _ _ _ us hl=>by obtain⟨_,_,_,rfl⟩:=ln3 hl;rfl
 have b36:=F36.binds (ps:=["_law_script","_law_k"]) fun _ _ _ _ _ _ us hl=>by obtain⟨_,_,rfl⟩:=ln2 hl;rfl
 have b37:=F37.binds (ps:=["_law_cell","_law_k"]) fun _ _ _ _ _ _ us hl=>by obtain⟨_,_,rfl⟩:=ln2 hl;rfl
 have b38:=F38.binds (ps:=["_law_number"]) fun _ _ _ _ _ _ us hl=>by obtain⟨_,rfl⟩:=ln1 hl;rfl
 have b39:=F39.binds (ps:=["_law_cell"]) fun _ _ _ _ _ _ us hl=>by obtain⟨_,rfl⟩:=ln1 hl;rfl
 have b40:=F40.binds (ps:=["_law_ranks","_law_words","_law_names_here"]) fun _ _ _ _ _ _ us hl=>by obtain⟨_,_,_,rfl⟩:=ln3 hl;rfl
 have b41:=F41.binds (ps:=["_law_script"]) fun _ _ _ _ _ _ us hl=>by obtain⟨_,rfl⟩:=ln1 hl;rfl
 have b42:=F42.binds (ps:=["self","name","place"]) fun _ _ _ _ _ _ us hl=>by obtain⟨_,_,_,rfl⟩:=ln3 hl;rfl
 have b43:=F43.binds (ps:=["self","book"]) fun _ _ _ _ _ _ us hl=>by obtain⟨_,_,rfl⟩:=ln2 hl;rfl
 have b44:=F44.binds (ps:=["self"]) fun _ _ _ _ _ _ us hl=>by obtain⟨_,rfl⟩:=ln1 hl;rfl
 have b45:=F45.binds (ps:=["self","kind","start","signs","told"]) fun _ _ _ _ _ _ us hl=>by obtain⟨_,_,_,_,_,rfl⟩:=ln5 hl;rfl
 have b46:=F46.binds (ps:=["self","size"]) fun _ _ _ _ _ _ us hl=>by obtain⟨_,_,rfl⟩:=ln2 hl;rfl
 have b47:=F47.binds (ps:=["self","start","signs","name"]) fun _ _ _ _ _ _ us hl=>by obtain⟨_,_,_,_,rfl⟩:=ln4 hl;rfl
 have b48:=F48.binds (ps:=["self","start","signs","name"]) fun _ _ _ _ _ _ us hl=>by obtain⟨_,_,_,_,rfl⟩:=ln4 hl;rfl
 have b49:=F49.binds (ps:=["self","start","signs","told"]) fun _ _ _ _ _ _ us hl=>by obtain⟨_,_,_,_,rfl⟩:=ln4 hl;rfl
 have b50:=F50.binds (ps:=["self"]) fun _ _ _ _ _ _ us hl=>by obtain⟨_,rfl⟩:=ln1 hl;rfl
 have b51:=F51.binds (ps:=["self"]) fun _ _ _ _ _ _ us hl=>by obtain⟨_,rfl⟩:=ln1 hl;rfl
 have b52:=F52.binds (ps:=["self"]) fun _ _ _ _ _ _ us hl=>by obtain⟨_,rfl⟩:=ln1 hl;rfl
 have b53:=F53.binds (ps:=["self","name"]) fun _ _ _ _ _ _ us hl=>by obtain⟨_,_,rfl⟩:=ln2 hl;rfl
 have b54:=F54.binds (ps:=["self"]) fun _ _ _ _ _ _ us hl=>by obtain⟨_,rfl⟩:=ln1 hl;rfl
 have b55:=F55.binds (ps:=["self","start","signs","rule"]) fun _ _ _ _ _ _ us hl=>by obtain⟨_,_,_,_,rfl⟩:=ln4 hl;rfl
 have b56:=F56.binds (ps:=["self","name","start","rule"]) fun _ _ _ _ _ _ us hl=>by obtain⟨_,_,_,_,rfl⟩:=ln4 hl;rfl
 have b57:=F57.binds (ps:=["self","kept","start","rule"]) fun _ _ _ _ _ _ us hl=>by obtain⟨_,_,_,_,rfl⟩:=ln4 hl;rfl
 have b58:=F58.binds (ps:=["self","start"]) fun _ _ _ _ _ _ us hl=>by obtain⟨_,_,rfl⟩:=ln2 hl;rfl
 have b59:=F59.binds (ps:=["self","start","signs","told"]) fun _ _ _ _ _ _ us hl=>by obtain⟨_,_,_,_,rfl⟩:=ln4 hl;rfl
 let t:Adr:={za:=⟨f0,d0⟩,zb:=⟨f1,d1⟩,zc:=⟨f2,d2⟩,zd:=⟨f3,d3⟩,ze:=⟨f4,d4⟩,zf:=⟨f5,d5⟩,zh:=⟨f6,d6⟩,zi:=⟨f7,d7⟩,zj:=⟨f8,d8⟩,zk:=⟨f9,d9⟩,zm:=⟨f10,d10⟩,zn:=⟨f11,d11⟩,zo:=⟨f12,d12⟩,zp:=⟨f13,d13⟩,zr:=⟨f14,d14⟩,zt:=⟨f15,d15⟩,zu:=⟨f16,d16⟩,zv:=⟨f17,d17⟩,zw:=⟨f18,d18⟩,zx:=⟨f19,d19⟩,zy:=⟨f20,d20⟩,zz:=⟨f21,d21⟩,ya:=⟨f22,d22⟩,yb:=⟨f23,d23⟩,yc:=⟨f24,d24⟩,yd:=⟨f25,d25⟩,ye:=⟨f26,d26⟩,yf:=⟨f27,d27⟩,yg:=⟨f28,d28⟩,yh:=⟨f29,d29⟩,yi:=⟨f30,d30⟩,yj:=⟨f31,d31⟩,yk:=⟨f32,d32⟩,yl:=⟨f33,d33⟩,ym:=⟨f34,d34⟩,yn:=⟨f35,d35⟩,yo:=⟨f36,d36⟩,yp:=⟨f37,d37⟩,yq:=⟨f38,d38⟩,yr:=⟨f39,d39⟩,yt:=⟨f40,d40⟩,yu:=⟨f41,PySem.W.fnOf "law" "law" (wf8 wo8) (qz7 wo8) (A9 wo8) .none kV dc pm an cd ct⟩,a_c_Branch_init:=f42,d_c_Branch_init:=d42,a_c_Reader_init:=f43,d_c_Reader_init:=d43,a_c_Reader_root:=f44,d_c_Reader_root:=d44,a_c_Reader_read:=f45,d_c_Reader_read:=d45,a_c_Reader_finish:=f46,d_c_Reader_finish:=d46,a_c_Reader_read_opening:=f47,d_c_Reader_read_opening:=d47,a_c_Reader_read_closing:=f48,d_c_Reader_read_closing:=d48,a_c_Reader_read_run:=f49,d_c_Reader_read_run:=d49,a_c_Reader_open_names:=f50,d_c_Reader_open_names:=d50,a_c_Reader_is_in_frame:=f51,d_c_Reader_is_in_frame:=d51,a_c_Reader_last_wall:=f52,d_c_Reader_last_wall:=d52,a_c_Reader_enter:=f53,d_c_Reader_enter:=d53,a_c_Reader_leave:=f54,d_c_Reader_leave:=d54,a_c_Reader_drop:=f55,d_c_Reader_drop:=d55,a_c_Reader_put_in:=f56,d_c_Reader_put_in:=d56,a_c_Reader_close_behind:=f57,d_c_Reader_close_behind:=d57,a_c_Reader_put_in_waiting:=f58,d_c_Reader_put_in_waiting:=d58,a_c_Reader_add_text:=f59,d_c_Reader_add_text:=d59,v_LONGEST_NAME:=.int 8 k_LONGEST_NAME,v_NAME:=.int 0 k_NAME,v_SORT:=.int 1 k_SORT,v_HOST:=.int 2 k_HOST,v_SHUTS:=.int 3 k_SHUTS,v_BARS:=.int 4 k_BARS,v_ROOT_NAME:=.str "" k_ROOT_NAME,v_MOST_OPEN:=.int 20 k_MOST_OPEN,v_START:=.int 1 k_START,v_STOP:=.int 2 k_STOP,v_BLANKS:=.str " \n" k_BLANKS,c_WALL_SORTS:=c_WALL_SORTS,c_TOLD_FOR:=c_TOLD_FOR,c_ESCAPED:=c_ESCAPED,k_Branch:=k_Branch,k_Reader:=k_Reader}
 have T:Txt K mg t:=⟨⟨F0,b0,PySem.W.mg_of X G a0⟩,⟨F1,b1,PySem.W.mg_of X G a1⟩,⟨F2,b2,PySem.W.mg_of X G a2⟩,⟨F3,b3,PySem.W.mg_of X G a3⟩,⟨F4,b4,PySem.W.mg_of X G a4⟩,⟨F5,b5,PySem.W.mg_of X G a5⟩,⟨F6,b6,PySem.W.mg_of X G a6⟩,⟨F7,b7,PySem.W.mg_of X G a7⟩,⟨F8,b8,PySem.W.mg_of X G a8⟩,⟨F9,b9,PySem.W.mg_of X G a9⟩,⟨F10,b10,PySem.W.mg_of X G a10⟩,⟨F11,b11,PySem.W.mg_of X G a11⟩,⟨F12,b12,PySem.W.mg_of X G a12⟩,⟨F13,b13,PySem.W.mg_of X G a13⟩,⟨F14,b14,PySem.W.mg_of X G a14⟩,⟨F15,b15,PySem.W.mg_of X G a15⟩,⟨F16,b16,PySem.W.mg_of X G a16⟩,⟨F17,b17,PySem.W.mg_of X G a17⟩,⟨F18,b18,PySem.W.mg_of X G a18⟩,⟨F19,b19,PySem.W.mg_of X G a19⟩,⟨F20,b20,PySem.W.mg_of X G a20⟩,⟨F21,b21,PySem.W.mg_of X G a21⟩,⟨F22,b22,PySem.W.mg_of X G a22⟩,⟨F23,b23,PySem.W.mg_of X G a23⟩,⟨F24,b24,PySem.W.mg_of X G a24⟩,⟨F25,b25,PySem.W.mg_of X G a25⟩,⟨F26,b26,PySem.W.mg_of X G a26⟩,⟨F27,b27,PySem.W.mg_of X G a27⟩,⟨F28,b28,PySem.W.mg_of X G a28⟩,⟨F29,b29,PySem.W.mg_of X G a29⟩,⟨F30,b30,PySem.W.mg_of X G a30⟩,⟨F31,b31,PySem.W.mg_of X G a31⟩,⟨F32,b32,PySem.W.mg_of X G a32⟩,⟨F33,b33,PySem.W.mg_of X G a33⟩,⟨F34,b34,PySem.W.mg_of X G a34⟩,⟨F35,b35,PySem.W.mg_of X G a35⟩,⟨F36,b36,PySem.W.mg_of X G a36⟩,⟨F37,b37,PySem.W.mg_of X G a37⟩,⟨F38,b38,PySem.W.mg_of X G a38⟩,⟨F39,b39,PySem.W.mg_of X G a39⟩,⟨F40,b40,PySem.W.mg_of X G a40⟩,⟨F41,b41,PySem.W.mg_of X G a41⟩,F42,b42,⟨mk0Branch,a42,fn42,kp0Branch⟩,F43,b43,⟨mk0Reader,a43,fn43,kp0Reader⟩,F44,b44,⟨a44,fn44,F44.kp⟩,F45,b45,⟨a45,fn45,F45.kp⟩,F46,b46,⟨a46,fn46,F46.kp⟩,F47,b47,⟨a47,fn47,F47.kp⟩,F48,b48,⟨a48,fn48,F48.kp⟩,F49,b49,⟨a49,fn49,F49.kp⟩,F50,b50,⟨a50,fn50,F50.kp⟩,F51,b51,⟨a51,fn51,F51.kp⟩,F52,b52,⟨a52,fn52,F52.kp⟩,F53,b53,⟨a53,fn53,F53.kp⟩,F54,b54,⟨a54,fn54,F54.kp⟩,F55,b55,⟨a55,fn55,F55.kp⟩,F56,b56,⟨a56,fn56,F56.kp⟩,F57,b57,⟨a57,fn57,F57.kp⟩,F58,b58,⟨a58,fn58,F58.kp⟩,F59,b59,⟨a59,fn59,F59.kp⟩,PySem.W.mg_of X G uWALL_SORTS,fun _=>.inr ⟨_,_,_,wWALL_SORTS,rfl,rfl,by rw[sizeLine_eq];show 2<=_;decide,(.cons ⟨_,rfl⟩ (.cons ⟨_,rfl⟩ .nil))⟩,⟨PySem.W.mg_of X G uLONGEST_NAME,⟨_,rfl⟩⟩,⟨PySem.W.mg_of X G uNAME,⟨_,rfl⟩⟩,⟨PySem.W.mg_of X G uSORT,⟨_,rfl⟩⟩,⟨PySem.W.mg_of X G uHOST,⟨_,rfl⟩⟩,⟨PySem.W.mg_of X G uSHUTS,⟨_,rfl⟩⟩,⟨PySem.W.mg_of X G uBARS,⟨_,rfl⟩⟩,⟨PySem.W.mg_of X G uROOT_NAME,⟨_,rfl⟩⟩,⟨PySem.W.mg_of X G uMOST_OPEN,⟨_,rfl⟩⟩,PySem.W.mg_of X G uTOLD_FOR,fun _=>.inr ⟨_,_,_,wTOLD_FOR,rfl,rfl,by rw[sizeLine_eq];show 2<=_;decide,(.cons ⟨_,rfl⟩ (.cons ⟨_,rfl⟩ .nil))⟩,PySem.W.mg_of X G uESCAPED,fun _=>.inr ⟨_,_,_,wESCAPED,rfl,rfl,by rw[sizeLine_eq];show 2<=_;decide,(.cons ⟨_,rfl⟩ (.cons ⟨_,rfl⟩ .nil))⟩,⟨PySem.W.mg_of X G uSTART,⟨_,rfl⟩⟩,⟨PySem.W.mg_of X G uSTOP,⟨_,rfl⟩⟩,⟨PySem.W.mg_of X G uBLANKS,⟨_,rfl⟩⟩,PySem.W.mg_none_of X G zall,PySem.W.mg_none_of X G zany,PySem.W.mg_none_of X G zenumerate,PySem.W.mg_none_of X G zint,PySem.W.mg_none_of X G zisinstance,PySem.W.mg_none_of X G zlen,PySem.W.mg_none_of X G zrange,PySem.W.mg_none_of X G zreversed,PySem.W.mg_none_of X G zsorted,PySem.W.mg_none_of X G zstr,PySem.W.mg_none_of X G ztuple,PySem.W.mg_none_of X G zzip,PySem.W.mg_of X G eBranch,PySem.W.mg_of X G eReader,⟨pg0Branch,hd0Branch,po0Branch,sa0Branch,ns0Branch,na0Branch0name,na0Branch0place,na0Branch0parts,na0Branch0waiting,pg0Reader,hd0Reader,po0Reader,sa0Reader,ns0Reader,na0Reader0book,na0Reader0branches,na0Reader0mends,na0Reader0laid⟩⟩
 exact⟨_,fun s v=>.of_eq rfl,fun base _ _=>zh2 T⟩
theorem walk{l:PySem.W.OpenLaw}{q:Program}{loose:List Str}{XP:(Str->Option Value)->Heap->Prop}{as:List Addr}{z t:Nat}{d:DefRec}{K:Params->Fg}(hn:l.most=some 63)(hdf:d.params.defaults=[])(hk:∀ P,as=(K P).map (·.1))(h0:0<t) (F:∀ (w:World) (mg:Str->Option Value) (fa:Addr) (h:Heap),(K w.params).In h->h.Ns mainGlobals mg->mg d.name=some (.ref fa) ->
  ∃ fd:FuncData,(∀ (s:Shared) (u:Value),BindsTo s fd ⟨[u],[]⟩ [("_law_script",u)])/\∀ base:Heap,(K w.params).In base->base.Ns mainGlobals mg->E9 l.prog w (K w.params) mg base CX0 26 fa fd ["_law_script"] (wm6 (K w.params))) :
 PySem.W.WalkX q loose XP (PySem.W.X.obsZ as) (PySem.W.X.valZ K z t) l.row.toRowW d [] (fun f vs=>PySem.call f vs) :=
 L2.ys6 (n:=63) (k:=26) (x := "_law_script") (CX:=fun _=>CX0) (sp:=fun w=>wm6 (K w.params)) hn (by decide) hdf ⟨rfl,by decide,by decide,rfl⟩ hk h0 F (fun _ _ a ns hl _ hS=>⟨a,ns,rfl,hS,hl,fun _=>rfl⟩) fun _ _ _ _ _ z=>z
end
end My
open PySem PySem.W PyProof.Rows
local macro_rules | `(tactic| x_go) => `(tactic| (refine' L2.zb9 ?l ?c ?k; (case l => k_is); (case c => k_is); (case k => k_is)))
set_option maxRecDepth 100000 in
set_option maxHeartbeats 0 in
theorem PySem.Challenge.cw_tagmend_k42_tags_that_shut_holds : PySem.Challenge.rw_tagmend_k42_tags_that_shut.Holds := by
 w_on;o_law;z_head;(case hw=>w_witness2)
 k_fill
 refine My.walk (l:=PySem.Challenge.rw_tagmend_k42_tags_that_shut) rfl rfl (fun _=>rfl) (by decide) ?F
 case F =>
  intro w mg fa h KX G hmg
  refine' My.all_mk KX G hmg ?eBranch ?eReader ?a0 ?F0 ?a1 ?F1 ?a2 ?F2 ?a3 ?F3 ?a4 ?F4 ?a5 ?F5 ?a6 ?F6 ?a7 ?F7 ?a8 ?F8 ?a9 ?F9 ?a10 ?F10 ?a11 ?F11 ?a12 ?F12 ?a13 ?F13 ?a14 ?F14 ?a15 ?F15 ?a16 ?F16 ?a17 ?F17 ?a18 ?F18 ?a19 ?F19 ?a20 ?F20 ?a21 ?F21 ?a22 ?F22 ?a23 ?F23 ?a24 ?F24 ?a25 ?F25 ?a26 ?F26 ?a27 ?F27 ?a28 ?F28 ?a29 ?F29 ?a30 ?F30 ?a31 ?F31 ?a32 ?F32 ?a33 ?F33 ?a34 ?F34 ?a35 ?F35 ?a36 ?F36 ?a37 ?F37 ?a38 ?F38 ?a39 ?F39 ?a40 ?F40 ?a41 ?F41 ?a42 ?F42 ?fn42 ?a43 ?F43 ?fn43 ?a44 ?F44 ?fn44 ?a45 ?F45 ?fn45 ?a46 ?F46 ?fn46 ?a47 ?F47 ?fn47 ?a48 ?F48 ?fn48 ?a49 ?F49 ?fn49 ?a50 ?F50 ?fn50 ?a51 ?F51 ?fn51 ?a52 ?F52 ?fn52 ?a53 ?F53 ?fn53 ?a54 ?F54 ?fn54 ?a55 ?F55 ?fn55 ?a56 ?F56 ?fn56 ?a57 ?F57 ?fn57 ?a58 ?F58 ?fn58 ?a59 ?F59 ?fn59 ?uWALL_SORTS ?wWALL_SORTS ?uLONGEST_NAME ?uNAME ?uSORT ?uHOST ?uSHUTS ?uBARS ?uROOT_NAME ?uMOST_OPEN ?uTOLD_FOR ?wTOLD_FOR ?uESCAPED ?wESCAPED ?uSTART ?uSTOP ?uBLANKS ?pg0Branch ?hd0Branch ?po0Branch ?sa0Branch ?ns0Branch ?na0Branch0name ?na0Branch0place ?na0Branch0parts ?na0Branch0waiting ?pg0Reader ?hd0Reader ?po0Reader ?sa0Reader ?ns0Reader ?na0Reader0book ?na0Reader0branches ?na0Reader0mends ?na0Reader0laid ?mk0Branch ?kp0Branch ?mk0Reader ?kp0Reader ?zall ?zany ?zenumerate ?zint ?zisinstance ?zlen ?zrange ?zreversed ?zsorted ?zstr ?ztuple ?zzip
  (case eBranch=>k_is);(case eReader=>k_is);(case a0=>k_is);(case F0=>x_go)
  (case a1=>k_is);(case F1=>x_go);(case a2=>k_is);(case F2=>x_go)
  (case a3=>k_is);(case F3=>x_go);(case a4=>k_is);(case F4=>x_go)
  (case a5=>k_is);(case F5=>x_go);(case a6=>k_is);(case F6=>x_go)
  (case a7=>k_is);(case F7=>x_go);(case a8=>k_is);(case F8=>x_go)
  (case a9=>k_is);(case F9=>x_go);(case a10=>k_is);(case F10=>x_go)
  (case a11=>k_is);(case F11=>x_go);(case a12=>k_is);(case F12=>x_go)
  (case a13=>k_is);(case F13=>x_go);(case a14=>k_is);(case F14=>x_go)
  (case a15=>k_is);(case F15=>x_go);(case a16=>k_is);(case F16=>x_go)
  (case a17=>k_is);(case F17=>x_go);(case a18=>k_is);(case F18=>x_go)
  (case a19=>k_is);(case F19=>x_go);(case a20=>k_is);(case F20=>x_go)
  (case a21=>k_is);(case F21=>x_go);(case a22=>k_is);(case F22=>x_go)
  (case a23=>k_is);(case F23=>x_go);(case a24=>k_is);(case F24=>x_go)
  (case a25=>k_is);(case F25=>x_go);(case a26=>k_is);(case F26=>x_go)
  (case a27=>k_is);(case F27=>x_go);(case a28=>k_is);(case F28=>x_go)
  (case a29=>k_is);(case F29=>x_go);(case a30=>k_is);(case F30=>x_go)
  (case a31=>k_is);(case F31=>x_go);(case a32=>k_is);(case F32=>x_go)
  (case a33=>k_is);(case F33=>x_go);(case a34=>k_is);(case F34=>x_go)
  (case a35=>k_is);(case F35=>x_go);(case a36=>k_is);(case F36=>x_go)
  (case a37=>k_is);(case F37=>x_go);(case a38=>k_is);(case F38=>x_go)
  (case a39=>k_is);(case F39=>x_go);(case a40=>k_is);(case F40=>x_go)
  (case a41=>k_is);(case F41=>x_go);(case a42=>k_is);(case F42=>x_go)
  (case fn42=>k_is);(case a43=>k_is);(case F43=>x_go);(case fn43=>k_is)
  (case a44=>k_is);(case F44=>x_go);(case fn44=>k_is);(case a45=>k_is)
  (case F45=>x_go);(case fn45=>k_is);(case a46=>k_is);(case F46=>x_go)
  (case fn46=>k_is);(case a47=>k_is);(case F47=>x_go);(case fn47=>k_is)
  (case a48=>k_is);(case F48=>x_go);(case fn48=>k_is);(case a49=>k_is)
  (case F49=>x_go);(case fn49=>k_is);(case a50=>k_is);(case F50=>x_go)
  (case fn50=>k_is);(case a51=>k_is);(case F51=>x_go);(case fn51=>k_is)
  (case a52=>k_is);(case F52=>x_go);(case fn52=>k_is);(case a53=>k_is)
  (case F53=>x_go);(case fn53=>k_is);(case a54=>k_is);(case F54=>x_go)
  (case fn54=>k_is);(case a55=>k_is);(case F55=>x_go);(case fn55=>k_is)
  (case a56=>k_is);(case F56=>x_go);(case fn56=>k_is);(case a57=>k_is)
  (case F57=>x_go);(case fn57=>k_is);(case a58=>k_is);(case F58=>x_go)
  (case fn58=>k_is);(case a59=>k_is);(case F59=>x_go);(case fn59=>k_is)
  (case uWALL_SORTS=>k_is);(case wWALL_SORTS=>k_is);(case uLONGEST_NAME=>k_is);(case uNAME=>k_is)
  (case uSORT=>k_is);(case uHOST=>k_is);(case uSHUTS=>k_is);(case uBARS=>k_is)
  (case uROOT_NAME=>k_is);(case uMOST_OPEN=>k_is);(case uTOLD_FOR=>k_is);(case wTOLD_FOR=>k_is)
  (case uESCAPED=>k_is);(case wESCAPED=>k_is);(case uSTART=>k_is);(case uSTOP=>k_is)
  (case uBLANKS=>k_is);(case pg0Branch=>k_is);(case hd0Branch=>k_is);(case po0Branch=>k_is)
  (case sa0Branch=>k_is);(case ns0Branch=>k_is);(case na0Branch0name=>k_is);(case na0Branch0place=>k_is)
  (case na0Branch0parts=>k_is);(case na0Branch0waiting=>k_is);(case pg0Reader=>k_is);(case hd0Reader=>k_is)
  (case po0Reader=>k_is);(case sa0Reader=>k_is);(case ns0Reader=>k_is);(case na0Reader0book=>k_is)
  (case na0Reader0branches=>k_is);(case na0Reader0mends=>k_is);(case na0Reader0laid=>k_is);(case mk0Branch=>k_is)
  (case kp0Branch=>k_is);(case mk0Reader=>k_is);(case kp0Reader=>k_is);(case zall=>k_is)
  (case zany=>k_is);(case zenumerate=>k_is);(case zint=>k_is);(case zisinstance=>k_is)
  (case zlen=>k_is);(case zrange=>k_is);(case zreversed=>k_is);(case zsorted=>k_is)
  (case zstr=>k_is);(case ztuple=>k_is);(case zzip=>k_is)
end
