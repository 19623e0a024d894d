import PyProof.Rows.All
import Wide.All
import OpenK.AllK
import Wide.FinOn
import Lean
import PyProof.EqAt
import PyProof.EqKinds
import PyProof.TupleCall
import PyProof.NeData
import PyProof.Rows.StrJoin2
import PyProof.Rows.SortStr
import PyProof.Rows.SortWalk
import KE.KRevIter
import PyProof.Rows.RuleN_isinstance
import PyProof.StrReplace2
import PyProof.StrWalks
import PyProof.Draws
import PyProof.EnumMake
import PyProof.Rows.StrNews2
import PyProof.StrLawsTight
import PyProof.StrLawsReplace
import PyProof.ConsumeWalk
import PyProof.StrLawsFrom
import PyProof.DictValues
import PyProof.Rows.SumAny
import PyProof.SeqI3
import PyProof.NoPylong
import PyProof.Rows.FStrParts
import PyProof.ListRange
import PyProof.ListStr
import PyProof.DictWalks
import PyProof.DictItemsLoops
import PyProof.FactsAll.dict_itemiterator_1
import PyProof.Rows.RegStrFacts
import KE.KDictList
import KE.KDictOf
import PyProof.AttrMissSeq
import PyProof.TupleIter
import PyProof.StrLawsFirst
import PyProof.ReprHeadsTuple
import PyProof.ReprLen
import PyProof.Rows.StrMul
import PySem.Challenge.RW_tagmend_k43_lists
set_option Elab.async false
set_option hygiene false
set_option linter.all false
set_option compiler.extract_closed false
set_option genSizeOf false
set_option bootstrap.genMatcherCode false
local macro_rules | `(tactic| omega) => `(tactic| lia)
local macro_rules | `(tactic| walk_at "tk") => `(tactic| first | exact Nat.succ_pos _ | assumption | exact L2.Inv.tk ‹_› | omega)
local macro_rules | `(tactic| z_go) => `(tactic| first | exact Nat.le_of_ble_eq_true rfl | simp)
local macro_rules | `(tactic| walk_at "or") => `(tactic| first | exact .inl rfl | exact .inr rfl)
local macro_rules | `(tactic| walk_at "le") => `(tactic| first | decide | omega)
local macro_rules | `(tactic| walk_at "k") => `(tactic| exact ⟨rfl, rfl, rfl, by decide +kernel, rfl, by decide +kernel, by decide +kernel⟩)
local macro_rules | `(tactic| walk_at "n") => `(tactic| (intro _ _ _ _ zh; repeat (first | (obtain ⟨rfl, _⟩ := zh; rfl) | obtain ⟨_, zh⟩ := zh)))
theorem zAu(a:True:=by rfl)(b:True:=by decide)(c:0<1:=by walk_at "tk")(d:True:=by intro _;rfl)(e:True:=by first|exact .inl rfl|exact .inr rfl|assumption):True:=a
def zAr:Lean.Syntax:=zAu._auto_1
def zAd:Lean.Syntax:=zAu._auto_2
def zAt:Lean.Syntax:=zAu._auto_3
def zAi:Lean.Syntax:=zAu._auto_4
def zAf:Lean.Syntax:=zAu._auto_5
theorem PySem.W.Fast.tw348542830198767508 : True := ⟨⟩
theorem PySem.W.Fast.tw8749416695720060608 : True := ⟨⟩
theorem PySem.W.Fast.tw6143204388481932286 : True := ⟨⟩
theorem PySem.W.Fast.tw9475786689123323089 : True := ⟨⟩
theorem PySem.W.Fast.tw800696618698395021 : True := ⟨⟩
theorem PySem.W.Fast.tw11737941218033457388 : True := ⟨⟩
theorem PySem.W.Fast.tw5814240252165800702 : True := ⟨⟩
theorem PySem.W.Fast.tw2697435851018635941 : True := ⟨⟩
theorem PySem.W.Fast.tw6173098489665319066 : True := ⟨⟩
theorem PySem.W.Fast.tw4318667873138536932 : True := ⟨⟩
theorem PySem.W.Fast.tw7457631195391150721 : True := ⟨⟩
theorem PySem.W.Fast.tw13207339994808018398 : True := ⟨⟩
theorem PySem.W.Fast.tw9374224845688567593 : True := ⟨⟩
theorem PySem.W.Fast.tw12746050789532653898 : True := ⟨⟩
theorem PySem.W.Fast.tw10436529404778201848 : True := ⟨⟩
theorem PySem.W.Fast.tw14135609659049595607 : True := ⟨⟩
noncomputable section
abbrev Fg:=PySem.W.Frag
set_option maxRecDepth 100000
namespace L2
open PySem PySem.Spec PyProof.Rows
abbrev Key:=Sum Int Str
def xk6:Key->Value->Bool
 | .inl k,v=>Value.isInt k v
 | .inr x,v=>Value.isStrOf x v
def Aa2(w:World):Key->Int
 | .inl k=>hashInt k
 | .inr x=>hashStr w x
theorem S4:∀ {k:Key} {v:Value},xk6 k v=true->(∃ i t,k=Sum.inl i/\v=Value.int i t)\/(∃ x t,k=Sum.inr x/\v=Value.str x t)
 | .inl i,v,h=>by
   obtain⟨t,e⟩:=Value.isInt_shape (k:=i) (v:=v) h
   exact .inl ⟨i,t,rfl,e⟩
 | .inr x,v,h=>by
   obtain⟨t,e⟩:=Value.isStrOf_shape (x:=x) (v:=v) h
   exact .inr ⟨x,t,rfl,e⟩
theorem yo0(i:Int)(t:Tok):xk6 (.inl i) (.int i t)=true:=by simp[xk6,Value.isInt]
theorem yo1(x:Str)(t:Tok):xk6 (.inr x) (.str x t)=true:=by simp[xk6,Value.isStrOf]
theorem zn3(a b:Int):decide ((Sum.inl a:Key)=Sum.inl b)=(a == b):=by
 by_cases e:a=b
 ·subst e;simp
 ·have h:¬(Sum.inl a:Key)=Sum.inl b:=fun q=>e (Sum.inl.inj q)
  rw[decide_eq_false h]
  exact(beq_eq_false_iff_ne.mpr e).symm
theorem zn4(a b:Str):decide ((Sum.inr a:Key)=Sum.inr b)=decide (a=b):=by
 by_cases e:a=b
 ·subst e;simp
 ·have h:¬(Sum.inr a:Key)=Sum.inr b:=fun q=>e (Sum.inr.inj q)
  rw[decide_eq_false h,decide_eq_false e]
theorem zn5(a:Int)(b:Str):decide ((Sum.inl a:Key)=Sum.inr b)=false:=decide_eq_false (fun q=>nomatch q)
theorem zn6(a:Str)(b:Int):decide ((Sum.inr a:Key)=Sum.inl b)=false:=decide_eq_false (fun q=>nomatch q)
def Y7(prog:Program)(w:World):PySem.KeyKind prog w Key where
 is:=xk6
 hash:=Aa2 w
 inj:=fun v a b ha hb=>by
  rcases S4 ha with⟨i,t,rfl,rfl⟩|⟨x,t,rfl,rfl⟩
  ·rcases S4 hb with⟨j,u,rfl,e⟩|⟨y,u,rfl,e⟩
   ·injection e with e1 _;rw[e1]
   ·exact nomatch e
  ·rcases S4 hb with⟨j,u,rfl,e⟩|⟨y,u,rfl,e⟩
   ·exact nomatch e
   ·injection e with e1 _;rw[e1]
 byValue:=fun k v h=>by
  rcases S4 h with⟨i,t,rfl,rfl⟩|⟨x,t,rfl,rfl⟩ <;> rfl
 pyHash:=fun hv h=>by
  rcases S4 hv with⟨i,t,rfl,rfl⟩|⟨x,t,rfl,rfl⟩
  ·exact wpAny_pyHash_int h
  ·exact wpAny_pyHash_str h
 eqBool:=fun hu hv h=>by
  rcases S4 hu with⟨i,t,rfl,rfl⟩|⟨x,t,rfl,rfl⟩
  ·rcases S4 hv with⟨j,u,rfl,rfl⟩|⟨y,u,rfl,rfl⟩
   ·rw[zn3] at h;exact wpAny_eqBool_int h
   ·rw[zn5] at h;exact SeqAt.EqAt.int_str i t y u _ _ _ _ h
  ·rcases S4 hv with⟨j,u,rfl,rfl⟩|⟨y,u,rfl,rfl⟩
   ·rw[zn6] at h;exact SeqAt.EqAt.str_int x t j u _ _ _ _ h
   ·rw[zn4] at h;exact wpAny_eqBool_str h
 «strs»:=fun k x t v h=>by
  rcases S4 h with⟨i,u,rfl,e⟩|⟨y,u,rfl,e⟩
  ·exact nomatch e
  ·injection e with e1 _
   subst e1
   cases v <;> rfl
theorem xt8(prog:Program)(w:World)(i:Int)(t:Tok):(Y7 prog w).is (.inl i) (.int i t)=true:=yo0 i t
theorem xt9(prog:Program)(w:World)(x:Str)(t:Tok):(Y7 prog w).is (.inr x) (.str x t)=true:=yo1 x t
inductive V where
 | non|bl (b:Bool)|int (i:Int)|str (x:Str)|byt (b:Array UInt8)|flt (b:UInt64)|ref (a:Addr)|ty (n:String)
 deriving DecidableEq
def J8:V->Value->Prop
 | .non,u=>u=Value.none
 | .bl b,u=>u=Value.bool b
 | .int i,u=>∃ t,u=Value.int i t
 | .str x,u=>∃ t,u=Value.str x t
 | .byt b,u=>∃ t,u=Value.bytes b t
 | .flt b,u=>∃ t,u=Value.float b t
 | .ref a,u=>u=Value.ref a
 | .ty n,u=>u=Value.type n
abbrev G0:List V->List Value->Prop:=Paired J8
variable{us:List Value}{xs:List V}
theorem G0.length(r:G0 xs us):xs.length=us.length:=Paired.length r
theorem G0.get:∀ {xs:List V} {us:List Value} {i:Nat} {x:V},G0 xs us->xs[i]?=some x->∃ u,us[i]?=some u/\J8 x u
 | _,_,_,_,.nil,e=>by simp at e
 | _,_,0,_,.cons r _,e=>by simp at e;subst e;exact⟨_,rfl,r⟩
 | _,_,i+1,x,.cons _ t,e=>by
   obtain⟨u,h1,h2⟩:=G0.get (i:=i) (x:=x) t (by simpa using e)
   exact⟨u,by simpa using h1,h2⟩
theorem G0.set{x:V}{u:Value}(r:J8 x u):∀ {xs:List V} {us:List Value} (i:Nat),G0 xs us->G0 (xs.set i x) (us.set i u)
 | _,_,_,.nil=>.nil
 | _,_,0,.cons _ t=>.cons r t
 | _,_,i+1,.cons q t=>.cons q (G0.set r i t)
theorem G0.append:∀ {xs ys:List V} {us ws:List Value},G0 xs us->G0 ys ws->G0 (xs++ys) (us++ws)
 | _,_,_,_,.nil,s=>s
 | _,_,_,_,.cons r t,s=>.cons r (G0.append t s)
theorem G0.take:∀ {xs:List V} {us:List Value} (n:Nat),G0 xs us->G0 (xs.take n) (us.take n)
 | _,_,0,_=>.nil
 | _,_,_+1,.nil=>.nil
 | _,_,n+1,.cons r t=>.cons r (G0.take n t)
theorem G0.drop:∀ {xs:List V} {us:List Value} (n:Nat),G0 xs us->G0 (xs.drop n) (us.drop n)
 | _,_,0,r=>r
 | _,_,_+1,.nil=>.nil
 | _,_,n+1,.cons _ t=>G0.drop n t
def wm9:Option V->Option Value->Prop
 | some v,some u=>J8 v u
 | none,none=>True
 | _,_=>False
def KV{κ:Type}:List (κ×V)->List (κ×Value)->Prop:=Paired fun(p:κ×V) (q:κ×Value)=>p.1=q.1/\J8 p.2 q.2
def kV:Key->V
 | .inl i=>.int i
 | .inr x=>.str x
set_option genInjectivity false in
inductive HO where
 /-- a list -/
 | lst (xs:List V)
 /-- a tuple (never changes) -/
 | tup (xs:List V)
 /-- a dict whose keys are ints and texts;one whose keys are tuples of ints and texts (the empty one is both) -/
 | dK (kvs:List (Key×V))|dT (kvs:List (List Key×V))
 /-- a set of ints: its members,its size -/
 | set (S:Int->Bool) (n:Nat)
 /-- an instance of the class at C,its dict at dx,its attributes -/
 | ins (C dx:Addr) (fs:List (Str×V))
 /-- the dict of the instance at x -/
 | own (x:Addr)
 /-- the dict of an exception -/
 | xd (fs:List (Str×V))
 /-- a bound method,f of x -/
 | met (f x:Addr)
 /-- a range object lo,lo+1,.. below hi -/
 | rng (lo hi:Int)
 /-- a thing that is known to the object (the script;a dict while a loop walks it): read,never written while it is so -/
 | frz (o:Obj) (u:HO)
 /-- a code object's table -/
 | tbl (ps:Array Value)
 /-- any other thing,by what is true of its one object (a def of one's own: SetO a S n:=HO.ext fun h=>..) -/
 | ext (φ:Heap->Prop)
abbrev Hp:=Addr->Option HO
def upd(H:Hp)(a:Addr)(o:HO):Hp:=fun b=>if b=a then some o else H b
variable{H:Hp}{a:Addr}{o:HO}
theorem A5:upd H a o a=some o:=by unfold upd;rw[if_pos rfl]
variable{b:Addr}
theorem B4(h:b≠a):upd H a o b=H b:=by unfold upd;rw[if_neg h]
theorem zu5{u:HO}(h:H a=some o)(h':H b=some u)(d:o≠u):a≠b:=by
 intro e;subst e;rw[h] at h';exact d (Option.some.inj h')
theorem U8(h:H a=some o)(h':H b=none):a≠b:=by
 intro e;subst e;rw[h] at h';cases h'
section
variable(P:Program)(w:World)
def U6(H:Hp)(h:Heap)(a:Addr):HO->Prop
 | .lst xs=>xs.length<=sizeLine/\∃ (its:List Value) (n:Nat),G0 xs its/\h.get? a=some {cls:=.type "list",data:=.seq its.toArray n}
 | .tup xs=>xs.length<=sizeLine/\∃ its:List Value,G0 xs its/\IsTup h a its.toArray
 | .dK kvs=>kvs.length<=sizeLine/\(a == sysModules)=false/\∃ vs,KV kvs vs/\h.DictOf (Y7 P w) a vs
 | .dT kvs=>kvs.length<=sizeLine/\(a == sysModules)=false/\∃ xs:List (List Key×Addr×Value),
  Paired (fun(p:List Key×V) (q:List Key×Addr×Value)=>p.1=q.1/\H q.2.1=some (.tup (p.1.map kV))/\J8 p.2 q.2.2) kvs xs /\
  ∃ o es ep,h.get? a=some o/\o.ExactDict/\o.data=.dict es ep/\es.toList=xs.map (entryOfKey (tupleKind (Y7 P w)))/\(xs.map (·.1)).Nodup
 | .set S n=>h.SetOf (intKind P w) a S n
 | .ins C dx fs=>H dx=some (.own a)/\fs.length<=1000/\dx≠a/\h.get? a=some (PySem.W.instObj C dx) /\
  ∃ mA,h.Ns1 dx mA/\(∀ f,wm9 (fs.lookup f) (mA f))/\PySem.Within mA (fs.map (·.1))
 | .own _=>∃ o,h.get? a=some o
 | .xd fs=>∃ mA,h.Ns1 a mA/\∀ f,wm9 (fs.lookup f) (mA f)
 | .rng lo hi=>∃ t u v,h.get? a=some {cls:=.type "range",data:=.fields #[.int lo t,.int hi u,.int 1 v]}
 | .frz o u=>h.get? a=some o/\U6 H h a u
 | .tbl ps=>h.get? a=some {cls:=.none,data:=.fields ps}
 | .met f x=>h.get? a=some (PySem.W.methodObj (.ref f) (.ref x))
 | .ext φ=>φ h/\(∃ o,h.get? a=some o)/\∀ h1 h2:Heap,φ h1->(∀ o,h1.get? a=some o->h2.get? a=some o)->φ h2
def HOk(H:Hp)(h:Heap):Prop:=∀ a o,H a=some o->U6 P w H h a o
end
variable{H':Hp}{P:Program}{h h':Heap}{w:World}
theorem U6.lt(x:U6 P w H h a o):a<h.objs.size:=by
 cases o with
 | lst xs=>obtain⟨_,_,_,_,e⟩:=x;exact Heap.lt_size e
 | tup xs=>obtain⟨_,_,_,p⟩:=x;exact p.lt
 | dK kvs=>obtain⟨_,_,_,_,o,_,_,e,_⟩:=x;exact Heap.lt_size e
 | dT kvs=>obtain⟨_,_,_,_,o,_,_,e,_⟩:=x;exact Heap.lt_size e
 | set S n=>obtain⟨o,_,_,_,e,_⟩:=x;exact Heap.lt_size e
 | ins C dx fs=>obtain⟨_,_,_,e,_⟩:=x;exact Heap.lt_size e
 | own y=>obtain⟨_,e⟩:=x;exact Heap.lt_size e
 | xd fs=>obtain⟨_,⟨_,_,_,e,_⟩,_⟩:=x;exact Heap.lt_size e
 | rng lo hi=>obtain⟨_,_,_,e⟩:=x;exact Heap.lt_size e
 | frz ob u=>obtain⟨e,_⟩:=x;exact Heap.lt_size e
 | tbl ps=>exact Heap.lt_size (show h.get? a=some _ from x)
 | met f y=>exact Heap.lt_size (show h.get? a=some _ from x)
 | ext φ=>obtain⟨_,⟨_,e⟩,_⟩:=x;exact Heap.lt_size e
theorem Paired.mapP{α β:Type}{F G:α->β->Prop}:∀ {l₁:List α} {l₂:List β},Paired F l₁ l₂->(∀ a b,F a b->G a b)->Paired G l₁ l₂
 | _,_,.nil,_=>.nil
 | _,_,.cons r t,f=>.cons (f _ _ r) (Paired.mapP t f)
theorem U6.stay(x:U6 P w H h a o)(k:∀ b u,(b=a\/H b=some (.own a))->h.get? b=some u->h'.get? b=some u)(ho:∀ b,H b=some (.own a)->H' b=some (.own a))(ht:∀ b xs,H b=some (.tup xs)->H' b=some (.tup xs)):U6 P w H' h' a o:=by
 induction o with
 | lst xs=>obtain⟨z,its,n,r,e⟩:=x;exact⟨z,its,n,r,k _ _ (.inl rfl) e⟩
 | tup xs=>obtain⟨z,its,r,ob,e,c⟩:=x;exact⟨z,its,r,ob,k _ _ (.inl rfl) e,c⟩
 | dK kvs=>obtain⟨z,y,vs,r,ob,es,ep,e,c⟩:=x;exact⟨z,y,vs,r,ob,es,ep,k _ _ (.inl rfl) e,c⟩
 | dT kvs =>
   obtain⟨z,y,xs,r,ob,es,ep,e,c⟩:=x
   exact⟨z,y,xs,Paired.mapP r fun p q z=>⟨z.1,ht _ _ z.2.1,z.2.2⟩,ob,es,ep,k _ _ (.inl rfl) e,c⟩
 | set S n=>obtain⟨ob,es,ep,t,e,c⟩:=x;exact⟨ob,es,ep,t,k _ _ (.inl rfl) e,c⟩
 | ins C dx fs =>
   obtain⟨d,z,ne,e,mA,⟨od,es,ep,e2,c⟩,r⟩:=x
   exact⟨ho _ d,z,ne,k _ _ (.inl rfl) e,mA,⟨od,es,ep,k _ _ (.inr d) e2,c⟩,r⟩
 | own y=>obtain⟨ob,e⟩:=x;exact⟨ob,k _ _ (.inl rfl) e⟩
 | xd fs=>obtain⟨mA,⟨od,es,ep,e,c⟩,r⟩:=x;exact⟨mA,⟨od,es,ep,k _ _ (.inl rfl) e,c⟩,r⟩
 | rng lo hi=>obtain⟨t,u,v,e⟩:=x;exact⟨t,u,v,k _ _ (.inl rfl) e⟩
 | frz ob u ih=>obtain⟨e,q⟩:=x;exact⟨k _ _ (.inl rfl) e,ih q⟩
 | tbl ps =>
   have e:h.get? a=some {cls:=.none,data:=.fields ps}:=x
   show h'.get? a=some {cls:=.none,data:=.fields ps}
   exact k a _ (.inl rfl) e
 | met f y =>
   have e:h.get? a=some (PySem.W.methodObj (.ref f) (.ref y)):=x
   show h'.get? a=some (PySem.W.methodObj (.ref f) (.ref y))
   exact k a _ (.inl rfl) e
 | ext φ=>obtain⟨p,⟨o,e⟩,st⟩:=x;exact⟨st _ _ p fun o q=>k _ _ (.inl rfl) q,⟨o,k _ _ (.inl rfl) e⟩,st⟩
theorem HOk.lt(x:HOk P w H h)(e:H a=some o):a<h.objs.size:=(x a o e).lt
theorem HOk.fresh(x:HOk P w H h)(e:h.objs.size<=a):H a=none:=by
 cases q:H a with
 | none=>rfl
 | some u=>exact absurd (Nat.lt_of_lt_of_le (x.lt q) e) (Nat.lt_irrefl _)
theorem HOk.kept(x:HOk P w H h)(k:∀ b u,h.get? b=some u->h'.get? b=some u):HOk P w H h':=fun a o e =>
 (x a o e).stay (fun b u _ q=>k b u q) (fun _ q=>q) fun _ _ q=>q
theorem HOk.laid(x:HOk P w H h)(k:∀ b u,h.get? b=some u->h'.get? b=some u)(hp:h.objs.size<=a)(new:U6 P w (upd H a o) h' a o):HOk P w (upd H a o) h':=fun b u e=>by
 have hn:=x.fresh hp
 by_cases hb:b=a
 ·subst hb;rw[A5] at e;cases e;exact new
 ·rw[B4 hb] at e
  exact(x b u e).stay (fun c v _ q=>k c v q) (fun c q=>by rw[B4 (U8 q hn)];exact q) fun c xs q=>by rw[B4 (U8 q hn)];exact q
def Rd(H:Hp)(a:Addr)(u:HO):Prop:=H a=some u\/∃ o,H a=some (.frz o u)
theorem Rd.ok{u:HO}(r:Rd H a u)(x:HOk P w H h):U6 P w H h a u:=by
 rcases r with r|⟨o,r⟩
 ·exact x a u r
 ·obtain⟨_,q⟩:=x a _ r
  exact q
def Mut:Option HO->Prop
 | some (.lst _)=>True
 | some (.dK _)=>True
 | some (.dT _)=>True
 | some (.set _ _)=>True
 | some (.ins _ _ _)=>True
 | some (.ext _)=>True
 | some (.xd _)=>True
 | _=>False
section
variable{x e:Addr}{o':HO}
theorem HOk.write(ok:HOk P w H h)(mu:Mut (H x))(he:e=x\/H e=some (.own x))(k:∀ b u,b≠e->h.get? b=some u->h'.get? b=some u)(heo:∃ u,h'.get? e=some u)(new:U6 P w (upd H x o') h' x o'):HOk P w (upd H x o') h':=fun b u q=>by
 have nown:∀ c y,H c=some (.own y)->c≠x:=fun c y r z=>by subst z;rw[r] at mu;exact mu
 have ntup:∀ c xs,H c=some (.tup xs)->c≠x:=fun c xs r z=>by subst z;rw[r] at mu;exact mu
 by_cases hb:b=x
 ·subst hb;rw[A5] at q;cases q;exact new
 ·rw[B4 hb] at q
  by_cases hbe:b=e
  ·have q':H b=some (.own x):=by
    rcases he with z|z
    ·exact absurd (hbe.trans z) hb
    ·rw[hbe];exact z
   rw[q] at q';cases q'
   obtain⟨v,hv⟩:=heo
   exact⟨v,by rw[hbe];exact hv⟩
  ·refine(ok b u q).stay (fun c v hc r=>k c v ?_ r) (fun c r=>by rw[B4 (nown c b r)];exact r) fun c xs r=>by rw[B4 (ntup c xs r)];exact r
   rcases hc with rfl|hc
   ·exact hbe
   ·rintro rfl
    rcases he with z|z
    ·exact nown c b hc z
    ·rw[hc] at z;cases z;exact hb rfl
end
structure Un(fs ex:List Addr)(H H':Hp)(h h':Heap):Prop where
 keep:∀ b o,h.get? b=some o->H b=none->b∉fs->b∉ex->h'.get? b=some o
 slot:∀ b o,h.get? b=some o->H b=none->b∈fs->b∉ex->∃ sl,h'.get? b=some {o with slots:=sl}
 free:∀ b o,h.get? b=some o->H b=none->b∉ex->H' b=none
 there:∀ b o,h.get? b=some o->b∉ex->∃ o',h'.get? b=some o'
 tups:∀ b xs,H b=some (.tup xs)->H' b=some (.tup xs)
 frzs:∀ b o u,H b=some (.frz o u)->H' b=some (.frz o u)
 tbls:∀ b ps,H b=some (.tbl ps)->∃ more,H' b=some (.tbl (ps++more))
variable{H1 H2:Hp}
section
variable{fs fs' ex ex':List Addr}{h1 h2:Heap}{x e:Addr}
theorem Un.any(u:Un fs ex H H1 h h1){ob:Obj}(q:h.get? b=some ob)(n:H b=none)(hx:b∉ex):∃ sl,h1.get? b=some {ob with slots:=sl}:=by
 by_cases hb:b∈fs
 ·exact u.slot b ob q n hb hx
 ·exact⟨ob.slots,u.keep b ob q n hb hx⟩
theorem Un.kept(k:∀ b u,h.get? b=some u->h'.get? b=some u):Un fs ex H H h h' :=
 ⟨fun b ob q _ _ _=>k b ob q,fun b ob q _ _ _=>⟨ob.slots,k b ob q⟩,fun _ _ _ n _=>n,fun b ob q _=>⟨ob,k b ob q⟩,fun _ _ q=>q,fun _ _ _ q=>q,fun _ ps q=>⟨#[],by rw[q];simp⟩⟩
theorem Un.refl:Un fs ex H H h h:=Un.kept fun _ _ q=>q
theorem Un.laid(k:∀ b u,h.get? b=some u->h'.get? b=some u)(hp:h.objs.size<=a)(hn:H a=none):Un fs ex H (upd H a o) h h' where
 keep:=fun b u q _ _ _=>k b u q
 slot:=fun b u q _ _ _=>⟨u.slots,k b u q⟩
 free:=fun b u q n _=>by rw[B4 (Nat.ne_of_lt (Nat.lt_of_lt_of_le (Heap.lt_size q) hp))];exact n
 there:=fun b u q _=>⟨u,k b u q⟩
 tups:=fun b xs q=>by rw[B4 (U8 q hn)];exact q
 frzs:=fun b u xs q=>by rw[B4 (U8 q hn)];exact q
 tbls:=fun b ps q=>⟨#[],by rw[B4 (U8 q hn),q];simp⟩
theorem Un.write(mu:Mut (H x))(he:e=x\/H e=some (.own x))(k:∀ b u,b≠e->h.get? b=some u->h'.get? b=some u)(heo:∃ u,h'.get? e=some u):Un fs ex H (upd H x o) h h':=by
 have hx:∀ b,H b=none->b≠x:=fun b n z=>by subst z;rw[n] at mu;exact mu
 have hb:∀ b,H b=none->b≠e:=fun b n z=>by
  subst z
  rcases he with r|r
  ·exact hx b n r
  ·rw[n] at r;cases r
 have hm:∀ b u,H b=some u->¬Mut (some u)->b≠x:=fun b u q nm z=>by subst z;rw[q] at mu;exact nm mu
 refine⟨fun b u q n _ _=>k b u (hb b n) q,fun b u q n _ _=>⟨u.slots,k b u (hb b n) q⟩,fun b u q n _=>by rw[B4 (hx b n)];exact n,fun b u q _=>?_,
  fun b xs q=>by rw[B4 (hm b _ q fun z=>z)];exact q,fun b u xs q=>by rw[B4 (hm b _ q fun z=>z)];exact q,fun b ps q=>⟨#[],by rw[B4 (hm b _ q fun z=>z),q];simp⟩⟩
 by_cases hbe:b=e
 ·subst hbe;exact heo
 ·exact⟨u,k b u hbe q⟩
end
def trk(h:Heap)(H:Hp):List Addr:=(List.range h.objs.size).filter fun a=>(H a).isSome
def xo0(h:Heap)(H:Hp):Heap:=PySem.W.hideAll h (trk h H)
theorem yo2(h:Heap)(H:Hp):(xo0 h H).objs.size=h.objs.size:=PySem.W.hideAll_size _ _
theorem ys9{o:Obj}(e:h.get? b=some o)(n:H b=none):(xo0 h H).get? b=some o :=
 PySem.W.hideAll_get _ e fun hm=>by
  have q:(H b).isSome=true:=(List.mem_filter.mp hm).2
  rw[n] at q;simp at q
theorem zd8{o:Obj}(e:(xo0 h H).get? b=some o):h.get? b=some o/\H b=none:=by
 have e':h.get? b=some o:=PySem.W.of_hideAll (trk h H) e
 refine⟨e',?_⟩
 cases q:H b with
 | none=>rfl
 | some x =>
   have hm:b∈trk h H:=List.mem_filter.mpr ⟨List.mem_range.mpr (Heap.lt_size e'),by simp[q]⟩
   have z:(xo0 h H).get? b=none:=PySem.W.hideAll_none (trk h H) hm
   rw[z] at e;cases e
structure Mod(K:Fg)(mg:Str->Option Value)(base:Heap):Prop where
 kin:K.In base
 glob:base.Ns mainGlobals mg
 blt:∃ mb,base.Ns builtinsNs mb/\∀ x:Str,x ≠ "__name__"->mb x=bootBuiltins x
 nolimit:base.NoLimit
set_option genInjectivity false in
structure Cx where
 prog:Program
 w:World
 K:Fg
 mg:Str->Option Value
 base:Heap
 A:Around
 N:List Str
 s₀:Shared
 H₀:Hp
 env:Env
 outer:List Env
 stack:List Env
 ex:List Addr
 fn:Str->Bool
 calm:Bool
 pn:List (Addr×Obj)
 xe:Value->Shared->Prop
def frs(l:List Env):List Addr:=l.filterMap (·.frame)
abbrev Cx.fs(X:Cx):List Addr:=frs X.outer
def Vis(sc:Scope)(x:Str):Prop:=sc.names.lookup x=some .local\/sc.names.lookup x=some .cell\/sc.names.lookup x=some .free
def Loc(sc:Scope)(x:Str):Prop:=sc.names.lookup x=some .local\/sc.names.lookup x=some .cell
def Aa3(env:Env)(h:Heap)(m:Str->Option Value)(x:Str)(u:Value):Prop :=
 (env.kindOf x=some .local/\m x=some u)\/((env.kindOf x=some .cell\/env.kindOf x=some .free)/\∃ c,env.cells.lookup x=some c/\h.IsCell c (some u))
structure Cx.Ok(X:Cx):Prop where
 mod:Mod X.K X.mg X.base
 kind:X.env.scope.kind=.function
 glob:X.env.globals=mainGlobals
 blt:X.env.builtins=builtinsNs
 above:X.s₀.heap.objs.size<=X.env.locals
 inj:∀ x y c,X.env.cells.lookup x=some c->X.env.cells.lookup y=some c->x=y
 has:∀ x,(X.env.kindOf x=some .cell\/X.env.kindOf x=some .free)->∃ c,X.env.cells.lookup x=some c
 cab:∀ x c,X.fn x=true->X.env.cells.lookup x=some c->X.s₀.heap.objs.size<=c
 hd:X.calm=true->X.A.handled=none
 frames:X.A.frames=some X.stack
 stk:X.stack=X.outer\/(X.stack=X.env::X.outer/\X.env.frame=some X.env.locals)
 exf:∀ b∈X.ex,b≠X.env.locals/\∀ x c,X.env.cells.lookup x=some c->c≠b
 bs:∀ b o,X.base.get? b=some o->X.s₀.heap.get? b=some o/\X.H₀ b=none
 bsz:X.base.objs.size<=X.s₀.heap.objs.size
 noex:∀ b o,X.base.get? b=some o->b∉X.ex
 exfs:∀ b∈X.ex,b∉X.fs
 funs:X.s₀.heap.FunFrames X.base X.outer
 frf:∀ b∈X.fs,X.H₀ b=none
structure Inv(X:Cx)(pins:List (Addr×Obj))(σ:List (Option V))(H:Hp)(s:Shared):Prop where
 ok:X.Ok
 os:s.os=X.s₀.os
 bare:AllBare s.gens
 base:Un X.fs X.ex X.H₀ H X.s₀.heap s.heap
 loc:∃ m,s.heap.Ns X.env.locals m/\∀ (i:Nat) (x:Str) (v:V),X.N[i]?=some x->σ[i]?=some (some v)->Vis X.env.scope x->∃ u,J8 v u/\Aa3 X.env s.heap m x u
 cell:∀ x c,X.env.cells.lookup x=some c->∃ v,s.heap.IsCell c v
 free:H X.env.locals=none
 freeC:∀ x c,X.env.cells.lookup x=some c->H c=none
 pin:∀ p∈X.pn++pins,s.heap.get? p.1=some p.2/\H p.1=none/\p.1≠X.env.locals/\p.1∉X.fs/\∀ v,p.2.data≠.cell v
 hok:HOk X.prog X.w H s.heap
 len:σ.length=X.N.length
 tk:0<s.toks
variable{X:Cx}{pins:List (Addr×Obj)}{s:Shared}{d':Drawn}{g':Array GenState}{t':Nat}{it:Addr}{N:List Str}{x:Str}{A:Around}{E:Value->Shared->Prop}{M:Model}{u:Value}{v:V}
section
variable{σ:List (Option V)}
theorem Cx.Ok.nofr(ok:X.Ok){o:Obj}(e:X.base.get? b=some o):b∉X.fs:=fun hb=>by
 have:=(ok.funs.mem hb).1
 rw[e] at this;cases this
theorem Inv.bs(I:Inv X pins σ H s):∀ b o,X.base.get? b=some o->s.heap.get? b=some o/\H b=none:=fun b o e =>
 ⟨I.base.keep b o (I.ok.bs b o e).1 (I.ok.bs b o e).2 (I.ok.nofr e) (I.ok.noex b o e),I.base.free b o (I.ok.bs b o e).1 (I.ok.bs b o e).2 (I.ok.noex b o e)⟩
theorem Inv.bk(I:Inv X pins σ H s):∀ b o,X.base.get? b=some o->s.heap.get? b=some o:=fun b o e=>(I.bs b o e).1
theorem Inv.mod(I:Inv X pins σ H s):Mod X.K X.mg X.base:=I.ok.mod
theorem Inv.kIn(I:Inv X pins σ H s):X.K.In s.heap:=I.ok.mod.kin.keeps I.bk
theorem Inv.lt(I:Inv X pins σ H s):X.env.locals<s.heap.objs.size:=let ⟨_,hn,_⟩:=I.loc;hn.lt
theorem Inv.sz(I:Inv X pins σ H s):X.s₀.heap.objs.size<=s.heap.objs.size:=Nat.le_trans I.ok.above (Nat.le_of_lt I.lt)
theorem Inv.nofs(I:Inv X pins σ H s)(h:s.heap.objs.size<=a):a∉X.fs:=fun hb=>by
 obtain⟨_,o,ho,_⟩:=I.ok.funs.mem hb
 exact absurd (Nat.lt_of_lt_of_le (Heap.lt_size ho) (Nat.le_trans I.sz h)) (Nat.lt_irrefl _)
theorem Inv.cne(I:Inv X pins σ H s):∀ x c,X.env.cells.lookup x=some c->c≠X.env.locals:=fun x c e z=>by
 obtain⟨v,o,ho,hd⟩:=I.cell x c e
 obtain⟨m,⟨o',es,ep,ho',hd',_⟩,_⟩:=I.loc
 rw[z,ho'] at ho;cases ho;rw[hd'] at hd;cases hd
theorem Inv.funs(I:Inv X pins σ H s):s.heap.FunFrames X.base X.outer:=by
 have all:∀ (l:List Env),(∀ b∈frs l,b∈X.fs)->X.s₀.heap.FunFrames X.base l->s.heap.FunFrames X.base l:=by
  intro l
  induction l with
  | nil=>intro _ _;trivial
  | cons env r ih =>
    intro hs hl
    obtain⟨hk,⟨L,o,hf,hn,ho,hd⟩,hr⟩:=hl
    have hL:L∈X.fs:=hs L (by unfold frs;rw[List.filterMap_cons,hf];exact List.mem_cons_self)
    obtain⟨sl,e⟩:=I.base.slot L o ho (I.ok.frf L hL) hL fun z=>I.ok.exfs L z hL
    exact⟨hk,⟨L,_,hf,hn,e,hd⟩,ih (fun b hb=>hs b (by unfold frs;rw[List.filterMap_cons,hf];exact List.mem_cons_of_mem _ hb)) hr⟩
 exact all X.outer (fun _ hb=>hb) I.ok.funs
theorem Inv.stack(I:Inv X pins σ H s):s.heap.FunFrames X.base X.stack:=by
 rcases I.ok.stk with e|⟨e,hf⟩
 ·rw[e];exact I.funs
 ·rw[e]
  obtain⟨m,hn,_⟩:=I.loc
  refine .cons (by rw[I.ok.kind];decide) hf hn ?_ I.funs
  exact Heap.get?_none_of_le (Nat.le_trans I.ok.bsz I.ok.above)
theorem Inv.stkSub(I:Inv X pins σ H s):∀ b∈frs X.stack,b∈X.env.locals::X.fs:=fun b hb=>by
 rcases I.ok.stk with e|⟨e,hf⟩
 ·rw[e] at hb;exact List.mem_cons_of_mem _ hb
 ·rw[e] at hb
  unfold frs at hb
  rw[List.filterMap_cons,hf] at hb
  exact hb
theorem Inv.stkFree(I:Inv X pins σ H s):∀ b∈frs X.stack,H b=none:=fun b hb=>by
 rcases List.mem_cons.mp (I.stkSub b hb) with e|hb
 ·rw[e];exact I.free
 ·obtain⟨_,o,ho,_⟩:=I.ok.funs.mem hb
  exact I.base.free b o ho (I.ok.frf b hb) fun z=>I.ok.exfs b z hb
theorem Inv.step{ch:List Addr}(I:Inv X pins σ H s)(hch:∀ b∈ch,(b∈X.ex\/X.s₀.heap.objs.size<=b)/\b≠X.env.locals/\(∀ x c,X.env.cells.lookup x=some c->c≠b)/\∀ p∈X.pn++pins,p.1≠b)(keep:∀ b o,b≠X.env.locals->b∉X.fs->b∉ch->s.heap.get? b=some o->H b=none->h'.get? b=some o)(slot:∀ b o,b≠X.env.locals->b∈X.fs->b∉ch->s.heap.get? b=some o->H b=none->∃ sl,h'.get? b=some {o with slots:=sl})(free:∀ b o,b∉ch->s.heap.get? b=some o->H b=none->H' b=none)(there:∀ b o,b∉ch->s.heap.get? b=some o->∃ o',h'.get? b=some o')(tups:∀ b xs,H b=some (.tup xs)->H' b=some (.tup xs))(frzs:∀ b o u,H b=some (.frz o u)->H' b=some (.frz o u))(tbls:∀ b ps,H b=some (.tbl ps)->∃ more,H' b=some (.tbl (ps++more)))(ns:∀ m,s.heap.Ns X.env.locals m->h'.Ns X.env.locals m)(hok:HOk X.prog X.w H' h')(hg:AllBare g')(ht:autoParam (0<t') zAt) :
 Inv X pins σ H' {s with heap:=h',gens:=g',drawn:=d',toks:=t'}:=by
 have neL:∀ b o,X.s₀.heap.get? b=some o->b≠X.env.locals:=fun b o e=>Nat.ne_of_lt (Nat.lt_of_lt_of_le (Heap.lt_size e) I.ok.above)
 have neC:∀ b o,X.s₀.heap.get? b=some o->b∉X.ex->b∉ch:=fun b o e hx hb=>by
  rcases(hch b hb).1 with z|z
  ·exact hx z
  ·exact absurd (Nat.lt_of_lt_of_le (Heap.lt_size e) z) (Nat.lt_irrefl _)
 have cellK:∀ x c,X.env.cells.lookup x=some c->∀ v,s.heap.IsCell c v->h'.IsCell c v:=fun x c e v ⟨o,ho,hd⟩=>by
  have nch:c∉ch:=fun z=>(hch c z).2.2.1 x c e rfl
  by_cases hc:c∈X.fs
  ·obtain⟨sl,q⟩:=slot c o (I.cne x c e) hc nch ho (I.freeC x c e)
   exact⟨_,q,hd⟩
  ·exact⟨o,keep c o (I.cne x c e) hc nch ho (I.freeC x c e),hd⟩
 refine⟨I.ok,I.os,hg,⟨fun b o e n hb hx=>?_,fun b o e n hb hx=>?_,fun b o e n hx=>?_,fun b o e hx=>?_,fun b xs e=>tups b xs (I.base.tups b xs e),fun b o xs e=>frzs b o xs (I.base.frzs b o xs e),fun b ps e=>?_⟩,?_,fun x c e=>?_,?_,fun x c e=>?_,fun p hp=>?_,hok,I.len,ht⟩
 ·exact keep b o (neL b o e) hb (neC b o e hx) (I.base.keep b o e n hb hx) (I.base.free b o e n hx)
 ·obtain⟨sl,e1⟩:=I.base.slot b o e n hb hx
  obtain⟨sl',e2⟩:=slot b _ (neL b o e) hb (neC b o e hx) e1 (I.base.free b o e n hx)
  exact⟨sl',e2⟩
 ·obtain⟨o',e1⟩:=I.base.there b o e hx
  exact free b o' (neC b o e hx) e1 (I.base.free b o e n hx)
 ·obtain⟨o',e1⟩:=I.base.there b o e hx
  exact there b o' (neC b o e hx) e1
 ·obtain⟨m1,e1⟩:=I.base.tbls b ps e
  obtain⟨m2,e2⟩:=tbls b _ e1
  exact⟨m1++m2,by rw[e2,Array.append_assoc]⟩
 ·obtain⟨m,hn,hl⟩:=I.loc
  refine⟨m,ns m hn,fun i x v e1 e2 e3=>?_⟩
  obtain⟨u,r,l⟩:=hl i x v e1 e2 e3
  refine⟨u,r,?_⟩
  rcases l with l|⟨k,c,e,z⟩
  ·exact .inl l
  ·exact .inr ⟨k,c,e,cellK x c e _ z⟩
 ·obtain⟨v,z⟩:=I.cell x c e
  exact⟨v,cellK x c e v z⟩
 ·obtain⟨m,⟨o,_,_,ho,_⟩,_⟩:=I.loc
  exact free _ o (fun z=>(hch _ z).2.1 rfl) ho I.free
 ·obtain⟨v,o,ho,hd⟩:=I.cell x c e
  exact free c o (fun z=>(hch c z).2.2.1 x c e rfl) ho (I.freeC x c e)
 ·obtain⟨e,n,ne,nf,d⟩:=I.pin p hp
  have nch:p.1∉ch:=fun z=>(hch p.1 z).2.2.2 p hp rfl
  exact⟨keep p.1 p.2 ne nf nch e n,free p.1 p.2 nch e n,ne,nf,d⟩
theorem Inv.un(I:Inv X pins σ H s)(u:Un X.fs [] H H' s.heap h')(hok:HOk X.prog X.w H' h')(ht:autoParam (0<t') zAt):Inv X pins σ H' {s with heap:=h',toks:=t'}:=by
 obtain⟨m,⟨o,es,ep,ho,r⟩,_⟩:=id I.loc
 obtain⟨sl,hL⟩:=u.any ho I.free (by simp)
 exact I.step (g':=s.gens) (d':=s.drawn) (ch:=[]) (fun _ z=>nomatch z) (fun b o _ hb _ e n=>u.keep b o e n hb (by simp)) (fun b o _ hb _ e n=>u.slot b o e n hb (by simp)) (fun b o _ e n=>u.free b o e n (by simp)) (fun b o _ e=>u.there b o e (by simp)) u.tups u.frzs u.tbls (fun m' hm=>by
  obtain⟨o',es',ep',ho',r'⟩:=hm
  rw[ho] at ho';cases ho'
  exact⟨_,es',ep',hL,r'⟩) hok I.bare
theorem Inv.call{ch:List Addr}(I:Inv X pins σ H s)(u:Un (frs X.stack) ch H H' s.heap h')(hok:HOk X.prog X.w H' h')(hg:AllBare g')(hch:∀ b∈ch,(b∈X.ex\/X.s₀.heap.objs.size<=b)/\b≠X.env.locals/\(∀ x c,X.env.cells.lookup x=some c->c≠b)/\∀ p∈X.pn++pins,p.1≠b)(ht:autoParam (0<t') zAt) :
 Inv X pins σ H' {s with heap:=h',gens:=g',drawn:=d',toks:=t'}:=by
 obtain⟨m,⟨o,es,ep,ho,r⟩,_⟩:=id I.loc
 obtain⟨sl,hL⟩:=u.any ho I.free fun z=>(hch _ z).2.1 rfl
 exact I.step (ch:=ch) hch (fun b o hL hb hc e n=>u.keep b o e n (fun z=>(List.mem_cons.mp (I.stkSub b z)).elim hL hb) hc) (fun b o _ _ hc e n=>u.any e n hc) (fun b o hc e n=>u.free b o e n hc) (fun b o hc e=>u.there b o e hc) u.tups u.frzs u.tbls (fun m' hm=>by
  obtain⟨o',es',ep',ho',r'⟩:=hm
  rw[ho] at ho';cases ho'
  exact⟨_,es',ep',hL,r'⟩) hok hg
theorem Inv.turned(I:Inv X pins σ H s)(k:∀ b o,b≠it->s.heap.get? b=some o->h'.get? b=some o)(hn:H it=none)(hL:it≠X.env.locals)(h1:it∈X.ex\/X.s₀.heap.objs.size<=it)(h2:∀ x c,X.env.cells.lookup x=some c->c≠it)(h3:∀ p∈X.pn++pins,p.1≠it)(ht:autoParam (0<t') zAt):Inv X pins σ H {s with heap:=h',toks:=t'}:=by
 have nit:∀ b u,H b=some u->b≠it:=fun b u e z=>by rw[z,hn] at e;cases e
 refine I.step (g':=s.gens) (d':=s.drawn) (ch:=[it]) (fun b hb=>?_) (fun b o _ _ hc e _=>k b o (fun z=>hc (by simp[z])) e) (fun b o _ _ hc e _=>⟨o.slots,k b o (fun z=>hc (by simp[z])) e⟩) (fun _ _ _ _ n=>n)
  (fun b o hc e=>⟨o,k b o (fun z=>hc (by simp[z])) e⟩) (fun _ _ e=>e) (fun _ _ _ e=>e) (fun b ps e=>⟨#[],by rw[e];simp⟩) (fun m hm=>?_) (fun b u e=>?_) I.bare
 ·have e:b=it:=by simpa using hb
  subst e
  exact⟨h1,hL,h2,h3⟩
 ·obtain⟨o,es,ep,ho,r⟩:=hm
  exact⟨o,es,ep,k _ o (Ne.symm hL) ho,r⟩
 ·refine(I.hok b u e).stay (fun c v hc q=>k c v ?_ q) (fun _ q=>q) fun _ _ q=>q
  rcases hc with z|z
  ·rw[z];exact nit b u e
  ·exact nit c _ z
theorem Inv.tok(I:Inv X pins σ H s)(t':Nat)(ht:autoParam (0<t') zAt):Inv X pins σ H {s with toks:=t'}:=I.un (h':=s.heap) (t':=t') Un.refl I.hok
theorem Inv.kept(I:Inv X pins σ H s)(k:∀ b u,s.heap.get? b=some u->h'.get? b=some u)(ht:autoParam (0<t') zAt):Inv X pins σ H {s with heap:=h',toks:=t'}:=I.un (Un.kept k) (I.hok.kept k)
theorem Inv.laid(I:Inv X pins σ H s)(k:∀ b u,s.heap.get? b=some u->h'.get? b=some u)(hp:s.heap.objs.size<=a)(new:U6 X.prog X.w (upd H a o) h' a o)(ht:autoParam (0<t') zAt) :
 Inv X pins σ (upd H a o) {s with heap:=h',toks:=t'}:=I.un (Un.laid k hp (I.hok.fresh hp)) (I.hok.laid k hp new)
theorem Inv.write{x e:Addr}(I:Inv X pins σ H s)(mu:Mut (H x))(he:e=x\/H e=some (.own x))(k:∀ b u,b≠e->s.heap.get? b=some u->h'.get? b=some u)(heo:∃ u,h'.get? e=some u)(new:U6 X.prog X.w (upd H x o) h' x o)(ht:autoParam (0<t') zAt):Inv X pins σ (upd H x o) {s with heap:=h',toks:=t'}:=I.un (Un.write mu he k heo) (I.hok.write mu he k heo new)
theorem Inv.weak{σ':List (Option V)}(I:Inv X pins σ H s)(hl:σ'.length=σ.length)(w:∀ (i:Nat) v,σ'[i]?=some (some v)->σ[i]?=some (some v)):Inv X pins σ' H s :=
 ⟨I.ok,I.os,I.bare,I.base,let ⟨m,hn,hl'⟩:=I.loc;⟨m,hn,fun i x v e1 e2 e3=>hl' i x v e1 (w i v e2) e3⟩,I.cell,I.free,I.freeC,I.pin,I.hok,hl.trans I.len,I.tk⟩
theorem Inv.pins_of{pins':List (Addr×Obj)}(I:Inv X pins σ H s)(h:∀ p∈pins',s.heap.get? p.1=some p.2/\H p.1=none/\p.1≠X.env.locals/\p.1∉X.fs/\∀ v,p.2.data≠.cell v):Inv X pins' σ H s :=
 ⟨I.ok,I.os,I.bare,I.base,I.loc,I.cell,I.free,I.freeC,fun p hp=>(List.mem_append.mp hp).elim (fun z=>I.pin p (List.mem_append_left _ z)) (h p),I.hok,I.len,I.tk⟩
theorem xu0(hN:N.Nodup){i j:Nat}(a:N[i]?=some x)(b:N[j]?=some x):i=j:=by
 obtain⟨h1,e1⟩:=List.getElem?_eq_some_iff.mp a
 obtain⟨h2,e2⟩:=List.getElem?_eq_some_iff.mp b
 exact(List.getElem_inj hN).mp (e1.trans e2.symm)
theorem xk7{i:Nat}{Q:Unit->Shared->Prop}(I:Inv X pins σ H s)(hN:X.N.Nodup)(hi:X.N[i]?=some x)(hx:Loc X.env.scope x)(r:J8 v u)(h:∀ s',Inv X pins (σ.set i (some v)) H s'->(∃ a,Heap.SameBut a s.heap s'.heap/\(a=X.env.locals\/X.env.cells.lookup x=some a))->Q () s')(hf:autoParam (X.fn x=true\/X.env.scope.names.lookup x=some .local) zAf):wpAny M A (storeName X.env x u) Q E s:=by
 obtain⟨m,hn,hl⟩:=id I.loc
 have hcls:(X.env.scope.kind == .class || (X.env.scope.kind == .module && X.env.locals != X.env.globals))=false:=by rw[I.ok.kind];rfl
 have hiσ:i<σ.length:=by rw[I.len];exact(List.getElem?_eq_some_iff.mp hi).1
 have cne:=I.cne
 have tracked:∀ {a:Addr} {h':Heap},(∃ o,s.heap.get? a=some o/\H a=none)->Heap.SameBut a s.heap h'->HOk X.prog X.w H h':=fun{a h'} ha hs b ob e=>by
  obtain⟨_,_,hfree⟩:=ha
  refine(I.hok b ob e).stay (fun c w' hc q=>(hs.2 c ?_).trans q) (fun _ q=>q) fun _ _ q=>q
  rintro rfl
  rcases hc with rfl|hc
  ·rw[hfree] at e;cases e
  ·rw[hfree] at hc;cases hc
 rcases hx with hk|hk
 ·refine wpAny_storeName_local hk hn (fun h' hn' hs=>?_) hcls
  obtain⟨oL,_,_,hoL,_⟩:=id hn
  refine h _ ⟨I.ok,I.os,I.bare,⟨fun b o e n hb hx=>?_,fun b o e n hb hx=>?_,I.base.free,fun b o e hx=>?_,I.base.tups,I.base.frzs,I.base.tbls⟩,⟨_,hn',fun j y v' e1 e2 e3=>?_⟩,fun y c e=>?_,I.free,I.freeC,fun p hp=>?_,tracked ⟨oL,hoL,I.free⟩ hs,by simpa using I.len,by first|exact I.tk|exact Nat.succ_pos _⟩ ⟨_,hs,.inl rfl⟩
  ·exact(hs.2 b (Nat.ne_of_lt (Nat.lt_of_lt_of_le (Heap.lt_size e) I.ok.above))).trans (I.base.keep b o e n hb hx)
  ·obtain⟨sl,e1⟩:=I.base.slot b o e n hb hx
   exact⟨sl,(hs.2 b (Nat.ne_of_lt (Nat.lt_of_lt_of_le (Heap.lt_size e) I.ok.above))).trans e1⟩
  ·obtain⟨o',e1⟩:=I.base.there b o e hx
   exact⟨o',(hs.2 b (Nat.ne_of_lt (Nat.lt_of_lt_of_le (Heap.lt_size e) I.ok.above))).trans e1⟩
  ·by_cases hj:j=i
   ·subst hj
    rw[hi] at e1;cases e1
    rw[List.getElem?_set_self hiσ] at e2
    cases e2
    exact⟨u,r,.inl ⟨hk,by simp⟩⟩
   ·rw[List.getElem?_set_ne (Ne.symm hj)] at e2
    obtain⟨u',r',q⟩:=hl j y v' e1 e2 e3
    refine⟨u',r',?_⟩
    rcases q with⟨k,e⟩|⟨k,c,e,z⟩
    ·refine .inl ⟨k,?_⟩
     have:y≠x:=fun e=>hj (xu0 hN e1 (e▸hi))
     simp[this,e]
    ·exact .inr ⟨k,c,e,z.sameBut hs (cne y c e)⟩
  ·obtain⟨w',z⟩:=I.cell y c e
   exact⟨w',z.sameBut hs (cne y c e)⟩
  ·obtain⟨e,n,ne,nf,d⟩:=I.pin p hp
   exact⟨(hs.2 p.1 ne).trans e,n,ne,nf,d⟩
 ·have hfn:X.fn x=true:=by
   rcases hf with z|z
   ·exact z
   ·rw[z] at hk;cases hk
  obtain⟨c,hc⟩:=I.ok.has x (.inl hk)
  obtain⟨w',z⟩:=I.cell x c hc
  refine wpAny_storeName_cell I.ok.kind hk hc z (fun h' hc' hs=>?_)
  obtain⟨oc,hoc,hocd⟩:=id z
  refine h {s with heap:=h'} ⟨I.ok,I.os,I.bare,⟨fun b o e n hb hx=>?_,fun b o e n hb hx=>?_,I.base.free,fun b o e hx=>?_,I.base.tups,I.base.frzs,I.base.tbls⟩,⟨m,hn.sameBut hs (Ne.symm (cne x c hc)),fun j y v' e1 e2 e3=>?_⟩,fun y c' e=>?_,I.free,I.freeC,fun p hp=>?_,tracked ⟨oc,hoc,I.freeC x c hc⟩ hs,by simpa using I.len,by first|exact I.tk|exact Nat.succ_pos _⟩ ⟨c,hs,.inr hc⟩
  ·exact(hs.2 b (Nat.ne_of_lt (Nat.lt_of_lt_of_le (Heap.lt_size e) (I.ok.cab x c hfn hc)))).trans (I.base.keep b o e n hb hx)
  ·obtain⟨sl,e1⟩:=I.base.slot b o e n hb hx
   exact⟨sl,(hs.2 b (Nat.ne_of_lt (Nat.lt_of_lt_of_le (Heap.lt_size e) (I.ok.cab x c hfn hc)))).trans e1⟩
  ·obtain⟨o',e1⟩:=I.base.there b o e hx
   exact⟨o',(hs.2 b (Nat.ne_of_lt (Nat.lt_of_lt_of_le (Heap.lt_size e) (I.ok.cab x c hfn hc)))).trans e1⟩
  ·by_cases hj:j=i
   ·subst hj
    rw[hi] at e1;cases e1
    rw[List.getElem?_set_self hiσ] at e2
    cases e2
    exact⟨u,r,.inr ⟨.inl hk,c,hc,hc'⟩⟩
   ·rw[List.getElem?_set_ne (Ne.symm hj)] at e2
    obtain⟨u',r',q⟩:=hl j y v' e1 e2 e3
    refine⟨u',r',?_⟩
    rcases q with q|⟨k,c',e,z'⟩
    ·exact .inl q
    ·refine .inr ⟨k,c',e,z'.sameBut hs ?_⟩
     rintro rfl
     exact hj (xu0 hN e1 (I.ok.inj _ _ _ e hc▸hi))
  ·by_cases hcc:c'=c
   ·subst hcc;exact⟨_,hc'⟩
   ·obtain⟨w2,z2⟩:=I.cell y c' e
    exact⟨w2,z2.sameBut hs hcc⟩
  ·obtain⟨e,n,ne,nf,d⟩:=I.pin p hp
   refine⟨(hs.2 p.1 ?_).trans e,n,ne,nf,d⟩
   intro q
   rw[q,hoc] at e
   have q':oc=p.2:=Option.some.inj e
   exact d w' (by rw[<-q'];exact hocd)
theorem xu1{i:Nat}{Q:Unit->Shared->Prop}(I:Inv X pins σ H s)(hN:X.N.Nodup)(hi:X.N[i]?=some x)(hx:Loc X.env.scope x)(r:J8 v u)(h:∀ s',Inv X pins (σ.set i (some v)) H s'->Q () s')(hf:autoParam (X.fn x=true\/X.env.scope.names.lookup x=some .local) zAf):wpAny M A (storeName X.env x u) Q E s :=
 xk7 I hN hi hx r (fun s' I' _=>h s' I') hf
end
abbrev XK:=Value->Option Addr->Hp->Prop
abbrev St:=List (Option V)
abbrev VK:=V->Hp->Prop
abbrev TE:=St->Hp->VK->Prop
abbrev TT:=St->Hp->(Bool->Hp->Prop)->Prop
abbrev TA:=St->Hp->(List V->Hp->Prop)->Prop
set_option genInjectivity false in
structure qb6 where
 nx:St->Hp->Prop
 rt:VK
 bk:St->Hp->Prop:=fun _ _=>False
 ct:St->Hp->Prop:=fun _ _=>False
abbrev TS:=qb6->St->Hp->Prop
def EP(X:Cx)(pins:List (Addr×Obj))(σ:St)(Q:VK)(u:Value)(s':Shared):Prop:=∃ v H',Inv X pins σ H' s'/\J8 v u/\Q v H'
def TP(X:Cx)(pins:List (Addr×Obj))(σ:St)(Q:Bool->Hp->Prop)(b:Bool)(s':Shared):Prop:=∃ H',Inv X pins σ H' s'/\Q b H'
def AP(X:Cx)(pins:List (Addr×Obj))(σ:St)(Q:List V->Hp->Prop)(us:List Value)(s':Shared):Prop:=∃ vs H',Inv X pins σ H' s'/\G0 vs us/\Q vs H'
def SP(X:Cx)(pins:List (Addr×Obj))(D:qb6)(f:Flow)(s':Shared):Prop :=
 match f with
 | .next=>∃ σ' H',Inv X pins σ' H' s'/\D.nx σ' H'
 | .brk=>∃ σ' H',Inv X pins σ' H' s'/\D.bk σ' H'
 | .cont=>∃ σ' H',Inv X pins σ' H' s'/\D.ct σ' H'
 | .ret u=>∃ v σ' H',Inv X pins σ' H' s'/\J8 v u/\D.rt v H'
def PE(X:Cx)(e:Expr)(t:TE):Prop :=
 ∀ (pins:List (Addr×Obj)) (s:Shared) (σ:St) (H:Hp) (Q:VK),Inv X pins σ H s->t σ H Q->wpAny (model X.prog X.w) X.A (eval e X.env) (EP X pins σ Q) X.xe s
def PT(X:Cx)(e:Expr)(t:TT):Prop :=
 ∀ (pins:List (Addr×Obj)) (s:Shared) (σ:St) (H:Hp) (Q:Bool->Hp->Prop),Inv X pins σ H s->t σ H Q->wpAny (model X.prog X.w) X.A (isTrue e X.env (eval e X.env)) (TP X pins σ Q) X.xe s
def PW(X:Cx)(e:Expr)(t:TT):Prop :=
 ∀ (whole:Sem Value) (pins:List (Addr×Obj)) (s:Shared) (σ:St) (H:Hp) (Q:Bool->Hp->Prop),Inv X pins σ H s->t σ H Q->wpAny (model X.prog X.w) X.A (isTrue e X.env whole) (TP X pins σ Q) X.xe s
variable{e:Expr}
theorem PW.pt{t:TT}(h:PW X e t):PT X e t:=h _
def PA(X:Cx)(es:List Expr)(t:TA):Prop :=
 ∀ (pos:Pos) (pins:List (Addr×Obj)) (s:Shared) (σ:St) (H:Hp) (Q:List V->Hp->Prop),Inv X pins σ H s->t σ H Q->wpAny (model X.prog X.w) X.A (spliced (backTo pos (starEach es X.env))) (AP X pins σ Q) X.xe s
def PS(X:Cx)(st:Stmt)(t:TS):Prop :=
 ∀ (pins:List (Addr×Obj)) (s:Shared) (σ:St) (H:Hp) (D:qb6),Inv X pins σ H s->t D σ H->wpAny (model X.prog X.w) X.A (exec st X.env) (SP X pins D) X.xe s
def PSs(X:Cx)(st:List Stmt)(t:TS):Prop :=
 ∀ (pins:List (Addr×Obj)) (s:Shared) (σ:St) (H:Hp) (D:qb6),Inv X pins σ H s->t D σ H->wpAny (model X.prog X.w) X.A (execs st X.env) (SP X pins D) X.xe s
variable{α:Type}
theorem thn{t:Sem α}{Q Q':α->Shared->Prop}(h:wpAny M A t Q E s)(hQ:∀ a s,Q a s->Q' a s):wpAny M A t Q' E s:=wpAny_mono h hQ fun _ _ x=>x
variable{pos:Pos}{Q:Value->Shared->Prop}{σ:St}{ta:TE}{c:Expr}
section
def A2(i:Nat):TE:=fun σ H Q=>∃ v,σ[i]?=some (some v)/\Q v H
def tC(v:V):TE:=fun _ H Q=>Q v H
theorem zn7{i:Nat}(hN:X.N[i]?=some x)(hv:Vis X.env.scope x)(hd:autoParam ((x == ("__debug__":Str))=false) zAd)(hcd:autoParam ((x == ("__classdict__":Str))=false) zAd):PE X (.Name x pos) (A2 i):=by
 intro pins s σ H Q I h
 obtain⟨v,e,h⟩:=h
 obtain⟨m,hn,hl⟩:=I.loc
 obtain⟨u,r,l⟩:=hl i x v hN e hv
 have fin:EP X pins σ Q u s:=⟨v,H,I,r,h⟩
 rcases l with⟨hk,hm⟩|⟨hk,c,hc,hcell⟩
 ·exact wpAny_Name (wpAny_loadName_local I.ok.kind hk hn hm fin) hd
 ·rcases hk with hk|hk
  ·exact wpAny_Name (wpAny_loadName_cell I.ok.kind hk hc hcell fin) hd
  ·exact wpAny_Name (wpAny_loadName_free I.ok.kind hk hc hcell fin hcd) hd
theorem B0{i j pos}:PE X (.Constant (.int i) j pos) (tC (.int i)):=fun _ _ _ H _ I h=>wpAny_Constant_int ⟨.int i,H,I.tok _,⟨_,rfl⟩,h⟩
theorem xu2{b j pos}:PE X (.Constant (.bool b) j pos) (tC (.bl b)):=fun _ _ _ H _ I h=>Constant_bool ⟨.bl b,H,I,rfl,h⟩
theorem U0{j pos}:PE X (.Constant .none j pos) (tC .non):=fun _ _ _ H _ I h=>Constant_none ⟨.non,H,I,rfl,h⟩
theorem C0{x j pos}:PE X (.Constant (.str x) j pos) (tC (.str x)):=fun _ _ _ H _ I h=>Calls.Constant_str ⟨.str x,H,I.tok _,⟨_,rfl⟩,h⟩
def Gl(X:Cx)(x:Str):Prop:=X.env.kindOf x=some .globalImplicit
theorem xo1(I:Inv X pins σ H s)(hg:Gl X x)(hm:X.mg x=some u)(h:Q u s)(hd:autoParam ((x == ("__debug__":Str))=false) zAd):wpAny (model X.prog X.w) X.A (eval (.Name x pos) X.env) Q E s :=
 Calls.Name_function_global I.ok.kind hg (Calls.loadGlobal_global (by rw[I.ok.glob];exact I.mod.glob.keeps I.bk) hm h) hd
theorem qy1(I:Inv X pins σ H s)(hg:Gl X x)(hm:X.mg x=none)(hv:bootBuiltins x=some u)(h:Q u s)(hn:autoParam (x ≠ "__name__") zAd)(hd:autoParam ((x == ("__debug__":Str))=false) zAd):wpAny (model X.prog X.w) X.A (eval (.Name x pos) X.env) Q E s:=by
 obtain⟨mb,h1,h2⟩:=I.mod.blt
 exact Calls.Name_function_global I.ok.kind hg (Calls.loadGlobal_builtin (by rw[I.ok.glob];exact I.mod.glob.keeps I.bk) hm (by rw[I.ok.blt];exact h1.keeps I.bk) ((h2 x hn).trans hv) h) hd
theorem M1(hg:Gl X x)(hm:X.mg x=some u)(r:J8 v u)(hd:autoParam ((x == ("__debug__":Str))=false) zAd):PE X (.Name x pos) (tC v) :=
 fun _ _ _ H _ I h=>xo1 I hg hm ⟨v,H,I,r,h⟩ hd
theorem xo2(hg:Gl X x)(hm:X.mg x=none)(hv:bootBuiltins x=some u)(r:J8 v u)(hn:autoParam (x ≠ "__name__") zAd)(hd:autoParam ((x == ("__debug__":Str))=false) zAd):PE X (.Name x pos) (tC v) :=
 fun _ _ _ H _ I h=>qy1 I hg hm hv ⟨v,H,I,r,h⟩ hn hd
variable{a b:Expr}{tb:TE}
def tB(t:TE):TT:=fun σ H Q=>t σ H fun x H1=>∃ c,x=.bl c/\Q c H1
theorem V9{t:TE}(h:PE X e t)(he:autoParam (∀ whole,isTrue e X.env whole=(do let v<-whole;standAt e.pos;holding [v] (truthy v))) zAi):PT X e (tB t):=by
 intro pins s σ H Q I hw
 refine isTrue_plain (thn (h pins s σ H _ I hw) fun v s1 zq=>?_) (he _)
 obtain⟨x,H1,I1,r1,q1⟩:=zq
 obtain⟨d,rfl,q⟩:=q1
 cases r1
 exact wpAny_truthy_bool ⟨H1,I1,q⟩
variable{tA tB':TT}{rest:List Expr}
def wn0(t u:TT):TT:=fun σ H Q=>t σ H fun c H1=>if c=true then u σ H1 Q else Q false H1
def tOr(t u:TT):TT:=fun σ H Q=>t σ H fun c H1=>if c=true then Q true H1 else u σ H1 Q
def yo3(t:TT):TT:=fun σ H Q=>t σ H fun c H1=>Q (!c) H1
theorem qn4(ha:PT X a tA):PW X (.BoolOp .And [a] pos) tA:=by
 intro wh pins s σ H Q I h
 refine isTrue_and (thn (ha pins s σ H Q I h) fun c s1 e=>?_)
 cases c with
 | true=>exact isTrue_and_nil e
 | false=>exact e
theorem yb3(ha:PT X a tA):PW X (.BoolOp .Or [a] pos) tA:=by
 intro wh pins s σ H Q I h
 refine isTrue_or (thn (ha pins s σ H Q I h) fun c s1 e=>?_)
 cases c with
 | false=>exact isTrue_or_nil e
 | true=>exact e
theorem qp4(ha:PT X a tA)(hb:PW X (.BoolOp .And (b::rest) pos) tB'):PW X (.BoolOp .And (a::b::rest) pos) (wn0 tA tB'):=by
 intro wh pins s σ H Q I h
 refine isTrue_and (thn (ha pins s σ H _ I h) fun c s1 zq=>?_)
 obtain⟨H1,I1,q1⟩:=zq
 cases c with
 | true=>exact hb wh pins s1 σ H1 Q I1 q1
 | false=>exact⟨H1,I1,q1⟩
theorem yt0(ha:PT X a tA)(hb:PW X (.BoolOp .Or (b::rest) pos) tB'):PW X (.BoolOp .Or (a::b::rest) pos) (tOr tA tB'):=by
 intro wh pins s σ H Q I h
 refine isTrue_or (thn (ha pins s σ H _ I h) fun c s1 zq=>?_)
 obtain⟨H1,I1,q1⟩:=zq
 cases c with
 | true=>exact⟨H1,I1,q1⟩
 | false=>exact hb wh pins s1 σ H1 Q I1 q1
theorem xo3(ha:PT X a tA):PT X (.UnaryOp .Not a pos) (yo3 tA):=by
 intro pins s σ H Q I h
 exact isTrue_not (ha pins s σ H (fun c H1=>Q (!c) H1) I h)
def xu3(ta tb:TE):TE:=fun σ H Q=>ta σ H fun x H1=>∃ c,x=.bl c/\if c=true then tb σ H1 Q else Q (.bl false) H1
def yh9(ta:TE):TE:=fun σ H Q=>ta σ H fun x H1=>∃ c,x=.bl c/\Q (.bl (!c)) H1
theorem yb4{op}{t:TE}(h:PE X a t):PE X (.BoolOp op [a] pos) t:=fun pins s σ H Q I hw=>BoolOp_one (h pins s σ H Q I hw)
theorem yb5(ha:PE X a ta)(hb:PE X (.BoolOp .And (b::rest) pos) tb):PE X (.BoolOp .And (a::b::rest) pos) (xu3 ta tb):=by
 intro pins s σ H Q I h
 refine BoolOp_and (thn (ha pins s σ H _ I h) fun v s1 zq=>?_)
 obtain⟨x,H1,I1,r1,q1⟩:=zq
 obtain⟨c,rfl,q1⟩:=q1
 cases r1
 refine wpAny_truthy_bool ?_
 cases c with
 | true=>exact hb pins s1 σ H1 Q I1 q1
 | false=>exact⟨.bl false,H1,I1,rfl,q1⟩
theorem yt1(ha:PE X a ta):PE X (.UnaryOp .Not a pos) (yh9 ta):=by
 intro pins s σ H Q I h
 refine UnaryOp_ (thn (ha pins s σ H _ I h) fun v s1 zq=>?_)
 obtain⟨x,H1,I1,r1,q1⟩:=zq
 obtain⟨c,rfl,q1⟩:=q1
 cases r1
 exact not_of (wpAny_truthy_bool ⟨.bl (!c),H1,I1,rfl,q1⟩)
def tIf(t:TT)(ta tb:TE):TE:=fun σ H Q=>t σ H fun c H1=>if c=true then ta σ H1 Q else tb σ H1 Q
theorem qp5(hc:PT X c tA)(ha:PE X a ta)(hb:PE X b tb):PE X (.IfExp c a b pos) (tIf tA ta tb):=by
 intro pins s σ H Q I h
 refine wpAny_IfExp (thn (hc pins s σ H _ I h) fun d s1 zq=>?_)
 obtain⟨H1,I1,q1⟩:=zq
 cases d with
 | true=>exact ha pins s1 σ H1 Q I1 q1
 | false=>exact hb pins s1 σ H1 Q I1 q1
end
def SqL(K:Fg)(H:Hp)(a:Addr)(xs:List V):Prop :=
 Rd H a (.lst xs) \/
  ∃ (o:Obj) (its:Array Value) (n:Nat),K.lookup a=some o/\o.cls=.type "list"/\o.dict=none/\o.data=.seq its n/\its.size<=sizeLine/\G0 xs its.toList
def SqT(K:Fg)(H:Hp)(a:Addr)(xs:List V):Prop :=
 Rd H a (.tup xs) \/
  ∃ (o:Obj) (its:Array Value) (n:Nat),K.lookup a=some o/\o.cls=.type "tuple"/\o.data=.seq its n/\its.size<=sizeLine/\G0 xs its.toList
def Aa4:Value->Option V
 | .none=>some .non
 | .bool b=>some (.bl b)
 | .int i _=>some (.int i)
 | .str x _=>some (.str x)
 | .bytes b _=>some (.byt b)
 | .float b _=>some (.flt b)
 | .ref a=>some (.ref a)
 | .type n=>some (.ty n)
 | _=>none
theorem J8.abs{x:V}(r:J8 x u):Aa4 u=some x:=by
 cases x with
 | non=>cases r;rfl
 | bl _=>cases r;rfl
 | int _=>obtain⟨t,rfl⟩:=r;rfl
 | str _=>obtain⟨t,rfl⟩:=r;rfl
 | byt _=>obtain⟨t,rfl⟩:=r;rfl
 | flt _=>obtain⟨t,rfl⟩:=r;rfl
 | ref _=>cases r;rfl
 | ty _=>cases r;rfl
variable{y:V}
theorem J8.inj{x:V}(r:J8 x u)(q:J8 y u):x=y:=Option.some.inj (r.abs.symm.trans q.abs)
theorem G0.inj{xs ys:List V}{us:List Value}(h:G0 xs us):G0 ys us->xs=ys:=by
 induction h generalizing ys with
 | nil=>intro k;cases k;rfl
 | cons r t ih=>intro k;cases k with|cons r' t'=>rw[r.inj r',ih t']
variable{ys:List V}
variable{K:Fg}
theorem SqL.of(h:H a=some (.lst xs)):SqL K H a xs:=.inl (.inl h)
theorem SqT.of(h:H a=some (.tup xs)):SqT K H a xs:=.inl (.inl h)
theorem Inv.list(I:Inv X pins σ H s)(h:SqL X.K H a xs):∃ its:List Value,G0 xs its/\PlainL s.heap a its.toArray/\xs.length<=sizeLine:=by
 rcases h with h|⟨o,its,n,hk,hc,hd,hs,hz,r⟩
 ·obtain⟨z,its,n,r,e⟩:=h.ok I.hok
  exact⟨its,r,⟨_,n,e,rfl,rfl,rfl⟩,z⟩
 ·refine⟨its.toList,r,⟨o,n,I.kIn a o hk,hc,hd,by simpa using hs⟩,?_⟩
  have e:=r.length
  simp only[Array.length_toList] at e
  omega
theorem Inv.tuple(I:Inv X pins σ H s)(h:SqT X.K H a xs):∃ its:List Value,G0 xs its/\IsTup s.heap a its.toArray/\xs.length<=sizeLine:=by
 rcases h with h|⟨o,its,n,hk,hc,hs,hz,r⟩
 ·obtain⟨z,its,r,p⟩:=h.ok I.hok
  exact⟨its,r,p,z⟩
 ·refine⟨its.toList,r,⟨o,I.kIn a o hk,hc,n,by simpa using hs⟩,?_⟩
  have e:=r.length
  simp only[Array.length_toList] at e
  omega
theorem Inv.list_inj(I:Inv X pins σ H s)(h:SqL X.K H a xs)(h':SqL X.K H a ys):xs=ys:=by
 obtain⟨its,r,⟨o,n,e,_,_,d⟩,_⟩:=I.list h
 obtain⟨its',r',⟨o',n',e',_,_,d'⟩,_⟩:=I.list h'
 rw[e] at e';cases e'
 rw[d] at d'
 injection d' with d1 _
 have:its=its':=by simpa using congrArg Array.toList d1
 subst this
 exact r.inj r'
theorem Inv.tuple_inj(I:Inv X pins σ H s)(h:SqT X.K H a xs)(h':SqT X.K H a ys):xs=ys:=by
 obtain⟨its,r,⟨o,e,_,n,d⟩,_⟩:=I.tuple h
 obtain⟨its',r',⟨o',e',_,n',d'⟩,_⟩:=I.tuple h'
 rw[e] at e';cases e'
 rw[d] at d'
 injection d' with d1 _
 have:its=its':=by simpa using congrArg Array.toList d1
 subst this
 exact r.inj r'
abbrev Cx.wish(X:Cx)(E:Value->Shared->Prop):Cx:={X with xe:=E}
abbrev Cx.nox(X:Cx):Cx:=X.wish fun _ _=>False
theorem Cx.Ok.wish(ok:X.Ok)(E:Value->Shared->Prop):(X.wish E).Ok :=
 ⟨ok.mod,ok.kind,ok.glob,ok.blt,ok.above,ok.inj,ok.has,ok.cab,ok.hd,ok.frames,ok.stk,ok.exf,ok.bs,ok.bsz,ok.noex,ok.exfs,ok.funs,ok.frf⟩
theorem Cx.Ok.unwish(ok:(X.wish E).Ok):X.Ok :=
 ⟨ok.mod,ok.kind,ok.glob,ok.blt,ok.above,ok.inj,ok.has,ok.cab,ok.hd,ok.frames,ok.stk,ok.exf,ok.bs,ok.bsz,ok.noex,ok.exfs,ok.funs,ok.frf⟩
theorem Inv.wish(I:Inv X pins σ H s)(E:Value->Shared->Prop):Inv (X.wish E) pins σ H s:=⟨I.ok.wish E,I.os,I.bare,I.base,I.loc,I.cell,I.free,I.freeC,I.pin,I.hok,I.len,I.tk⟩
theorem Inv.unwish(I:Inv (X.wish E) pins σ H s):Inv X pins σ H s:=⟨I.ok.unwish,I.os,I.bare,I.base,I.loc,I.cell,I.free,I.freeC,I.pin,I.hok,I.len,I.tk⟩
theorem SP.unwish{D:qb6}{f:Flow}{s':Shared}(h:SP (X.wish E) pins D f s'):SP X pins D f s':=by
 cases f with
 | next=>obtain⟨σ',H',I,q⟩:=h;exact⟨σ',H',I.unwish,q⟩
 | brk=>obtain⟨σ',H',I,q⟩:=h;exact⟨σ',H',I.unwish,q⟩
 | cont=>obtain⟨σ',H',I,q⟩:=h;exact⟨σ',H',I.unwish,q⟩
 | ret u=>obtain⟨v,σ',H',I,r,q⟩:=h;exact⟨v,σ',H',I.unwish,r,q⟩
theorem PSs.nox{st:List Stmt}{t:TS}(h:PSs X.nox st t):PSs X st t:=fun pins s σ H D I hw =>
 wpAny_mono (h pins s σ H D (I.wish _) hw) (fun _ _ q=>q.unwish) fun _ _ z=>False.elim z
variable{st:Stmt}{te:TE}
section
variable{rest:List Stmt}{t u:TS}
def M7:TS:=fun D σ H=>D.nx σ H
def C1(t u:TS):TS:=fun D σ H=>t {D with nx:=u D} σ H
theorem E1:PSs X [] M7:=fun _ _ σ H _ I h=>wpAny_execs_nil ⟨σ,H,I,h⟩
theorem A6(h1:PS X st t)(h2:PSs X rest u):PSs X (st::rest) (C1 t u):=by
 intro pins s σ H D I h
 refine wpAny_execs_cons (thn (h1 pins s σ H {D with nx:=u D} I h) fun f s1 q=>?_)
 cases f with
 | next =>
   obtain⟨σ',H',I',q⟩:=q
   exact h2 pins s1 σ' H' D I' q
 | ret v=>exact q
 | brk=>exact q
 | cont=>exact q
theorem A8(h1:PS X st t):PSs X [st] t:=by
 intro pins s σ H D I h
 refine wpAny_execs_cons (thn (h1 pins s σ H D I h) fun f s1 q=>?_)
 cases f with
 | next=>exact wpAny_execs_nil q
 | ret v=>exact q
 | brk=>exact q
 | cont=>exact q
def yb6:TS:=fun D σ H=>D.bk σ H
theorem yt2:PS X (.Break pos) yb6:=fun _ _ σ H _ I h=>wpAny_Break ⟨σ,H,I,h⟩
theorem Inv.quiet(I:Inv X pins σ H s):interactive X.env=false:=by simp[interactive,I.ok.kind]
def I9(te:TE):TS:=fun D σ H=>te σ H fun _ H1=>D.nx σ H1
theorem C7(he:PE X e te)(hs:autoParam (swapsWith e none pos.line X.env=pure false) zAr):PS X (.Expr e pos) (I9 te):=by
 intro pins s σ H D I h
 exact wpAny_Expr_any (thn (he pins s σ H _ I h) fun v s1 ⟨x,H1,I1,r1,q1⟩=>⟨σ,H1,I1,q1⟩) I.quiet hs
def M3(te:TE):TS:=fun D σ H=>te σ H D.rt
theorem C6(he:PE X e te):PS X (.Return (some e) pos) (M3 te):=by
 intro pins s σ H D I h
 exact wpAny_Return_some (thn (he pins s σ H _ I h) fun v s1 ⟨x,H1,I1,r1,q1⟩=>⟨x,σ,H1,I1,r1,q1⟩)
def yi0:TS:=fun D _ H=>D.rt .non H
theorem yi1:PS X (.Return none pos) yi0:=fun _ _ σ H _ I h=>wpAny_Return_none ⟨.non,σ,H,I,rfl,h⟩
def P7(c:TT)(t u:TS):TS:=fun D σ H=>c σ H fun b H1=>if b=true then t D σ H1 else u D σ H1
theorem L4{a b:List Stmt}{tc:TT}(hc:PT X c tc)(ha:PSs X a t)(hb:PSs X b u):PS X (.If c a b pos) (P7 tc t u):=by
 intro pins s σ H D I h
 refine wpAny_If (thn (hc pins s σ H _ I h) fun d s1 zq=>?_)
 obtain⟨H1,I1,q1⟩:=zq
 cases d with
 | true=>exact ha pins s1 σ H1 D I1 q1
 | false=>exact hb pins s1 σ H1 D I1 q1
end
abbrev TG:=V->St->Hp->(St->Hp->Prop)->Prop
abbrev TGs:=List V->St->Hp->(St->Hp->Prop)->Prop
def PG(X:Cx)(target:Expr)(t:TG):Prop :=
 ∀ (pins:List (Addr×Obj)) (s:Shared) (σ:St) (H:Hp) (v:V) (u:Value) (Q:St->Hp->Prop),Inv X pins σ H s->J8 v u->t v σ H Q ->
  wpAny (model X.prog X.w) X.A (assign target X.env u) (fun _ s'=>∃ σ' H',Inv X pins σ' H' s'/\Q σ' H') X.xe s
def PGs(X:Cx)(ts:List Expr)(t:TGs):Prop :=
 ∀ (pins:List (Addr×Obj)) (s:Shared) (σ:St) (H:Hp) (vs:List V) (us:List Value) (Q:St->Hp->Prop),Inv X pins σ H s->G0 vs us->t vs σ H Q ->
  wpAny (model X.prog X.w) X.A (assignInOrder ((assignEach ts X.env).map (·.2)) us) (fun _ s'=>∃ σ' H',Inv X pins σ' H' s'/\Q σ' H') X.xe s
abbrev yt3:=V->V->V->Hp->(Hp->Prop)->Prop
def zn8(X:Cx)(t:yt3):Prop :=
 ∀ (pins:List (Addr×Obj)) (s:Shared) (σ:St) (H:Hp) (o i v:V) (ov iv u:Value) (Q:Hp->Prop),Inv X pins σ H s->J8 o ov->J8 i iv->J8 v u->t o i v H Q ->
  wpAny (model X.prog X.w) X.A (setItem ov iv u) (fun _ s'=>∃ H',Inv X pins σ H' s'/\Q H') X.xe s
def B2(i:Nat):TG:=fun v σ H Q=>Q (σ.set i (some v)) H
theorem J0{i:Nat}(hN:X.N.Nodup)(hi:X.N[i]?=some x)(hx:Loc X.env.scope x)(hf:autoParam (X.fn x=true\/X.env.scope.names.lookup x=some .local) zAf):PG X (.Name x pos) (B2 i):=by
 intro pins s σ H v u Q I r h
 exact wpAny_assign_Name (xu1 I hN hi hx r (fun s' I'=>⟨_,H,I',h⟩) hf)
def yo4:TGs:=fun vs σ H Q=>vs=[]/\Q σ H
def wa8(t:TG)(u:TGs):TGs:=fun vs σ H Q=>∃ v r,vs=v::r/\t v σ H fun σ' H'=>u r σ' H' Q
theorem wz4:PGs X [] yo4:=by
 intro pins s σ H vs us Q I r h
 obtain⟨e,h⟩:=h
 subst e
 cases r
 exact assignInOrder_nil ⟨σ,H,I,h⟩
variable{es:List Expr}
theorem qc4{t:TG}{u:TGs}(h1:PG X e t)(h2:PGs X es u)(hs:autoParam ((assignEach (e::es) X.env).map (·.2)=assign e X.env::(assignEach es X.env).map (·.2)) zAr):PGs X (e::es) (wa8 t u):=by
 intro pins s σ H vs us Q I r h
 obtain⟨v,vr,e1,h⟩:=h
 subst e1
 cases r with
 | cons r rr =>
   rw[hs]
   refine assignInOrder_cons (thn (h1 pins s σ H _ _ _ I r h) fun _ s1 zq=>?_)
   obtain⟨σ1,H1,I1,q1⟩:=zq
   exact h2 pins s1 σ1 H1 _ _ Q I1 rr q1
def yo5(K:Fg)(n:Nat)(t:TGs):TG:=fun v σ H Q=>∃ a xs,v=.ref a/\SqT K H a xs/\xs.length=n/\t xs σ H Q
variable{k n:Nat}
theorem xo4{t:TGs}(hc:X.calm=true)(h:PGs X es t)(hn:autoParam ((assignEach es X.env).length=n) zAr)(hst:autoParam ((assignEach es X.env).findIdx? (·.1)=none) zAr):PG X (.Tuple es k pos) (yo5 X.K n t):=by
 intro pins s σ H v u Q I r hw
 obtain⟨a,xs,e1,hq,hl,hw⟩:=hw
 subst e1
 cases r
 obtain⟨its,rv,ht,hz⟩:=I.tuple hq
 refine assign_Tuple_tuple (I.ok.hd hc) ht (by simp[hn,<-hl,rv.length]) hst fun h' hx=>?_
 have I1:Inv X pins σ H {s with heap:=h'}:=I.kept (t':=s.toks) fun b o e=>hx b o (Nat.ne_of_lt (Heap.lt_size e)) e
 exact h pins _ σ H xs _ Q I1 (by simpa using rv) hw
def yt4(to ti:TE)(t:yt3):TG:=fun v σ H Q=>to σ H fun o H1=>ti σ H1 fun i H2=>t o i v H2 fun H3=>Q σ H3
variable{ti to:TE}
theorem yb7{o i:Expr}{t:yt3}(ho:PE X o to)(hi:PE X i ti)(hs:zn8 X t) (ha:∀ v,assign (.Subscript o i pos) X.env v=(do
  let ov<-holding [v] (eval o X.env)
  let iv<-holding [v,ov] (eval i X.env)
  standAt pos
  holding [v,ov,iv] (setItem ov iv v)
  release [v,ov,iv] []):=by intro _;rfl):PG X (.Subscript o i pos) (yt4 to ti t):=by
 intro pins s σ H v u Q I r h
 rw[ha]
 refine wpAny_bind (wpAny_holding (thn (ho pins s σ H _ I h) fun ov s1 zq=>?_))
 obtain⟨x,H1,I1,r1,q1⟩:=zq
 refine wpAny_bind (wpAny_holding (thn (hi pins s1 σ H1 _ I1 q1) fun iv s2 zq=>?_))
 obtain⟨y,H2,I2,r2,q2⟩:=zq
 refine wpAny_bind (wpAny_standAt (wpAny_bind (wpAny_holding (thn (hs pins s2 σ H2 x y v ov iv u _ I2 r1 r2 r q2) fun _ s3 zq=>?_))))
 obtain⟨H3,I3,q3⟩:=zq
 exact wpAny_release ⟨σ,H3,I3,q3⟩
def E3(te:TE)(g:TG):TS:=fun D σ H=>te σ H fun x H1=>g x σ H1 D.nx
variable{g:TG}
theorem yb8{tg:Expr}(he:PE X e te)(hg:PG X tg g)(hs:autoParam (swapsWithSole [tg] e pos.line X.env=pure false) zAr)(hw:autoParam (swappedStores [tg] e X.env=pure none) zAr)(h1:autoParam ((assignEach [tg] X.env).map (·.2)=[assign tg X.env]) zAr):PS X (.Assign [tg] e pos) (E3 te g):=by
 intro pins s σ H D I h
 refine wpAny_Assign_stores (thn (he pins s σ H _ I h) fun v s1 zq=>?_) hs hw
 obtain⟨x,H1,I1,r1,q1⟩:=zq
 rw[h1]
 exact thn (hg pins s1 σ H1 x v _ I1 r1 q1) fun _ s2 q=>q
variable{pos':Pos}
theorem qf2{i:Nat}(hN:X.N.Nodup)(hi:X.N[i]?=some x)(hx:Loc X.env.scope x)(he:PE X e te)(hs:autoParam (swapsWith e (some (.Name x pos')) pos.line X.env=pure false) zAr)(hf:autoParam (X.fn x=true\/X.env.scope.names.lookup x=some .local) zAf) :
 PS X (.Assign [.Name x pos'] e pos) (E3 te (B2 i)):=by
 intro pins s σ H D I h
 refine wpAny_Assign_Name (thn (he pins s σ H _ I h) fun v s1 zq=>?_) hs
 obtain⟨y,H1,I1,r1,q1⟩:=zq
 exact xu1 I1 hN hi hx r1 (fun s2 I2=>⟨_,H1,I2,q1⟩) hf
def wc9(c:TT)(tb:TS):TS:=fun D σ H=>∃ W:Nat->St->Hp->Prop,(∃ m,W m σ H)/\∀ m σ H,W m σ H ->
 c σ H fun b H1=>if b=true then ∃ N:St->Hp->Prop,(∀ σ' H',N σ' H'->∃ m',m'<m/\W m' σ' H')/\tb {D with nx:=N,ct:=N,bk:=D.nx} σ H1 else D.nx σ H1
variable{body:List Stmt}{tb:TS}
theorem wn1{tc:TT}(hp:PassesOwn (model X.prog X.w) X.A X.env X.xe)(hc:PT X c tc)(hb:PSs X body tb):PS X (.While c body [] pos) (wc9 tc tb):=by
 intro pins s σ H D I h
 obtain⟨W,⟨m0,w0⟩,turn⟩:=h
 refine wpAny_While (codeAny_whileLoop (fun n s'=>∃ σ' H',Inv X pins σ' H' s'/\W n σ' H') ?_ m0 ⟨σ,H,I,w0⟩)
 rintro n s1 ⟨σ1,H1,I1,w1⟩
 refine wpAny_passesOwn hp (thn (hc pins s1 σ1 H1 _ I1 (turn n σ1 H1 w1)) fun b s2 zq=>?_)
 obtain⟨H2,I2,q2⟩:=zq
 cases b with
 | true =>
   obtain⟨N,hN,q2⟩:=q2
   rw[if_pos rfl]
   refine wpAny_passesOwn hp (thn (hb pins s2 σ1 H2 _ I2 q2) fun f s3 q3=>?_)
   cases f with
   | next =>
     obtain⟨σ3,H3,I3,n3⟩:=q3
     obtain⟨m',hm,w3⟩:=hN σ3 H3 n3
     exact⟨m',hm,σ3,H3,I3,w3⟩
   | cont =>
     obtain⟨σ3,H3,I3,n3⟩:=q3
     obtain⟨m',hm,w3⟩:=hN σ3 H3 n3
     exact⟨m',hm,σ3,H3,I3,w3⟩
   | brk=>exact q3
   | ret v=>exact q3
 | false =>
   rw[if_neg Bool.false_ne_true]
   exact wpAny_execs_nil ⟨σ1,H2,I2,q2⟩
set_option genInjectivity false in
structure It where
 go:Nat->Hp->Prop
 yld:Nat->Hp->V->Hp->Prop
 stop:Nat->Hp->Prop
def xi1(X:Cx)(pins:List (Addr×Obj))(H:Hp)(b:Addr):Prop :=
 H b=none/\b≠X.env.locals/\b∉X.fs/\(b∈X.ex\/X.s₀.heap.objs.size<=b)/\(∀ x c,X.env.cells.lookup x=some c->c≠b)/\∀ p∈X.pn++pins,p.1≠b
theorem Inv.fpOk(I:Inv X pins σ H s)(hb:s.heap.objs.size<=b)(hn:H' b=none):xi1 X pins H' b:=by
 refine⟨hn,Nat.ne_of_gt (Nat.lt_of_lt_of_le I.lt hb),I.nofs hb,.inr (Nat.le_trans I.sz hb),fun x c e z=>?_,fun p hp z=>?_⟩
 ·obtain⟨v,q⟩:=I.cell x c e
  exact absurd (Nat.lt_of_lt_of_le q.lt (by rw[z];exact hb)) (Nat.lt_irrefl _)
 ·exact absurd (Nat.lt_of_lt_of_le (Heap.lt_size (I.pin p hp).1) (by rw[z];exact hb)) (Nat.lt_irrefl _)
structure xa7(P:Program)(w:World)(K:Fg)(tg:Expr)(J:It)(fp:List Addr)(it:Addr)(tn:Nat->Heap->Prop):Prop where
 mem:it∈fp
 obj:∀ i h,tn i h->∀ b∈fp,∃ o,h.get? b=some o/\∀ v,o.data≠.cell v
 keep:∀ i h h',tn i h->(∀ b∈fp,∀ o,h.get? b=some o->h'.get? b=some o)->tn i h'
 item:∀ (X:Cx),X.prog=P->X.w=w->X.K=K->X.calm=true->∀ (i:Nat) (pins:List (Addr×Obj)) (s:Shared) (σ:St) (H:Hp) (E:Value->Shared->Prop),Inv X pins σ H s->(∀ b∈fp,xi1 X pins H b)->tn i s.heap->J.go i H ->
  wpAny (model P w) X.A (pyNext (.ref it)) (fun r s1=>∃ u,r=some u /\
   wpAny (model P w) X.A (letOwnedTupleGo tg (.ref it) u) (fun _ s2=>∃ x H',Inv X pins σ H' s2/\J8 x u/\J.yld i H x H'/\tn (i+1) s2.heap/\∀ b∈fp,H' b=none) E s1) E s
 done:∀ (X:Cx),X.prog=P->X.w=w->X.K=K->X.calm=true->∀ (i:Nat) (pins:List (Addr×Obj)) (s:Shared) (σ:St) (H:Hp) (E:Value->Shared->Prop),Inv X pins σ H s->(∀ b∈fp,xi1 X pins H b)->tn i s.heap->J.stop i H ->
  wpAny (model P w) X.A (pyNext (.ref it)) (fun r s1=>r=none/\Inv X pins σ H s1) E s
 self:∀ (A:Around) (i:Nat) (s:Shared) (Q:Value->Shared->Prop) (E:Value->Shared->Prop),tn i s.heap->Q (.ref it) s->wpAny (model P w) A (pyIter (.ref it)) Q E s
abbrev TI:=St->Hp->(It->Hp->Prop)->Prop
def PIE(X:Cx)(pins:List (Addr×Obj))(σ:St)(tg:Expr)(R:It->Hp->Prop)(itv:Value)(s2:Shared):Prop :=
 ∃ (it:Addr) (fp:List Addr) (tn:Nat->Heap->Prop) (J:It) (H':Hp),itv=.ref it/\Inv X pins σ H' s2/\xa7 X.prog X.w X.K tg J fp it tn/\tn 0 s2.heap/\(∀ b∈fp,xi1 X pins H' b)/\R J H'
def PI(X:Cx)(tg iter:Expr)(wi:TI):Prop :=
 ∀ (pins:List (Addr×Obj)) (s:Shared) (σ:St) (H:Hp) (R:It->Hp->Prop),Inv X pins σ H s->wi σ H R ->
  wpAny (model X.prog X.w) X.A (eval iter X.env) (fun v s1=>wpAny (model X.prog X.w) X.A (pyIter v) (PIE X pins σ tg R) X.xe s1) X.xe s
theorem xk8{tg:Expr}{o:Obj}{n:String}{vs:Array Value}{Q:Unit->Shared->Prop}(ho:s.heap.get? it=some o)(hc:o.cls=.type n)(hd:o.data=.fields vs)(hn:["enumerate","zip","dict_itemiterator","dict_reverseitemiterator","odict_iterator","itertools.zip_longest","itertools.pairwise"].contains n=false)(hQ:Q () s):wpAny M A (letOwnedTupleGo tg (.ref it) u) Q E s:=by
 unfold letOwnedTupleGo
 cases tg <;> first
  | exact wpAny_pure hQ
  | (cases u <;> first
   | exact wpAny_pure hQ
   | (refine wpAny_bind (wpAny_load ho ?_)
      rw[hc,hd]
      show wpAny M A (if(["enumerate","zip","dict_itemiterator","dict_reverseitemiterator","odict_iterator","itertools.zip_longest","itertools.pairwise"].contains n && vs[0]? == some (rawInt _))=true then _ else _) Q E s
      rw[if_neg (by intro h;rw[hn,Bool.false_and] at h;cases h)]
      exact wpAny_pure hQ))
def Itl(K:Fg)(a:Addr):It :=
 ⟨fun i H=>∃ xs x,SqL K H a xs/\xs[i]?=some x,fun i H x H'=>H'=H/\∀ xs,SqL K H a xs->xs[i]?=some x,fun i H=>∃ xs,SqL K H a xs/\xs.length<=i⟩
def Itt(K:Fg)(a:Addr):It :=
 ⟨fun i H=>∃ xs x,SqT K H a xs/\xs[i]?=some x,fun i H x H'=>H'=H/\∀ xs,SqT K H a xs->xs[i]?=some x,fun i H=>∃ xs,SqT K H a xs/\xs.length<=i⟩
def Itr(lo:Int)(n:Nat):It:=⟨fun i _=>i<n,fun i H x H'=>H'=H/\x=.int (lo+i),fun i _=>n<=i⟩
theorem yo6{tg:Expr}(a it:Addr):xa7 P w K tg (Itl K a) [it] it (fun i h=>h.IsListIter it a i) where
 mem:=by simp
 obj:=fun i h st b hb=>by
  have e:b=it:=by simpa using hb
  subst e
  obtain⟨o,e,c,d⟩:=st
  exact⟨o,e,fun v z=>by rw[d] at z;cases z⟩
 keep:=fun i h h' st k=>st.at fun o e=>k it (by simp) o e
 item:=by
  intro X hP hw hK hc i pins s σ H E I hf st hg
  subst hP hw hK
  obtain⟨xs,x,hq,hx⟩:=hg
  obtain⟨its,rv,p,hz⟩:=I.list hq
  obtain⟨u,hu,ru⟩:=rv.get hx
  obtain⟨f0,f1,f2,f3,f4,f5⟩:=hf it (by simp)
  refine wpAny_pyNext_list_item st p.isList (x:=u) (by simpa using hu) fun h' st' sb=>?_
  have I1:Inv X pins σ H {s with heap:=h'}:=I.turned (t':=s.toks) (fun b o hb e=>(sb.2 b hb).trans e) f0 f1 f3 f4 f5
  obtain⟨o,e,c,d⟩:=id st'
  exact⟨u,rfl,xk8 (s:={s with heap:=h'}) e c d (by decide) ⟨x,H,I1,ru,⟨rfl,fun ys hy=>by rw[I.list_inj hy hq];exact hx⟩,st',fun b hb=>(hf b hb).1⟩⟩
 done:=by
  intro X hP hw hK hc i pins s σ H E I hf st hg
  subst hP hw hK
  obtain⟨xs,hq,hx⟩:=hg
  obtain⟨its,rv,p,hz⟩:=I.list hq
  obtain⟨f0,f1,f2,f3,f4,f5⟩:=hf it (by simp)
  have hl:=rv.length
  exact wpAny_pyNext_list_end (I.ok.hd hc) st p.isList (by simp;omega) fun h' eb=>⟨rfl,I.turned (t':=s.toks) (fun b o hb e=>eb b o hb e) f0 f1 f3 f4 f5⟩
 self:=fun _ _ _ _ _ st h=>wpAny_pyIter_listiter st h
theorem yb9{tg:Expr}(a it:Addr):xa7 P w K tg (Itt K a) [it] it (fun i h=>h.IsTupleIter it a i) where
 mem:=by simp
 obj:=fun i h st b hb=>by
  have e:b=it:=by simpa using hb
  subst e
  obtain⟨o,e,c,d⟩:=st
  exact⟨o,e,fun v z=>by rw[d] at z;cases z⟩
 keep:=fun i h h' st k=>st.at fun o e=>k it (by simp) o e
 item:=by
  intro X hP hw hK hc i pins s σ H E I hf st hg
  subst hP hw hK
  obtain⟨xs,x,hq,hx⟩:=hg
  obtain⟨its,rv,p,hz⟩:=I.tuple hq
  obtain⟨u,hu,ru⟩:=rv.get hx
  obtain⟨f0,f1,f2,f3,f4,f5⟩:=hf it (by simp)
  refine wpAny_pyNext_tuple_item st (show s.heap.IsTuple a its.toArray from p) (x:=u) (by simpa using hu) fun h' st' sb=>?_
  have I1:Inv X pins σ H {s with heap:=h'}:=I.turned (t':=s.toks) (fun b o hb e=>(sb.2 b hb).trans e) f0 f1 f3 f4 f5
  obtain⟨o,e,c,d⟩:=id st'
  exact⟨u,rfl,xk8 (s:={s with heap:=h'}) e c d (by decide) ⟨x,H,I1,ru,⟨rfl,fun ys hy=>by rw[I.tuple_inj hy hq];exact hx⟩,st',fun b hb=>(hf b hb).1⟩⟩
 done:=by
  intro X hP hw hK hc i pins s σ H E I hf st hg
  subst hP hw hK
  obtain⟨xs,hq,hx⟩:=hg
  obtain⟨its,rv,p,hz⟩:=I.tuple hq
  obtain⟨f0,f1,f2,f3,f4,f5⟩:=hf it (by simp)
  have hl:=rv.length
  exact wpAny_pyNext_tuple_end (I.ok.hd hc) st (show s.heap.IsTuple a its.toArray from p) (by simp;omega) fun h' eb=>⟨rfl,I.turned (t':=s.toks) (fun b o hb e=>eb b o hb e) f0 f1 f3 f4 f5⟩
 self:=fun _ _ _ _ _ st h=>wpAny_pyIter_tupleiter st h
theorem yc0{tg:Expr}(it:Addr)(lo:Int)(n:Nat):xa7 P w K tg (Itr lo n) [it] it (fun i h=>IsRangeIter h it (lo+(i:Nat)*1) ((n:Int)-(i:Nat)) 1) where
 mem:=by simp
 obj:=fun i h st b hb=>by
  have e:b=it:=by simpa using hb
  subst e
  exact⟨_,st,fun v z=>by
   have z':Data.fields _=Data.cell v:=z
   cases z'⟩
 keep:=fun i h h' st k=>k it (by simp) _ st
 item:=by
  intro X hP hw hK hc i pins s σ H E I hf st hg
  subst hP hw hK
  obtain⟨f0,f1,f2,f3,f4,f5⟩:=hf it (by simp)
  have W:=Walks.range (prog:=X.prog) (w:=X.w) (I.ok.hd hc) it lo 1 n
  refine wpAny_with_toks (n:=1) I.tk (W.item i s _ _ hg st fun v h' tk hv st' kk ht=>?_)
  have ht:0<tk:=ht
  obtain⟨t,rfl⟩:=hv
  have I1:Inv X pins σ H {s with heap:=h',toks:=tk}:=I.turned (fun b o hb e=>kk b o (by simpa using hb) e) f0 f1 f3 f4 f5
  refine⟨_,rfl,xk8 (s:={s with heap:=h',toks:=tk}) (n := "range_iterator") st' rfl rfl (by decide) ⟨.int (lo+i),H,I1,⟨t,?_⟩,⟨rfl,rfl⟩,st',fun b hb=>(hf b hb).1⟩⟩
  rw[Int.mul_one]
 done:=by
  intro X hP hw hK hc i pins s σ H E I hf st hg
  subst hP hw hK
  obtain⟨f0,f1,f2,f3,f4,f5⟩:=hf it (by simp)
  exact wpAny_pyNext_range_end (I.ok.hd hc) st (by have:n<=i:=hg;omega) fun h' eb=>⟨rfl,I.turned (t':=s.toks) (fun b o hb e=>eb b o hb e) f0 f1 f3 f4 f5⟩
 self:=fun _ _ _ _ _ st h=>wpAny_pyIter_rangeiter st h
variable{R:It->Hp->Prop}{iter:Expr}{wi:TI}
section
variable{tg:Expr}
theorem xu4{lo hi:Int}{t u v:Tok}{tk:Nat}(I:Inv X pins σ H s)(h1:-(2 ^ 62)<=lo)(h2:lo<2 ^ 62)(h3:-(2 ^ 62)<=hi)(h4:hi<2 ^ 62)(q:R (Itr lo (hi-lo).toNat) H)(ht:autoParam (0<tk) zAt):wpAny (model X.prog X.w) X.A (pyIter (.ref s.heap.objs.size)) (PIE X pins σ tg R) E {s with heap:=s.heap.push {cls:=.type "range",data:=.fields #[.int lo t,.int hi u,.int 1 v]},toks:=tk}:=by
 refine wpAny_pyIter_range (IsRange.new ..) (small_one h1 h2 h3 h4) ?_
 have I1:Inv X pins σ H {s with heap:=s.heap.push {cls:=.type "range",data:=.fields #[.int lo t,.int hi u,.int 1 v]},toks:=tk}:=I.kept fun b o e=>Heap.get?_push_of_some _ e
 refine⟨(s.heap.push {cls:=.type "range",data:=.fields #[.int lo t,.int hi u,.int 1 v]}).objs.size,[(s.heap.push {cls:=.type "range",data:=.fields #[.int lo t,.int hi u,.int 1 v]}).objs.size],_,_,H,rfl,
  I1.kept (t':=tk) fun b o e=>Heap.get?_push_of_some _ e,yc0 _ lo (hi-lo).toNat,?_,fun b hb=>?_,q⟩
 ·have e1:lo+((0:Nat):Int)*1=lo:=by simp
  have e2:(((hi-lo).toNat:Nat):Int)-((0:Nat):Int)=Builtin.Range.rangeSize lo hi 1:=by rw[rangeSize_one];split <;> omega
  show IsRangeIter _ _ (lo+((0:Nat):Int)*1) ((((hi-lo).toNat:Nat):Int)-((0:Nat):Int)) 1
  rw[e1,e2]
  exact Heap.get?_push_size _ rfl
 ·have e:b=(s.heap.push {cls:=.type "range",data:=.fields #[.int lo t,.int hi u,.int 1 v]}).objs.size:=by simpa using hb
  subst e
  exact I1.fpOk (Nat.le_refl _) (I1.hok.fresh (Nat.le_refl _))
def yi2(ta:TA):TI:=fun σ H R=>ta σ H fun vs H1=>∃ j:Int,vs=[.int j]/\-(2 ^ 62)<=j/\j<2 ^ 62/\R (Itr 0 j.toNat) H1
def yt5(ta:TA):TI:=fun σ H R=>ta σ H fun vs H1=>∃ i j:Int,vs=[.int i,.int j]/\(-(2 ^ 62)<=i/\i<2 ^ 62/\-(2 ^ 62)<=j/\j<2 ^ 62)/\R (Itr i (j-i).toNat) H1
theorem xk9{a:Expr}{ta:TA}{p:Pos}(hg:Gl X "range")(hm:X.mg "range"=none)(ha:PA X [a] ta)(hs:autoParam (starEach [a] X.env=[(false,eval a X.env)]) zAr):PI X tg (.Call (.Name "range" p) [a] [] pos) (yi2 ta):=by
 intro pins s σ H R I h
 refine Call_ (qy1 I hg hm boot_range (PyProof.Rows.callWith_type1 (thn (ha pos pins s σ H _ I h) fun us s1 zq=>?_) hs rfl))
 obtain⟨vs,H1,I1,r1,q1⟩:=zq
 obtain⟨j,e,q1,q2,q⟩:=q1
 subst e
 cases r1 with
 | cons r rr =>
   cases rr
   obtain⟨t,rfl⟩:=r
   exact call_range_1 (xu4 I1 (by omega) (by omega) q1 q2 (by simpa using q))
theorem yo7{a b:Expr}{ta:TA}{p:Pos}(hg:Gl X "range")(hm:X.mg "range"=none)(ha:PA X [a,b] ta)(hs:autoParam (starEach [a,b] X.env=[(false,eval a X.env),(false,eval b X.env)]) zAr)(hs2:autoParam (starEach [b] X.env=[(false,eval b X.env)]) zAr) :
 PI X tg (.Call (.Name "range" p) [a,b] [] pos) (yt5 ta):=by
 intro pins s σ H R I h
 refine Call_ (qy1 I hg hm boot_range (PyProof.Rows.callWith_type1 (thn (ha pos pins s σ H _ I h) fun us s1 zq=>?_) (by rw[hs,hs2]) (by rw[hs2];rfl)))
 obtain⟨vs,H1,I1,r1,q1⟩:=zq
 obtain⟨i,j,e,⟨q1,q2,q3,q4⟩,q⟩:=q1
 subst e
 cases r1 with
 | cons r rr =>
   cases rr with
   | cons r' rr =>
     cases rr
     obtain⟨t,rfl⟩:=r
     obtain⟨t',rfl⟩:=r'
     exact call_range_2 (xu4 I1 q1 q2 q3 q4 q)
def qy2(wi:TI)(g:TG)(tb:TS):TS:=fun D σ H=>wi σ H fun J H1=>∃ W:Nat->Nat->St->Hp->Prop,(∃ m,W 0 m σ H1)/\∀ i m σ H,W i m σ H ->
 (J.stop i H/\D.nx σ H)\/(J.go i H/\∃ N:St->Hp->Prop,(∀ σ' H',N σ' H'->∃ m',m'<m/\W (i+1) m' σ' H')/\∀ x H',J.yld i H x H'->g x σ H' fun σ2 H2=>tb {D with nx:=N,ct:=N,bk:=D.nx} σ2 H2)
def xa8(fp:List Addr)(h:Heap):List (Addr×Obj):=fp.filterMap fun b=>(h.get? b).map fun o=>(b,o)
theorem qy3{fp:List Addr}{o:Obj}(hb:b∈fp)(e:h.get? b=some o):(b,o)∈xa8 fp h:=List.mem_filterMap.mpr ⟨b,hb,by rw[e];rfl⟩
theorem yo8{fp:List Addr}{p:Addr×Obj}(hp:p∈xa8 fp h):p.1∈fp/\h.get? p.1=some p.2:=by
 obtain⟨b,hb,e⟩:=List.mem_filterMap.mp hp
 cases q:h.get? b with
 | none=>rw[q] at e;cases e
 | some o =>
   rw[q] at e
   have e':(b,o)=p:=Option.some.inj e
   subst e'
   exact⟨hb,q⟩
theorem Inv.pinned{fp:List Addr}(I:Inv X pins σ H s)(hf:∀ b∈fp,xi1 X pins H b)(ho:∀ b∈fp,∃ o,s.heap.get? b=some o/\∀ v,o.data≠.cell v):Inv X (pins++xa8 fp s.heap) σ H s :=
 I.pins_of fun p hp=>(List.mem_append.mp hp).elim (fun z=>I.pin p (List.mem_append_right _ z)) fun z=>by
  obtain⟨hb,e⟩:=yo8 z
  obtain⟨f0,f1,f2,_⟩:=hf p.1 hb
  obtain⟨o,e',d⟩:=ho p.1 hb
  rw[e] at e';cases e'
  exact⟨e,f0,f1,f2,d⟩
theorem Inv.unpinned{pl:List (Addr×Obj)}(I:Inv X (pins++pl) σ H s):Inv X pins σ H s:=I.pins_of fun p hp=>I.pin p (List.mem_append_right _ (List.mem_append_left _ hp))
theorem X7(hp:PassesOwn (model X.prog X.w) X.A X.env X.xe)(hc:X.calm=true)(hi:PI X tg iter wi)(hg:PG X tg g)(hb:PSs X body tb)(hs:autoParam (∀ x,foldedSetIterable iter X.env x=pure x) zAi):PS X (.For tg iter body [] pos) (qy2 wi g tb):=by
 intro pins s σ H D I h
 refine wpAny_For (thn (hi pins s σ H _ I h) fun v s1 h1=>thn h1 fun itv s2 h2=>?_) hs
 obtain⟨it,fp,tn,J,H2,e,I2,T,st2,f2,W,⟨m0,w0⟩,turn⟩:=h2
 subst e
 have stat:∀ {H':Hp},(∀ b∈fp,H' b=none)->∀ b∈fp,xi1 X pins H' b:=fun hn b hb=>⟨hn b hb,(f2 b hb).2⟩
 refine codeAny_forLoop_any (fun n s'=>∃ i σ' H',Inv X pins σ' H' s'/\tn i s'.heap/\(∀ b∈fp,H' b=none)/\W i n σ' H') ?_ m0 ⟨0,σ,H2,I2,st2,fun b hb=>(f2 b hb).1,w0⟩
 rintro n s3 ⟨i,σ3,H3,I3,st3,fr3,w3⟩
 rcases turn i n σ3 H3 w3 with⟨stop,qn⟩|⟨go,N,hN,step⟩
 ·refine wpAny_passesOwn hp (thn (T.done X rfl rfl rfl hc i pins s3 σ3 H3 X.xe I3 (stat fr3) st3 stop) fun r s4 zq=>?_)
  obtain⟨hr,I4⟩:=zq
  subst hr
  exact wpAny_execs_nil ⟨σ3,H3,I4,qn⟩
 ·refine wpAny_passesOwn hp (thn (T.item X rfl rfl rfl hc i pins s3 σ3 H3 X.xe I3 (stat fr3) st3 go) fun r s4 zq=>?_)
  obtain⟨u,hr,h4⟩:=zq
  subst hr
  refine wpAny_passesOwn hp (thn h4 fun _ s5 zq=>?_)
  obtain⟨x,H5,I5,r5,y5,st5,fr5⟩:=zq
  have I5':=I5.pinned (stat fr5) (T.obj _ _ st5)
  refine wpAny_passesOwn hp (thn (hg _ s5 σ3 H5 x u _ I5' r5 (step x H5 y5)) fun _ s6 zq=>?_)
  obtain⟨σ6,H6,I6,q6⟩:=zq
  refine wpAny_passesOwn hp (thn (hb _ s6 σ6 H6 _ I6 q6) fun f s7 q7=>?_)
  have again:∀ {σ7:St} {H7:Hp},Inv X (pins++xa8 fp s5.heap) σ7 H7 s7->N σ7 H7->∃ m,m<n/\∃ i σ' H',Inv X pins σ' H' s7/\tn i s7.heap/\(∀ b∈fp,H' b=none)/\W i m σ' H':=fun{σ7 H7} I7 n7=>by
   obtain⟨m',hm,w7⟩:=hN σ7 H7 n7
   refine⟨m',hm,i+1,σ7,H7,I7.unpinned,T.keep _ _ _ st5 fun b hb o e=>(I7.pin (b,o) (List.mem_append_right _ (List.mem_append_right _ (qy3 hb e)))).1,fun b hb=>?_,w7⟩
   obtain⟨o,e,d⟩:=T.obj _ _ st5 b hb
   exact(I7.pin (b,o) (List.mem_append_right _ (List.mem_append_right _ (qy3 hb e)))).2.1
  cases f with
  | next=>obtain⟨σ7,H7,I7,n7⟩:=q7;exact again I7 n7
  | cont=>obtain⟨σ7,H7,I7,n7⟩:=q7;exact again I7 n7
  | brk=>obtain⟨σ7,H7,I7,q7⟩:=q7;exact⟨σ7,H7,I7.unpinned,q7⟩
  | ret v=>obtain⟨x7,σ7,H7,I7,r7,q7⟩:=q7;exact⟨x7,σ7,H7,I7.unpinned,r7,q7⟩
end
abbrev PAt{α:Type}(P:Nat->α->Hp->Prop)(i:Nat):α->Hp->Prop:=P i
variable{D:qb6}
theorem xa9(Pv:Nat->St->Hp->Prop)(h0:Pv 0 σ H)(hl:∀ i σ H,i<=xs.length->Pv i σ H->SqL K H a xs)(hs:∀ i x σ H,xs[i]?=some x->Pv i σ H->g x σ H fun σ2 H2=>tb {D with nx:=PAt Pv (i+1),ct:=PAt Pv (i+1),bk:=D.nx} σ2 H2)(hd:∀ σ H,Pv xs.length σ H->D.nx σ H) :
 ∃ W:Nat->Nat->St->Hp->Prop,(∃ m,W 0 m σ H)/\∀ i m σ H,W i m σ H ->
  ((Itl K a).stop i H/\D.nx σ H)\/((Itl K a).go i H/\∃ N:St->Hp->Prop,(∀ σ' H',N σ' H'->∃ m',m'<m/\W (i+1) m' σ' H')/\∀ x H',(Itl K a).yld i H x H'->g x σ H' fun σ2 H2=>tb {D with nx:=N,ct:=N,bk:=D.nx} σ2 H2):=by
 refine⟨fun i m σ H=>m=xs.length-i/\i<=xs.length/\Pv i σ H,⟨xs.length,by simp,Nat.zero_le _,h0⟩,?_⟩
 rintro i m σ H ⟨rfl,hi,p⟩
 have q:=hl i σ H hi p
 by_cases hlt:i<xs.length
 ·refine .inr ⟨⟨xs,xs[i],q,by simp[hlt]⟩,Pv (i+1),fun σ' H' p'=>⟨xs.length-(i+1),by omega,rfl,hlt,p'⟩,fun x H' y=>?_⟩
  obtain⟨e,y⟩:=y
  subst e
  exact hs i x σ _ (y xs q) p
 ·have e:i=xs.length:=by omega
  subst e
  exact .inl ⟨⟨xs,q,Nat.le_refl _⟩,hd σ H p⟩
theorem xo5(Pv:Nat->St->Hp->Prop)(h0:Pv 0 σ H)(hl:∀ i σ H,i<=xs.length->Pv i σ H->SqT K H a xs)(hs:∀ i x σ H,xs[i]?=some x->Pv i σ H->g x σ H fun σ2 H2=>tb {D with nx:=PAt Pv (i+1),ct:=PAt Pv (i+1),bk:=D.nx} σ2 H2)(hd:∀ σ H,Pv xs.length σ H->D.nx σ H) :
 ∃ W:Nat->Nat->St->Hp->Prop,(∃ m,W 0 m σ H)/\∀ i m σ H,W i m σ H ->
  ((Itt K a).stop i H/\D.nx σ H)\/((Itt K a).go i H/\∃ N:St->Hp->Prop,(∀ σ' H',N σ' H'->∃ m',m'<m/\W (i+1) m' σ' H')/\∀ x H',(Itt K a).yld i H x H'->g x σ H' fun σ2 H2=>tb {D with nx:=N,ct:=N,bk:=D.nx} σ2 H2):=by
 refine⟨fun i m σ H=>m=xs.length-i/\i<=xs.length/\Pv i σ H,⟨xs.length,by simp,Nat.zero_le _,h0⟩,?_⟩
 rintro i m σ H ⟨rfl,hi,p⟩
 have q:=hl i σ H hi p
 by_cases hlt:i<xs.length
 ·refine .inr ⟨⟨xs,xs[i],q,by simp[hlt]⟩,Pv (i+1),fun σ' H' p'=>⟨xs.length-(i+1),by omega,rfl,hlt,p'⟩,fun x H' y=>?_⟩
  obtain⟨e,y⟩:=y
  subst e
  exact hs i x σ _ (y xs q) p
 ·have e:i=xs.length:=by omega
  subst e
  exact .inl ⟨⟨xs,q,Nat.le_refl _⟩,hd σ H p⟩
theorem xl0{lo:Int}(Pv:Nat->St->Hp->Prop)(h0:Pv 0 σ H)(hs:∀ i σ H,i<n->Pv i σ H->g (.int (lo+i)) σ H fun σ2 H2=>tb {D with nx:=PAt Pv (i+1),ct:=PAt Pv (i+1),bk:=D.nx} σ2 H2)(hd:∀ σ H,Pv n σ H->D.nx σ H) :
 ∃ W:Nat->Nat->St->Hp->Prop,(∃ m,W 0 m σ H)/\∀ i m σ H,W i m σ H ->
  ((Itr lo n).stop i H/\D.nx σ H)\/((Itr lo n).go i H/\∃ N:St->Hp->Prop,(∀ σ' H',N σ' H'->∃ m',m'<m/\W (i+1) m' σ' H')/\∀ x H',(Itr lo n).yld i H x H'->g x σ H' fun σ2 H2=>tb {D with nx:=N,ct:=N,bk:=D.nx} σ2 H2):=by
 refine⟨fun i m σ H=>m=n-i/\i<=n/\Pv i σ H,⟨n,by simp,Nat.zero_le _,h0⟩,?_⟩
 rintro i m σ H ⟨rfl,hi,p⟩
 by_cases hlt:i<n
 ·refine .inr ⟨hlt,Pv (i+1),fun σ' H' p'=>⟨n-(i+1),by omega,rfl,hlt,p'⟩,fun x H' y=>?_⟩
  obtain⟨e,y⟩:=y
  subst e y
  exact hs i σ _ hlt p
 ·have e:i=n:=by omega
  subst e
  exact .inl ⟨Nat.le_refl _,hd σ H p⟩
theorem xu5{c:TT}(Pv:St->Hp->Prop)(μ:St->Hp->Nat)(h0:Pv σ H)(hs:∀ σ H,Pv σ H->c σ H fun b H1=>if b=true then tb {D with nx:=fun σ' H'=>Pv σ' H'/\μ σ' H'<μ σ H,ct:=fun σ' H'=>Pv σ' H'/\μ σ' H'<μ σ H,bk:=D.nx} σ H1 else D.nx σ H1)(mono:∀ σ H Q Q',(∀ b H1,Q b H1->Q' b H1)->c σ H Q->c σ H Q'):wc9 c tb D σ H:=by
 refine⟨fun m σ H=>m=μ σ H/\Pv σ H,⟨_,rfl,h0⟩,?_⟩
 rintro m σ H ⟨rfl,p⟩
 refine mono σ H _ _ (fun b H1 q=>?_) (hs σ H p)
 cases b with
 | true=>exact⟨_,fun σ' H' ⟨p',l⟩=>⟨_,l,rfl,p'⟩,q⟩
 | false=>exact q
abbrev R2:=V->V->Hp->VK->Prop
def OpR(X:Cx)(f:Value->Value->Sem Value)(r:R2):Prop :=
 ∀ (pins:List (Addr×Obj)) (s:Shared) (σ:St) (H:Hp) (x y:V) (v u:Value) (Q:VK),Inv X pins σ H s->J8 x v->J8 y u->r x y H Q ->
  wpAny (model X.prog X.w) X.A (f v u) (EP X pins σ Q) X.xe s
def UnR(X:Cx)(f:Value->Sem Value)(r:V->Hp->VK->Prop):Prop :=
 ∀ (pins:List (Addr×Obj)) (s:Shared) (σ:St) (H:Hp) (x:V) (v:Value) (Q:VK),Inv X pins σ H s->J8 x v->r x H Q ->
  wpAny (model X.prog X.w) X.A (f v) (EP X pins σ Q) X.xe s
def qf3(X:Cx)(f:Value)(r:List V->Hp->VK->Prop):Prop :=
 ∀ (pins:List (Addr×Obj)) (s:Shared) (σ:St) (H:Hp) (xs:List V) (us:List Value) (Q:VK),Inv X pins σ H s->G0 xs us->r xs H Q ->
  wpAny (model X.prog X.w) X.A (call f us) (EP X pins σ Q) X.xe s
def tOp(r:R2)(ta tb:TE):TE:=fun σ H Q=>ta σ H fun x H1=>tb σ H1 fun y H2=>r x y H2 Q
def tUn(r:V->Hp->VK->Prop)(ta:TE):TE:=fun σ H Q=>ta σ H fun x H1=>r x H1 Q
def rI(C:Int->Int->Prop)(g:Int->Int->V):R2:=fun x y H Q=>∃ i j,x=.int i/\y=.int j/\C i j/\Q (g i j) H
def rI0(g:Int->Int->V):R2:=fun x y H Q=>∃ i j,x=.int i/\y=.int j/\Q (g i j) H
def rU(g:Int->V):V->Hp->VK->Prop:=fun x H Q=>∃ i,x=.int i/\Q (g i) H
variable{tc:TE}{f:Value->Value->Sem Value}{i j:Int}
section
variable{a b:Expr}{tb:TE}
theorem zn9(ha:PE X a ta)(hb:PE X b tb){R:V->V->Hp->Prop}(I:Inv X pins σ H s)(h:ta σ H fun x H1=>tb σ H1 fun y H2=>R x y H2)(hf:∀ v u s2 x y H2,Inv X pins σ H2 s2->J8 x v->J8 y u->R x y H2->wpAny (model X.prog X.w) X.A (f v u) Q X.xe s2) :
 wpAny (model X.prog X.w) X.A (eval a X.env) (fun v s₁=>wpAny (model X.prog X.w) X.A (eval b X.env) (fun u s₂=>wpAny (model X.prog X.w) X.A (f v u) Q X.xe s₂) X.xe s₁) X.xe s:=by
 refine thn (ha pins s σ H _ I h) fun v s1 zq=>?_
 obtain⟨x,H1,I1,r1,q1⟩:=zq
 refine thn (hb pins s1 σ H1 _ I1 q1) fun u s2 zq=>?_
 obtain⟨y,H2,I2,r2,q2⟩:=zq
 exact hf v u s2 x y H2 I2 r1 r2 q2
theorem B9{op:Operator}{r:R2}(ho:OpR X (binaryOp op) r)(ha:PE X a ta)(hb:PE X b tb):PE X (.BinOp a op b pos) (tOp r ta tb):=by
 intro pins s σ H Q I h
 exact wpAny_BinOp (zn9 ha hb I h fun v u s2 x y H2 I2 rx ry q=>ho pins s2 σ H2 x y v u Q I2 rx ry q)
theorem qi0{op:UnaryOp}{r:V->Hp->VK->Prop}(ho:UnR X (unaryOp op) r)(ha:PE X a ta):PE X (.UnaryOp op a pos) (tUn r ta):=by
 intro pins s σ H Q I h
 exact UnaryOp_ (thn (ha pins s σ H _ I h) fun v s1 ⟨x,H1,I1,r1,q1⟩=>ho pins s1 σ H1 x v Q I1 r1 q1)
theorem opI{C:Int->Int->Prop}{g:Int->Int->Int}(rule:∀ (i j:Int) (t u:Tok) (s:Shared) (Q:Value->Shared->Prop) (E:Value->Shared->Prop),C i j->Q (.int (g i j) s.toks) {s with toks:=s.toks+1}->wpAny (model X.prog X.w) X.A (f (.int i t) (.int j u)) Q E s) :
 OpR X f (rI C fun i j=>.int (g i j)):=by
 intro pins s σ H x y v u Q I rx ry h
 obtain⟨i,j,rfl,rfl,hc,q⟩:=h
 obtain⟨t,rfl⟩:=rx
 obtain⟨t',rfl⟩:=ry
 exact rule i j t t' s _ _ hc ⟨.int (g i j),H,I.tok _,⟨_,rfl⟩,q⟩
theorem zu6{g:Int->Int->Int}(rule:∀ (i j:Int) (t u:Tok) (s:Shared) (Q:Value->Shared->Prop) (E:Value->Shared->Prop),Q (.int (g i j) s.toks) {s with toks:=s.toks+1}->wpAny (model X.prog X.w) X.A (f (.int i t) (.int j u)) Q E s) :
 OpR X f (rI0 fun i j=>.int (g i j)):=by
 intro pins s σ H x y v u Q I rx ry h
 obtain⟨i,j,rfl,rfl,q⟩:=h
 obtain⟨t,rfl⟩:=rx
 obtain⟨t',rfl⟩:=ry
 exact rule i j t t' s _ _ ⟨.int (g i j),H,I.tok _,⟨_,rfl⟩,q⟩
theorem zd9{g:Int->Int->Bool}(rule:∀ (i j:Int) (t u:Tok) (s:Shared) (Q:Value->Shared->Prop) (E:Value->Shared->Prop),Q (.bool (g i j)) s->wpAny (model X.prog X.w) X.A (f (.int i t) (.int j u)) Q E s) :
 OpR X f (rI0 fun i j=>.bl (g i j)):=by
 intro pins s σ H x y v u Q I rx ry h
 obtain⟨i,j,rfl,rfl,q⟩:=h
 obtain⟨t,rfl⟩:=rx
 obtain⟨t',rfl⟩:=ry
 exact rule i j t t' s _ _ ⟨.bl (g i j),H,I,rfl,q⟩
def xo6(i j:Int):Prop:=0<j/\j<1073741824
def yt6(i j:Int):Prop:=0<=j/\j<=1000000/\i.natAbs<2 ^ 64
def yt7(i j:Int):Prop:=(-(2 ^ 64)<i/\i<2 ^ 64)\/(-(2 ^ 64)<j/\j<2 ^ 64)
theorem yt7.ok(h:yt7 i j):IntMulOk i j:=by
 rcases h with⟨h1,h2⟩|⟨h1,h2⟩
 ·exact .of_left (intBits_le_64 h1 h2)
 ·exact .of_right (intBits_le_64 h1 h2)
theorem yc1(k:Nat):(0:Int)<=2 ^ k:=by
 rw[two_pow_cast]
 exact Int.natCast_nonneg _
theorem zo0:OpR X (binaryOp .Add) (rI0 fun i j=>.int (i+j)):=zu6 fun _ _ _ _ _ _ _ q=>add_int q
theorem wr7:OpR X (binaryOp .Sub) (rI0 fun i j=>.int (i-j)):=zu6 fun _ _ _ _ _ _ _ q=>sub_int q
theorem zo1:OpR X (binaryOp .Mult) (rI yt7 fun i j=>.int (i*j)):=opI fun _ _ _ _ _ _ _ hc q=>mul_int q hc.ok
theorem wg3:OpR X (binaryOp .FloorDiv) (rI xo6 fun i j=>.int (i / j)):=opI fun i j _ _ _ _ _ hc q=>by
 have h1:(0:Int)<j:=hc.1
 have h2:j<1073741824:=hc.2
 exact floordiv_int (by omega) (by rw[Int.fdiv_eq_ediv_of_nonneg i (by omega)];exact q) (.inl (PyProof.noPylong_small (by omega)))
theorem qb7:OpR X (binaryOp .Mod) (rI (fun _ j=>0<j) fun i j=>.int (i % j)):=opI fun i j _ _ _ _ _ hc q=>by
 have h1:(0:Int)<j:=hc
 exact mod_int' (by omega) (by rw[Int.fmod_eq_emod_of_nonneg i (by omega)];exact q)
theorem yt8:OpR X (binaryOp .LShift) (rI yt6 fun i j=>.int (i*2 ^ j.toNat)):=opI fun _ _ _ _ _ _ _ hc q=>lshift_int_small hc.1 hc.2.1 hc.2.2 q
theorem yt9:OpR X (binaryOp .RShift) (rI (fun _ j=>0<=j) fun i j=>.int (i / 2 ^ j.toNat)):=opI fun i j _ _ _ _ _ hc q =>
 rshift_int hc (by rw[Int.fdiv_eq_ediv_of_nonneg i (yc1 _)];exact q)
theorem unI{f:Value->Sem Value}{g:Int->Int}(rule:∀ (i:Int) (t:Tok) (s:Shared) (Q:Value->Shared->Prop) (E:Value->Shared->Prop),Q (.int (g i) s.toks) {s with toks:=s.toks+1}->wpAny (model X.prog X.w) X.A (f (.int i t)) Q E s) :
 UnR X f (rU fun i=>.int (g i)):=by
 intro pins s σ H x v Q I rx h
 obtain⟨i,rfl,q⟩:=h
 obtain⟨t,rfl⟩:=rx
 exact rule i t s _ _ ⟨.int (g i),H,I.tok _,⟨_,rfl⟩,q⟩
theorem W0:UnR X (unaryOp .USub) (rU fun i=>.int (-i)):=unI fun _ _ _ _ _ q=>neg_int q
end
def ze0:V->V->Bool
 | .non,.non=>true | .non,.int _=>true | .int _,.non=>true | .non,.bl _=>true | .bl _,.non=>true | .non,.str _=>true | .str _,.non=>true
 | .int _,.int _=>true | .bl _,.bl _=>true | .str _,.str _=>true | .byt _,.byt _=>true
 | .int _,.str _=>true | .str _,.int _=>true | .bl _,.str _=>true | .str _,.bl _=>true
 | _,_=>false
def rEq:R2:=fun x y H Q=>ze0 x y=true/\Q (.bl (decide (x=y))) H
def rNe:R2:=fun x y H Q=>ze0 x y=true/\Q (.bl (!decide (x=y))) H
theorem yi3:decide (V.int i=V.int j)=(i == j):=by
 rw[Bool.eq_iff_iff]
 simp
theorem yu0{i j:Bool}:decide (V.bl i=V.bl j)=(i == j):=by
 rw[Bool.eq_iff_iff]
 simp
theorem yi4{i j:Str}:decide (V.str i=V.str j)=(i == j):=by
 rw[Bool.eq_iff_iff]
 simp
theorem yi5{i j:Array UInt8}:decide (V.byt i=V.byt j)=(i.toList == j.toList):=by
 rw[Bool.eq_iff_iff]
 cases i
 cases j
 simp
section
variable{a b:Expr}{tb:TE}
theorem L5{Q:VK}{k k':Bool}(I:Inv X pins σ H s)(q:Q (.bl k) H)(e:k=k'):EP X pins σ Q (.bool k') s:=by
 subst e
 exact⟨.bl k,H,I,rfl,q⟩
theorem zu7:OpR X (compareOp .Eq) rEq:=by
 intro pins s σ H x y v u Q I rx ry h
 obtain⟨hs,q⟩:=h
 cases x with
 | non =>
   cases rx
   cases y with
   | non=>cases ry;exact PySem.EqNone.eq_none_none (L5 I q (by simp))
   | bl j=>cases ry;exact PySem.EqNone.eq_none_bool (L5 I q (by simp))
   | int j=>obtain⟨t',rfl⟩:=ry;exact PySem.EqNone.eq_none_int (L5 I q (by simp))
   | str j=>obtain⟨t',rfl⟩:=ry;exact PySem.EqNone.eq_none_str (L5 I q (by simp))
   | _=>exact absurd (show false=true from hs) Bool.false_ne_true
 | bl i =>
   cases rx
   cases y with
   | non=>cases ry;exact PySem.EqNone.eq_bool_none (L5 I q (by simp))
   | bl j=>cases ry;exact eq_bool (L5 I q yu0)
   | str j=>obtain⟨t',rfl⟩:=ry;exact PySem.EqMixed.eq_bool_str (L5 I q (by simp))
   | _=>exact absurd (show false=true from hs) Bool.false_ne_true
 | int i =>
   obtain⟨t,rfl⟩:=rx
   cases y with
   | non=>cases ry;exact PySem.EqNone.eq_int_none (L5 I q (by simp))
   | int j=>obtain⟨t',rfl⟩:=ry;exact eq_int (L5 I q yi3)
   | str j=>obtain⟨t',rfl⟩:=ry;exact PySem.EqMixed.eq_int_str (L5 I q (by simp))
   | _=>exact absurd (show false=true from hs) Bool.false_ne_true
 | str i =>
   obtain⟨t,rfl⟩:=rx
   cases y with
   | non=>cases ry;exact PySem.EqNone.eq_str_none (L5 I q (by simp))
   | bl j=>cases ry;exact PySem.EqMixed.eq_str_bool (L5 I q (by simp))
   | int j=>obtain⟨t',rfl⟩:=ry;exact PySem.EqMixed.eq_str_int (L5 I q (by simp))
   | str j=>obtain⟨t',rfl⟩:=ry;exact eq_str (L5 I q yi4)
   | _=>exact absurd (show false=true from hs) Bool.false_ne_true
 | byt i =>
   obtain⟨t,rfl⟩:=rx
   cases y with
   | byt j=>obtain⟨t',rfl⟩:=ry;exact PySem.W.eq_bytes (L5 I q yi5)
   | _=>exact absurd (show false=true from hs) Bool.false_ne_true
 | _=>cases y <;> exact absurd (show false=true from hs) Bool.false_ne_true
theorem zu8:OpR X (compareOp .NotEq) rNe:=by
 intro pins s σ H x y v u Q I rx ry h
 obtain⟨hs,q⟩:=h
 cases x with
 | non =>
   cases rx
   cases y with
   | non=>cases ry;exact PySem.EqNone.ne_none_none (L5 I q (by simp))
   | bl j=>cases ry;exact PySem.EqNone.ne_none_bool (L5 I q (by simp))
   | int j=>obtain⟨t',rfl⟩:=ry;exact PySem.EqNone.ne_none_int (L5 I q (by simp))
   | str j=>obtain⟨t',rfl⟩:=ry;exact PySem.EqNone.ne_none_str (L5 I q (by simp))
   | _=>exact absurd (show false=true from hs) Bool.false_ne_true
 | bl i =>
   cases rx
   cases y with
   | non=>cases ry;exact PySem.EqNone.ne_bool_none (L5 I q (by simp))
   | bl j=>cases ry;exact ne_bool (L5 I q (congrArg not yu0))
   | str j=>obtain⟨t',rfl⟩:=ry;exact PySem.EqMixed.ne_bool_str (L5 I q (by simp))
   | _=>exact absurd (show false=true from hs) Bool.false_ne_true
 | int i =>
   obtain⟨t,rfl⟩:=rx
   cases y with
   | non=>cases ry;exact PySem.EqNone.ne_int_none (L5 I q (by simp))
   | int j=>obtain⟨t',rfl⟩:=ry;exact ne_int (L5 I q (congrArg not yi3))
   | str j=>obtain⟨t',rfl⟩:=ry;exact PySem.EqMixed.ne_int_str (L5 I q (by simp))
   | _=>exact absurd (show false=true from hs) Bool.false_ne_true
 | str i =>
   obtain⟨t,rfl⟩:=rx
   cases y with
   | non=>cases ry;exact PySem.EqNone.ne_str_none (L5 I q (by simp))
   | bl j=>cases ry;exact PySem.EqMixed.ne_str_bool (L5 I q (by simp))
   | int j=>obtain⟨t',rfl⟩:=ry;exact PySem.EqMixed.ne_str_int (L5 I q (by simp))
   | str j=>obtain⟨t',rfl⟩:=ry;exact ne_str (L5 I q (congrArg not yi4))
   | _=>exact absurd (show false=true from hs) Bool.false_ne_true
 | byt i =>
   obtain⟨t,rfl⟩:=rx
   cases y with
   | byt j=>obtain⟨t',rfl⟩:=ry;exact PySem.W.ne_bytes (L5 I q (congrArg not yi5))
   | _=>exact absurd (show false=true from hs) Bool.false_ne_true
 | _=>cases y <;> exact absurd (show false=true from hs) Bool.false_ne_true
theorem zu9:OpR X (compareOp .Lt) (rI0 fun i j=>.bl (decide (i<j))):=zd9 fun _ _ _ _ _ _ _ q=>lt_int q
theorem zv0:OpR X (compareOp .LtE) (rI0 fun i j=>.bl (decide (i<=j))):=zd9 fun _ _ _ _ _ _ _ q=>le_int q
theorem zv1:OpR X (compareOp .Gt) (rI0 fun i j=>.bl (decide (j<i))):=zd9 fun _ _ _ _ _ _ _ q=>gt_int q
theorem zv2:OpR X (compareOp .GtE) (rI0 fun i j=>.bl (decide (j<=i))):=zd9 fun _ _ _ _ _ _ _ q=>ge_int q
theorem yo9:OpR X (compareOp .Lt) (fun x y H Q=>∃ i j,x=.str i/\y=.str j/\Q (.bl (decide (i.cps.toList<j.cps.toList))) H):=by
 intro pins s σ H x y v u Q I rx ry h
 obtain⟨i,j,rfl,rfl,q⟩:=h
 obtain⟨t,rfl⟩:=rx
 obtain⟨t',rfl⟩:=ry
 exact lt_str (L5 I q rfl)
theorem yp0:OpR X (compareOp .In) (fun x y H Q=>∃ i j,x=.str i/\y=.str j/\Q (.bl (!(Builtin.Str.occurrences j i 0 j.length 1).isEmpty)) H):=by
 intro pins s σ H x y v u Q I rx ry h
 obtain⟨i,j,rfl,rfl,q⟩:=h
 obtain⟨t,rfl⟩:=rx
 obtain⟨t',rfl⟩:=ry
 exact in_str (L5 I q rfl)
theorem zo2:OpR X (compareOp .Is) (fun x y H Q=>y=.non/\Q (.bl (decide (x=.non))) H):=by
 intro pins s σ H x y v u Q I rx ry h
 obtain⟨rfl,q⟩:=h
 cases ry
 refine is_none_gen (L5 I q ?_)
 cases x <;> first
  | (cases rx;rfl)
  | (obtain⟨t,rfl⟩:=rx;rfl)
theorem ze1:OpR X (compareOp .IsNot) (fun x y H Q=>y=.non/\Q (.bl (!decide (x=.non))) H):=by
 intro pins s σ H x y v u Q I rx ry h
 obtain⟨rfl,q⟩:=h
 cases ry
 refine isnot_none_gen (L5 I q ?_)
 cases x <;> first
  | (cases rx;rfl)
  | (obtain⟨t,rfl⟩:=rx;rfl)
theorem OpR.or{r r':R2}(h:OpR X f r)(h':OpR X f r'):OpR X f (fun x y H Q=>r x y H Q\/r' x y H Q):=by
 intro pins s σ H x y v u Q I rx ry q
 rcases q with q|q
 ·exact h pins s σ H x y v u Q I rx ry q
 ·exact h' pins s σ H x y v u Q I rx ry q
theorem D0(b:Expr){op:CmpOp}(h:autoParam (op≠.In) zAd)(h2:autoParam (op≠.NotIn) zAd):behindInMarks op b=false:=by
 have e1:(op == CmpOp.In)=false:=by cases op <;> first|rfl|exact absurd rfl h
 have e2:(op == CmpOp.NotIn)=false:=by cases op <;> first|rfl|exact absurd rfl h2
 cases b <;> simp[behindInMarks,e1,e2]
theorem qn5{op:CmpOp}{r:R2}(ho:OpR X (compareOp op) r)(ha:PE X a ta)(hb:PE X b tb)(hm:behindInMarks op b=false):PE X (.Compare a [op] [b] pos) (tOp r ta tb):=by
 intro pins s σ H Q I h
 exact wpAny_Compare1 (zn9 ha hb I h fun v u s2 x y H2 I2 rx ry q=>ho pins s2 σ H2 x y v u Q I2 rx ry q) hm
def E4(t:TE):TT:=fun σ H Q=>t σ H fun x H'=>∃ k,x=.bl k/\Q k H'
theorem C4{op:CmpOp}{r:R2}(ho:OpR X (compareOp op) r)(ha:PE X a ta)(hb:PE X b tb)(hm:behindInMarks op b=false):PT X (.Compare a [op] [b] pos) (E4 (tOp r ta tb)):=by
 intro pins s σ H Q I h
 refine wpAny_isTrue_Compare1 (thn (ha pins s σ H _ I h) fun v s1 ⟨x,H1,I1,r1,q1⟩=>thn (hb pins s1 σ H1 _ I1 q1) fun u s2 ⟨y,H2,I2,r2,q2⟩ =>
  thn (ho pins s2 σ H2 x y v u _ I2 r1 r2 q2) fun c s3 ⟨z,H3,I3,r3,k,e,q3⟩=>?_) hm
 subst e
 cases r3
 exact wpAny_truthy_bool ⟨H3,I3,q3⟩
def xb0(r r':R2)(ta tb tc:TE):TE:=fun σ H Q=>ta σ H fun x H1=>tb σ H1 fun y H2=>r x y H2 fun z H3=>∃ k,z=.bl k /\
 (if k=true then tc σ H3 fun w' H4=>r' y w' H4 Q else Q (.bl false) H3)
theorem xb1{op op':CmpOp}{r r':R2}(ho:OpR X (compareOp op) r)(ho':OpR X (compareOp op') r')(ha:PE X a ta)(hb:PE X b tb)(hc:PE X c tc)(hm:lastMarks [op,op'] [b,c]=false:=by with_unfolding_all rfl):PE X (.Compare a [op,op'] [b,c] pos) (xb0 r r' ta tb tc):=by
 intro pins s σ H Q I h
 refine Compare_chain (thn (ha pins s σ H _ I h) fun v s1 ⟨x,H1,I1,r1,q1⟩=>chain_link (thn (hb pins s1 σ H1 _ I1 q1) fun u s2 ⟨y,H2,I2,r2,q2⟩ =>
  thn (ho pins s2 σ H2 x y v u _ I2 r1 r2 q2) fun d s3 ⟨z,H3,I3,r3,k,e,q3⟩=>?_)) hm
 subst e
 cases r3
 refine wpAny_truthy_bool ?_
 cases k with
 | false=>exact ite_ff ⟨.bl false,H3,I3,rfl,q3⟩
 | true=>exact ite_tt (chain_last (thn (hc pins s3 σ H3 _ I3 q3) fun w' s4 ⟨z',H4,I4,r4,q4⟩=>ho' pins s4 σ H4 y z' u w' Q I4 r2 r4 q4))
theorem wr8:(sizeLine:Nat)<2 ^ 63:=by rw[sizeLine_eq];decide
theorem yc2:OpR X (binaryOp .Add) (fun x y H Q=>∃ i j,x=.str i/\y=.str j/\i.length+j.length<=sizeLine/\Q (.str (i++j)) H):=by
 intro pins s σ H x y v u Q I rx ry h
 obtain⟨i,j,rfl,rfl,hz,q⟩:=h
 obtain⟨t,rfl⟩:=rx
 obtain⟨t',rfl⟩:=ry
 exact wpAny_with_toks (n:=1) I.tk (add_str (fun t' tk ht=>⟨.str (i++j),H,I.tok _ ht,⟨_,rfl⟩,q⟩) hz)
theorem qv3{x:V}(r:G0 [x] us):∃ u,us=[u]/\J8 x u:=by
 cases r with
 | cons r1 r2=>cases r2;exact⟨_,rfl,r1⟩
theorem xu6{x:V}(r:G0 [x,y] us):∃ u w',us=[u,w']/\J8 x u/\J8 y w':=by
 cases r with
 | cons r1 r2 =>
   cases r2 with
   | cons r3 r4=>cases r4;exact⟨_,_,rfl,r1,r3⟩
theorem yp1:qf3 X (.type "int") (fun xs H Q=>(∃ i,xs=[.int i]/\Q (.int i) H)\/∃ k,xs=[.bl k]/\Q (.int (if k then 1 else 0)) H):=by
 intro pins s σ H xs us Q I r h
 rcases h with⟨i,rfl,q⟩|⟨k,rfl,q⟩
 ·obtain⟨u,rfl,t,rfl⟩:=qv3 r
  exact call_int_int ⟨.int i,H,I,⟨_,rfl⟩,q⟩
 ·obtain⟨u,rfl,r1⟩:=qv3 r
  cases r1
  exact call_int_bool ⟨.int (if k then 1 else 0),H,I.tok _,⟨_,rfl⟩,q⟩
theorem xo7:qf3 X (.type "str") (fun xs H Q=>∃ i,xs=[.int i]/\i.natAbs.log2<1920/\Q (.str (toString i)) H):=by
 intro pins s σ H xs us Q I r h
 obtain⟨i,rfl,hz,q⟩:=h
 obtain⟨u,rfl,t,rfl⟩:=qv3 r
 exact PySem.P.str_of_int hz ⟨.str _,H,I.tok _,⟨_,rfl⟩,q⟩
end
structure yc3(h:Heap)(x dx C:Addr)(mA:Str->Option Value):Prop where
 obj:h.get? x=some (PySem.W.instObj C dx)
 ns:h.Ns1 dx mA
 ne:dx≠x
variable{dx:Addr}{mA:Str->Option Value}
theorem yp2(n:h.Ns1 dx mA):∃ od,h.get? dx=some od/\∀ name,PySem.W.lookIn name od=some (mA name):=by
 obtain⟨o,es,ep,ho,hd,hk,_,hm⟩:=n
 refine⟨o,ho,fun name=>?_⟩
 have e:=hm name
 unfold nsFind findBy at e
 rw[<-Array.find?_toList] at e
 unfold PySem.W.lookIn
 rw[hd]
 dsimp only
 split
 ·rename_i y q
  rw[q] at e
  exact congrArg some e
 ·rename_i q
  rw[q] at e
  have a:es.toList.any (·.refKey)=false:=by
   rw[List.any_eq_false]
   intro y hy
   obtain⟨z,t,hkey⟩:=hk y (Array.mem_toList_iff.mp hy)
   simp[DictEntry.refKey,hkey]
  have a':¬es.toList.any (·.refKey)=true:=by rw[a];exact Bool.false_ne_true
  rw[if_neg a']
  exact congrArg some e
variable{C:Addr}
theorem yc3.look{x:Addr}(I:yc3 h x dx C mA):∃ od,PySem.W.InstAt h x (PySem.W.instObj C dx) C (some od)/\∀ name,PySem.W.lookIn name od=some (mA name) :=
 let ⟨od,ho,hl⟩:=yp2 I.ns
 ⟨od,⟨I.obj,rfl,rfl,ho⟩,hl⟩
variable{name:Str}{prog:Program}{pl:Sem Bool}{kw:List (Str×Value)}
section
variable{x f:Addr}{v:Value}
theorem ze2{expr:Bool}(X:K.In s.heap)(I:yc3 s.heap x dx C mA)(hg:PySem.W.plainGet K C name=true)(hh:PySem.W.hasDictIn K C=true)(ha:PySem.W.findIn K (.ref C) name=some none)(hv:mA name=some v)(hv':PySem.W.handedIn v=true)(h:Q v {s with toks:=s.toks+1}) :
 wpAny (model prog w) A (getAttr (.ref x) name expr) Q E s:=by
 obtain⟨od,J,hl⟩:=I.look
 exact PySem.W.get_value X J (PySem.W.plainGet_of hg).1 (PySem.W.findObj_own hh ha rfl (by rw[hl,hv])) hv' h
theorem yu1{Q:Value×List Value->Shared->Prop}(X:K.In s.heap)(I:yc3 s.heap x dx C mA)(hg:PySem.W.plainGet K C name=true)(hf:PySem.W.findIn K (.ref C) name=some (some (.ref f)))(ht:PySem.W.isFn K (.ref f)=true)(hv:mA name=none)(h:Q (.ref f,[.ref x]) s) :
 wpAny (model prog w) A (getMethod (.ref x) name pl) Q E s:=by
 obtain⟨od,J,hl⟩:=I.look
 exact PySem.W.method_fn X J (PySem.W.plainGet_of hg).1 (PySem.W.plainGet_of hg).2 hf (beq_iff_eq.mp ht) (by show(PySem.W.lookIn name od).map (·.isSome)=some false;rw[hl,hv];rfl) h
theorem ze3{ns:List Str}{Q:Unit->Shared->Prop}(X:K.In s.heap)(I:yc3 s.heap x dx C mA)(hs:PySem.W.findIn K (.ref C) "__setattr__"=some (some (.builtin "object.__setattr__")))(hp:PySem.W.plainOver K C=true)(ht:PySem.W.takerIn K C name=some none)(hh:PySem.W.hasDictIn K C=true)(hw:PySem.Within mA ns)(hsz:ns.length<=sizeLine)(h:∀ h',yc3 h' x dx C (fun y=>if y=name then some v else mA y)->Heap.SameBut dx s.heap h'->Q () {s with heap:=h',toks:=s.toks+2}) :
 wpAny (model prog w) A (setAttr (.ref x) name v) Q E s:=by
 obtain⟨od,J,hl⟩:=I.look
 refine PySem.W.set_plain X J hs (PySem.W.osa_open (s:={s with toks:=s.toks+1}) (r:=none) X J hp ht fun b=>?_)
 obtain⟨cd,hc,hd'⟩:=PySem.W.any_some hh
 have hx:s.heap.get? x=some ⟨.ref C,some dx,.plain,#[]⟩:=I.obj
 refine wpAny_bind (wpAny_pure (wpAny_bind (wpAny_bind (wpAny_loadPart hx (wpAny_bind (PySem.W.Looks.here (s:={s with toks:=s.toks+1}) (PySem.W.looks_clsIn X hc) ?_))))))
 rw[hd']
 refine wpAny_pure (a:=some dx) (wpAny_bind (wpAny_pure (wpAny_bind ?_)))
 refine wpAny_nsSet1 (s:={s with toks:=s.toks+1}) I.ns fun h' hn2 hs2=>?_
 obtain⟨oD,esD,epD,hoD,hdD,hcD⟩:=hn2.count (PySem.Within.cons name v hw)
 refine wpAny_bind (wpAny_lookBehind hoD (by rw[hdD];exact pastItsLine_dict (Nat.le_trans hcD (by rw[List.length_cons];omega))) ?_)
 exact wpAny_pure (h _ ⟨(hs2.2 _ (Ne.symm I.ne)).trans I.obj,hn2,I.ne⟩ hs2)
theorem yu2{R:Result->Shared->Prop}{vs:List Value}(X:K.In s.heap)(hm:PySem.W.makesIn K C=true)(hi:PySem.W.findIn K (.ref C) "__init__"=some (some (.ref f)))(hf:PySem.W.typeIn K (.ref f)=some (.type "function")) (h:codeAny (model prog w) (A.under (.builtin "type.__call__" ⟨.ref C::vs,kw⟩)) (.call (.ref f) ⟨.ref (s.heap.objs.size+1)::vs,kw⟩) (PySem.W.InitBack (s.heap.objs.size+1) R)
  {s with heap:=(s.heap.push PySem.W.emptyDict).push (PySem.W.instObj C s.heap.objs.size)}) :
 codeAny (model prog w) A (.call (.ref C) ⟨vs,kw⟩) R s:=by
 obtain⟨hh,g,d,t,os⟩:=s
 exact PySem.W.make_core (PySem.W.makes_of X hm) (PySem.W.looks_findIn X hi) (fun self=>PySem.W.bind_fn X self hf) (.inl rfl) h
end
def ql1(f:Str)(v:V):List (Str×V)->List (Str×V)
 | []=>[(f,v)]
 | (g,x)::r=>if g=f then(g,v)::r else(g,x)::ql1 f v r
theorem ww7(f g:Str)(v:V):∀ fs:List (Str×V),(ql1 f v fs).lookup g=if g=f then some v else fs.lookup g
 | []=>by
   show List.lookup g [(f,v)]=_
   by_cases h:g=f
   ·have hb:(g == f)=true:=beq_iff_eq.mpr h
    simp only[List.lookup,hb,if_pos h]
   ·have hb:(g == f)=false:=beq_eq_false_iff_ne.mpr h
    simp only[List.lookup,hb,if_neg h]
 | (k,x)::r=>by
   have ih:=ww7 f g v r
   rw[show ql1 f v ((k,x)::r)=(if k=f then(k,v)::r else(k,x)::ql1 f v r) from rfl]
   by_cases hk:k=f
   ·rw[if_pos hk]
    by_cases h:g=k
    ·have hb:(g == k)=true:=beq_iff_eq.mpr h
     simp only[List.lookup,hb,if_pos (h.trans hk)]
    ·have hb:(g == k)=false:=beq_eq_false_iff_ne.mpr h
     simp only[List.lookup,hb,if_neg (fun e:g=f=>h (e.trans hk.symm))]
   ·rw[if_neg hk]
    by_cases h:g=k
    ·have hb:(g == k)=true:=beq_iff_eq.mpr h
     simp only[List.lookup,hb,if_neg (fun e:g=f=>hk (h.symm.trans e))]
    ·have hb:(g == k)=false:=beq_eq_false_iff_ne.mpr h
     simp only[List.lookup,hb]
     exact ih
theorem wr9(f:Str)(v:V):∀ fs:List (Str×V),f∈(ql1 f v fs).map (·.1)/\∀ g,g∈fs.map (·.1)->g∈(ql1 f v fs).map (·.1)
 | []=>⟨by simp[ql1],fun g h=>by simp at h⟩
 | (k,x)::r=>by
   obtain⟨i1,i2⟩:=wr9 f v r
   rw[show ql1 f v ((k,x)::r)=(if k=f then(k,v)::r else(k,x)::ql1 f v r) from rfl]
   by_cases hk:k=f
   ·rw[if_pos hk]
    subst hk
    exact⟨by simp,fun g h=>by simpa using h⟩
   ·rw[if_neg hk]
    refine⟨?_,fun g h=>?_⟩
    ·rw[List.map_cons]
     exact List.mem_cons_of_mem _ i1
    ·rw[List.map_cons] at h ⊢
     rcases List.mem_cons.mp h with e|e
     ·exact List.mem_cons.mpr (.inl e)
     ·exact List.mem_cons_of_mem _ (i2 g e)
theorem ww8(f:Str)(v:V):∀ fs:List (Str×V),(ql1 f v fs).length<=fs.length+1
 | []=>by simp[ql1]
 | (k,x)::r=>by
   have ih:=ww8 f v r
   rw[show ql1 f v ((k,x)::r)=(if k=f then(k,v)::r else(k,x)::ql1 f v r) from rfl]
   by_cases hk:k=f
   ·rw[if_pos hk,List.length_cons,List.length_cons];omega
   ·rw[if_neg hk,List.length_cons,List.length_cons];omega
theorem wm9.some_of{o:Option Value}(r:wm9 (some v) o):∃ u,o=some u/\J8 v u:=by
 cases o with
 | none=>exact(show False from r).elim
 | some u=>exact⟨u,rfl,r⟩
theorem wm9.none_of{o:Option Value}(r:wm9 none o):o=none:=by
 cases o with
 | none=>rfl
 | some u=>exact(show False from r).elim
theorem yp3(r:J8 v u):PySem.W.handedIn u=true:=by
 cases v with
 | non=>cases (show u=Value.none from r);rfl
 | bl b=>cases (show u=Value.bool b from r);rfl
 | int i=>obtain⟨t,e⟩:=(show ∃ t,u=Value.int i t from r);cases e;rfl
 | str x=>obtain⟨t,e⟩:=(show ∃ t,u=Value.str x t from r);cases e;rfl
 | byt b=>obtain⟨t,e⟩:=(show ∃ t,u=Value.bytes b t from r);cases e;rfl
 | flt b=>obtain⟨t,e⟩:=(show ∃ t,u=Value.float b t from r);cases e;rfl
 | ref a=>cases (show u=Value.ref a from r);rfl
 | ty n=>cases (show u=Value.type n from r);rfl
section
variable{fs fs':List (Str×V)}
theorem wz5(hok:HOk P w H h)(e:H a=some (.ins C dx fs)):∃ mA,yc3 h a dx C mA/\(∀ f,wm9 (fs.lookup f) (mA f))/\PySem.Within mA (fs.map (·.1))/\fs.length<=1000/\H dx=some (.own a):=by
 obtain⟨d,z,ne,ob,mA,n,r,q⟩:=(show U6 P w H h a (.ins C dx fs) from hok a _ e)
 exact⟨mA,⟨ob,n,ne⟩,r,q,z,d⟩
end
structure Cls(K:Fg)(C:Addr):Prop where
 pg:PySem.W.plainGet K C Str.empty=true
 hd:PySem.W.hasDictIn K C=true
 po:PySem.W.plainOver K C=true
 sa:PySem.W.findIn K (.ref C) "__setattr__"=some (some (.builtin "object.__setattr__"))
theorem Cls.get(c:Cls K C)(f:Str):PySem.W.plainGet K C f=true:=c.pg
def wd0(K:Fg)(C:Addr)(f:Str):Prop:=PySem.W.findIn K (.ref C) f=some none
theorem wd0.taker{f:Str}(n:wd0 K C f):PySem.W.takerIn K C f=some none:=by
 unfold PySem.W.takerIn
 rw[show PySem.W.findIn K (.ref C) f=some none from n]
 rfl
structure qy4(K:Fg)(C:Addr)(m:Str)(f:Addr):Prop where
 at_:PySem.W.findIn K (.ref C) m=some (some (.ref f))
 fn:PySem.W.isFn K (.ref f)=true
 kp:PySem.W.keepIn K (.ref f)=true
variable{m:Str}{env:Env}
section
variable{fs:List (Str×V)}{f:Str}
theorem yc4{b:Bool}(I:Inv X pins σ H s)(e:H a=some (.ins C dx fs))(c:Cls X.K C)(n:wd0 X.K C f)(l:fs.lookup f=some v)(h:∀ u s',Inv X pins σ H s'->J8 v u->Q u s'):wpAny (model X.prog X.w) A (getAttr (.ref a) f b) Q E s:=by
 obtain⟨mA,O,r,_,_,_⟩:=wz5 I.hok e
 obtain⟨u,hu,ru⟩:=wm9.some_of (v:=v) (o:=mA f) (by rw[<-l];exact r f)
 exact ze2 I.kIn O (c.get f) c.hd n hu (yp3 ru) (h u _ (I.tok _) ru)
theorem xb2{g:Addr}{Q:Value×List Value->Shared->Prop}(I:Inv X pins σ H s)(e:H a=some (.ins C dx fs))(c:Cls X.K C)(k:qy4 X.K C m g)(l:fs.lookup m=none)(h:Q (.ref g,[.ref a]) s):wpAny (model X.prog X.w) A (getMethod (.ref a) m pl) Q E s:=by
 obtain⟨mA,O,r,_,_,_⟩:=wz5 I.hok e
 have hn:mA m=none:=wm9.none_of (by rw[<-l];exact r m)
 exact yu1 I.kIn O (c.get m) k.at_ k.fn hn h
theorem yc5{Q:Unit->Shared->Prop}(I:Inv X pins σ H s)(e:H a=some (.ins C dx fs))(c:Cls X.K C)(n:wd0 X.K C f)(hl:fs.length<1000)(ry:J8 y u)(h:∀ s',Inv X pins σ (upd H a (.ins C dx (ql1 f y fs))) s'->Q () s'):wpAny (model X.prog X.w) A (setAttr (.ref a) f u) Q E s:=by
 obtain⟨mA,O,r,wi,_,ho⟩:=wz5 I.hok e
 have hz:(fs.map (·.1)).length<=sizeLine:=by rw[List.length_map,sizeLine_eq];omega
 refine ze3 I.kIn O c.sa c.po n.taker c.hd wi hz fun h' O' sb=>h _ ?_
 have hd:∃ o,h'.get? dx=some o:=let ⟨o,_,_,e',_⟩:=O'.ns;⟨o,e'⟩
 refine I.write (x:=a) (e:=dx) (by rw[e];exact True.intro) (.inr ho) (fun b q hb z=>(sb.2 b hb).trans z) hd ?_
 refine⟨by rw[B4 O.ne];exact ho,?_,O.ne,O'.obj,_,O'.ns,fun g=>?_,fun g hg=>?_⟩
 ·have:=ww8 f y fs;omega
 ·show wm9 ((ql1 f y fs).lookup g) (if g=f then some u else mA g)
  rw[ww7]
  by_cases q:g=f
  ·rw[if_pos q,if_pos q];exact ry
  ·rw[if_neg q,if_neg q];exact r g
 ·by_cases q:g=f
  ·rw[q];exact(wr9 f y fs).1
  ·refine(wr9 f y fs).2 g (wi g fun z=>hg ?_)
   show(if g=f then some u else mA g)=none
   rw[if_neg q];exact z
theorem Inv.made(I:Inv X pins σ H s):Inv X pins σ (upd (upd H s.heap.objs.size (.own (s.heap.objs.size+1))) (s.heap.objs.size+1) (.ins C s.heap.objs.size []))
 {s with heap:=(s.heap.push PySem.W.emptyDict).push (PySem.W.instObj C s.heap.objs.size)}:=by
 have e1:(s.heap.push PySem.W.emptyDict).get? s.heap.objs.size=some PySem.W.emptyDict:=Heap.get?_push_size s.heap rfl
 have e2:((s.heap.push PySem.W.emptyDict).push (PySem.W.instObj C s.heap.objs.size)).get? (s.heap.objs.size+1)=some (PySem.W.instObj C s.heap.objs.size):=by
  have:=Heap.get?_push_size (s.heap.push PySem.W.emptyDict) (o:=PySem.W.instObj C s.heap.objs.size) rfl
  rwa [Heap.size_push] at this
 have e3:(s.heap.push PySem.W.emptyDict).Ns s.heap.objs.size (fun _=>none):=⟨PySem.W.emptyDict,#[],_,e1,rfl,(fun e he=>absurd he (by simp)),fun _=>rfl⟩
 have I1:=I.laid (a:=s.heap.objs.size) (o:=.own (s.heap.objs.size+1)) (h':=s.heap.push PySem.W.emptyDict) (t':=s.toks) (fun b u q=>Heap.get?_push_of_some _ q) (Nat.le_refl _) ⟨_,e1⟩
 refine I1.laid (a:=s.heap.objs.size+1) (o:=.ins C s.heap.objs.size []) (t':=s.toks) (fun b u q=>Heap.get?_push_of_some _ q) (Nat.le_of_eq (Heap.size_push _ _)) ?_
 have ne:s.heap.objs.size≠s.heap.objs.size+1:=Nat.ne_of_lt (Nat.lt_succ_self _)
 refine⟨by rw[B4 ne,A5],Nat.zero_le _,ne,e2,fun _=>none,(Heap.Ns1.of_empty e3).at fun o q=>Heap.get?_push_of_some _ q,fun _=>True.intro,fun y hy=>absurd rfl hy⟩
theorem ze4{f:Str}(hb:attributeBase e f env (eval e env)=eval e env)(h:wpAny (model prog w) A (eval e env) (fun o s₁=>wpAny (model prog w) A (getAttr o f true) Q E s₁) E s):wpAny (model prog w) A (eval (.Attribute e f pos) env) Q E s :=
 Attribute_any_ h (by rw[arm_eval_Attribute,hb])
end
def S5(K:Fg)(ta:TE)(f:Str):TE:=fun σ H Q=>ta σ H fun x H1=>∃ a C dx fs v,x=.ref a/\H1 a=some (.ins C dx fs)/\Cls K C/\wd0 K C f/\fs.lookup f=some v/\Q v H1
def wd1(K:Fg)(ta tv:TE)(f:Str):TS:=fun D σ H=>tv σ H fun y H1=>ta σ H1 fun x H2=>∃ a C dx fs,x=.ref a/\H2 a=some (.ins C dx fs)/\Cls K C/\wd0 K C f/\fs.length<1000 /\
 D.nx σ (upd H2 a (.ins C dx (ql1 f y fs)))
variable{tpos:Pos}{tv:TE}
section
variable{o value:Expr}{f:Str}
theorem E8(he:PE X e ta)(hb:attributeBase e f X.env (eval e X.env)=eval e X.env):PE X (.Attribute e f pos) (S5 X.K ta f):=by
 intro pins s σ H Q I h
 refine ze4 hb (thn (he pins s σ H _ I h) fun u s1 zq=>?_)
 obtain⟨x,H1,I1,rx,a,C,dx,fs,v,ex,ea,c,n,l,q⟩:=zq
 subst ex
 obtain rfl:u=Value.ref a:=rx
 exact yc4 I1 ea c n l fun u' s2 I2 ru=>⟨v,H1,I2,ru,q⟩
theorem qu3(ha:PE X o ta)(hv:PE X value tv)(hs:swapsWith value (some (.Attribute o f pos')) pos.line X.env=pure false):PS X (.Assign [.Attribute o f pos'] value pos) (wd1 X.K ta tv f):=by
 intro pins s σ H D I h
 refine plainObj_wpAny_Assign_Attribute (thn (hv pins s σ H _ I h) fun u s1 ⟨y,H1,I1,ry,q⟩=>thn (ha pins s1 σ H1 _ I1 q) fun ov s2 zq=>?_) hs
 obtain⟨x,H2,I2,rx,a,C,dx,fs,ex,ea,c,n,l,q2⟩:=zq
 subst ex
 obtain rfl:ov=Value.ref a:=rx
 exact yc5 I2 ea c n l ry fun s3 I3=>⟨σ,_,I3,q2⟩
end
section
variable{c:Value}{b:Bool}
inductive wn2(K:Fg)(H:Hp):V->Value->Prop where
 | non:wn2 K H .non (.type "NoneType")
 | bl (x:Bool):wn2 K H (.bl x) (.type "bool")
 | int (i:Int):wn2 K H (.int i) (.type "int")
 | str (x:Str):wn2 K H (.str x) (.type "str")
 | flt (x:UInt64):wn2 K H (.flt x) (.type "float")
 | lst {a:Addr} {xs:List V} (e:H a=some (.lst xs)):wn2 K H (.ref a) (.type "list")
 | frz {a:Addr} {o:Obj} {xs:List V} (e:H a=some (.frz o (.lst xs))):wn2 K H (.ref a) (.type "list")
 | tup {a:Addr} {xs:List V} (e:H a=some (.tup xs)):wn2 K H (.ref a) (.type "tuple")
 | dK {a:Addr} {kvs:List (Key×V)} (e:H a=some (.dK kvs)):wn2 K H (.ref a) (.type "dict")
 | dT {a:Addr} {kvs:List (List Key×V)} (e:H a=some (.dT kvs)):wn2 K H (.ref a) (.type "dict")
 | ins {a C dx:Addr} {fs:List (Str×V)} (e:H a=some (.ins C dx fs)) (cl:Cls K C) (ha:PySem.W.findIn K (.ref C) "__class__"=some (some (.builtin "object.__class__")))
  (hn:PySem.W.specialIn K (.builtin "object.__class__") "__get__"=some (some (.builtin "getset_descriptor.__get__"))) (htk:PySem.W.takesIn K (.builtin "object.__class__")=some true)
  (hm:PySem.W.mroIn K C (.type "object")=some true):wn2 K H (.ref a) (.ref C)
theorem yp4{x:V}{t:Value}(I:Inv X pins σ H s)(rx:J8 x u)(ty:wn2 X.K H x t)(e:PySem.W.kitOne X.K t c=some b)(h:∀ tk,Q (.bool b) {s with toks:=tk}) :
 wpAny (model X.prog X.w) A (call (.builtin "isinstance") [u,c]) Q E s:=by
 cases ty with
 | non=>cases (show u=Value.none from rx);exact PySem.W.kia_one PySem.W.kitx_none I.kIn True.intro e (fun z=>nomatch z) h
 | bl y=>cases (show u=Value.bool y from rx);exact PySem.W.kia_one PySem.W.kitx_bool I.kIn True.intro e (fun z=>nomatch z) h
 | int i=>obtain⟨t,q⟩:=(show ∃ t,u=Value.int i t from rx);cases q;exact PySem.W.kia_one PySem.W.kitx_int I.kIn True.intro e (fun z=>nomatch z) h
 | str y=>obtain⟨t,q⟩:=(show ∃ t,u=Value.str y t from rx);cases q;exact PySem.W.kia_one PySem.W.kitx_str I.kIn True.intro e (fun z=>nomatch z) h
 | flt y=>obtain⟨t,q⟩:=(show ∃ t,u=Value.float y t from rx);cases q;exact PySem.W.kia_one PySem.W.kitx_float I.kIn True.intro e (fun z=>nomatch z) h
 | @lst a xs ea =>
   cases (show u=Value.ref a from rx)
   obtain⟨_,_,n,_,h1⟩:=(show U6 X.prog X.w H s.heap a (.lst xs) from I.hok a _ ea)
   exact PySem.W.kia_one PySem.W.kitx_list I.kIn ⟨_,h1,rfl⟩ e (fun z=>nomatch z) h
 | @frz a ob xs ea =>
   cases (show u=Value.ref a from rx)
   obtain⟨_,_,_,n,_,h1⟩:=(show U6 X.prog X.w H s.heap a (.frz ob (.lst xs)) from I.hok a _ ea)
   exact PySem.W.kia_one PySem.W.kitx_list I.kIn ⟨_,h1,rfl⟩ e (fun z=>nomatch z) h
 | @tup a xs ea =>
   cases (show u=Value.ref a from rx)
   obtain⟨_,_,_,p⟩:=(show U6 X.prog X.w H s.heap a (.tup xs) from I.hok a _ ea)
   obtain⟨o,h1,h2,_⟩:=p
   exact PySem.W.kia_one PySem.W.kitx_tuple I.kIn ⟨o,h1,h2⟩ e (fun z=>nomatch z) h
 | @dK a kvs ea =>
   cases (show u=Value.ref a from rx)
   obtain⟨_,_,vs,_,p⟩:=(show U6 X.prog X.w H s.heap a (.dK kvs) from I.hok a _ ea)
   obtain⟨o,es,ep,h1,h2,_⟩:=p
   exact PySem.W.kia_one PySem.W.kitx_dict I.kIn ⟨o,h1,h2.1⟩ e (fun z=>nomatch z) h
 | @dT a kvs ea =>
   cases (show u=Value.ref a from rx)
   obtain⟨_,_,xs,_,o,es,ep,h1,h2,_⟩:=(show U6 X.prog X.w H s.heap a (.dT kvs) from I.hok a _ ea)
   exact PySem.W.kia_one PySem.W.kitx_dict I.kIn ⟨o,h1,h2.1⟩ e (fun z=>nomatch z) h
 | @ins a C dx fs ea cl ha hn htk hm =>
   cases (show u=Value.ref a from rx)
   obtain⟨mA,O,_⟩:=wz5 I.hok ea
   obtain⟨od,J,_⟩:=O.look
   exact PySem.W.kia_one (PySem.W.kitx_own (cl.get _) cl.hd ha hn htk hm) I.kIn J e (fun z=>nomatch z) h
end
structure qj3(k:Nat)(A:Around):Prop where
 hd:A.handled=none
 dp:A.depth+3*k+5<recursionLimit
 un:A.units+16*k+200<cLine
 gd:A.guards=some []
theorem qj3.mono{j:Nat}(r:qj3 k A)(h:j<=k):qj3 j A:=⟨r.hd,by have:=r.dp;omega,by have:=r.un;omega,r.gd⟩
theorem qj3.deeper(r:qj3 (k+1) A)(env:Env):qj3 k (A.deeper env) :=
 ⟨r.hd,by have:=r.dp;show A.depth+1+3*k+5<_;omega,by have:=r.un;show A.units+3+16*k+200<_;omega,r.gd⟩
theorem yc6:(A.under (.builtin "type.__call__" ⟨.ref C::us,kw⟩)).depth=A.depth+1:=by
 first|rfl|simp[Around.under,Code.weight,Code.isCreation,Code.isGuard,Code.isCaller,Code.frames,Code.isFrame,guardIds]
theorem yc7:(A.under (.builtin "type.__call__" ⟨.ref C::us,kw⟩)).units=A.units+1:=by
 first|rfl|simp[Around.under,Code.cUnits,Code.frames,Code.isFrame]
theorem xu7:(A.under (.builtin "type.__call__" ⟨.ref C::us,kw⟩)).guards=pushGuards [] A.guards:=by
 first|rfl|simp[Around.under,Code.guards,Code.isGuard,guardIds]
theorem qj3.make(r:qj3 (k+1) A)(C:Addr)(us:List Value)(kw:List (Str×Value)):qj3 k (A.under (.builtin "type.__call__" ⟨.ref C::us,kw⟩)) :=
 ⟨r.hd,by have:=r.dp;rw[yc6];omega,by have:=r.un;rw[yc7];omega,by rw[xu7,r.gd];rfl⟩
theorem qj3.depth(r:qj3 k A):A.depth<recursionLimit:=by have:=r.dp;omega
theorem qj3.units(r:qj3 k A):A.units+64<cLine:=by have:=r.un;omega
def A9:TA:=fun _ H Q=>Q [] H
def A1(ta:TE)(tr:TA):TA:=fun σ H Q=>ta σ H fun x H1=>tr σ H1 fun xs H2=>Q (x::xs) H2
variable{t:TA}
theorem A4:PA X [] A9:=fun _ _ _ _ H Q I h=>Calls.spliced_nil ⟨[],H,I,.nil,h⟩
theorem A0(ha:PE X e te)(hr:PA X es t)(hs:autoParam (starEach (e::es) X.env=(false,eval e X.env)::starEach es X.env) zAr):PA X (e::es) (A1 te t):=by
 intro pos pins s σ H Q I h
 rw[hs]
 show wpAny _ _ (spliced ((false,eval e X.env)::backTo pos (starEach es X.env))) _ _ s
 refine Calls.spliced_cons (thn (ha pins s σ H _ I h) fun u s1 zq=>?_)
 obtain⟨x,H1,I1,r1,q1⟩:=zq
 exact thn (hr pos pins s1 σ H1 _ I1 q1) fun us s2 ⟨xs,H2,I2,r2,q2⟩=>⟨x::xs,H2,I2,.cons r1 r2,q2⟩
def Q3(t:TA):TE:=fun σ H Q=>t σ H fun xs H1=>xs.length<=sizeLine/\∀ p,H1 p=none->Q (.ref p) (upd H1 p (.tup xs))
def X6(t:TA):TE:=fun σ H Q=>t σ H fun xs H1=>xs.length<=sizeLine/\∀ p,H1 p=none->Q (.ref p) (upd H1 p (.lst xs))
theorem D7{x1}(h:PA X es t):PE X (.Tuple es x1 pos) (Q3 t):=by
 intro pins s σ H Q I hq
 refine wpAny_Tuple_spliced (thn (h pos pins s σ H _ I hq) fun us s1 ⟨xs,H1,I1,r,z,q⟩=>⟨by rw[<-r.length];exact z,?_⟩)
 have hf:H1 s1.heap.objs.size=none:=I1.hok.fresh (Nat.le_refl _)
 refine⟨.ref s1.heap.objs.size,upd H1 s1.heap.objs.size (.tup xs),I1.laid (t':=s1.toks) (fun b u e=>Heap.get?_push_of_some _ e) (Nat.le_refl _) ?_,rfl,q _ hf⟩
 exact⟨z,us,r,⟨_,Heap.get?_push_size _ rfl,rfl,_,rfl⟩⟩
theorem M8(h:PA X es t):PE X (.List es pos) (X6 t):=by
 intro pins s σ H Q I hq
 refine wpAny_List_spliced (thn (h pos pins s σ H _ I hq) fun us s1 ⟨xs,H1,I1,r,z,q⟩=>⟨by rw[<-r.length];exact z,?_⟩)
 have hf:H1 s1.heap.objs.size=none:=I1.hok.fresh (Nat.le_refl _)
 refine⟨.ref s1.heap.objs.size,upd H1 s1.heap.objs.size (.lst xs),I1.laid (t':=s1.toks) (fun b u e=>Heap.get?_push_of_some _ e) (Nat.le_refl _) ?_,rfl,q _ hf⟩
 exact⟨z,us,0,r,Heap.get?_push_size _ rfl⟩
abbrev Sp:=List V->Hp->VK->XK->Prop
abbrev CXT:=List Env->Hp->Shared->XK->Value->Shared->Prop
structure yc8(P:Program)(w:World)(K:Fg)(mg:Str->Option Value)(base:Heap)(A:Around)(outer:List Env)(s:Shared)(H:Hp):Prop where
 frames:A.frames=some outer
 mod:Mod K mg base
 bs:∀ b o,base.get? b=some o->s.heap.get? b=some o/\H b=none
 bsz:base.objs.size<=s.heap.objs.size
 funs:s.heap.FunFrames base outer
 frf:∀ b∈frs outer,H b=none
 hok:HOk P w H s.heap
 bare:AllBare s.gens
 tk:0<s.toks
def CE(outer:List Env)(P:Program)(w:World)(H:Hp)(s:Shared)(Q:VK)(u:Value)(s':Shared):Prop :=
 ∃ v H',0<s'.toks/\s'.os=s.os/\AllBare s'.gens/\Un (frs outer) [] H H' s.heap s'.heap/\HOk P w H' s'.heap/\J8 v u/\Q v H'
def CR(CX:CXT)(outer:List Env)(P:Program)(w:World)(H:Hp)(s:Shared)(Q:VK)(E:XK)(r:Result)(s':Shared):Prop :=
 match r with
 | .ok (.ret u)=>CE outer P w H s Q u s'
 | .ok _=>False
 | .error e=>CX outer H s E e s'
structure J7(P:Program)(w:World)(K:Fg)(mg:Str->Option Value)(base:Heap)(CX:CXT)(k:Nat)(f:Addr)(fd:FuncData)(ps:List Str)(sp:Sp):Prop where
 len:∀ vs H Q E,sp vs H Q E->vs.length=ps.length
 run:∀ (A:Around) (outer:List Env) (s:Shared) (H:Hp) (args:Args) (us:List Value) (vs:List V) (Q:VK) (E:XK),qj3 k A->yc8 P w K mg base A outer s H->BindsTo s fd args (ps.zip us)->G0 vs us->sp vs H Q E ->
  codeAny (model P w) A (.call (.ref f) args) (CR CX outer P w H s Q E) s
variable{base:Heap}{mg:Str->Option Value}{outer:List Env}
theorem yc8.make(e:yc8 P w K mg base A outer s H)(C:Addr)(us:List Value)(kw:List (Str×Value)) :
 yc8 P w K mg base (A.under (.builtin "type.__call__" ⟨.ref C::us,kw⟩)) outer s H:=⟨by first|exact e.frames|(simpa [Around.under,Code.envs,Code.isFrame,pushEnvs] using e.frames),e.mod,e.bs,e.bsz,e.funs,e.frf,e.hok,e.bare,e.tk⟩
section
variable{s':Shared}
theorem Inv.env0(I:Inv X pins σ H s):yc8 X.prog X.w X.K X.mg X.base X.A X.stack s H :=
 ⟨I.ok.frames,I.ok.mod,I.bs,Nat.le_trans I.ok.bsz I.sz,I.stack,I.stkFree,I.hok,I.bare,I.tk⟩
theorem Inv.after{Q:VK}(I:Inv X pins σ H s)(h:CE X.stack X.prog X.w H s Q u s'):EP X pins σ Q u s':=by
 obtain⟨v,H',ht,os,bare,un,hok,r,q⟩:=h
 obtain⟨hh,g,d,t,os'⟩:=s'
 obtain rfl:os'=s.os:=os
 exact⟨v,H',I.call (h':=hh) (g':=g) (d':=d) (t':=t) (ch:=[]) un hok bare (fun b z=>absurd z (by simp)) ht,r,q⟩
end
def D1(sp:Sp)(dvs:List V)(E:XK)(t:TA):TE:=fun σ H Q=>t σ H fun vs H1=>sp (vs++dvs) H1 Q E
def N1(C:Addr)(m:Str)(sp:Sp)(dvs:List V)(E:XK)(ta:TE)(t:TA):TE:=fun σ H Q=>ta σ H fun x H1=>∃ a dx fs,x=.ref a/\H1 a=some (.ins C dx fs)/\fs.lookup m=none /\
 t σ H1 fun vs H2=>sp (x::(vs++dvs)) H2 Q E
def xu8(C:Addr)(sp:Sp)(dvs:List V)(E:XK)(t:TA):TE:=fun σ H Q=>t σ H fun vs H1=>∀ x dx,H1 x=none->H1 dx=none->dx≠x ->
 sp (.ref x::(vs++dvs)) (upd (upd H1 dx (.own x)) x (.ins C dx [])) (fun v H2=>v=.non/\Q (.ref x) H2) E
def T7(K:Fg)(fd:FuncData)(ps:List Str)(ds:List Value):Prop :=
 ∀ (s:Shared) (us:List Value),K.In s.heap->(us++ds).length=ps.length->BindsTo s fd ⟨us,[]⟩ (ps.zip (us++ds))
variable{fd:FuncData}{ps:List Str}
theorem T7.all(h:∀ us:List Value,us.length=ps.length->bindArgs fd ⟨us,[]⟩=pure (ps.zip us)):T7 K fd ps []:=fun s us _ hl=>by
 rw[List.append_nil] at hl ⊢
 exact .of_eq (h us hl)
def wd2(CX:CXT)(X:Cx)(E:XK):Prop:=∀ (pins:List (Addr×Obj)) (σ:St) (H:Hp) (s:Shared) (e:Value) (s':Shared),Inv X pins σ H s->CX X.stack H s E e s'->X.xe e s'
variable{CX:CXT}{apos:Pos}{dvs vs:List V}{sp:Sp}
section
variable{f:Addr}{ds:List Value}{E:XK}{p:Pos}{o:Expr}
theorem yc9{Q:VK}(F:J7 X.prog X.w X.K X.mg X.base CX k f fd ps sp)(hr:qj3 k X.A)(hb:T7 X.K fd ps ds)(hd:G0 dvs ds)(hx:wd2 CX X E)(I:Inv X pins σ H s)(r:G0 vs us)(h:sp (vs++dvs) H Q E):wpAny (model X.prog X.w) X.A (call (.ref f) us) (EP X pins σ Q) X.xe s:=by
 have r2:G0 (vs++dvs) (us++ds):=r.append hd
 have hl:(us++ds).length=ps.length:=by rw[<-r2.length];exact F.len _ _ _ _ h
 refine wpAny_call (codeAny_mono (F.run X.A X.stack s H ⟨us,[]⟩ (us++ds) (vs++dvs) Q E hr I.env0 (hb s us I.kIn hl) r2 h) fun r s' hq=>?_)
 cases r with
 | error e=>exact hx pins σ H s e s' I hq
 | ok fl =>
   cases fl with
   | ret u=>exact I.after hq
   | next=>exact False.elim hq
   | brk=>exact False.elim hq
   | cont=>exact False.elim hq
theorem ze5(F:J7 X.prog X.w X.K X.mg X.base CX k f fd ps sp)(hr:qj3 k X.A)(hg:Gl X x)(hm:X.mg x=some (.ref f))(hk:PySem.W.keepIn X.K (.ref f)=true)(hb:T7 X.K fd ps ds)(hd:G0 dvs ds)(hx:wd2 CX X E)(ha:PA X (e::es) t)(hdb:autoParam ((x == ("__debug__":Str))=false) zAd)(he:autoParam (starEach (e::es) X.env=(false,eval e X.env)::starEach es X.env) zAr)(hpl:autoParam ((backTo pos (starEach es X.env)).any (·.1)=false) zAr) :
 PE X (.Call (.Name x p) (e::es) [] pos) (D1 sp dvs E t):=by
 intro pins s σ H Q I h
 refine wpAny_Call_Name_kw (xo1 I hg hm ?_ hdb)
 refine PySem.W.callWith_K (h₀:=X.base) I.ok.mod.kin hk (thn (ha pos pins s σ H _ I h) fun us s1 ⟨vs,H1,I1,r,q⟩=>⟨I1.kIn,?_⟩) he hpl
 exact yc9 F hr hb hd hx I1 r q
theorem N8(he:PE X o ta)(c:Cls X.K C)(hm:qy4 X.K C m f)(F:J7 X.prog X.w X.K X.mg X.base CX k f fd ps sp)(hr:qj3 k X.A)(hb:T7 X.K fd ps ds)(hd:G0 dvs ds)(hx:wd2 CX X E)(ha:PA X (e::es) t)(hst:autoParam (starEach (e::es) X.env=(false,eval e X.env)::starEach es X.env) zAr)(hpl:autoParam ((backTo pos (starEach es X.env)).any (·.1)=false) zAr) (ht:eval (.Call (.Attribute o m apos) (e::es) [] pos) X.env=(do
  let ov<-eval o X.env
  standAt apos.atName
  let (f,first)<-holding [ov] (getMethod ov m pl)
  callWith pos f first (backTo pos (starEach (e::es) X.env)) (backToKw pos (keywordEach [] X.env))):=by rfl) :
 PE X (.Call (.Attribute o m apos) (e::es) [] pos) (N1 C m sp dvs E ta t):=by
 intro pins s σ H Q I h
 refine PySem.W.methodCall_KW (pl:=pl) (thn (he pins s σ H _ I h) fun u s1 zq=>?_) ht
 obtain⟨x,H1,I1,rx,a,dx,fs,ex,ea,l,q⟩:=zq
 subst ex
 obtain rfl:u=Value.ref a:=rx
 refine xb2 I1 ea c hm l ?_
 refine PySem.W.callWith_K (first:=[.ref a]) (h₀:=X.base) I.ok.mod.kin hm.kp (thn (ha pos pins s1 σ H1 _ I1 q) fun us s2 ⟨vs,H2,I2,r,q2⟩=>⟨I2.kIn,?_⟩) hst hpl
 exact yc9 (us:=.ref a::us) (vs:=.ref a::vs) F hr hb hd hx I2 (.cons rfl r) q2
theorem S6(he:PE X o ta)(c:Cls X.K C)(hm:qy4 X.K C m f)(F:J7 X.prog X.w X.K X.mg X.base CX k f fd ps sp)(hr:qj3 k X.A)(hb:T7 X.K fd ps ds)(hd:G0 dvs ds)(hx:wd2 CX X E) (ht:eval (.Call (.Attribute o m apos) [] [] pos) X.env=(do
  let ov<-eval o X.env
  standAt apos.atName
  let (f,first)<-holding [ov] (getMethod ov m pl)
  callWith pos f first (backTo pos (starEach [] X.env)) (backToKw pos (keywordEach [] X.env))):=by rfl) :
 PE X (.Call (.Attribute o m apos) [] [] pos) (N1 C m sp dvs E ta A9):=by
 intro pins s σ H Q I h
 refine PySem.W.methodCall_KW (pl:=pl) (thn (he pins s σ H _ I h) fun u s1 zq=>?_) ht
 obtain⟨x,H1,I1,rx,a,dx,fs,ex,ea,l,q⟩:=zq
 subst ex
 obtain rfl:u=Value.ref a:=rx
 refine xb2 I1 ea c hm l ?_
 exact PySem.W.callWith_K0 (first:=[.ref a]) I1.kIn hm.kp (yc9 (us:=[.ref a]) (vs:=[.ref a]) F hr hb hd hx I1 (.cons rfl .nil) q)
structure Mk(K:Fg)(C f:Addr):Prop where
 makes:PySem.W.makesIn K C=true
 init:PySem.W.findIn K (.ref C) "__init__"=some (some (.ref f))
 fn:PySem.W.isFn K (.ref f)=true
 kp:PySem.W.keepIn K (.ref C)=true
theorem yu3{Q:VK}(M:Mk X.K C f)(F:J7 X.prog X.w X.K X.mg X.base CX k f fd ps sp)(hr:qj3 (k+1) X.A)(hb:T7 X.K fd ps ds)(hd:G0 dvs ds)(hx:wd2 CX X E)(I:Inv X pins σ H s)(r:G0 vs us)(h:∀ x dx,H x=none->H dx=none->dx≠x->sp (.ref x::(vs++dvs)) (upd (upd H dx (.own x)) x (.ins C dx [])) (fun v H2=>v=.non/\Q (.ref x) H2) E) :
 wpAny (model X.prog X.w) X.A (call (.ref C) us) (EP X pins σ Q) X.xe s:=by
 have hq:=h (s.heap.objs.size+1) s.heap.objs.size (I.hok.fresh (Nat.le_succ _)) (I.hok.fresh (Nat.le_refl _)) (Nat.ne_of_lt (Nat.lt_succ_self _))
 have I2:=Inv.made (C:=C) I
 have r2:G0 (V.ref (s.heap.objs.size+1)::(vs++dvs)) (Value.ref (s.heap.objs.size+1)::(us++ds)):=.cons rfl (r.append hd)
 have hl:(Value.ref (s.heap.objs.size+1)::us++ds).length=ps.length:=by
  have e:=r2.length
  rw[F.len _ _ _ _ hq] at e
  exact e.symm
 refine wpAny_call (yu2 (f:=f) I.kIn M.makes M.init (beq_iff_eq.mp M.fn) (codeAny_mono (F.run _ X.stack _ _ ⟨Value.ref (s.heap.objs.size+1)::us,[]⟩ (Value.ref (s.heap.objs.size+1)::(us++ds)) _ _ E (hr.make C us [])
  (I2.env0.make C us []) (hb _ (Value.ref (s.heap.objs.size+1)::us) I2.kIn hl) r2 hq) fun r s' hq'=>?_))
 cases r with
 | error e=>exact hx pins σ _ _ e s' I2 hq'
 | ok fl =>
   cases fl with
   | ret u =>
     obtain⟨v,H',I3,rv,ev,q3⟩:=I2.after hq'
     subst ev
     exact⟨rv,⟨V.ref (s.heap.objs.size+1),H',I3,rfl,q3⟩⟩
   | next=>exact False.elim hq'
   | brk=>exact False.elim hq'
   | cont=>exact False.elim hq'
theorem xo8(M:Mk X.K C f)(F:J7 X.prog X.w X.K X.mg X.base CX k f fd ps sp)(hr:qj3 (k+1) X.A)(hg:Gl X x)(hm:X.mg x=some (.ref C))(hb:T7 X.K fd ps ds)(hd:G0 dvs ds)(hx:wd2 CX X E)(ha:PA X (e::es) t)(hdb:autoParam ((x == ("__debug__":Str))=false) zAd)(he:autoParam (starEach (e::es) X.env=(false,eval e X.env)::starEach es X.env) zAr)(hpl:autoParam ((backTo pos (starEach es X.env)).any (·.1)=false) zAr) :
 PE X (.Call (.Name x p) (e::es) [] pos) (xu8 C sp dvs E t):=by
 intro pins s σ H Q I h
 refine wpAny_Call_Name_kw (xo1 I hg hm ?_ hdb)
 refine PySem.W.callWith_K (h₀:=X.base) I.ok.mod.kin M.kp (thn (ha pos pins s σ H _ I h) fun us s1 ⟨vs,H1,I1,r,q⟩=>⟨I1.kIn,?_⟩) he hpl
 exact yu3 M F hr hb hd hx I1 r q
end
section
variable{f:Addr}{ks:List Str}{E:XK}{p kpos:Pos}{o:Expr}{kws:List Keyword}{tk:TA}{nm:Option Str}
variable{g:List Value->List Value->List Value}{gV:List V->List V->List V}
end
structure B8(N P:List Str)(sc:Scope):Prop where
 kind:sc.kind=.function
 co:sc.isCoroutine=false
 gen:sc.isGenerator=false
 nd:N.Nodup
 pre:N.take P.length=P
 par:∀ x∈P,sc.names.lookup x=some .local\/sc.names.lookup x=some .cell
 nofree:∀ y∈sc.names,y.2≠.free
theorem xl1{kindOf:Str->Option NameKind}{x:Str}:∀ {binds:List (Str×Value)} {m:Str->Option Value},(∀ v,(x,v)∉binds)->bindL kindOf binds m x=m x
 | [],_,_=>rfl
 | (n,v)::r,m,h=>by
   unfold bindL
   rw[xl1 fun w hw=>h w (List.mem_cons_of_mem _ hw)]
   split
   ·have:x≠n:=by rintro rfl;exact h v List.mem_cons_self
    simp[this]
   ·rfl
theorem xl2{kindOf:Str->Option NameKind}{x:Str}:∀ {binds:List (Str×Value)} {m:Str->Option Value},(∀ v,(x,v)∉binds)->bindC kindOf binds m x=m x
 | [],_,_=>rfl
 | (n,v)::r,m,h=>by
   unfold bindC
   rw[xl2 fun w hw=>h w (List.mem_cons_of_mem _ hw)]
   split
   ·rfl
   ·have:x≠n:=by rintro rfl;exact h v List.mem_cons_self
    simp[this]
theorem xl3{kindOf:Str->Option NameKind}{x:Str}{v:Value}:∀ {P:List Str} {vs:List Value} {i:Nat} {m:Str->Option Value},P.Nodup->P[i]?=some x->vs[i]?=some v->kindOf x=some .local ->
 bindL kindOf (P.zip vs) m x=some v
 | [],_,_,_,_,h,_,_=>by simp at h
 | _::_,[],_,_,_,_,h,_=>by simp at h
 | p::P,w::vs,0,m,nd,h1,h2,hk=>by
   simp at h1 h2;subst h1;subst h2
   show bindL kindOf ((p,w)::P.zip vs) m p=_
   unfold bindL
   rw[xl1 fun v hv=>(List.nodup_cons.mp nd).1 (List.of_mem_zip hv).1,if_pos hk]
   simp
 | p::P,w::vs,i+1,m,nd,h1,h2,hk=>by
   show bindL kindOf ((p,w)::P.zip vs) m x=_
   unfold bindL
   exact xl3 (i:=i) (List.nodup_cons.mp nd).2 (by simpa using h1) (by simpa using h2) hk
theorem xl4{kindOf:Str->Option NameKind}{x:Str}{v:Value}:∀ {P:List Str} {vs:List Value} {i:Nat} {m:Str->Option Value},P.Nodup->P[i]?=some x->vs[i]?=some v->kindOf x≠some .local ->
 bindC kindOf (P.zip vs) m x=some v
 | [],_,_,_,_,h,_,_=>by simp at h
 | _::_,[],_,_,_,_,h,_=>by simp at h
 | p::P,w::vs,0,m,nd,h1,h2,hk=>by
   simp at h1 h2;subst h1;subst h2
   show bindC kindOf ((p,w)::P.zip vs) m p=_
   unfold bindC
   rw[xl2 fun v hv=>(List.nodup_cons.mp nd).1 (List.of_mem_zip hv).1,if_neg hk]
   simp
 | p::P,w::vs,i+1,m,nd,h1,h2,hk=>by
   show bindC kindOf ((p,w)::P.zip vs) m x=_
   unfold bindC
   exact xl4 (i:=i) (List.nodup_cons.mp nd).2 (by simpa using h1) (by simpa using h2) hk
def D6(N:List Str)(vs:List V):St:=vs.map some++List.replicate (N.length-vs.length) none
def yp5(CX:CXT)(P:Program)(w:World)(K:Fg)(mg:Str->Option Value)(base:Heap)(N:List Str)(qual:Str)(scope:Scope)(f:Addr)(cd:Value)(A:Around)(outer:List Env)(s:Shared)(H:Hp)(E:XK):Cx where
 prog:=P
 w:=w
 K:=K
 mg:=mg
 base:=base
 A:=A.deeper (envOfC qual scope s.heap.objs.size f cd)
 N:=N
 s₀:=s
 H₀:=H
 env:=envOfC qual scope s.heap.objs.size f cd
 outer:=outer
 stack:=envOfC qual scope s.heap.objs.size f cd::outer
 ex:=[]
 calm:=true
 fn:=fun _=>true
 pn:=[]
 xe:=fun e s'=>wpAny (model P w) (A.deeper (envOfC qual scope s.heap.objs.size f cd)) (leaving (envOfC qual scope s.heap.objs.size f cd) e) (fun _ s''=>CX outer H s E e s'') (fun e' s''=>CX outer H s E e' s'') s'
theorem xu9{sc:Scope}(h:sc.names.lookup x=some .cell):∃ c,(cellsFrom n sc.names []).lookup x=some c:=by
 have q:=PySem.W.cellsFrom_some sc.names n [] (.inl h)
 exact Option.isSome_iff_exists.mp q
variable{qual:Str}{scope:Scope}
theorem yp6{f:Addr}{cd:Value}{s1:Shared}{E:XK}(S:B8 N ps scope)(hd:A.handled=none)(e0:yc8 P w K mg base A outer s H)(hl:vs.length=ps.length)(r:G0 vs us)(x:InCallC s s.heap.objs.size (bindL (envOfC qual scope s.heap.objs.size f cd).kindOf (ps.zip us) fun _=>none) (cellsFrom (s.heap.objs.size+1) scope.names []) (bindC (envOfC qual scope s.heap.objs.size f cd).kindOf (ps.zip us) fun _=>none) s1)(ht:0<s1.toks) :
 Inv (yp5 CX P w K mg base N qual scope f cd A outer s H E) [] (D6 N vs) H s1:=by
 have hpl:ps.length<=N.length:=by have:=congrArg List.length S.pre;rw[List.length_take] at this;omega
 obtain⟨h1,tk,rfl,hk⟩:=x.done
 have noA:∀ b:Addr,b∉(yp5 CX P w K mg base N qual scope f cd A outer s H E).ex:=fun b z=>absurd (show b∈([]:List Addr) from z) (by simp)
 refine⟨⟨e0.mod,S.kind,rfl,rfl,Nat.le_refl _,fun y z c h1 h2=>?_,fun y hy=>?_,fun y c _ h=>?_,fun _=>hd,Around.frames_deeper e0.frames,.inr ⟨rfl,rfl⟩,fun b z=>absurd z (noA b),e0.bs,e0.bsz,fun b _ _=>noA b,fun b z=>absurd z (noA b),e0.funs,e0.frf⟩,
  rfl,e0.bare,Un.kept hk,⟨_,x.toInCall.ns,fun i y v h1 h2 h3=>?_⟩,fun y c h=>⟨_,x.cell y c h⟩,e0.hok.fresh (Nat.le_refl _),fun y c h=>?_,fun p hp=>absurd (show p∈([]:List (Addr×Obj)) from hp) (by simp),e0.hok.kept hk,?_,ht⟩
 ·exact name_of_addr x.apart (PySem.mem_of_lookup h1) (PySem.mem_of_lookup h2)
 ·have hy:scope.names.lookup y=some .cell\/scope.names.lookup y=some .free:=hy
  rcases hy with hy|hy
  ·exact xu9 hy
  ·exact absurd rfl (S.nofree _ (PySem.mem_of_lookup hy))
 ·exact Nat.le_of_lt (x.above y c (PySem.mem_of_lookup h))
 ·have hi:i<vs.length:=by
   unfold D6 at h2
   by_cases hi:i<vs.length
   ·exact hi
   ·rw[List.getElem?_append_right (by simpa using hi)] at h2
    rw[List.getElem?_replicate] at h2
    split at h2 <;> cases h2
  have ha:vs[i]?=some v:=by
   unfold D6 at h2
   rw[List.getElem?_append_left (by simpa using hi),List.getElem?_map] at h2
   cases e:vs[i]? with
   | none=>rw[e] at h2;cases h2
   | some a=>rw[e] at h2;cases h2;rfl
  obtain⟨u,hu,rv⟩:=r.get ha
  have hp:ps[i]?=some y:=by
   rw[<-S.pre,List.getElem?_take_of_lt (by omega)];exact h1
  have ndP:ps.Nodup:=by rw[<-S.pre];exact S.nd.sublist (List.take_sublist _ _)
  refine⟨u,rv,?_⟩
  rcases S.par y (List.mem_of_getElem? hp) with k|k
  ·exact .inl ⟨k,xl3 ndP hp hu k⟩
  ·obtain⟨c,e⟩:=xu9 (n:=s.heap.objs.size+1) k
   refine .inr ⟨.inl k,c,e,?_⟩
   have q:=x.cell y c e
   rw[xl4 ndP hp hu (by show scope.names.lookup y≠_;rw[k];decide)] at q
   exact q
 ·exact e0.hok.fresh (Nat.le_of_lt (x.above y c (PySem.mem_of_lookup h)))
 ·unfold D6
  show _=N.length
  rw[List.length_append,List.length_map,List.length_replicate]
  omega
variable{an od:Option Addr}{cdv ct doc oc pm:Value}{osl:Array (Option Value)}
theorem zv3{f:Addr}{params:Arguments}{dV kV:Value}(lk:K.lookup f=some ⟨oc,od,.func (PySem.W.fnOf name qual params body scope dV kV doc pm an cdv ct),osl⟩)(hcd:PySem.W.codeIn K cdv qual=true)(S:B8 N ps scope)(len:∀ vs H Q E,sp vs H Q E->vs.length=ps.length) (hbody:∀ (A:Around) (outer:List Env) (s:Shared) (H:Hp) (vs:List V) (Q:VK) (E:XK),qj3 k (A.deeper (envOfC qual scope s.heap.objs.size f cdv))->sp vs H Q E ->
  ∃ t,PSs (yp5 CX P w K mg base N qual scope f cdv A outer s H E) body t/\t {nx:=fun _ H'=>Q .non H',rt:=Q} (D6 N vs) H) :
 J7 P w K mg base CX (k+1) f (PySem.W.fnOf name qual params body scope dV kV doc pm an cdv ct) ps sp:=by
 refine⟨len,fun A outer s H args us vs Q E hr e0 hb r hsp=>?_⟩
 have hl:=len _ _ _ _ hsp
 have KX:K.In s.heap:=e0.mod.kin.keeps fun b o e=>(e0.bs b o e).1
 have lim:s.heap.NoLimit:=e0.mod.nolimit.keeps fun b o e=>(e0.bs b o e).1
 have hkind:∀ y∈ps.zip us,scope.names.lookup y.1=some .local\/(scope.names.lookup y.1=some .cell/\((cellsFrom (s.heap.objs.size+1) scope.names []).lookup y.1).isSome=true):=fun⟨n,v⟩ hy=>by
  rcases S.par n (List.of_mem_zip hy).1 with q|q
  ·exact .inl q
  ·exact .inr ⟨q,PySem.W.cellsFrom_some _ _ _ (.inl q)⟩
 refine codeAny_call_function hr.depth (KX _ _ lk) rfl S.co S.gen rfl (PySem.W.codeRec_of KX hcd) (hb _ _ _ _ ?_)
 refine wpAny_with_toks (n:=1) e0.tk (wpAny_newFunctionEnv_cells S.kind hkind fun env he s1 x htk=>?_)
 subst he
 refine⟨lim.keeps x.toInCall.keep,codeAny_func ?_⟩
 obtain⟨t,ht,hq⟩:=hbody A outer s H vs Q E (hr.deeper _) hsp
 have I:Inv (yp5 CX P w K mg base N qual scope f cdv A outer s H E) [] (D6 N vs) H s1:=yp6 S hr.hd e0 hl r x htk
 refine wpAny_mono (ht [] s1 (D6 N vs) H _ I hq) (fun fl s' hs=>?_) fun e s' hs=>hs
 have fin:∀ {σ':St} {H':Hp} {v:V} {u:Value},Inv (yp5 CX P w K mg base N qual scope f cdv A outer s H E) [] σ' H' s'->J8 v u->Q v H'->CE outer P w H s Q u s' :=
  fun{σ' H' v u} J rv q=>⟨v,H',J.tk,J.os,J.bare,J.base,J.hok,rv,q⟩
 cases fl with
 | ret u =>
   obtain⟨v,σ',H',J,rv,q⟩:=hs
   exact fin J rv q
 | next =>
   obtain⟨σ',H',J,q⟩:=hs
   exact fin (v:=V.non) (u:=Value.none) J rfl q
 | brk =>
   obtain⟨_,_,_,q⟩:=hs
   exact False.elim q
 | cont =>
   obtain⟨_,_,_,q⟩:=hs
   exact False.elim q
variable{T:String}
section
variable{p:Pos}{id:String}{r:List V->Hp->VK->Prop}
def tCB(r:List V->Hp->VK->Prop)(t:TA):TE:=fun σ H Q=>t σ H fun vs H1=>r vs H1 Q
theorem D3(hc:qf3 X (.builtin id) r)(hg:Gl X x)(hm:X.mg x=none)(hv:bootBuiltins x=some (.builtin id))(ha:PA X (e::es) t)(hn:autoParam (x ≠ "__name__") zAd)(hdb:autoParam ((x == ("__debug__":Str))=false) zAd)(he:autoParam (starEach (e::es) X.env=(false,eval e X.env)::starEach es X.env) zAr)(hpl:autoParam ((backTo pos (starEach es X.env)).any (·.1)=false) zAr):PE X (.Call (.Name x p) (e::es) [] pos) (tCB r t):=by
 intro pins s σ H Q I h
 refine wpAny_Call_Name_kw (qy1 I hg hm hv ?_ hn hdb)
 exact PyProof.Rows.callWith_builtin1 (thn (ha pos pins s σ H _ I h) fun us s1 ⟨vs,H1,I1,r1,q1⟩=>hc pins s1 σ H1 vs us Q I1 r1 q1) he hpl
theorem O5(hc:qf3 X (.type T) r)(hg:Gl X x)(hm:X.mg x=none)(hv:bootBuiltins x=some (.type T))(ha:PA X (e::es) t)(hn:autoParam (x ≠ "__name__") zAd)(hdb:autoParam ((x == ("__debug__":Str))=false) zAd)(he:autoParam (starEach (e::es) X.env=(false,eval e X.env)::starEach es X.env) zAr)(hpl:autoParam ((backTo pos (starEach es X.env)).any (·.1)=false) zAr):PE X (.Call (.Name x p) (e::es) [] pos) (tCB r t):=by
 intro pins s σ H Q I h
 refine wpAny_Call_Name_kw (qy1 I hg hm hv ?_ hn hdb)
 exact PyProof.Rows.callWith_type1 (thn (ha pos pins s σ H _ I h) fun us s1 ⟨vs,H1,I1,r1,q1⟩=>hc pins s1 σ H1 vs us Q I1 r1 q1) he hpl
end
namespace HT
open PySem PyProof.Rows
section
open PySem.SeqAt
open PySem.AutoSeq1 (wpAny_loadPart')
open PySem.MeetsSeq PySem.MeetsSeq2 PySem.MeetsSeq3
end
section
variable{prog:Program}{w:World}{A:Around}{E:Value->Shared->Prop}{s:Shared}
theorem ze6{t b:Addr}{vs ws:List Value}{Q:Value->Shared->Prop}(ht:IsTup s.heap t vs.toArray)(hb:IsTup s.heap b ws.toArray)(hv:vs≠[])
 (h1:ws=[]->Q (.ref t) s) (h2:ws≠[]->Q (.ref s.heap.objs.size) {s with heap:=s.heap.push {cls:=.type "tuple",data:=.seq (vs++ws).toArray}})
 (hsz:vs.length+ws.length<=sizeLine):wpAny (model prog w) A (binaryOp .Add (.ref t) (.ref b)) Q E s:=by
 obtain⟨⟨cls,dd,data,sl⟩,ho,hc,n,hd⟩:=id ht
 obtain⟨⟨cls2,dd2,data2,sl2⟩,ho2,hc2,n2,hd2⟩:=id hb
 simp only at hc hd hc2 hd2
 subst hc hd hc2 hd2
 have e:vs.toArray++ws.toArray=(vs++ws).toArray:=by simp
 by_cases hw:ws=[]
 ·exact concat_meets ⟨_,ho,rfl⟩ ⟨_,ho2,rfl⟩ noFill_tuple_add seq_tuple_add PySem.F.slot_tuple_add PySem.F.entry_tuple_add (PySem.F.args_tuple_add_2 _ _)
   (tuple_addW1 t b vs.toArray ws.toArray n n2 dd dd2 sl sl2 (by simpa using hv) (by simp[hw])) ⟨ho,ho2,h1 hw⟩
 ·refine concat_meets ⟨_,ho,rfl⟩ ⟨_,ho2,rfl⟩ noFill_tuple_add seq_tuple_add PySem.F.slot_tuple_add PySem.F.entry_tuple_add (PySem.F.args_tuple_add_2 _ _)
   (tuple_addW2 t b vs.toArray ws.toArray n n2 dd dd2 sl sl2 (by simpa using hv) (by simpa using hw) (by rw[List.size_toArray,List.size_toArray];exact hsz)) ⟨ho,ho2,?_⟩
  rw[e]
  exact h2 hw
def sIx(n d:Nat):Option Int->Nat
 | none=>d
 | some v=>if v<0 then(v+(n:Int)).toNat else min v.toNat n
theorem qy5(n d k:Nat):sIx n d (some (k:Int))=min k n:=by
 show(if(k:Int)<0 then((k:Int)+(n:Int)).toNat else min (k:Int).toNat n)=min k n
 rw[if_neg (by omega),Int.toNat_natCast]
theorem yd0(n d:Nat)(hd:d<=n)(o:Option Int):sIx n d o<=n:=by
 cases o with
 | none=>exact hd
 | some v =>
   show(if v<0 then(v+(n:Int)).toNat else min v.toNat n)<=n
   by_cases hv:v<0
   ·rw[if_pos hv];omega
   ·rw[if_neg hv];exact Nat.min_le_right _ _
theorem yi6(v:Int)(n d:Nat):(if v<0 then max (v+(n:Int)) 0 else min v (n:Int))=((sIx n d (some v):Nat):Int):=by
 show(if v<0 then max (v+(n:Int)) 0 else min v (n:Int))=(((if v<0 then(v+(n:Int)).toNat else min v.toNat n):Nat):Int)
 by_cases hv:v<0
 ·simp only[if_pos hv];omega
 ·simp only[if_neg hv];omega
theorem yd1(lo hi:Option Int)(n:Nat):Builtin.Slice.sliceAdjust lo hi 1 (n:Int)=(((sIx n 0 lo:Nat):Int),((sIx n n hi:Nat):Int)):=by
 have h1:¬((1:Int)<0):=by omega
 unfold Builtin.Slice.sliceAdjust
 simp only[h1,if_false]
 refine Prod.ext ?_ ?_
 ·cases lo with
  | none=>rfl
  | some v=>exact yi6 v n 0
 ·cases hi with
  | none=>rfl
  | some v=>exact yi6 v n n
theorem yd2(i j:Nat):Builtin.Slice.slicePlaces (i:Int) (j:Int) 1=j-i:=by
 unfold Builtin.Slice.slicePlaces
 have h1:(1:Int) > 0:=by omega
 simp only[h1,if_true,Int.ediv_one]
 split <;> omega
theorem xb3{v:Value}{o:Option Int}{Q:Option Int->Shared->Prop}(p:IsPart v o)(h:Q o s):wpAny (model prog w) A (Builtin.Slice.slicePartIndex v) Q E s:=by
 cases p with
 | none=>exact slicePart_none h
 | int i t=>exact slicePart_int h
theorem qv4{sl:Addr}{vl vu:Value}{lo hi:Option Int}{n:Nat}{Q:Int×Int×Nat->Shared->Prop}(hs:s.heap.IsSliceOf sl vl vu .none)(pl:IsPart vl lo)(pu:IsPart vu hi)
 (h:Q (((sIx n 0 lo:Nat):Int),1,sIx n n hi-sIx n 0 lo) s):wpAny (model prog w) A (Builtin.Slice.sliceApplied (.ref sl) (pure (n:Int))) Q E s:=by
 obtain⟨os,hos,hcs,hds⟩:=id hs
 unfold Builtin.Slice.sliceApplied Builtin.Slice.sliceFields
 refine wpAny_bind (wpAny_bind (wpAny_field hos hds (x:=vl) rfl (wpAny_bind (wpAny_field hos hds (x:=vu) rfl (wpAny_bind (wpAny_field hos hds (x:=.none) rfl (wpAny_pure ?_)))))))
 refine wpAny_bind (slicePart_none ?_)
 show wpAny _ _ (if((1:Int) == 0)=true then _ else _) _ _ s
 rw[if_neg (by decide)]
 refine wpAny_bind (xb3 pl (wpAny_bind (xb3 pu (wpAny_bind (wpAny_pure ?_)))))
 show wpAny _ _ (match Builtin.Slice.sliceAdjust lo hi 1 (n:Int) with|(lo,hi)=>pure (lo,(1:Int),Builtin.Slice.slicePlaces lo hi 1)) _ _ s
 rw[yd1 lo hi n]
 show wpAny _ _ (pure (((sIx n 0 lo:Nat):Int),(1:Int),Builtin.Slice.slicePlaces ((sIx n 0 lo:Nat):Int) ((sIx n n hi:Nat):Int) 1)) _ _ s
 rw[yd2]
 exact wpAny_pure h
theorem yu4(xs:Array Value)(i k:Nat):((List.range k).filterMap fun(m:Nat)=>xs[((i:Int)+(m:Int)*1).toNat]?).toArray=((xs.toList.drop i).take k).toArray:=by
 have e:(fun(m:Nat)=>xs[((i:Int)+(m:Int)*1).toNat]?)=fun m=>xs[i+m]?:=by
  funext m
  have:((i:Int)+(m:Int)*1).toNat=i+m:=by omega
  rw[this]
 rw[e]
 have:=pick_run xs i k
 rw[List.filterMap_map] at this
 have e2:((fun x=>xs[x]?)∘fun x=>i+x)=fun m=>xs[i+m]?:=rfl
 rw[e2] at this
 rw[this]
theorem wn3{t sl:Addr}{items:Array Value}{vl vu:Value}{lo hi:Option Int}{Q:Value->Shared->Prop}(ht:IsTup s.heap t items)(hs:s.heap.IsSliceOf sl vl vu .none)(pl:IsPart vl lo)(pu:IsPart vu hi)
 (hw:¬(sIx items.size 0 lo=0/\sIx items.size items.size hi=items.size))
 (h:Q (.ref s.heap.objs.size) {s with heap:=s.heap.push {cls:=.type "tuple",data:=.seq ((items.toList.drop (sIx items.size 0 lo)).take (sIx items.size items.size hi-sIx items.size 0 lo)).toArray}})
 (hsz:items.size<=sizeLine):wpAny (model prog w) A (getItem (.ref t) (.ref sl)) Q E s:=by
 have htake:sizeOk (.seq ((items.toList.drop (sIx items.size 0 lo)).take (sIx items.size items.size hi-sIx items.size 0 lo)).toArray):=by
  show((items.toList.drop (sIx items.size 0 lo)).take (sIx items.size items.size hi-sIx items.size 0 lo)).toArray.size<=sizeLine
  rw[List.size_toArray,List.length_take,List.length_drop,Array.length_toList]
  omega
 have hj:sIx items.size items.size hi<=items.size:=yd0 _ _ (Nat.le_refl _) hi
 obtain⟨os,hos,hcs,hds⟩:=id hs
 have hTs:s.TypeIs (.ref sl) "slice":=⟨os,hos,hcs⟩
 unfold getItem
 try with_reducible refine wpAny_holding ?_
 first|refine wpAny_bind (wpAny_pure ?_)|skip
 refine wpAny_bind (wpAny_sequenceKey ht.typeIs (by decide) ?_)
 refine wpAny_bind (wpAny_callSpecial?_slot (name:=Str.ofString "__getitem__") ht.typeIs PyProof.Rows.slot_tuple_getitem
  (wpAny_call_entry PyProof.Rows.slot_tuple_getitem ht.typeIs entry_tuple_getitem ?_ (args_tuple_getitem _ _)))
 show wpAny _ _ (Builtin.Tuple.tupleItemsOf (.ref t) >>= _) _ _ s
 refine wpAny_bind (tupleItemsOf_ ht ?_)
 refine wpAny_bind (wpAny_typeOf hTs ?_)
 rw[if_pos (by decide)]
 refine wpAny_bind (qv4 hs pl pu ?_)
 have hno:¬((((sIx items.size 0 lo:Nat):Int) == 0 && (1:Int) == 1 && (sIx items.size items.size hi-sIx items.size 0 lo) == items.size)=true):=by
  intro q
  rw[Bool.and_eq_true,Bool.and_eq_true] at q
  have q1:((sIx items.size 0 lo:Nat):Int)=0:=eq_of_beq q.1.1
  have q2:sIx items.size items.size hi-sIx items.size 0 lo=items.size:=eq_of_beq q.2
  exact hw ⟨by omega,by omega⟩
 show wpAny _ _ (if(((sIx items.size 0 lo:Nat):Int) == 0 && (1:Int) == 1 && (sIx items.size items.size hi-sIx items.size 0 lo) == items.size)=true then _ else _) _ _ s
 rw[if_neg hno,yu4]
 first
  | exact wpAny_bind (m:=Builtin.Tuple.tupleExact _) (wpAny_newObj_type (wpAny_pure ⟨_,rfl,wpAny_pure h⟩) htake)
  | exact wpAny_bind (m:=Builtin.Tuple.tupleExact _) (wpAny_newObj_type (wpAny_bind (wpAny_pure (wpAny_pure ⟨_,rfl,wpAny_pure h⟩))) htake)
  | exact wpAny_bind (wpAny_bind (m:=Builtin.Tuple.tupleExact _) (wpAny_newObj_type (wpAny_pure (wpAny_pure ⟨_,rfl,wpAny_pure h⟩)) htake))
  | exact wpAny_bind (wpAny_bind (m:=Builtin.Tuple.tupleExact _) (wpAny_newObj_type (wpAny_pure ⟨_,rfl,wpAny_pure h⟩) htake))
end
end HT
abbrev TO:=St->Hp->(Option Int->Hp->Prop)->Prop
def PO(X:Cx)(e:Option Expr)(t:TO):Prop :=
 ∀ (pins:List (Addr×Obj)) (s:Shared) (σ:St) (H:Hp) (Q:Option Int->Hp->Prop),Inv X pins σ H s->t σ H Q ->
  wpAny (model X.prog X.w) X.A (evalPart e X.env) (fun u s'=>∃ o H',Inv X pins σ H' s'/\IsPart u o/\Q o H') X.xe s
def qf4:TO:=fun _ H Q=>Q none H
def X8(t:TE):TO:=fun σ H Q=>t σ H fun x H1=>∃ i,x=.int i/\Q (some i) H1
variable{p2:Pos}{th:TO}{r:V->Option Int->Option Int->Hp->VK->Prop}
section
variable{lo hi:Option Expr}{tl:TO}
theorem qn6:PO X none qf4:=by
 intro pins s σ H Q I h
 rw[evalPart_none]
 exact wpAny_pure ⟨none,H,I,.none,h⟩
theorem N9(h:PE X e te):PO X (some e) (X8 te):=by
 intro pins s σ H Q I hw
 rw[evalPart_some]
 refine thn (h pins s σ H _ I hw) fun u s1 zq=>?_
 obtain⟨x,H1,I1,r1,q1⟩:=zq
 obtain⟨i,rfl,q⟩:=q1
 obtain⟨t,rfl⟩:=r1
 exact⟨some i,H1,I1,.int i t,q⟩
def SlR(X:Cx)(r:V->Option Int->Option Int->Hp->VK->Prop):Prop :=
 ∀ (pins:List (Addr×Obj)) (s:Shared) (σ:St) (H:Hp) (x:V) (v vl vu:Value) (lo hi:Option Int) (sl:Addr) (Q:VK),Inv X pins σ H s->J8 x v->s.heap.IsSliceOf sl vl vu .none->IsPart vl lo->IsPart vu hi->r x lo hi H Q ->
  ∃ T id,typeLookup (.type T) "__getitem__"=pure (some (.builtin id))/\s.TypeIs v T/\wpAny (model X.prog X.w) X.A (getItem v (.ref sl)) (EP X pins σ Q) X.xe s
theorem SlR.or{r':V->Option Int->Option Int->Hp->VK->Prop}(h:SlR X r)(h':SlR X r'):SlR X (fun x lo hi H Q=>r x lo hi H Q\/r' x lo hi H Q):=by
 intro pins s σ H x v vl vu lo hi sl Q I rx hs pl pu q
 rcases q with q|q
 ·exact h pins s σ H x v vl vu lo hi sl Q I rx hs pl pu q
 ·exact h' pins s σ H x v vl vu lo hi sl Q I rx hs pl pu q
def tSl(r:V->Option Int->Option Int->Hp->VK->Prop)(te:TE)(tl th:TO):TE:=fun σ H Q=>te σ H fun x H1=>tl σ H1 fun l H2=>th σ H2 fun u H3=>r x l u H3 Q
theorem Q8(hr:SlR X r)(he:PE X e te)(hl:PO X lo tl)(hu:PO X hi th):PE X (.Subscript e (.Slice lo hi none p2) pos) (tSl r te tl th):=by
 intro pins s σ H Q I h
 refine Subscript_ (thn (he pins s σ H _ I h) fun v s1 zq=>?_)
 obtain⟨x,H1,I1,r1,q1⟩:=zq
 refine wpAny_Slice (thn (hl pins s1 σ H1 _ I1 q1) fun vl s2 ⟨l,H2,I2,pl,q2⟩=>thn (hu pins s2 σ H2 _ I2 q2) fun vu s3 zq=>?_)
 obtain⟨u,H3,I3,pu,q3⟩:=zq
 rw[evalPart_none]
 refine wpAny_pure ?_
 have I4:Inv X pins σ H3 {s3 with heap:=s3.heap.push {cls:=.type "slice",data:=.fields #[vl,vu,.none]}}:=I3.kept (t':=s3.toks) fun b ob q=>Heap.get?_push_of_some _ q
 obtain⟨T,id,hT,ht,hg⟩:=hr pins {s3 with heap:=s3.heap.push {cls:=.type "slice",data:=.fields #[vl,vu,.none]}} σ H3 x v vl vu l u s3.heap.objs.size Q I4 r1 (Heap.IsSliceOf.new ..) pl pu q3
 show wpAny (model X.prog X.w) X.A (subscriptTail e (.Slice lo hi none p2) v (.ref s3.heap.objs.size)) (EP X pins σ Q) X.xe {s3 with heap:=s3.heap.push {cls:=.type "slice",data:=.fields #[vl,vu,.none]}}
 exact tail_any (ops:=[.ref s3.heap.objs.size,v]) ht hT hg (by with_unfolding_all rfl)
def ql8(xs:List V)(lo hi:Option Int):List V:=(xs.drop (HT.sIx xs.length 0 lo)).take (HT.sIx xs.length xs.length hi-HT.sIx xs.length 0 lo)
theorem ww9(xs:List V)(lo hi:Option Int):(ql8 xs lo hi).length<=xs.length:=by
 unfold ql8
 rw[List.length_take,List.length_drop]
 omega
def zv4(K:Fg):V->Option Int->Option Int->Hp->VK->Prop:=fun x lo hi H Q=>∃ a xs,x=.ref a/\SqT K H a xs /\
 ¬(HT.sIx xs.length 0 lo=0/\HT.sIx xs.length xs.length hi=xs.length)/\∀ p,H p=none->Q (.ref p) (upd H p (.tup (ql8 xs lo hi)))
theorem zo3:SlR X (zv4 X.K):=by
 intro pins s σ H x v vl vu lo hi sl Q I rx hs pl pu h
 obtain⟨a,xs,rfl,hx,hw,q⟩:=h
 cases rx
 obtain⟨its,r,ht,hz⟩:=I.tuple hx
 have hlen:its.toArray.size=xs.length:=by rw[List.size_toArray];exact r.length.symm
 refine⟨"tuple",_,PyProof.Rows.slot_tuple_getitem.lookup,ht.typeIs,?_⟩
 refine HT.wn3 ht hs pl pu (by rw[hlen];exact hw) ?_ (by rw[hlen];exact hz)
 rw[hlen]
 refine⟨.ref s.heap.objs.size,_,I.laid (t':=s.toks) (o:=.tup (ql8 xs lo hi)) (fun b ob q=>Heap.get?_push_of_some _ q) (Nat.le_refl _) ?_,rfl,q _ (I.hok.fresh (Nat.le_refl _))⟩
 exact⟨Nat.le_trans (ww9 xs lo hi) hz,_,(r.drop (HT.sIx xs.length 0 lo)).take (HT.sIx xs.length xs.length hi-HT.sIx xs.length 0 lo),IsTup.new _ _⟩
def zl3(K:Fg):R2:=fun x y H Q=>∃ a b xs ys,x=.ref a/\y=.ref b/\SqT K H a xs/\SqT K H b ys/\xs≠[]/\xs.length+ys.length<=sizeLine /\
 (ys=[]->Q (.ref a) H)/\(ys≠[]->∀ p,H p=none->Q (.ref p) (upd H p (.tup (xs++ys))))
theorem G0.nil_iff(r:G0 xs us):us=[]↔xs=[]:=by
 cases r with
 | nil=>simp
 | cons _ _=>simp
theorem ze7:OpR X (binaryOp .Add) (zl3 X.K):=by
 intro pins s σ H x y v u Q I rx ry h
 obtain⟨a,b,xs,ys,rfl,rfl,ha,hb,hx,hz,q1,q2⟩:=h
 cases rx
 cases ry
 obtain⟨its,r1,p1,_⟩:=I.tuple ha
 obtain⟨its2,r2,p2,_⟩:=I.tuple hb
 refine HT.ze6 p1 p2 (fun z=>hx (r1.nil_iff.mp z)) (fun z=>⟨.ref a,H,I,rfl,q1 (r2.nil_iff.mp z)⟩) (fun z=>?_) (by rw[<-r1.length,<-r2.length];exact hz)
 refine⟨.ref s.heap.objs.size,_,I.laid (t':=s.toks) (o:=.tup (xs++ys)) (fun b ob q=>Heap.get?_push_of_some _ q) (Nat.le_refl _) ?_,rfl,q2 (fun w=>z (r2.nil_iff.mpr w)) _ (I.hok.fresh (Nat.le_refl _))⟩
 exact⟨by rw[List.length_append];exact hz,_,r1.append r2,IsTup.new _ _⟩
end
def ixN(n:Nat)(i:Int):Option Nat:=if 0<=i then(if i<n then some i.toNat else none) else if -(n:Int)<=i then some (i+n).toNat else none
def atI{α:Type}(xs:List α)(i:Int):Option α:=(ixN xs.length i).bind fun j=>xs[j]?
theorem yi7{j:Nat}(h:ixN n i=some j):seqIndex? i n=some j/\j<n/\-(n:Int)<=i/\i<n:=by
 unfold ixN at h
 by_cases h0:0<=i
 ·rw[if_pos h0] at h
  by_cases h1:i<n
  ·rw[if_pos h1] at h
   have e:i.toNat=j:=Option.some.inj h
   exact⟨by rw[seqIndex_of h0 h1,e],by omega,by omega,h1⟩
  ·rw[if_neg h1] at h;cases h
 ·rw[if_neg h0] at h
  by_cases h1:-(n:Int)<=i
  ·rw[if_pos h1] at h
   have e:(i+n).toNat=j:=Option.some.inj h
   exact⟨by rw[seqIndex_neg (by omega) h1,e],by omega,h1,by omega⟩
  ·rw[if_neg h1] at h;cases h
theorem xo9{xs:List α}{v:α}(h:atI xs i=some v):∃ j,seqIndex? i xs.length=some j/\xs[j]?=some v/\j<xs.length/\-(xs.length:Int)<=i/\i<xs.length:=by
 unfold atI at h
 cases e:ixN xs.length i with
 | none=>rw[e] at h;cases h
 | some j =>
   rw[e] at h
   obtain⟨h1,h2,h3,h4⟩:=yi7 e
   exact⟨j,h1,h,h2,h3,h4⟩
theorem W3{xs:List α}{j:Nat}{v:α}(h:xs[j]?=some v):atI xs (j:Int)=some v:=by
 have hj:j<xs.length:=(List.getElem?_eq_some_iff.mp h).1
 have e:ixN xs.length (j:Int)=some j:=by
  unfold ixN
  rw[if_pos (by omega),if_pos (by omega)];simp
 unfold atI;rw[e];exact h
theorem yu5(xs:List α)(v:α):atI (xs++[v]) (-1)=some v:=by
 have hl:(xs++[v]).length=xs.length+1:=by simp
 have e:ixN (xs++[v]).length (-1)=some xs.length:=by
  unfold ixN
  rw[hl,if_neg (by decide),if_pos (by omega)]
  congr 1
  omega
 unfold atI
 rw[e]
 show(xs++[v])[xs.length]?=some v
 simp
def ze8(b:Expr):Prop:=∀ o i,subscripted b false o i=operate [o,i] (getItem o i)
def IxR(X:Cx)(r:R2):Prop :=
 ∀ (value slice:Expr) (pins:List (Addr×Obj)) (s:Shared) (σ:St) (H:Hp) (x y:V) (v u:Value) (Q:VK),Inv X pins σ H s->J8 x v->J8 y u->r x y H Q ->
  subscripted slice false v u=operate [v,u] (getItem v u)->wpAny (model X.prog X.w) X.A (subscriptTail value slice v u) (EP X pins σ Q) X.xe s
def MtR(X:Cx)(id:String)(r:V->List V->Hp->VK->Prop):Prop :=
 ∀ (pins:List (Addr×Obj)) (s:Shared) (σ:St) (H:Hp) (x:V) (xs:List V) (v:Value) (us:List Value) (Q:VK),Inv X pins σ H s->J8 x v->G0 xs us->r x xs H Q ->
  wpAny (model X.prog X.w) X.A (call (.builtin id) (v::us)) (EP X pins σ Q) X.xe s
variable{its its':List Value}{p:Addr}{cpos:Pos}
section
variable{a b:Expr}{tb:TE}
theorem IxR.or{r r':R2}(h:IxR X r)(h':IxR X r'):IxR X (fun x y H Q=>r x y H Q\/r' x y H Q):=by
 intro value slice pins s σ H x y v u Q I rx ry q hs
 rcases q with q|q
 ·exact h value slice pins s σ H x y v u Q I rx ry q hs
 ·exact h' value slice pins s σ H x y v u Q I rx ry q hs
theorem D8{r:R2}(hr:IxR X r)(ha:PE X a ta)(hb:PE X b tb)(hs:ze8 b):PE X (.Subscript a b pos) (tOp r ta tb):=by
 intro pins s σ H Q I h
 exact Subscript_ (zn9 ha hb I h fun v u s2 x y H2 I2 rx ry q=>hr a b pins s2 σ H2 x y v u Q I2 rx ry q (hs _ _))
def zv5(K:Fg):R2:=fun x y H Q=>∃ p xs i v,x=.ref p/\y=.int i/\SqL K H p xs/\atI xs i=some v/\Q v H
def zv6(K:Fg):R2:=fun x y H Q=>∃ p xs i v,x=.ref p/\y=.int i/\SqT K H p xs/\atI xs i=some v/\Q v H
def zv7:R2:=fun x y H Q=>∃ z i c,x=.str z/\y=.int i/\z.length<=sizeLine/\atI z.cps.toList i=some c/\Q (.str ⟨#[c]⟩) H
theorem ze9:IxR X (zv5 X.K):=by
 intro value slice pins s σ H x y v u Q I rx ry h hs
 obtain⟨p,xs,i,z,rfl,rfl,hq,he,q⟩:=h
 cases rx
 obtain⟨t,rfl⟩:=ry
 obtain⟨its,r,pl,hz⟩:=I.list hq
 obtain⟨j,h1,h2,h3,h4,h5⟩:=xo9 he
 obtain⟨w,ew,rw'⟩:=r.get h2
 have hl:=r.length
 have hn:=wr8
 have fin:EP X pins σ Q w s:=⟨z,H,I,rw',q⟩
 by_cases h0:0<=i
 ·have hj:i.toNat=j:=by
   rw[seqIndex_of h0 h5] at h1
   exact Option.some.inj h1
  exact item_listR pl.isList h0 (by omega) (by rw[hj];simpa using ew) fin hs
 ·have hj:(i+(its.toArray.size:Int)).toNat=j:=by
   rw[seqIndex_neg (by omega) h4] at h1
   rw[List.size_toArray,<-hl]
   exact Option.some.inj h1
  exact subscriptTail_builtinR (x:=w) pl.isList.typeIs slot_list_getitem.lookup
   (wpAny_getItem_list_neg (Q:=fun r s'=>r=w/\EP X pins σ Q r s') pl.isList (by omega) (by rw[List.size_toArray] <;> omega) (by omega) (by rw[hj];simpa using ew) ⟨rfl,fin⟩) hs
theorem zo4:IxR X (zv6 X.K):=by
 intro value slice pins s σ H x y v u Q I rx ry h hs
 obtain⟨p,xs,i,z,rfl,rfl,hq,he,q⟩:=h
 cases rx
 obtain⟨t,rfl⟩:=ry
 obtain⟨its,r,pl,hz⟩:=I.tuple hq
 obtain⟨j,h1,h2,h3,h4,h5⟩:=xo9 he
 obtain⟨w,ew,rw'⟩:=r.get h2
 have hl:=r.length
 have hn:=wr8
 have fin:EP X pins σ Q w s:=⟨z,H,I,rw',q⟩
 exact subscriptTail_builtinR (x:=w) pl.typeIs slot_tuple_getitem.lookup
  (getItem_tuple (j:=j) (Q:=fun r s'=>r=w/\EP X pins σ Q r s') pl (by omega) (by omega) (by rw[List.size_toArray,<-hl];exact h1) (by simpa using ew) ⟨rfl,fin⟩) hs
theorem zo5:IxR X zv7:=by
 intro value slice pins s σ H x y v u Q I rx ry h hs
 obtain⟨z,i,c,rfl,rfl,hz,he,q⟩:=h
 obtain⟨t,rfl⟩:=rx
 obtain⟨t',rfl⟩:=ry
 obtain⟨j,h1,h2,h3,h4,h5⟩:=xo9 he
 have hl:z.cps.toList.length=z.length:=by simp[Str.length]
 rw[hl] at h1 h4 h5
 have hn:=wr8
 exact tail_any (typeIs_str s z t) slot_str_getitem.lookup (getItem_str (c:=c) (by
  have e1:decide (i < -(2 ^ 63:Int))=false:=decide_eq_false (by omega)
  have e2:decide (i>=2 ^ 63)=false:=decide_eq_false (by omega)
  rw[e1,e2,Bool.or_false]) (by rw[h1];simpa using h2) ⟨.str ⟨#[c]⟩,H,I.tok _,⟨_,rfl⟩,q⟩) hs
def rIx(K:Fg):R2:=fun x y H Q=>zv5 K x y H Q\/zv6 K x y H Q\/zv7 x y H Q
theorem zo6:IxR X (rIx X.K):=ze9.or (zo4.or zo5)
theorem yd3(its:List Value)(n j:Nat)(u:Value):Obj.mapSeq (·.setIfInBounds j u) {cls:=.type "list",data:=.seq its.toArray n}={cls:=.type "list",data:=.seq (its.set j u).toArray n}:=by
 simp[Obj.mapSeq]
theorem Inv.lst{pins:List (Addr×Obj)}{σ:St}{H:Hp}{s:Shared}{p:Addr}{xs:List V}(I:Inv X pins σ H s)(h:H p=some (.lst xs)) :
 ∃ (its:List Value) (n:Nat),G0 xs its/\s.heap.get? p=some {cls:=.type "list",data:=.seq its.toArray n}/\xs.length<=sizeLine:=by
 obtain⟨z,its,n,r,e⟩:=I.hok p _ h
 exact⟨its,n,r,e,z⟩
theorem Inv.lstUpd{n':Nat}{f:Obj->Obj}(I:Inv X pins σ H s)(h:H p=some (.lst xs))(ho:s.heap.get? p=some {cls:=.type "list",data:=.seq its.toArray n})(hf:f {cls:=.type "list",data:=.seq its.toArray n}={cls:=.type "list",data:=.seq its'.toArray n'})(r:G0 ys its')(hz:ys.length<=sizeLine)(t':Nat)(ht:autoParam (0<t') zAt) :
 Inv X pins σ (upd H p (.lst ys)) {s with heap:=s.heap.update p f,toks:=t'}:=by
 have e:(s.heap.update p f).get? p=some {cls:=.type "list",data:=.seq its'.toArray n'}:=by
  rw[Heap.get?_update_self f ho (by rw[hf] <;> rfl),hf]
 refine I.write (x:=p) (e:=p) (by rw[h];trivial) (.inl rfl) (fun b u hb q=>(Heap.get?_update_other _ _ (Ne.symm hb)).trans q) ⟨_,e⟩ ?_
 exact⟨hz,its',n',r,e⟩
def yu6:V->V->V->Hp->(Hp->Prop)->Prop:=fun o i v H Q=>∃ p xs k j,o=.ref p/\i=.int k/\H p=some (.lst xs)/\ixN xs.length k=some j/\Q (upd H p (.lst (xs.set j v)))
theorem yu7:zn8 X yu6:=by
 intro pins s σ H o i v ov iv u Q I ro ri rv h
 obtain⟨p,xs,k,j,rfl,rfl,hp,hj,q⟩:=h
 cases ro
 obtain⟨t,rfl⟩:=ri
 obtain⟨its,n,r,ho,hz⟩:=I.lst hp
 obtain⟨h1,h2,h3,h4⟩:=yi7 hj
 have hl:=r.length
 have hn:=wr8
 have I':Inv X pins σ (upd H p (.lst (xs.set j v))) {s with heap:=s.heap.update p (Obj.mapSeq (·.setIfInBounds j u))} :=
  I.lstUpd hp ho (yd3 its n j u) (r.set rv j) (by rw[List.length_set];exact hz) s.toks
 by_cases h0:0<=k
 ·have hk:k.toNat=j:=by
   rw[seqIndex_of h0 h4] at h1
   exact Option.some.inj h1
  exact PySem.W.ki_setAt ho h0 (by omega) (by rw[List.size_toArray,<-hl];exact h4) (by rw[hk];exact⟨_,I',q⟩)
 ·have hk:(k+(its.toArray.size:Int)).toNat=j:=by
   rw[seqIndex_neg (by omega) h3] at h1
   rw[List.size_toArray,<-hl]
   exact Option.some.inj h1
  exact PySem.W.ki_setBack ho (by omega) (by rw[List.size_toArray,<-hl];exact h3) (by omega) (by rw[hk];exact⟨_,I',q⟩)
theorem qy6(lo hi:Option Int)(n:Nat):(sliceBounds lo hi none n).1=((HT.sIx n 0 lo:Nat):Int)/\(sliceBounds lo hi none n).2.1=((HT.sIx n n hi:Nat):Int)/\(sliceBounds lo hi none n).2.2=1:=by
 refine⟨?_,?_,rfl⟩
 ·cases lo with
  | none=>simp[sliceBounds,HT.sIx]
  | some i =>
    simp only[sliceBounds,HT.sIx,Option.getD_none,show(1:Int) > 0 by decide,if_true]
    by_cases h:i<0
    ·simp only[h,if_true] <;> omega
    ·simp only[h,if_false] <;> omega
 ·cases hi with
  | none=>simp[sliceBounds,HT.sIx]
  | some i =>
    simp only[sliceBounds,HT.sIx,Option.getD_none,show(1:Int) > 0 by decide,if_true]
    by_cases h:i<0
    ·simp only[h,if_true] <;> omega
    ·simp only[h,if_false] <;> omega
theorem xi2(its:List Value)(lo hi:Option Int):slicePick its.toArray lo hi none=((its.drop (HT.sIx its.length 0 lo)).take (HT.sIx its.length its.length hi-HT.sIx its.length 0 lo)).toArray:=by
 obtain⟨h1,h2,h3⟩:=qy6 lo hi its.toArray.size
 unfold slicePick
 rw[h1,h2,h3]
 simp only[sliceRange_one,pick_run,List.size_toArray] <;> rfl
def zv8(K:Fg):V->Option Int->Option Int->Hp->VK->Prop:=fun x lo hi H Q=>∃ a xs,x=.ref a/\SqL K H a xs/\∀ p,H p=none->Q (.ref p) (upd H p (.lst (ql8 xs lo hi)))
theorem zf0:SlR X (zv8 X.K):=by
 intro pins s σ H x v vl vu lo hi sl Q I rx hs pl pu h
 obtain⟨a,xs,rfl,hx,q⟩:=h
 cases rx
 obtain⟨its,r,ht,hz⟩:=I.list hx
 have hlen:=r.length
 refine⟨"list",_,slot_list_getitem.lookup,ht.isList.typeIs,?_⟩
 refine wpAny_getItem_list_slice ht.isList hs pl pu .none (by simp) ?_ (by rw[List.size_toArray] <;> omega)
 rw[xi2,<-hlen]
 refine⟨.ref s.heap.objs.size,_,I.laid (t':=s.toks) (o:=.lst (ql8 xs lo hi)) (fun b ob q=>Heap.get?_push_of_some _ q) (Nat.le_refl _) ?_,rfl,q _ (I.hok.fresh (Nat.le_refl _))⟩
 exact⟨Nat.le_trans (ww9 xs lo hi) hz,_,0,(r.drop (HT.sIx xs.length 0 lo)).take (HT.sIx xs.length xs.length hi-HT.sIx xs.length 0 lo),Heap.get?_push_size _ rfl⟩
def qv5:V->Bool
 | .non=>true
 | .bl _=>true
 | .int _=>true
 | .str _=>true
 | _=>false
def eqV:V->V->Bool
 | .non,.non=>true
 | .bl a,.bl b=>a == b
 | .bl a,.int b=>(if a then 1 else 0) == b
 | .int a,.bl b=>a == (if b then 1 else 0)
 | .int a,.int b=>a == b
 | .str a,.str b=>a == b
 | _,_=>false
theorem zo7{x:V}{v:Value}(ry:J8 y u)(rx:J8 x v)(fy:qv5 y=true)(fx:qv5 x=true):SeqAt.EqAt A s u v (eqV y x):=by
 cases y with
 | non =>
   cases ry
   cases x with
   | non=>cases rx;exact SeqAt.EqAt.same _
   | bl b=>cases rx;exact SeqAt.EqAt.none_bool b
   | int b=>obtain⟨t,rfl⟩:=rx;exact SeqAt.EqAt.none_int b t
   | str b=>obtain⟨t,rfl⟩:=rx;exact SeqAt.EqAt.none_str b t
   | _=>exact absurd (show false=true from fx) Bool.false_ne_true
 | bl a =>
   cases ry
   cases x with
   | non=>cases rx;exact SeqAt.EqAt.bool_none a
   | bl b=>cases rx;exact SeqAt.EqAt.bool_bool a b
   | int b=>obtain⟨t,rfl⟩:=rx;exact SeqAt.EqAt.bool_int a b t
   | str b=>obtain⟨t,rfl⟩:=rx;exact SeqAt.EqAt.bool_str a b t
   | _=>exact absurd (show false=true from fx) Bool.false_ne_true
 | int a =>
   obtain⟨t',rfl⟩:=ry
   cases x with
   | non=>cases rx;exact SeqAt.EqAt.int_none a t'
   | bl b=>cases rx;exact SeqAt.EqAt.int_bool a t' b
   | int b=>obtain⟨t,rfl⟩:=rx;exact SeqAt.EqAt.int_int a t' b t
   | str b=>obtain⟨t,rfl⟩:=rx;exact SeqAt.EqAt.int_str a t' b t
   | _=>exact absurd (show false=true from fx) Bool.false_ne_true
 | str a =>
   obtain⟨t',rfl⟩:=ry
   cases x with
   | non=>cases rx;exact SeqAt.EqAt.str_none a t'
   | bl b=>cases rx;exact SeqAt.EqAt.str_bool a t' b
   | int b=>obtain⟨t,rfl⟩:=rx;exact SeqAt.EqAt.str_int a t' b t
   | str b=>obtain⟨t,rfl⟩:=rx;exact SeqAt.EqAt.str_str a t' b t
   | _=>exact absurd (show false=true from fx) Bool.false_ne_true
 | _=>exact absurd (show false=true from fy) Bool.false_ne_true
def eqU(x:V)(u:Value):Bool:=match u with
 | .none=>eqV .non x
 | .bool b=>eqV (.bl b) x
 | .int i _=>eqV (.int i) x
 | .str z _=>eqV (.str z) x
 | _=>false
theorem yu8{x:V}(r:J8 y u)(f:qv5 y=true):eqU x u=eqV y x:=by
 cases y with
 | non=>cases r;rfl
 | bl b=>cases r;rfl
 | int i=>obtain⟨t,rfl⟩:=r;rfl
 | str z=>obtain⟨t,rfl⟩:=r;rfl
 | _=>exact absurd (show false=true from f) Bool.false_ne_true
theorem wn4{x:V}:∀ {xs:List V} {us:List Value},G0 xs us->xs.all qv5=true->us.any (eqU x)=xs.any fun y=>eqV y x
 | _,_,.nil,_=>rfl
 | y::xs,u::us,.cons r t,f=>by
   rw[List.all_cons,Bool.and_eq_true] at f
   rw[List.any_cons,List.any_cons,yu8 r f.1,wn4 t f.2]
theorem wd4{A:Around}{s:Shared}{x:V}{v:Value}(rx:J8 x v)(fx:qv5 x=true):∀ {xs:List V} {us:List Value},G0 xs us->xs.all qv5=true->∀ u∈us,SeqAt.EqAt A s u v (eqU x u)
 | _,_,.nil,_=>fun u hu=>by cases hu
 | y::xs,u::us,.cons r t,f=>fun u' hu=>by
   rw[List.all_cons,Bool.and_eq_true] at f
   rcases List.mem_cons.mp hu with rfl|hu
   ·rw[yu8 r f.1];exact zo7 r rx f.1 fx
   ·exact wd4 rx fx t f.2 u' hu
def inV(x:V)(xs:List V):Bool:=xs.any fun y=>eqV y x
def rIn(K:Fg)(neg:Bool):R2:=fun x y H Q=>∃ p xs,y=.ref p/\(SqL K H p xs\/SqT K H p xs)/\qv5 x=true/\xs.all qv5=true/\Q (.bl (if neg then !inV x xs else inV x xs)) H
theorem yp7:OpR X (compareOp .In) (rIn X.K false):=by
 intro pins s σ H x y v u Q I rx ry h
 obtain⟨p,xs,rfl,hq,fx,fs,q⟩:=h
 cases ry
 rcases hq with hq|hq
 ·obtain⟨its,r,pl,hz⟩:=I.list hq
  refine SeqAt.in_listAt (eqU x) pl.isList (fun w hw=>wd4 rx fx r fs w (by simpa using hw)) ⟨.bl _,H,I,rfl,?_⟩
  rw[show its.toArray.any (eqU x)=its.any (eqU x) by simp,wn4 r fs]
  exact q
 ·obtain⟨its,r,pl,hz⟩:=I.tuple hq
  refine SeqAt.in_tupleAt (eqU x) pl (fun w hw=>wd4 rx fx r fs w (by simpa using hw)) ⟨.bl _,H,I,rfl,?_⟩
  rw[show its.toArray.any (eqU x)=its.any (eqU x) by simp,wn4 r fs]
  exact q
theorem xp0:OpR X (compareOp .NotIn) (rIn X.K true):=by
 intro pins s σ H x y v u Q I rx ry h
 obtain⟨p,xs,rfl,hq,fx,fs,q⟩:=h
 cases ry
 rcases hq with hq|hq
 ·obtain⟨its,r,pl,hz⟩:=I.list hq
  refine SeqAt.notIn_listAt (eqU x) pl.isList (fun w hw=>wd4 rx fx r fs w (by simpa using hw)) ⟨.bl _,H,I,rfl,?_⟩
  rw[show its.toArray.any (eqU x)=its.any (eqU x) by simp,wn4 r fs]
  exact q
 ·obtain⟨its,r,pl,hz⟩:=I.tuple hq
  refine SeqAt.notIn_tupleAt (eqU x) pl (fun w hw=>wd4 rx fx r fs w (by simpa using hw)) ⟨.bl _,H,I,rfl,?_⟩
  rw[show its.toArray.any (eqU x)=its.any (eqU x) by simp,wn4 r fs]
  exact q
theorem xp1:OpR X (compareOp .NotIn) (fun x y H Q=>∃ i j,x=.str i/\y=.str j/\Q (.bl (!(!(Builtin.Str.occurrences j i 0 j.length 1).isEmpty))) H):=by
 intro pins s σ H x y v u Q I rx ry h
 obtain⟨i,j,rfl,rfl,q⟩:=h
 obtain⟨t,rfl⟩:=rx
 obtain⟨t',rfl⟩:=ry
 exact notIn_str ⟨.bl _,H,I,rfl,q⟩
theorem xp2:qf3 X (.builtin "len") (fun xs H Q=>∃ p ys,xs=[.ref p]/\(SqL X.K H p ys\/SqT X.K H p ys)/\Q (.int ys.length) H):=by
 intro pins s σ H xs us Q I r h
 obtain⟨p,ys,rfl,hq,q⟩:=h
 obtain⟨u,rfl,rx⟩:=qv3 r
 cases rx
 have hn:=wr8
 rcases hq with hq|hq
 ·obtain⟨its,r',pl,hz⟩:=I.list hq
  have hlen:=r'.length
  exact Calls.call_len_list pl.isList (by simp only[List.size_toArray] <;> omega) ⟨.int ys.length,H,I.tok _,⟨s.toks+1,by rw[List.size_toArray,hlen]⟩,q⟩
 ·obtain⟨its,r',pl,hz⟩:=I.tuple hq
  have hlen:=r'.length
  exact len_tuple pl (by simp only[List.size_toArray] <;> omega) ⟨.int ys.length,H,I.tok _,⟨s.toks+1,by rw[List.size_toArray,hlen]⟩,q⟩
theorem xp3:qf3 X (.builtin "len") (fun xs H Q=>∃ z,xs=[.str z]/\z.length<=sizeLine/\Q (.int z.length) H):=by
 intro pins s σ H xs us Q I r h
 obtain⟨z,rfl,hz,q⟩:=h
 obtain⟨u,rfl,t,rfl⟩:=qv3 r
 have hn:=wr8
 exact len_str (by omega) ⟨.int z.length,H,I.tok _,⟨_,rfl⟩,q⟩
theorem qf3.or{f:Value}{r r':List V->Hp->VK->Prop}(h:qf3 X f r)(h':qf3 X f r'):qf3 X f (fun xs H Q=>r xs H Q\/r' xs H Q):=by
 intro pins s σ H xs us Q I rs q
 rcases q with q|q
 ·exact h pins s σ H xs us Q I rs q
 ·exact h' pins s σ H xs us Q I rs q
theorem xi3:qf3 X (.type "tuple") (fun xs H Q=>∃ p ys,xs=[.ref p]/\((SqL X.K H p ys/\∀ l,H l=none->Q (.ref l) (upd H l (.tup ys)))\/(SqT X.K H p ys/\Q (.ref p) H))):=by
 intro pins s σ H xs us Q I r h
 obtain⟨p,ys,rfl,h⟩:=h
 obtain⟨u,rfl,rx⟩:=qv3 r
 cases rx
 rcases h with⟨hq,q⟩|⟨hq,q⟩
 ·obtain⟨its,r',pl,hz⟩:=I.list hq
  have hlen:=r'.length
  refine call_tuple_list pl.isList (fun h' kp=>?_) (by simp only[List.size_toArray] <;> omega)
  have I1:Inv X pins σ H {s with heap:=h'}:=I.kept (t':=s.toks) kp
  have I2:Inv X pins σ (upd H h'.objs.size (.tup ys)) {s with heap:=h'.push {cls:=.type "tuple",data:=.seq its.toArray}} :=
   I1.laid (t':=s.toks) (fun b o e=>Heap.get?_push_of_some _ e) (Nat.le_refl _) (show U6 X.prog X.w _ _ _ (.tup ys) from ⟨hz,its,r',IsTup.new _ _⟩)
  exact⟨.ref h'.objs.size,_,I2,rfl,q _ (I1.hok.fresh (Nat.le_refl _))⟩
 ·obtain⟨its,r',pl,hz⟩:=I.tuple hq
  exact call_tuple_same pl ⟨.ref p,H,I,rfl,q⟩
def tyV(K:Fg)(T:String)(x:V)(H:Hp):Prop:=match x with
 | .str _=>T = "str"
 | .int _=>T = "int"
 | .ref p=>(T = "list"/\∃ xs,SqL K H p xs)\/(T = "tuple"/\∃ o,K.lookup p=some o/\o.cls=.type "tuple"/\o.dict=none) \/
  (T = "dict"/\((∃ kvs,H p=some (.dK kvs))\/∃ kvs,H p=some (.dT kvs)))\/(T = "set"/\∃ S n,H p=some (.set S n))
 | _=>False
theorem yd4{x:V}{v:Value}(I:Inv X pins σ H s)(r:J8 x v)(ty:tyV X.K T x H) :
 s.TypeIs v T/\∀ a,v=.ref a->∃ ob,s.heap.get? a=some ob/\ob.dict=none:=by
 cases x with
 | str z =>
   obtain⟨t,rfl⟩:=r
   cases (show T = "str" from ty)
   exact⟨typeIs_str s z t,fun _ e=>nomatch e⟩
 | int i =>
   obtain⟨t,rfl⟩:=r
   cases (show T = "int" from ty)
   exact⟨typeIs_int s i t,fun _ e=>nomatch e⟩
 | ref p =>
   cases r
   rcases ty with⟨rfl,xs,hq⟩|⟨rfl,o,hk,hc,hd⟩|⟨rfl,hk⟩|⟨rfl,S,n,hk⟩
   ·obtain⟨its,_,pl,_⟩:=I.list hq
    refine⟨pl.isList.typeIs,fun a e=>?_⟩
    cases e
    obtain⟨o,n,e,c,hd,_⟩:=pl
    exact⟨o,e,hd⟩
   ·refine⟨⟨o,I.kIn p o hk,hc⟩,fun a e=>?_⟩
    cases e
    exact⟨o,I.kIn _ o hk,hd⟩
   ·have z:∃ o,s.heap.get? p=some o/\o.ExactDict:=by
     rcases hk with⟨kvs,hk⟩|⟨kvs,hk⟩
     ·obtain⟨_,_,_,_,o,_,_,e,ex,_⟩:=I.hok p _ hk
      exact⟨o,e,ex⟩
     ·obtain⟨_,_,_,_,o,_,_,e,ex,_⟩:=I.hok p _ hk
      exact⟨o,e,ex⟩
    obtain⟨o,e,ex⟩:=z
    refine⟨⟨o,e,ex.1⟩,fun a e2=>?_⟩
    cases e2
    exact⟨o,e,ex.2.1⟩
   ·obtain⟨o,_,_,_,e,ex,_⟩:=I.hok p _ hk
    refine⟨⟨o,e,ex.1⟩,fun a e2=>?_⟩
    cases e2
    exact⟨o,e,ex.2.1⟩
 | _=>exact False.elim ty
def zf1(K:Fg)(T:String)(r:V->List V->Hp->VK->Prop)(to:TE):TE:=fun σ H Q=>to σ H fun x H1=>tyV K T x H1/\r x [] H1 Q
def tBM(K:Fg)(T:String)(r:V->List V->Hp->VK->Prop)(to:TE)(t:TA):TE:=fun σ H Q=>to σ H fun x H1=>tyV K T x H1/\t σ H1 fun xs H2=>r x xs H2 Q
variable{o:Expr}{id:String}{r:V->List V->Hp->VK->Prop}
theorem yu9(pa:PlainAttrs T)(slot:Slot T name id)(hty:typeOf (.builtin id)=pure (.type "method_descriptor"))(hm:MtR X id r)(ho:PE X o to)(hbase:autoParam (attributeBase o name X.env (eval o X.env)=eval o X.env) zAr)(hline:autoParam ((apos.endLine == cpos.line)=true) zAr):PE X (.Call (.Attribute o name apos) [] [] cpos) (zf1 X.K T r to):=by
 intro pins s σ H Q I h
 refine wpAny_Call_method0_late hbase hline (thn (ho pins s σ H _ I h) fun v s1 zq=>?_)
 obtain⟨x,H1,I1,r1,ty,q1⟩:=zq
 obtain⟨h1,h2⟩:=yd4 I1 r1 ty
 exact⟨T,id,pa,slot,hty,h1,h2,Calls.callWith_builtin rfl (PySem.evalArgs_none (hm pins s1 σ H1 x [] v [] Q I1 r1 .nil q1))⟩
theorem Q9(pa:PlainAttrs T)(slot:Slot T name id)(hty:typeOf (.builtin id)=pure (.type "method_descriptor"))(hm:MtR X id r)(ho:PE X o to)(ha:PA X (e::es) t)(hbase:autoParam (attributeBase o name X.env (eval o X.env)=eval o X.env) zAr) (hfew:((backTo cpos (starEach (e::es) X.env)).all (fun x=>!x.1) && (backToKw cpos (keywordEach [] X.env)).all (fun x=>x.1.isSome)
  && decide ((e::es).length+([]:List Keyword).length+(if([]:List Keyword).isEmpty then 0 else 1)<30))=true:=by rfl) (hline:autoParam ((apos.endLine == cpos.line)=true) zAr) (hs:autoParam (starEach (e::es) X.env=(false,eval e X.env)::starEach es X.env) zAr) (hplain:autoParam ((backTo cpos (starEach es X.env)).any (·.1)=false) zAr) :
 PE X (.Call (.Attribute o name apos) (e::es) [] cpos) (tBM X.K T r to t):=by
 intro pins s σ H Q I h
 refine wpAny_Call_method_late hbase hfew hline rfl (thn (ho pins s σ H _ I h) fun v s1 zq=>?_)
 obtain⟨x,H1,I1,r1,ty,q1⟩:=zq
 obtain⟨h1,h2⟩:=yd4 I1 r1 ty
 refine⟨T,id,pa,slot,hty,h1,h2,?_⟩
 have hA:=ha cpos pins s1 σ H1 _ I1 q1
 rw[hs] at hA ⊢
 refine Calls.callWith_builtin (by show(false || (backTo cpos (starEach es X.env)).any (·.1))=false;rw[hplain] <;> rfl) (Calls.evalArgs_plain ?_)
 exact thn hA fun us s2 ⟨vs,H2,I2,r2,q2⟩=>hm pins s2 σ H2 x vs v us Q I2 r1 r2 q2
end
def MtM(X:Cx)(id:String)(r:V->List V->Hp->VK->Prop):Prop :=
 ∀ (pins:List (Addr×Obj)) (s:Shared) (σ:St) (H:Hp) (x:V) (xs:List V) (v:Value) (us:List Value) (Q:VK),Inv X pins σ H s->J8 x v->G0 xs us->r x xs H Q ->
  wpAny (model X.prog X.w) X.A (call (.builtin id) (v::us)) (EP X pins σ Q) X.xe s
theorem G0.one{x:V}(r:G0 [x] us):∃ u,us=[u]/\J8 x u:=qv3 r
theorem G0.zero:∀ {us:List Value},G0 [] us->us=[]
 | _,.nil=>rfl
theorem G0.dropLast{xs:List V}{us:List Value}(h:G0 xs us):G0 xs.dropLast us.dropLast:=by
 induction h with
 | nil=>exact .nil
 | cons r t ih =>
   cases t with
   | nil=>exact .nil
   | cons q t'=>exact .cons r ih
theorem G0.rep{xs:List V}{us:List Value}(h:G0 xs us):∀ k:Nat,G0 (List.replicate k xs).flatten (List.replicate k us).flatten
 | 0=>.nil
 | k+1=>by
   rw[List.replicate_succ,List.replicate_succ,List.flatten_cons,List.flatten_cons]
   exact G0.append h (G0.rep h k)
theorem yd5(l:List α):l.eraseIdx (l.length-1)=l.dropLast:=by
 induction l with
 | nil=>rfl
 | cons a r ih =>
   cases r with
   | nil=>rfl
   | cons b r =>
     have e:(a::b::r).length-1=((b::r).length-1)+1:=by
      have h1:(a::b::r).length=r.length+2:=rfl
      have h2:(b::r).length=r.length+1:=rfl
      omega
     rw[e,List.eraseIdx_cons_succ,ih]
     all_goals rfl
theorem xl5(its:List Value):∀ (k:Nat) (acc:List Value),
 List.foldl (fun x1 x2=>x1++x2) acc.toArray (List.replicate k its.toArray)=(acc++(List.replicate k its).flatten).toArray
 | 0,acc=>by simp
 | k+1,acc=>by
   have e:acc.toArray++its.toArray=(acc++its).toArray:=by simp
   have e2:(acc++its)++(List.replicate k its).flatten=acc++(List.replicate (k+1) its).flatten:=by
    rw[List.replicate_succ,List.flatten_cons,List.append_assoc]
   rw[<-e2,<-xl5 its k (acc++its),<-e,List.replicate_succ,List.foldl_cons]
variable{l:Addr}{zs:List V}
theorem Inv.lset{f:Array Value->Array Value}(I:Inv X pins σ H s)(hH:H l=some (.lst xs))(e:s.heap.get? l=some {cls:=.type "list",data:=.seq its.toArray n})(hf:f its.toArray=its'.toArray)(hv:G0 ys its')(hz:ys.length<=sizeLine)(ht:autoParam (0<t') zAt) :
 Inv X pins σ (upd H l (.lst ys)) {s with heap:=s.heap.update l (Obj.mapSeq f),toks:=t'}:=by
 have q:=PySem.IsL.update e f
 rw[hf] at q
 refine I.write (x:=l) (e:=l) (by rw[hH];exact trivial) (.inl rfl) (fun b' u hb hu=>(Heap.get?_update_other s.heap (Obj.mapSeq f) (Ne.symm hb)).trans hu) ⟨_,q⟩ ?_
 exact⟨hz,its',_,hv,q⟩
theorem Inv.lnew(I:Inv X pins σ H s)(hv:G0 ys its)(hz:ys.length<=sizeLine)(ht:autoParam (0<t') zAt) :
 Inv X pins σ (upd H s.heap.objs.size (.lst ys)) {s with heap:=s.heap.push {cls:=.type "list",data:=.seq its.toArray},toks:=t'} :=
 I.laid (fun _ _ q=>Heap.get?_push_of_some _ q) (Nat.le_refl _) ⟨hz,its,0,hv,Heap.get?_push_size _ rfl⟩
theorem Inv.fresh(I:Inv X pins σ H s):H s.heap.objs.size=none:=I.hok.fresh (Nat.le_refl _)
theorem Inv.lstM(I:Inv X pins σ H s)(hH:H l=some (.lst xs)):xs.length<=sizeLine/\∃ (its:List Value) (n:Nat),G0 xs its/\xs.length=its.length/\s.heap.get? l=some {cls:=.type "list",data:=.seq its.toArray n}:=by
 obtain⟨z,its,n,r,e⟩:=I.hok l _ hH
 exact⟨z,its,n,r,r.length,e⟩
theorem xv0(h:n<=sizeLine):Builtin.List.listTooLong n=false:=by
 unfold Builtin.List.listTooLong
 exact decide_eq_false (by omega)
def J4:V->List V->Hp->VK->Prop:=fun x vs H Q=>∃ l xs y,x=.ref l/\vs=[y]/\H l=some (.lst xs)/\xs.length<sizeLine/\Q .non (upd H l (.lst (xs++[y])))
theorem J5:MtM X "list.append" J4:=by
 intro pins s σ H x vs v us Q I rx rv h
 obtain⟨l,xs,y,rfl,rfl,hH,hz,q⟩:=h
 cases rx
 obtain⟨u,rfl,ru⟩:=rv.one
 obtain⟨z,its,n,r,hl,e⟩:=I.lstM hH
 refine call_meets F.slot_list_append ⟨_,e,rfl⟩ F.entry_list_append (F.args_list_append_2 _ _) (PySem.list_append l its.toArray n u (by rw[List.size_toArray];omega)) ⟨e,?_⟩
 refine⟨.non,_,I.lset (its':=its++[u]) hH e (by simp) (r.append (.cons ru .nil)) ?_,rfl,q⟩
 rw[List.length_append,List.length_singleton]
 omega
def wz6:V->List V->Hp->VK->Prop:=fun x vs H Q=>∃ l b xs zs,x=.ref l/\vs=[.ref b]/\H l=some (.lst xs)/\H b=some (.lst zs)/\xs.length+zs.length<=sizeLine/\Q .non (upd H l (.lst (xs++zs)))
theorem xl6:MtM X "list.extend" wz6:=by
 intro pins s σ H x vs v us Q I rx rv h
 obtain⟨l,b,xs,zs,rfl,rfl,hH,hB,hz,q⟩:=h
 cases rx
 obtain⟨u,rfl,ru⟩:=rv.one
 cases ru
 obtain⟨z,its,n,r,hl,e⟩:=I.lstM hH
 obtain⟨z2,its2,n2,r2,hl2,e2⟩:=I.lstM hB
 have hsz:its.toArray.size+its2.toArray.size<=sizeLine:=by rw[List.size_toArray,List.size_toArray];omega
 have hlong:¬(!its.toArray.isEmpty && Builtin.List.listTooLong (its.toArray.size+its2.toArray.size))=true:=by
  rw[xv0 hsz,Bool.and_false]
  exact Bool.false_ne_true
 refine call_meets F.slot_list_extend ⟨_,e,rfl⟩ F.entry_list_extend (F.args_list_extend_2 _ _)
  (AutoSeq1.list_extend_list_list_0 l its.toArray n b its2.toArray n2 hlong (by rw[List.size_toArray];omega) (by omega)) ⟨e,e2,?_⟩
 refine⟨.non,_,I.lset (its':=its++its2) hH e (by simp) (r.append r2) ?_,rfl,q⟩
 rw[List.length_append]
 omega
def zf2:V->List V->Hp->VK->Prop:=fun x vs H Q=>∃ l xs y,x=.ref l/\vs=[]/\H l=some (.lst xs)/\xs[xs.length-1]?=some y/\Q y (upd H l (.lst xs.dropLast))
theorem yv0:MtM X "list.pop" zf2:=by
 intro pins s σ H x vs v us Q I rx rv h
 obtain⟨l,xs,y,rfl,rfl,hH,hy,q⟩:=h
 cases rx
 have hus:=rv.zero
 subst hus
 obtain⟨z,its,n,r,hl,e⟩:=I.lstM hH
 obtain⟨u,hu,ru⟩:=r.get hy
 have hy':its.toArray[its.toArray.size-1]?=some u:=by
  show its.toArray[its.length-1]?=some u
  rw[<-Array.getElem?_toList,<-hl]
  exact hu
 refine call_meets F.slot_list_pop ⟨_,e,rfl⟩ F.entry_list_pop (F.args_list_pop_1 _) (MeetsSeq.list_pop_last l its.toArray n u hy' (by rw[List.size_toArray];omega)) ⟨e,?_⟩
 refine⟨y,_,I.lset (its':=its.dropLast) hH e ?_ r.dropLast ?_,ru,q⟩
 ·show its.toArray.eraseIdxIfInBounds (its.toArray.size-1)=its.dropLast.toArray
  rw[List.size_toArray,List.eraseIdxIfInBounds_toArray,yd5]
 ·rw[List.length_dropLast]
  omega
def zv9:R2:=fun x y H Q=>∃ l b xs zs,x=.ref l/\y=.ref b/\H l=some (.lst xs)/\H b=some (.lst zs)/\xs.length+zs.length<=sizeLine/\∀ p,H p=none->Q (.ref p) (upd H p (.lst (xs++zs)))
theorem zo8:OpR X (binaryOp .Add) zv9:=by
 intro pins s σ H x y v u Q I rx ry h
 obtain⟨l,b,xs,zs,rfl,rfl,hH,hB,hz,q⟩:=h
 cases rx
 cases ry
 obtain⟨z,its,n,r,hl,e⟩:=I.lstM hH
 obtain⟨z2,its2,n2,r2,hl2,e2⟩:=I.lstM hB
 refine PySem.P.add_list e e2 ?_ (by rw[List.size_toArray,List.size_toArray];omega)
 have ea:its.toArray++its2.toArray=(its++its2).toArray:=by simp
 rw[ea]
 exact⟨.ref _,_,I.lnew (t':=s.toks) (r.append r2) (by rw[List.length_append];omega),rfl,q _ I.fresh⟩
def zw0:R2:=fun x y H Q=>∃ l k xs,x=.ref l/\y=.int k/\H l=some (.lst xs)/\-(2 ^ 63)<=k/\k<2 ^ 63/\xs.length*k.toNat<=sizeLine /\
 ∀ p,H p=none->Q (.ref p) (upd H p (.lst (List.replicate k.toNat xs).flatten))
theorem zf3(xs:List α)(k:Nat):(List.replicate k xs).flatten.length=k*xs.length:=by
 induction k with
 | zero=>simp
 | succ k ih=>rw[List.replicate_succ,List.flatten_cons,List.length_append,ih,Nat.succ_mul,Nat.add_comm]
theorem zo9:OpR X (binaryOp .Mult) zw0:=by
 intro pins s σ H x y v u Q I rx ry h
 obtain⟨l,k,xs,rfl,rfl,hH,h1,h2,hz,q⟩:=h
 cases rx
 obtain⟨t,rfl⟩:=ry
 obtain⟨z,its,n,r,hl,e⟩:=I.lstM hH
 have hlen:its.toArray.size*k.toNat<=sizeLine:=by rw[List.size_toArray,<-hl];exact hz
 have hcap:¬its.toArray.size*k.toNat > (2 ^ 63-1) / 8:=by
  have:(sizeLine:Nat)<=(2 ^ 63-1) / 8:=by decide
  omega
 have hfit:¬(!Builtin.List.listFitsIndex k)=true:=by
  rw[fitsIndex_both h1 h2]
  exact Bool.false_ne_true
 have hlong:¬Builtin.List.listTooLong (its.toArray.size*k.toNat)=true:=by
  rw[xv0 hlen]
  exact Bool.false_ne_true
 have hnew:List.foldl (fun x1 x2=>x1++x2) #[] (List.replicate (if its.toArray.isEmpty=true then 0 else k.toNat) its.toArray)=(List.replicate k.toNat its).flatten.toArray:=by
  have f0:∀ m:Nat,List.foldl (fun x1 x2=>x1++x2) #[] (List.replicate m its.toArray)=(List.replicate m its).flatten.toArray:=fun m=>by
   have:=xl5 its m []
   rw[List.nil_append] at this
   exact this
  rw[f0]
  cases its with
  | nil=>simp
  | cons a r'=>rw[if_neg (by simp)]
 refine wpAny_binaryOp_repeat_ref (T := "list") (U := "int") (by decide) ⟨_,e,rfl⟩ (fun s'=>typeIs_int s' k t) noFill_list_mul F.fills_int_mul F.slot_int_rmul repeat_list F.slot_int_index.lookup
  (call_meets F.slot_int_rmul (typeIs_int s k t) F.entry_int_rmul (F.args_int_rmul_2 _ _) (int___rmul___int_list k t l its.toArray n)
   ⟨e,rfl,⟨_,e,rfl⟩,call_meets F.slot_list_mul ⟨_,e,rfl⟩ F.entry_list_mul (F.args_list_mul_2 _ _) (AutoListH.list___mul___list_int_3 l its.toArray n k t hfit hcap hlong) ⟨e,?_⟩⟩)
 rw[hnew]
 exact⟨.ref _,_,I.lnew (t':=s.toks) (r.rep k.toNat) (by rw[zf3,Nat.mul_comm];exact hz),rfl,q _ I.fresh⟩
variable{κ:Type}
section
variable[DecidableEq κ]
def xb4(kvs:List (κ×V))(k:κ):Option V:=(kvs.find? fun kv=>decide (kv.1=k)).map (·.2)
def xi4(kvs:List (κ×V))(k:κ)(v:V):List (κ×V) :=
 if(kvs.any fun kv=>decide (kv.1=k))=true then kvs.map (fun kv=>if kv.1=k then(kv.1,v) else kv) else kvs++[(k,v)]
theorem zw1{k:κ}:xb4 ([]:List (κ×V)) k=none:=rfl
theorem xb5{p:κ×V}{r:List (κ×V)}{k:κ}(e:p.1=k):xb4 (p::r) k=some p.2:=by simp[xb4,List.find?_cons,e]
theorem xb6{p:κ×V}{r:List (κ×V)}{k:κ}(e:¬p.1=k):xb4 (p::r) k=xb4 r k:=by simp[xb4,List.find?_cons,e]
theorem xv1(k:κ):∀ kvs:List (κ×V),(kvs.any fun kv=>decide (kv.1=k))=(xb4 kvs k).isSome
 | []=>rfl
 | p::r=>by
   rw[List.any_cons]
   by_cases e:p.1=k
   ·simp only[xb5 e,decide_eq_true e,Bool.true_or,Option.isSome_some]
   ·rw[xb6 e,decide_eq_false e,Bool.false_or];exact xv1 k r
theorem wx0(kvs:List (κ×V))(k:κ)(v:V):(xi4 kvs k v).length<=kvs.length+1:=by
 unfold xi4
 split
 ·rw[List.length_map];omega
 ·rw[List.length_append,List.length_cons,List.length_nil];omega
theorem wm9.isSome_eq{o:Option V}{u:Option Value}(r:wm9 o u):o.isSome=u.isSome:=by
 cases o with
 | none=>cases u with
   | none=>rfl
   | some _=>exact(show False from r).elim
 | some _=>cases u with
   | none=>exact(show False from r).elim
   | some _=>rfl
theorem KV.val{kvs:List (κ×V)}{vs:List (κ×Value)}(r:KV kvs vs)(k:κ):wm9 (xb4 kvs k) (valueAt vs k):=by
 unfold KV at r
 induction r with
 | nil=>exact True.intro
 | @cons p q ps qs h t ih =>
   obtain⟨h1,h2⟩:=h
   by_cases e:p.1=k
   ·have e':q.1=k:=h1.symm.trans e
    have b:valueAt (q::qs) k=some q.2:=by simp[valueAt,List.find?_cons,e']
    rw[xb5 e,b];exact h2
   ·have e':¬q.1=k:=fun z=>e (h1.trans z)
    have b:valueAt (q::qs) k=valueAt qs k:=by simp[valueAt,List.find?_cons,e']
    rw[xb6 e,b];exact ih
theorem KV.any{kvs:List (κ×V)}{vs:List (κ×Value)}(r:KV kvs vs)(k:κ):(kvs.any fun kv=>decide (kv.1=k))=vs.any fun kv=>decide (kv.1=k):=by
 unfold KV at r
 induction r with
 | nil=>rfl
 | cons h t ih=>rw[List.any_cons,List.any_cons,ih,h.1]
theorem KV.repl{kvs:List (κ×V)}{vs:List (κ×Value)}(r:KV kvs vs)(k:κ)(ry:J8 y u) :
 KV (kvs.map fun kv=>if kv.1=k then(kv.1,y) else kv) (vs.map fun kv=>if kv.1=k then(kv.1,u) else kv):=by
 unfold KV at r ⊢
 induction r with
 | nil=>exact .nil
 | @cons p q ps qs h t ih =>
   rw[List.map_cons,List.map_cons]
   refine .cons ?_ ih
   obtain⟨h1,h2⟩:=h
   by_cases e:p.1=k
   ·rw[if_pos e,if_pos (h1.symm.trans e)];exact⟨h1,ry⟩
   ·rw[if_neg e,if_neg (fun z=>e (h1.trans z))];exact⟨h1,h2⟩
theorem KV.put{kvs:List (κ×V)}{vs:List (κ×Value)}(r:KV kvs vs)(k:κ)(ry:J8 y u):KV (xi4 kvs k y) (stored vs k u):=by
 unfold xi4 stored
 rw[r.any k]
 by_cases e:(vs.any fun kv=>decide (kv.1=k))=true
 ·rw[if_pos e,if_pos e];exact r.repl k ry
 ·rw[if_neg e,if_neg e];exact Paired.snoc r ⟨rfl,ry⟩
theorem KV.length{kvs:List (κ×V)}{vs:List (κ×Value)}(r:KV kvs vs):kvs.length=vs.length:=Paired.length r
end
theorem yi8{k:Key}(r:J8 (kV k) u):(Y7 P w).is k u=true:=by
 cases k with
 | inl i=>obtain⟨t,e⟩:=(show ∃ t,u=Value.int i t from r);subst e;exact xt8 P w i t
 | inr x=>obtain⟨t,e⟩:=(show ∃ t,u=Value.str x t from r);subst e;exact xt9 P w x t
theorem xl7{P:Program}{w:World}:∀ {ks:List Key} {us:List Value},G0 (ks.map kV) us->ItemsAre (Y7 P w) ks us
 | [],_,r=>by rw[List.map_nil] at r;cases r;exact .nil
 | k::ks,_,r=>by
   rw[List.map_cons] at r
   cases r with
   | cons h t=>exact .cons (yi8 h) (xl7 t)
abbrev KT(H:Hp):List (List Key×V)->List (List Key×Addr×Value)->Prop:=Paired fun p q=>p.1=q.1/\H q.2.1=some (.tup (p.1.map kV))/\J8 p.2 q.2.2
variable{kvs:List (List Key×V)}
theorem KT.val{xs:List (List Key×Addr×Value)}(r:KT H kvs xs)(k:List Key):wm9 (xb4 kvs k) ((atKey xs k).map (·.2)):=by
 induction r with
 | nil=>exact True.intro
 | @cons p q ps qs h t ih =>
   obtain⟨h1,_,h2⟩:=h
   by_cases e:p.1=k
   ·have e':q.1=k:=h1.symm.trans e
    have b:atKey (q::qs) k=some q.2:=by simp[atKey,List.find?_cons,e']
    rw[xb5 e,b];exact h2
   ·have e':¬q.1=k:=fun z=>e (h1.trans z)
    have b:atKey (q::qs) k=atKey qs k:=by simp[atKey,List.find?_cons,e']
    rw[xb6 e,b];exact ih
theorem KT.repl{xs:List (List Key×Addr×Value)}(r:KT H kvs xs)(k:List Key)(ry:J8 y u) :
 KT H (kvs.map fun kv=>if kv.1=k then(kv.1,y) else kv) (xs.map (putAt k u)):=by
 induction r with
 | nil=>exact .nil
 | @cons p q ps qs h t ih =>
   rw[List.map_cons,List.map_cons]
   refine .cons ?_ ih
   obtain⟨h1,h2,h3⟩:=h
   unfold putAt
   by_cases e:p.1=k
   ·rw[if_pos e,if_pos (h1.symm.trans e)];exact⟨h1,h2,ry⟩
   ·rw[if_neg e,if_neg (fun z=>e (h1.trans z))];exact⟨h1,h2,h3⟩
theorem KT.put{xs:List (List Key×Addr×Value)}(r:KT H kvs xs)(k:List Key)(hb:H b=some (.tup (k.map kV)))(ry:J8 y u) :
 KT H (xi4 kvs k y) (storedH xs k b u):=by
 have e:(kvs.any fun kv=>decide (kv.1=k))=(atKey xs k).isSome:=by
  rw[xv1,(r.val k).isSome_eq,Option.isSome_map]
 unfold xi4 storedH
 rw[e]
 by_cases q:(atKey xs k).isSome=true
 ·rw[if_pos q,if_pos q];exact r.repl k ry
 ·rw[if_neg q,if_neg q];exact Paired.snoc r ⟨rfl,hb,ry⟩
theorem KT.keeps{xs:List (List Key×Addr×Value)}(r:KT H kvs xs)(ht:∀ b ys,H b=some (.tup ys)->H' b=some (.tup ys)):KT H' kvs xs :=
 Paired.mapP r fun _ _ z=>⟨z.1,ht _ _ z.2.1,z.2.2⟩
theorem zl4{u:HO}(ok:HOk P w H h)(e:Rd H a u):U6 P w H h a u:=e.ok ok
theorem yi9{kvs:List (Key×V)}(ok:HOk P w H h)(e:Rd H a (.dK kvs)):kvs.length<=sizeLine/\(a == sysModules)=false/\∃ vs,KV kvs vs/\h.DictOf (Y7 P w) a vs :=
 show U6 P w H h a (.dK kvs) from zl4 ok e
theorem zw2{kvs:List (Key×V)}(ok:HOk P w H h)(e:H a=some (.dK kvs)):kvs.length<=sizeLine/\(a == sysModules)=false/\∃ vs,KV kvs vs/\h.DictOf (Y7 P w) a vs:=yi9 ok (.inl e)
theorem xp4{ks:List Key}(ok:HOk P w H h)(e:H a=some (.tup (ks.map kV))):(tupleKind (Y7 P w)).is h ks a:=by
 obtain⟨_,its,r,o,h1,h2,n,h3⟩:=(show U6 P w H h a (.tup (ks.map kV)) from ok a _ e)
 exact⟨o,its.toArray,n,h1,h2,h3,by simpa using xl7 r⟩
theorem yv1(ok:HOk P w H h)(e:Rd H a (.dT kvs)):kvs.length<=sizeLine/\(a == sysModules)=false /\
 ∃ xs,KT H kvs xs/\h.DictOfH (tupleKind (Y7 P w)) a xs:=by
 obtain⟨z,y,xs,r,o,es,ep,h1,h2,h3,h4,h5⟩:=(show U6 P w H h a (.dT kvs) from zl4 ok e)
 refine⟨z,y,xs,r,o,es,ep,h1,h2,h3,h4,fun x hx=>?_,h5⟩
 have all:∀ {l:List (List Key×V)} {m:List (List Key×Addr×Value)},KT H l m->∀ x∈m,(tupleKind (Y7 P w)).is h x.1 x.2.1:=by
  intro l m q
  induction q with
  | nil=>intro x hx;exact nomatch hx
  | @cons p q ps qs hq t ih =>
    intro x hx
    rcases List.mem_cons.mp hx with e|hx
    ·subst e
     exact xp4 ok (by rw[<-hq.1];exact hq.2.1)
    ·exact ih x hx
 exact all r x hx
theorem zw3(ok:HOk P w H h)(e:H a=some (.dT kvs)):kvs.length<=sizeLine/\(a == sysModules)=false /\
 ∃ xs,KT H kvs xs/\h.DictOfH (tupleKind (Y7 P w)) a xs:=yv1 ok (.inl e)
def zp0(H:Hp)(a:Addr)(y:V)(r:Option V):Prop :=
 (∃ kvs k,Rd H a (.dK kvs)/\y=kV k/\r=xb4 kvs k)\/∃ kvs k b,Rd H a (.dT kvs)/\y=.ref b/\H b=some (.tup (k.map kV))/\r=xb4 kvs k
def zw4(H:Hp)(a:Addr)(y v:V)(H':Hp):Prop :=
 (∃ kvs k,H a=some (.dK kvs)/\y=kV k/\kvs.length<sizeLine/\H'=upd H a (.dK (xi4 kvs k v))) \/
 ∃ kvs k b,H a=some (.dT kvs)/\y=.ref b/\H b=some (.tup (k.map kV))/\kvs.length<sizeLine/\H'=upd H a (.dT (xi4 kvs k v))
section
variable{r:Value}{o:Option V}
theorem Aa5(hu:A.units+1<cLine)(I:Inv X pins σ H s)(g:zp0 H a y o)(ry:J8 y u)(h:∀ s',Inv X pins σ H s'->Q (.bool o.isSome) s') :
 wpAny (model X.prog X.w) A (compareOp .In u (.ref a)) Q E s:=by
 rcases g with⟨kvs,k,e,ey,l⟩|⟨kvs,k,b,e,ey,eb,l⟩
 ·subst ey
  obtain⟨z,hd,vs,rel,dd⟩:=yi9 I.hok e
  refine wpAny_in_of (yi8 ry) hd dd.mapOf ?_
  rw[<-(rel.val k).isSome_eq,<-l]
  exact h _ (I.tok _)
 ·subst ey
  cases (show u=Value.ref b from ry)
  obtain⟨z,hd,xs,rel,dd⟩:=yv1 I.hok e
  refine wpAny_in_heap (tupleKind_room_in1 hu) (xp4 I.hok eb) hd dd ?_
  have q:=(rel.val k).isSome_eq
  rw[Option.isSome_map] at q
  rw[<-q,<-l]
  exact h _ (I.tok _)
theorem zf4(hu:A.units+1<cLine)(I:Inv X pins σ H s)(g:zp0 H a y o)(ry:J8 y u)(h:∀ s',Inv X pins σ H s'->Q (.bool (!o.isSome)) s') :
 wpAny (model X.prog X.w) A (compareOp .NotIn u (.ref a)) Q E s:=by
 rcases g with⟨kvs,k,e,ey,l⟩|⟨kvs,k,b,e,ey,eb,l⟩
 ·subst ey
  obtain⟨z,hd,vs,rel,dd⟩:=yi9 I.hok e
  refine wpAny_notIn_of (yi8 ry) hd dd.mapOf ?_
  rw[<-(rel.val k).isSome_eq,<-l]
  exact h _ (I.tok _)
 ·subst ey
  cases (show u=Value.ref b from ry)
  obtain⟨z,hd,xs,rel,dd⟩:=yv1 I.hok e
  refine wpAny_notIn_heap (tupleKind_room_in1 hu) (xp4 I.hok eb) hd dd ?_
  have q:=(rel.val k).isSome_eq
  rw[Option.isSome_map] at q
  rw[<-q,<-l]
  exact h _ (I.tok _)
theorem yj0{ob:HO}(I:Inv X pins σ H s)(mu:Mut (H a))(hs:Heap.SameBut a s.heap h')(he:∃ q,h'.get? a=some q)(new:U6 X.prog X.w (upd H a ob) h' a ob)(ht:autoParam (0<t') zAt) :
 Inv X pins σ (upd H a ob) {s with heap:=h',toks:=t'} :=
 I.write (x:=a) (e:=a) mu (.inl rfl) (fun b q hb z=>(hs.2 b hb).trans z) he new
theorem zp1{kvs:List (Key×V)}{vs:List (Key×Value)}(z:kvs.length<=sizeLine)(hd:(a == sysModules)=false)(rel:KV kvs vs)(dd:h'.DictOf (Y7 P w) a vs) :
 U6 P w H' h' a (.dK kvs):=⟨z,hd,vs,rel,dd⟩
theorem yp8{Q:Unit->Shared->Prop}(hu:A.units+1<cLine)(I:Inv X pins σ H s)(g:zw4 H a y v H')(ry:J8 y u)(rv:J8 v r)(h:∀ s',Inv X pins σ H' s'->Q () s') :
 wpAny (model X.prog X.w) A (setItem (.ref a) u r) Q E s:=by
 rcases g with⟨kvs,k,e,ey,l,eH⟩|⟨kvs,k,b,e,ey,eb,l,eH⟩
 ·subst ey eH
  obtain⟨z,hd,vs,rel,dd⟩:=zw2 I.hok e
  have hz:vs.length<=sizeLine:=by rw[<-rel.length];exact z
  have hl:(xi4 kvs k v).length<=sizeLine:=by have:=wx0 kvs k v;omega
  refine wpAny_setItem_pairs (hsz:=hz) (yi8 ry) dd fun h' dd' hs=>h _ ?_
  have he:∃ q,h'.get? a=some q:=let ⟨q,_,_,hq,_⟩:=dd';⟨q,hq⟩
  exact yj0 I (by rw[e];exact True.intro) hs he (zp1 hl hd (rel.put k rv) dd')
 ·subst ey eH
  cases (show u=Value.ref b from ry)
  obtain⟨z,hd,xs,rel,dd⟩:=zw3 I.hok e
  have hz:xs.length<=sizeLine:=by rw[<-Paired.length rel];exact z
  have hl:(xi4 kvs k v).length<=sizeLine:=by have:=wx0 kvs k v;omega
  refine wpAny_setItem_heap (hsz:=hz) (tupleKind_room_in1 hu) (xp4 I.hok eb) dd fun h' dd' hs=>h _ ?_
  obtain⟨q,es,ep,hq,h2,h3,h4,_,h5⟩:=dd'
  refine yj0 I (by rw[e];exact True.intro) hs ⟨q,hq⟩ ⟨hl,hd,_,(rel.put k eb rv).keeps fun c ys ec=>?_,q,es,ep,hq,h2,h3,h4,h5⟩
  rw[B4 (zu5 ec e (fun z=>nomatch z))]
  exact ec
end
section
variable{kvs:List (Key×V)}{k:Key}
theorem zw5(I:Inv X pins σ H s)(e:Rd H a (.dK kvs))(h:∀ t s',Inv X pins σ H s'->Q (.int kvs.length t) s'):wpAny (model X.prog X.w) A (call (.builtin "len") [.ref a]) Q E s:=by
 obtain⟨z,hd,vs,rel,dd⟩:=yi9 I.hok e
 refine call_len_dict hd dd (by rw[<-rel.length];rw[sizeLine_eq] at z;omega) ?_
 rw[<-rel.length]
 exact h _ _ (I.tok _)
end
namespace Att
open PySem PySem.W PySem.Calls PyProof.Rows
theorem wx9{P:Params}{h:Heap}:∀ (ns:List Int) (vs:List Value),WellAll P h vs (ns.map WData.int)->IntsAre vs ns:=by
 intro ns
 induction ns with
 | nil =>
   intro vs w
   rw[List.map_nil] at w
   cases w
   exact .nil
 | cons n ns ih =>
   intro vs w
   rw[List.map_cons] at w
   cases w with
   | cons a b =>
     cases a
     exact .cons _ _ (ih _ b)
theorem script_of{l:OpenLaw}{n:Nat}(hn:l.most=some n){P:Params}{h:Heap}{args:List WData}{vals:List Value}
 (hpre:l.row.toRowW.claim.pre args=true) (hwl:WellAll P h vals args) :
 ∃ a vs ns,vals=[Value.ref a]/\args=[WData.list (ns.map WData.int)]/\h.get? a=some {cls:=.type "list",data:=.seq vs.toArray}/\IntsAre vs ns/\ns.length<=n:=by
 have hsh:WShape.hasAll [] args [.list .int]=true:=(pre_splitW hpre).1
 have hc:l.pre.holds [] {args:=args}=true:=(pre_splitW hpre).2
 obtain⟨d,r,rfl,h1,h2⟩:=hasAllW_cons hsh
 obtain rfl:=hasAllW_nil h2
 obtain⟨xs,rfl,h3⟩:=hasW_list h1
 obtain⟨ns,rfl⟩:=items_int h3
 have hlen:ns.length<=n:=by
  unfold OpenLaw.pre at hc
  have h4:(WTm.not (.lt (.lit (.int (n:Int))) (.len (.arg 0)))).holds [] {args:=[.list (ns.map .int)]}=true:=by
   have h4:=(holds_andW hc).1
   rw[hn] at h4
   exact h4
  have h5:=condW_of h4 (w_not (w_lt w_lit (w_len_list (w_arg rfl))))
  rw[List.length_map] at h5
  refine Nat.le_of_not_lt fun q=>?_
  have q':(n:Int)<((ns.length:Nat):Int):=by omega
  first
   | (rw[decide_eq_true q'] at h5;exact absurd h5 (by decide))
   | (simp at h5;omega)
 cases hwl with
 | cons w1 w2 =>
   cases w2
   cases w1 with
   | list ho hall=>exact⟨_,_,ns,rfl,rfl,ho,wx9 ns _ hall,hlen⟩
theorem post_true(l:OpenLaw)(args:List WData):l.row.toRowW.claim.post args (.bool true) args=true :=
 postW_of (r:=l.row.toRowW) (X:=(true == true))
  (show WShape.has [] (.bool true) .bool=true by first|rfl|decide|simp[WShape.has,WShape.arms,WShape.armsAll])
  (show(WTm.eq .res (.lit (.bool true))).value [] {args:=args,res:=some (.bool true),after:=args}=some (.bool (true == true)) from w_eq_bool (w_res rfl) w_lit) rfl
end Att
theorem xl8:∀ {vs:List Value} {ns:List Int},IntsAre vs ns->G0 (ns.map V.int) vs
 | _,_,.nil=>.nil
 | _,_,.cons n t h=>.cons ⟨t,rfl⟩ (xl8 h)
def zp2(H:Hp):Prop:=∀ b,H b=none\/∃ o xs,H b=some (.frz o (.lst xs))
theorem yv2 {mb:Str->Option Value} {fa:Addr} {s₁:Shared} {vs:List Value} {ns:List Int} (KX:K.In s₁.heap) (hns:s₁.heap.Ns mainGlobals mg) (hb:s₁.heap.Ns builtinsNs mb) (hbb:∀ x:Str,x ≠ "__name__"->mb x=bootBuiltins x) (hlim:s₁.heap.NoLimit) (hg:s₁.gens=#[]) (htk:0<s₁.toks) (ha:s₁.heap.get? a=some {cls:=.type "list",data:=.seq vs.toArray}) (hi:IntsAre vs ns) (hl:ns.length<=sizeLine) (hr:qj3 k callerA) (F:∀ base:Heap,K.In base->base.Ns mainGlobals mg->J7 P w K mg base CX k fa fd [x] sp) (hbind:∀ (s:Shared) (u:Value),BindsTo s fd ⟨[u],[]⟩ [(x,u)]) (hsp:∀ H:Hp,zp2 H->SqL K H a (ns.map V.int)->sp [.ref a] H (fun v _=>v=.bl true) fun _ _ _=>False) (hCX:∀ H e s',CX [] H s₁ (fun _ _ _=>False) e s'->False) :
 codeAny (model P w) callerA (.call (.ref fa) ⟨[.ref a],[]⟩) (fun r s'=>r=.ok (.ret (.bool true))/\OldK s₁.heap s'.heap/\s'.os=s₁.os/\AllBare s'.gens) s₁:=by
 have rv:=xl8 hi
 have lenV:=hi.length
 have core:∀ H:Hp,zp2 H->SqL K H a (ns.map V.int)->HOk P w H s₁.heap->(∀ b,H b≠none->b=a)->(H a≠none->K.lookup a=none) ->
  codeAny (model P w) callerA (.call (.ref fa) ⟨[.ref a],[]⟩) (fun r s'=>r=.ok (.ret (.bool true))/\OldK s₁.heap s'.heap/\s'.os=s₁.os/\AllBare s'.gens) s₁:=by
  intro H hO hS hok hA hK
  have base_of:∀ {b:Addr} {o:Obj},s₁.heap.get? b=some o->H b=none->(xo0 s₁.heap H).get? b=some o:=fun e n=>ys9 e n
  have noA:∀ {b:Addr} {o:Obj} {es:Array DictEntry} {ep:Nat},s₁.heap.get? b=some o->o.data=.dict es ep->H b=none:=fun{b o es ep} e d=>by
   cases q:H b with
   | none=>rfl
   | some u =>
     have e':b=a:=hA b (by rw[q];simp)
     subst e'
     rw[ha] at e;cases e
     have d':Data.seq vs.toArray _=Data.dict es ep:=d
     cases d'
  have nsK:∀ {b:Addr} {m:Str->Option Value},s₁.heap.Ns b m->(xo0 s₁.heap H).Ns b m:=fun{b m} ⟨o,es,ep,e,d,r⟩=>⟨o,es,ep,base_of e (noA e d),d,r⟩
  have hKb:K.In (xo0 s₁.heap H):=fun b o e=>base_of (KX b o e) (by
   cases q:H b with
   | none=>rfl
   | some u =>
     have e':b=a:=hA b (by rw[q];simp)
     subst e'
     rw[hK (by rw[q];simp)] at e;cases e)
  have hM:Mod K mg (xo0 s₁.heap H):=⟨hKb,nsK hns,⟨mb,nsK hb,hbb⟩,let ⟨mc,h1,h2⟩:=hlim;⟨mc,nsK h1,h2⟩⟩
  have e0:yc8 P w K mg (xo0 s₁.heap H) callerA [] s₁ H:=⟨rfl,hM,fun b o e=>zd8 e,Nat.le_of_eq (yo2 _ _),trivial,fun b hb=>absurd (show b∈([]:List Addr) from hb) (by simp),hok,.of_eq hg,htk⟩
  refine codeAny_mono ((F _ hKb (nsK hns)).run callerA [] s₁ H ⟨[.ref a],[]⟩ [.ref a] [.ref a] _ _ hr e0 (hbind s₁ (.ref a)) (.cons rfl .nil) (hsp H hO hS)) fun r s' h=>?_
  cases r with
  | error e=>exact(hCX H e s' h).elim
  | ok fl =>
    cases fl with
    | next=>exact False.elim h
    | brk=>exact False.elim h
    | cont=>exact False.elim h
    | ret u =>
      obtain⟨v,H',_,os,bare,un,hok',r',q⟩:=h
      have q':v=.bl true:=q
      subst q'
      obtain rfl:u=Value.bool true:=r'
      refine⟨rfl,OldK.of_keep fun b o e=>?_,os,bare⟩
      cases q:H b with
      | none=>exact un.keep b o e q (by intro z;exact absurd (show b∈([]:List Addr) from z) (by simp)) (by simp)
      | some u =>
        rcases hO b with z|⟨ob,xs,z⟩
        ·rw[q] at z;cases z
        ·have z2:=un.frzs b ob _ z
         obtain⟨e1,_⟩:=hok b _ z
         obtain⟨e2,_⟩:=hok' b _ z2
         rw[e] at e1;cases e1
         exact e2
 cases hk:K.lookup a with
 | some o =>
   have e:=KX a o hk
   rw[ha] at e
   cases e
   refine core (fun _=>none) (fun _=>.inl rfl) (.inr ⟨_,vs.toArray,_,hk,rfl,rfl,rfl,by rw[List.size_toArray,lenV];exact hl,by simpa using rv⟩) (fun b u z=>by have z':(none:Option HO)=some u:=z;cases z') (fun b z=>absurd rfl z) fun z=>absurd rfl z
 | none =>
   refine core (fun b=>if b=a then some (.frz {cls:=.type "list",data:=.seq vs.toArray} (.lst (ns.map V.int))) else none) (fun b=>?_) (.inl (.inr ⟨{cls:=.type "list",data:=.seq vs.toArray},if_pos rfl⟩)) (fun b u z=>?_) (fun b z=>?_) fun _=>hk
   ·by_cases hb:b=a
    ·exact .inr ⟨_,_,if_pos hb⟩
    ·exact .inl (if_neg hb)
   ·by_cases hb:b=a
    ·have z':=(if_pos hb).symm.trans z
     cases z'
     subst hb
     exact⟨ha,by rw[List.length_map];exact hl,vs,_,rv,ha⟩
    ·have z':=(if_neg hb).symm.trans z
     cases z'
   ·by_cases hb:b=a
    ·exact hb
    ·exact absurd (if_neg hb) z
theorem xb7:∀ ns:List Int,PySem.W.ofPys (ns.map PyData.int)=ns.map PySem.W.WData.int
 | []=>by simp[PySem.W.ofPys]
 | n::ns=>by simp only[List.map_cons,PySem.W.ofPys,PySem.W.ofPy];rw[xb7 ns]
variable{as:List Addr}{q:Program}
theorem zf5{l:PySem.W.OpenLaw}{loose:List Str}{XP:(Str->Option Value)->Heap->Prop}{z t:Nat}{d:DefRec}{K:Params->Fg}{CX:World->CXT}{sp:World->Sp}(hn:l.most=some n)(hn2:n<=sizeLine)(hdf:d.params.defaults=[])(hr:qj3 k callerA)(hk:∀ P,as=(K P).map (·.1))(h0:0<t) (F:∀ (w:World) (mg:Str->Option Value) (fa:Addr) (h:Heap),(K w.params).In h->h.Ns mainGlobals mg->mg d.name=some (.ref fa) ->
  ∃ fd:FuncData,(∀ (s:Shared) (u:Value),BindsTo s fd ⟨[u],[]⟩ [(x,u)]) /\
   ∀ base:Heap,(K w.params).In base->base.Ns mainGlobals mg->J7 l.prog w (K w.params) mg base (CX w) k fa fd [x] (sp w)) (hsp:∀ (w:World) (H:Hp) (a:Addr) (ns:List Int),ns.length<=n->zp2 H->SqL (K w.params) H a (ns.map V.int)->sp w [.ref a] H (fun v _=>v=.bl true) fun _ _ _=>False) (hCX:∀ (w:World) (H:Hp) (s:Shared) (e:Value) (s':Shared),CX w [] H s (fun _ _ _=>False) e s'->False) :
 PySem.W.WalkX q loose XP (PySem.W.X.obsZ as) (PySem.W.X.valZ K z t) l.row.toRowW d [] (fun f vs=>PySem.call f vs):=by
 intro w s₀ s₁ mg mb G y fa o pm cd doc dV kV ho hd hcd hD hmg hg args vals aa L hpre hlay hrd hwl hlo
 obtain rfl:dV=.none:=PySem.W.Dflts.none hD hdf
 obtain rfl:kV=.none:=PySem.W.Dflts.noKw hD
 obtain⟨a,vs,ns,rfl,rfl,hobj,hints,hlen⟩:=Att.script_of hn hpre hwl
 obtain⟨_,KI,_,htk⟩:=PySem.W.X.z_facts hk y
 have KX:=PySem.W.InK.keeps w _ _ KI L.keeps
 have tk:0<s₁.toks:=Nat.lt_of_lt_of_le h0 (PySem.W.X.script_toks (ns:=ns) (a:=a) (by rw[PySem.W.ofPy,xb7];exact L) htk)
 obtain⟨fd,hb,hF⟩:=F w mg fa _ KX G.T.g hmg
 refine PySem.W.enter_call (codeAny_mono (yv2 KX G.T.g G.T.b G.T.builtins G.T.nolimit hg tk hobj hints (Nat.le_trans hlen hn2) hr hF hb (fun H hO hS=>hsp w H a ns hlen hO hS) fun H e s'=>hCX w H s₁ e s') fun r s' hq=>?_)
 obtain⟨rfl,h2,h3,h4⟩:=hq
 exact⟨.inl ⟨.bool true,.bool true,[],rfl,fun _=>rfl,.bool true,Att.post_true l _,fun _=>⟨List.Pairwise.nil,fun _ hm=>(nomatch hm)⟩⟩,h2,h3,h4⟩
def wn5(s:Stmt):Arguments:=match s with
 | .FunctionDef _ a _ _ _ _ _ _ _ _=>a
 | _=>{posonlyargs:=[],args:=[],vararg:=none,kwonlyargs:=[],kw_defaults:=[],kwarg:=none,defaults:=[]}
def wg4(s:Stmt):List Stmt:=match s with
 | .FunctionDef _ _ b _ _ _ _ _ _ _=>b
 | _=>[]
def B1(s:Stmt):Scope:=match s with
 | .FunctionDef _ _ _ _ _ _ sc _ _ _=>sc
 | _=>{kind:=.function,names:=[],isGenerator:=false,isCoroutine:=false}
abbrev CX0:CXT:=fun _ _ _ _ _ _=>False
abbrev E0:XK:=fun _ _ _=>False
theorem B5:wd2 CX0 X E0:=fun _ _ _ _ _ _ _ h=>h.elim
structure Fun(K:Fg)(x qual:Str)(st:Stmt)(f:Addr)(fd:FuncData):Prop where
 ex:∃ (oc:Value) (od:Option Addr) (kV doc pm:Value) (an:Option Addr) (cdv ct:Value) (osl:Array (Option Value)),
  fd=PySem.W.fnOf x qual (wn5 st) (wg4 st) (B1 st) .none kV doc pm an cdv ct/\K.lookup f=some ⟨oc,od,.func fd,osl⟩/\PySem.W.codeIn K cdv qual=true
 kp:PySem.W.keepIn K (.ref f)=true
theorem Fun.ok{f:Addr}(F:Fun K x qual st f fd)(S:B8 N ps (B1 st))(len:∀ vs H Q E,sp vs H Q E->vs.length=ps.length) (hbody:∀ (cdv:Value) (A:Around) (outer:List Env) (s:Shared) (H:Hp) (vs:List V) (Q:VK) (E:XK),qj3 k (A.deeper (envOfC qual (B1 st) s.heap.objs.size f cdv))->sp vs H Q E ->
  ∃ t,PSs (yp5 CX0 P w K mg base N qual (B1 st) f cdv A outer s H E).nox (wg4 st) t/\t {nx:=fun _ H'=>Q .non H',rt:=Q} (D6 N vs) H):J7 P w K mg base CX0 (k+1) f fd ps sp:=by
 obtain⟨oc,od,kV,doc,pm,an,cdv,ct,osl,rfl,lk,hcd⟩:=F.ex
 refine zv3 lk hcd S len fun A outer s H vs Q E hr hsp=>?_
 obtain⟨t,h,q⟩:=hbody cdv A outer s H vs Q E hr hsp
 exact⟨t,h.nox,q⟩
theorem Fun.binds{f:Addr}(F:Fun K x qual st f fd)(h:∀ (kV doc pm:Value) (an:Option Addr) (cdv ct:Value) (us:List Value),us.length=ps.length->bindArgs (PySem.W.fnOf x qual (wn5 st) (wg4 st) (B1 st) .none kV doc pm an cdv ct) ⟨us,[]⟩=pure (ps.zip us)):T7 K fd ps []:=by
 obtain⟨oc,od,kV,doc,pm,an,cdv,ct,osl,rfl,lk,hcd⟩:=F.ex
 exact .all (h kV doc pm an cdv ct)
theorem zp3{f:Addr}{kV:Value}(l:K.lookup f=some ⟨oc,od,.func (PySem.W.fnOf x qual (wn5 st) (wg4 st) (B1 st) .none kV doc pm an cdv ct),osl⟩)(c:PySem.W.codeIn K cdv qual=true)(k:PySem.W.keepIn K (.ref f)=true):Fun K x qual st f (PySem.W.fnOf x qual (wn5 st) (wg4 st) (B1 st) .none kV doc pm an cdv ct):=⟨⟨oc,od,kV,doc,pm,an,cdv,ct,osl,rfl,l,c⟩,k⟩
theorem C9(hr:qj3 k A):A.units+1<cLine:=Nat.lt_of_le_of_lt (Nat.add_le_add_left (by decide:1<=64) _) hr.units
theorem pv(i:Nat)(hN:autoParam (X.N[i]?=some x) zAr)(hv:Vis X.env.scope x:=by first|exact Or.inl rfl|exact Or.inr (Or.inl rfl)|exact Or.inr (Or.inr rfl))(hd:autoParam ((x == ("__debug__":Str))=false) zAd)(hcd:autoParam ((x == ("__classdict__":Str))=false) zAd):PE X (.Name x pos) (A2 i):=zn7 hN hv hd hcd
variable{B:Prop}
theorem R0{A:Prop}(h:B):if false=true then A else B:=by
 rw[if_neg Bool.false_ne_true]
 exact h
theorem X9{A:Prop}(h:A):if true=true then A else B:=by
 rw[if_pos rfl]
 exact h
def A7(H H':Hp):Prop:=∀ b o,H b=some o->H' b=some o
theorem A7.refl(H:Hp):A7 H H:=fun _ _ h=>h
theorem A7.free(e:A7 H H')(h:H' l=Option.none):H l=Option.none:=by
 cases q:H l with
 | none=>rfl
 | some o =>
   rw[e l o q] at h
   cases h
theorem A7.seq(e:A7 H H')(h:SqL K H a xs):SqL K H' a xs:=by
 rcases h with(h|⟨o,h⟩)|h
 ·exact .inl (.inl (e _ _ h))
 ·exact .inl (.inr ⟨o,e _ _ h⟩)
 ·exact .inr h
theorem yp9:qf3 X (.builtin "len") (fun xs H Q=>∃ a kvs,xs=[V.ref a]/\H a=some (.dK kvs)/\Q (.int kvs.length) H):=by
 intro pins s σ H xs us Q I r h
 obtain⟨a,kvs,rfl,ha,q⟩:=h
 obtain⟨u,rfl,ru⟩:=qv3 r
 cases ru
 exact zw5 I (.inl ha) fun t s' I'=>⟨.int kvs.length,H,I',⟨t,rfl⟩,q⟩
theorem noE{t:Sem α}{Q:α->Shared->Prop}(h:wpAny M A t Q (fun _ _=>False) s):wpAny M A t Q E s :=
 wpAny_mono h (fun _ _ q=>q) fun _ _ z=>False.elim z
theorem wk3{env:Env}:∀ (names:List (Str×NameKind)) (acc:List (Str×Addr)),(∀ y∈names,y.2=.free->∃ c,env.cells.lookup y.1=some c)->(∀ x c,acc.lookup x=some c->env.cells.lookup x=some c) ->
 ∃ cl,(forIn names acc fun(x:Str×NameKind) (r:List (Str×Addr)) =>
  (if(x.2 == .free)=true then(do let a<-cellOf env x.1;pure (ForInStep.yield ((x.1,a)::r))) else pure (ForInStep.yield r):Sem (ForInStep (List (Str×Addr)))))=(pure cl:Sem (List (Str×Addr))) /\
  (∀ x c,cl.lookup x=some c->env.cells.lookup x=some c)/\(∀ x,(∃ c,acc.lookup x=some c)->∃ c,cl.lookup x=some c)/\∀ y∈names,y.2=.free->∃ c,cl.lookup y.1=some c
 | [],acc,_,h2=>⟨acc,by rw[List.forIn_nil],h2,fun _ h=>h,fun _ h=>by cases h⟩
 | (n,k)::r,acc,h1,h2=>by
   by_cases hk:k=.free
   ·subst hk
    obtain⟨c,hc⟩:=h1 (n,.free) List.mem_cons_self rfl
    obtain⟨cl,e,q1,q2,q3⟩:=wk3 r ((n,c)::acc) (fun y hy=>h1 y (List.mem_cons_of_mem _ hy)) (fun x d hd=>by
     rw[List.lookup_cons] at hd
     cases hx:x == n with
     | true=>rw[hx] at hd;cases hd;rw[beq_iff_eq.mp hx];exact hc
     | false=>rw[hx] at hd;exact h2 x d hd)
    refine⟨cl,?_,q1,fun x hx=>q2 x ?_,fun y hy hf=>?_⟩
    ·rw[List.forIn_cons]
     have e0:cellOf env n=pure c:=by unfold cellOf;rw[hc]
     simp only[beq_self_eq_true,if_true,e0]
     exact e
    ·rw[List.lookup_cons]
     cases x == n with
     | true=>exact⟨c,rfl⟩
     | false=>exact hx
    ·rcases List.mem_cons.mp hy with rfl|hy
     ·exact q2 n ⟨c,by rw[List.lookup_cons];simp⟩
     ·exact q3 y hy hf
   ·obtain⟨cl,e,q1,q2,q3⟩:=wk3 r acc (fun y hy=>h1 y (List.mem_cons_of_mem _ hy)) h2
    refine⟨cl,?_,q1,q2,fun y hy hf=>?_⟩
    ·rw[List.forIn_cons]
     have hb:(k == NameKind.free)=false:=by simpa using hk
     simp only[hb,Bool.false_eq_true,if_false]
     exact e
    ·rcases List.mem_cons.mp hy with rfl|hy
     ·exact absurd hf hk
     ·exact q3 y hy hf
theorem wi6(h:∀ y∈scope.names,y.2=.free->∃ c,env.cells.lookup y.1=some c) :
 ∃ cl,closureFor scope env=pure cl/\(∀ x c,cl.lookup x=some c->env.cells.lookup x=some c)/\∀ y∈scope.names,y.2=.free->∃ c,cl.lookup y.1=some c:=by
 obtain⟨cl,e,q1,_,q3⟩:=wk3 (env:=env) scope.names [] h (fun x c hc=>by simp at hc)
 refine⟨cl,?_,q1,q3⟩
 unfold closureFor
 simp only[]
 rw[show(forIn scope.names ([]:List (Str×Addr)) fun(x:Str×NameKind) (r:List (Str×Addr)) =>
  (match x with|(name,kind)=>if(kind == .free)=true then(do let a<-cellOf env name;pure (ForInStep.yield ((name,a)::r))) else pure (ForInStep.yield r):Sem (ForInStep (List (Str×Addr)))))=(pure cl:Sem (List (Str×Addr))) from e]
 rfl
theorem qn0{env:Env}:∀ {names:List (Str×NameKind)} {x:Str},names.lookup x=some .free ->
 (names.map fun(n,k)=>if(k == NameKind.free && env.scope.kind == .function && env.kindOf n == some .cell) then(n,NameKind.cell) else(n,k)).lookup x=some .cell \/
 (names.map fun(n,k)=>if(k == NameKind.free && env.scope.kind == .function && env.kindOf n == some .cell) then(n,NameKind.cell) else(n,k)).lookup x=some .free
 | [],_,h=>by simp at h
 | (n,k)::r,x,h=>by
   have ih:=@qn0 env r x
   show List.lookup x ((if(k == NameKind.free && env.scope.kind == .function && env.kindOf n == some .cell)=true then(n,NameKind.cell) else(n,k))::_)=_\/List.lookup x ((if(k == NameKind.free && env.scope.kind == .function && env.kindOf n == some .cell)=true then(n,NameKind.cell) else(n,k))::_)=_
   cases hx:x == n with
   | true =>
     simp only[List.lookup_cons,hx] at h
     cases h
     by_cases hc:(NameKind.free == NameKind.free && env.scope.kind == .function && env.kindOf n == some .cell)=true
     ·rw[if_pos hc];exact .inl (by simp only[List.lookup_cons,hx])
     ·rw[if_neg hc];exact .inr (by simp only[List.lookup_cons,hx])
   | false =>
     simp only[List.lookup_cons,hx] at h
     by_cases hc:(k == NameKind.free && env.scope.kind == .function && env.kindOf n == some .cell)=true
     ·rw[if_pos hc];simp only[List.lookup_cons,hx];exact ih h
     ·rw[if_neg hc];simp only[List.lookup_cons,hx];exact ih h
theorem qb8{env:Env}:∀ {names:List (Str×NameKind)} {x:Str} {k:NameKind},
 (names.map fun(n,k)=>if(k == NameKind.free && env.scope.kind == .function && env.kindOf n == some .cell) then(n,NameKind.cell) else(n,k)).lookup x=some k ->
 names.lookup x=some k\/(k=.cell/\names.lookup x=some .free)
 | [],_,_,h=>by simp at h
 | (n, j)::r,x,k,h=>by
   have ih:=@qb8 env r x k
   have h:List.lookup x ((if(j == NameKind.free && env.scope.kind == .function && env.kindOf n == some .cell)=true then(n,NameKind.cell) else(n,j))::_)=some k:=h
   by_cases hc:(j == NameKind.free && env.scope.kind == .function && env.kindOf n == some .cell)=true
   ·rw [if_pos hc] at h
    cases hx:x == n with
    | true =>
      simp only[List.lookup_cons,hx] at h ⊢
      cases h
      have:j=.free:=by
       cases j <;> simp at hc ⊢
      exact .inr ⟨rfl,by rw[this]⟩
    | false=>simp only[List.lookup_cons,hx] at h ⊢;exact ih h
   ·rw[if_neg hc] at h
    cases hx:x == n with
    | true=>simp only[List.lookup_cons,hx] at h ⊢;exact .inl h
    | false=>simp only[List.lookup_cons,hx] at h ⊢;exact ih h
variable{elt:Expr}{ifs:List Expr}
theorem wd5{R:Result->Shared->Prop}{target:Expr}{it acc:Value}(I:Nat->Shared->Prop) (turn:∀ n s,I n s->wpAny (model prog w) A (pyNext it) (fun r s₁=>match r with
  | none=>R (.ok .next) s₁
  | some v=>wpAny (model prog w) A (letOwnedTupleGo target it v) (fun _ s₁'=>wpAny (model prog w) A (assign target env v) (fun _ s₂ =>
   wpAny (model prog w) A (forIn ifs true fun c r=>if r=true then do let ok<-isTrue c env (eval c env);pure (ForInStep.yield ok) else pure (ForInStep.yield r)) (fun ok s₃ =>
    if ok=true then wpAny (model prog w) A (eval elt env) (fun x s₄ =>
     wpAny (model prog w) A (call (.builtin "list.append") [acc,x]) (fun _ s₅=>∃ m,m<n/\I m s₅) (notedBy (model prog w) A env fun e s'=>R (.error e) s') s₄) (notedBy (model prog w) A env fun e s'=>R (.error e) s') s₃
    else ∃ m,m<n/\I m s₃) (notedBy (model prog w) A env fun e s'=>R (.error e) s') s₂) (notedBy (model prog w) A env fun e s'=>R (.error e) s') s₁') (notedBy (model prog w) A env fun e s'=>R (.error e) s') s₁)
  (notedBy (model prog w) A env fun e s'=>R (.error e) s') s) (n:Nat) (h:I n s) :
 codeAny (model prog w) A (.compLoop (.ListComp elt [⟨target,iter,ifs,0⟩] scope pos) 0 it acc env) R s:=by
 refine codeAny_loop rfl I (fun n s hI=>?_) n h
 show wpAny _ A ((compTurn (.ListComp elt [⟨target,iter,ifs,0⟩] scope pos) 0 it acc env).onRaise (fun x=>do noteFrame x env;theTreesLotGoes x)) _ _ s
 refine wpAny_noted ?_
 rw[compTurn_list]
 refine wpAny_bind (wpAny_standAt (wpAny_bind (wpAny_mono (turn n s hI) (fun r s₁ h₁=>?_) fun _ _ h'=>h')))
 cases r with
 | none=>exact wpAny_pure h₁
 | some v =>
   refine wpAny_bind (wpAny_mono h₁ (fun _ s₁' h₁'=>?_) fun _ _ h'=>h')
   refine wpAny_bind (wpAny_mono h₁' (fun _ s₂ h₂=>wpAny_bind (wpAny_mono h₂ (fun ok s₃ h₃=>?_) fun _ _ h'=>h')) fun _ _ h'=>h')
   cases ok with
   | false=>exact wpAny_pure ⟨rfl,h₃⟩
   | true =>
     exact wpAny_bind (wpAny_bind (wpAny_mono h₃ (fun x s₄ h₄=>wpAny_bind (wpAny_mono h₄ (fun _ s₅ h₅=>wpAny_pure (wpAny_pure ⟨rfl,h₅⟩)) fun _ _ h'=>h')) fun _ _ h'=>h'))
def blk(X:Cx)(N:List Str)(scope:Scope)(cl:List (Str×Addr))(C:Addr)(s₂:Shared)(H₂:Hp)(fp:List Addr)(pn:List (Addr×Obj)):Cx :=
 {X with N:=N,s₀:=s₂,H₀:=H₂,env:=compEnvC scope cl C X.env,outer:=X.stack,stack:=X.stack,ex:=fp,fn:=fun _=>false,pn:=pn,xe:=fun _ _=>False}
def wd6(fr:List (Option Nat))(σ:St):St:=fr.map fun o=>match o with|some i=>(σ[i]?).join|none=>none
variable{fr:List (Option Nat)}
theorem xv2{j:Nat}(h:(wd6 fr σ)[j]?=some (some v)):∃ i,fr[j]?=some (some i)/\σ[i]?=some (some v):=by
 unfold wd6 at h
 rw[List.getElem?_map] at h
 cases e:fr[j]? with
 | none=>rw[e] at h;cases h
 | some o =>
   rw[e] at h
   cases o with
   | none=>cases h
   | some i =>
     refine⟨i,rfl,?_⟩
     have h':(σ[i]?).join=some v:=Option.some.inj h
     cases e2:σ[i]? with
     | none=>rw[e2] at h';cases h'
     | some x=>rw[e2] at h';cases x with
       | none=>cases h'
       | some y=>cases h';rfl
def yv3(fr:List (Option Nat))(g:TG):Prop:=∀ (x:V) (σ:St) (H:Hp) (Q:St->Hp->Prop),g x σ H Q->g x σ H fun σ2 H2=>Q σ2 H2/\∀ (j i:Nat),fr[j]?=some (some i)->σ2[j]?=σ[j]?
def yj1(fr:List (Option Nat))(g:TGs):Prop:=∀ (xs:List V) (σ:St) (H:Hp) (Q:St->Hp->Prop),g xs σ H Q->g xs σ H fun σ2 H2=>Q σ2 H2/\∀ (j i:Nat),fr[j]?=some (some i)->σ2[j]?=σ[j]?
theorem qs0{i:Nat}(h:autoParam (fr[i]?=some none) zAr):yv3 fr (B2 i):=fun x σ H Q q=>⟨q,fun j k hj=>by
 have:i≠j:=by rintro rfl;rw[h] at hj;cases hj
 rw[List.getElem?_set_ne this]⟩
theorem zp4:yj1 fr yo4:=fun xs σ H Q ⟨e,q⟩=>⟨e,q,fun _ _ _=>rfl⟩
theorem yj2{i:Nat}{u:TGs}(h:fr[i]?=some none)(hu:yj1 fr u):yj1 fr (wa8 (B2 i) u):=fun xs σ H Q ⟨v,r,e,q⟩=>by
 refine⟨v,r,e,?_⟩
 have q:u r (σ.set i (some v)) H Q:=q
 have e2:=hu _ _ _ _ q
 have k:∀ j k,fr[j]?=some (some k)->(σ.set i (some v))[j]?=σ[j]?:=fun j k hj=>by
  have:i≠j:=by rintro rfl;rw[h] at hj;cases hj
  rw[List.getElem?_set_ne this]
 have e3:(fun(σ2:St) (H2:Hp)=>Q σ2 H2/\∀ (j k:Nat),fr[j]?=some (some k)->σ2[j]?=σ[j]?)=(fun(σ2:St) (H2:Hp)=>Q σ2 H2/\∀ (j k:Nat),fr[j]?=some (some k)->σ2[j]?=(σ.set i (some v))[j]?):=by
  funext σ2 H2
  refine propext ⟨fun⟨a,b⟩=>⟨a,fun j m hj=>(b j m hj).trans (k j m hj).symm⟩,fun⟨a,b⟩=>⟨a,fun j m hj=>(b j m hj).trans (k j m hj)⟩⟩
 show u r (σ.set i (some v)) H _
 rw[e3]
 exact e2
theorem zp5{u:TGs}(hu:yj1 fr u):yv3 fr (yo5 K n u):=fun x σ H Q ⟨a,xs,e1,e2,e3,q⟩=>⟨a,xs,e1,e2,e3,hu _ _ _ _ q⟩
def PTs(X:Cx)(ifs:List Expr)(t:TT):Prop :=
 ∀ (pins:List (Addr×Obj)) (s:Shared) (σ:St) (H:Hp) (Q:Bool->Hp->Prop),Inv X pins σ H s->t σ H Q ->
  wpAny (model X.prog X.w) X.A (forIn ifs true fun c r=>if r=true then do let ok<-isTrue c X.env (eval c X.env);pure (ForInStep.yield ok) else pure (ForInStep.yield r)) (TP X pins σ Q) X.xe s
def tTT:TT:=fun _ H Q=>Q true H
theorem wn6:PTs X [] tTT:=fun _ _ _ H _ I h=>wpAny_tests_nil ⟨H,I,h⟩
theorem wz7{t:TT}(h:PT X c t):PTs X [c] t:=fun pins s σ H Q I hq=>wpAny_tests_one (h pins s σ H Q I hq)
structure wg5(X:Cx)(scope:Scope)(N:List Str)(fr:List (Option Nat)):Prop where
 kind:scope.kind=.function
 nocell:∀ y∈scope.names,y.2≠.cell
 names:∀ y∈scope.names,y.2=.local->scope.names.lookup y.1=some .local
 free:∀ y∈scope.names,y.2=.free->X.env.scope.names.lookup y.1=some .cell\/X.env.scope.names.lookup y.1=some .free
 len:N.length=fr.length
 at_:∀ (j i:Nat) (x:Str),fr[j]?=some (some i)->N[j]?=some x->X.N[i]?=some x/\scope.names.lookup x=some .free
def yj3(osc:Scope)(ON:List Str)(scope:Scope)(N:List Str)(fr:List (Option Nat)):Bool :=
 decide (scope.kind=.function) && scope.names.all (fun y=>decide (y.2≠.cell)) && scope.names.all (fun y=>decide (y.2≠.local) || decide (scope.names.lookup y.1=some .local)) &&
 scope.names.all (fun y=>decide (y.2≠.free) || decide (osc.names.lookup y.1=some .cell) || decide (osc.names.lookup y.1=some .free)) && decide (N.length=fr.length) &&
 (fr.zip N).all (fun p=>match p.1 with|some i=>decide (ON[i]?=some p.2) && decide (scope.names.lookup p.2=some .free)|none=>true)
theorem U9{osc:Scope}{ON:List Str}(h:yj3 osc ON scope N fr=true)(e1:X.env.scope=osc)(e2:X.N=ON):wg5 X scope N fr:=by
 subst e1 e2
 unfold yj3 at h
 simp only[Bool.and_eq_true,List.all_eq_true,Bool.or_eq_true,decide_eq_true_eq] at h
 obtain⟨⟨⟨⟨⟨h1,h2⟩,h3⟩,h4⟩,h5⟩,h6⟩:=h
 refine⟨h1,h2,fun y hy e=>(h3 y hy).resolve_left fun z=>z e,fun y hy e=>?_,h5,fun j i x e1 e2=>?_⟩
 ·rcases h4 y hy with(z|z)|z
  ·exact absurd e z
  ·exact .inl z
  ·exact .inr z
 ·have hm:(some i,x)∈fr.zip N:=by
   apply List.mem_of_getElem? (i:=j)
   rw[List.getElem?_zip_eq_some]
   exact⟨e1,e2⟩
  have:=h6 _ hm
  simpa using this
def wa9 (fr:List (Option Nat)) (wi:TI) (g:TG) (tt:TT) (te:TE):TE:=fun σ H Q=>wi σ H fun J H1 =>
 ∃ W:Nat->Nat->List V->Hp->Prop,(∃ m,W 0 m [] H1)/\∀ i m ys H,W i m ys H->ys.length<=sizeLine /\
  ((J.stop i H/\∀ p,H p=none->Q (.ref p) (upd H p (.lst ys))) \/
   (J.go i H/\∃ NN:List V->Hp->Prop,(∀ ys' H',NN ys' H'->∃ m',m'<m/\W (i+1) m' ys' H')/\∀ x H',J.yld i H x H'->g x (wd6 fr σ) H' fun σ2 H2=>tt σ2 H2 fun b H3 =>
    if b=true then te σ2 H3 fun y H4=>NN (ys++[y]) H4 else NN ys H3))
structure zp6(X:Cx)(pins:List (Addr×Obj))(σ:St)(Q:VK)(C D:Addr)(s':Shared):Prop where
 ex:∃ (ys:List V) (H:Hp),H D=none/\(∃ m,s'.heap.Ns C m)/\D≠C/\C≠X.env.locals/\(∀ x c,X.env.cells.lookup x=some c->c≠C)/\(∀ p∈X.pn++pins,p.1≠C)/\X.s₀.heap.objs.size<=C/\C∉X.fs /\
  (upd H D (.lst ys)) C=none /\
  (∀ h',Heap.SameBut C s'.heap h'->Inv X pins σ (upd H D (.lst ys)) {s' with heap:=h'})/\Q (.ref D) (upd H D (.lst ys))
variable{J:It}{tt:TT}
theorem xb8 {tg:Expr} {cl:List (Str×Addr)} (hcalm:X.calm=true) (S:wg5 X scope N fr) (hclS:∀ x c,cl.lookup x=some c->X.env.cells.lookup x=some c) (hclH:∀ y∈scope.names,y.2=.free->∃ c,cl.lookup y.1=some c) (hg:∀ C s₂ H₂ fp pn,PG (blk X N scope cl C s₂ H₂ fp pn) tg g) (hgo:yv3 fr g) (ht:∀ C s₂ H₂ fp pn,PTs (blk X N scope cl C s₂ H₂ fp pn) ifs tt) (he:∀ C s₂ H₂ fp pn,PE (blk X N scope cl C s₂ H₂ fp pn) elt te) {s2:Shared} {Q:VK} {fp:List Addr} {tn:Nat->Heap->Prop} (I2:Inv X pins σ H2 s2) (T:xa7 X.prog X.w X.K tg J fp it tn) (st2:tn 0 s2.heap) (f2:∀ b∈fp,xi1 X pins H2 b) (W:Nat->Nat->List V->Hp->Prop) (w0:∃ m,W 0 m [] H2) (turn:∀ i m ys H,W i m ys H->ys.length<=sizeLine /\
 ((J.stop i H/\∀ p,H p=none->Q (.ref p) (upd H p (.lst ys))) \/
  (J.go i H/\∃ NN:List V->Hp->Prop,(∀ ys' H',NN ys' H'->∃ m',m'<m/\W (i+1) m' ys' H')/\∀ x H',J.yld i H x H'->g x (wd6 fr σ) H' fun σ2 H2=>tt σ2 H2 fun b H3 =>
   if b=true then te σ2 H3 fun y H4=>NN (ys++[y]) H4 else NN ys H3))) {RR:Value->Addr->Result->Shared->Prop} (hRR:∀ C D s',zp6 X pins σ Q C D s'->RR (.ref D) C (.ok .next) s') :
 wpAny (model X.prog X.w) X.A (newList []) (fun acc s₃=>wpAny (model X.prog X.w) X.A (newFunctionEnv scope X.env.globals cl [] X.env.qual none .none (some X.env)) (fun cenv s₄ =>
  codeAny (model X.prog X.w) X.A (.compStart (.ListComp elt [⟨tg,iter,ifs,0⟩] scope pos) 0 (.ref it) acc {cenv with scope:=relabel scope X.env}) (RR acc cenv.locals) s₄) E s₃) E s2:=by
 obtain⟨m0,w0⟩:=w0
 refine wpAny_newObj_type (wpAny_newFunctionEnv S.nocell (by intro y hy;simp at hy) (fun h₁ hns₁ hsb₁=>?_) S.kind)
 dsimp only at hns₁ hsb₁ ⊢
 generalize hHH:s2.heap.push {cls:=.type "list",dict:=none,data:=.seq ([]:List Value).toArray}=HH at hns₁ hsb₁ ⊢
 have hC:HH.objs.size=s2.heap.objs.size+1:=by rw[<-hHH,Heap.size_push]
 generalize hDD:s2.heap.objs.size=D at *
 generalize hCC:HH.objs.size=C at *
 have hDlt:Nat.lt D C:=by show D<C;rw[hC];exact Nat.lt_succ_self _
 have hDC:D≠C:=Nat.ne_of_lt hDlt
 have neD:∀ {b:Addr},Nat.lt b D->b≠D:=fun h=>Nat.ne_of_lt h
 have neC:∀ {b:Addr},Nat.lt b D->b≠C:=fun h=>Nat.ne_of_lt (Nat.lt_trans h hDlt)
 have below:∀ (b:Addr) (o:Obj),s2.heap.get? b=some o->Nat.lt b D:=fun b o e=>by rw[<-hDD];exact Heap.lt_size e
 have old:∀ b o,s2.heap.get? b=some o->h₁.get? b=some o:=fun b o e=>hsb₁.extBut b o (neC (below b o e)) (Heap.get?_push_of_some _ (hHH▸Heap.get?_push_of_some _ e))
 have hacc:h₁.get? D=some {cls:=.type "list",data:=.seq ([]:List Value).toArray}:=hsb₁.extBut _ _ hDC (Heap.get?_push_of_some _ (by rw[<-hHH,<-hDD];exact Heap.get?_push_size _ rfl))
 have Lt:Nat.lt X.env.locals D:=by rw[<-hDD];exact I2.lt
 have cellLt:∀ x c,X.env.cells.lookup x=some c->Nat.lt c D:=fun x c e=>by
  obtain⟨v,q⟩:=I2.cell x c e
  rw[<-hDD];exact q.lt
 have pinLt:∀ p∈X.pn++pins,Nat.lt p.1 D:=fun p hp=>below p.1 p.2 (I2.pin p hp).1
 have freshH:∀ b:Addr,Nat.le D b->H2 b=none:=fun b hb=>I2.hok.fresh (by rw[hDD];exact hb)
 let X':Cx:=blk X N scope cl C s2 H2 fp (X.pn++pins)
 have okX:X'.Ok:=by
  refine⟨I2.ok.mod,S.kind,I2.ok.glob,I2.ok.blt,by show s2.heap.objs.size<=C;rw[hDD];exact Nat.le_of_lt hDlt,fun x y c e1 e2=>I2.ok.inj x y c (hclS _ _ e1) (hclS _ _ e2),fun x hx=>?_,fun x c hf _=>(by cases hf),I2.ok.hd,I2.ok.frames,.inl rfl,fun b hb=>⟨?_,fun x c e=>(f2 b hb).2.2.2.2.1 x c (hclS _ _ e)⟩,I2.bs,Nat.le_trans I2.ok.bsz I2.sz,fun b o e hb=>?_,fun b hb hm=>?_,I2.stack,I2.stkFree⟩
  ·have hx:(relabel scope X.env).names.lookup x=some .cell\/(relabel scope X.env).names.lookup x=some .free:=hx
   have hf:scope.names.lookup x=some .free:=by
    rcases hx with hx|hx
    ·rcases qb8 hx with h|⟨_,h⟩
     ·exact absurd rfl (S.nocell _ (PySem.mem_of_lookup h))
     ·exact h
    ·rcases qb8 hx with h|⟨h,_⟩
     ·exact h
     ·cases h
   exact hclH _ (PySem.mem_of_lookup hf) rfl
  ·obtain⟨o,e,_⟩:=T.obj 0 _ st2 b hb
   exact neC (below b o e)
  ·obtain⟨_,_,_,h,_⟩:=f2 b hb
   rcases h with h|h
   ·exact I2.ok.noex b o e h
   ·have:=Heap.lt_size (I2.ok.bs b o e).1
    exact absurd (Nat.lt_of_lt_of_le this h) (Nat.lt_irrefl _)
  ·rcases List.mem_cons.mp (I2.stkSub b hm) with h|h
   ·exact(f2 b hb).2.1 h
   ·exact(f2 b hb).2.2.1 h
 have I4:∀ tk,0<tk->Inv X' [(D,{cls:=.type "list",data:=.seq ([]:List Value).toArray})] (wd6 fr σ) H2 {s2 with heap:=h₁,toks:=tk}:=fun tk htk=>by
  refine⟨okX,rfl,I2.bare,Un.kept old,⟨_,hns₁,fun j x v e1 e2 e3=>?_⟩,fun x c e=>?_,freshH C (Nat.le_of_lt hDlt),fun x c e=>I2.freeC x c (hclS _ _ e),fun p hp=>?_,I2.hok.kept old,?_,htk⟩
  ·obtain⟨i,q1,q2⟩:=xv2 e2
   obtain⟨a1,a2⟩:=S.at_ j i x q1 e1
   obtain⟨m,hn,hl⟩:=I2.loc
   have vis:Vis X.env.scope x:=by
    rcases S.free _ (PySem.mem_of_lookup a2) rfl with h|h
    ·exact .inr (.inl h)
    ·exact .inr (.inr h)
   obtain⟨u,r,l⟩:=hl i x v a1 q2 vis
   refine⟨u,r,.inr ⟨?_,?_⟩⟩
   ·exact qn0 (env:=X.env) a2
   ·rcases l with⟨hk,_⟩|⟨_,c,hc,hcell⟩
    ·have hk:X.env.scope.names.lookup x=some .local:=hk
     rcases S.free _ (PySem.mem_of_lookup a2) rfl with h|h
     ·have h:X.env.scope.names.lookup x=some .cell:=h
      rw[hk] at h;cases h
     ·have h:X.env.scope.names.lookup x=some .free:=h
      rw[hk] at h;cases h
    ·obtain⟨c',hc'⟩:=hclH _ (PySem.mem_of_lookup a2) rfl
     have:c=c':=by
      have:=hclS _ _ hc'
      rw[hc] at this
      exact Option.some.inj this
     subst this
     obtain⟨o,ho,hd⟩:=hcell
     exact⟨c,hc',o,old c o ho,hd⟩
  ·obtain⟨v,o,ho,hd⟩:=I2.cell x c (hclS _ _ e)
   exact⟨v,o,old c o ho,hd⟩
  ·rcases List.mem_append.mp hp with hp|hp
   ·obtain⟨e,n,ne,nf,d⟩:=I2.pin p hp
    refine⟨old _ _ e,n,?_,fun hm=>?_,d⟩
    ·exact neC (pinLt p hp)
    ·rcases List.mem_cons.mp (I2.stkSub _ hm) with h|h
     ·exact ne h
     ·exact nf h
   ·have hp:p=(D,{cls:=.type "list",data:=.seq ([]:List Value).toArray}):=by simpa using hp
    subst hp
    refine⟨hacc,freshH D (Nat.le_refl _),hDC,fun hm=>?_,fun v z=>by cases z⟩
    rcases List.mem_cons.mp (I2.stkSub _ hm) with h|h
    ·exact neD Lt h.symm
    ·exact I2.nofs (by rw[hDD];exact Nat.le_refl _) h
  ·show(wd6 fr σ).length=N.length
   unfold wd6
   rw[List.length_map,S.len]
 have fpLt:∀ b∈fp,Nat.lt b D:=fun b hb=>by
  obtain⟨o,e,_⟩:=T.obj 0 _ st2 b hb
  exact below b o e
 have fpk:∀ {H:Hp} {oD:Obj},(∀ b∈fp,H b=none)->∀ b∈fp,xi1 X' [(D,oD)] H b:=fun{H oD} hn b hb=>by
  refine⟨hn b hb,?_,fun hm=>?_,.inl hb,fun x c e=>(f2 b hb).2.2.2.2.1 x c (hclS _ _ e),fun p hp=>?_⟩
  ·exact neC (fpLt b hb)
  ·rcases List.mem_cons.mp (I2.stkSub b hm) with h|h
   ·exact(f2 b hb).2.1 h
   ·exact(f2 b hb).2.2.1 h
  ·rcases List.mem_append.mp hp with hp|hp
   ·exact(f2 b hb).2.2.2.2.2 p hp
   ·have hp:p=(D,oD):=by simpa using hp
    subst hp
    exact(neD (fpLt b hb)).symm
 have loop:∀ s₃:Shared,s₃={s2 with heap:=h₁,toks:=s2.toks+([]:List (Str×Value)).length} ->
  codeAny (model X.prog X.w) X.A (.compLoop (.ListComp elt [⟨tg,iter,ifs,0⟩] scope pos) 0 (.ref it) (.ref D) (compEnvC scope cl C X.env)) (RR (.ref D) C) s₃:=by
  rintro s₃ rfl
  refine wd5 (fun n s'=>∃ i ys its k H',Inv X' [(D,({cls:=.type "list",data:=.seq its k}:Obj))] (wd6 fr σ) H' s'/\tn i s'.heap/\(∀ b∈fp,H' b=none)/\G0 ys its.toList/\W i n ys H') ?_ m0
   ⟨0,[],#[],_,H2,I4 _ (by first|exact I2.tk|exact Nat.succ_pos _),T.keep 0 _ _ st2 (fun b _ o e=>old b o e),fun b hb=>(f2 b hb).1,.nil,w0⟩
  rintro n s3 ⟨i,ys,its,k,H3,I3,st3,fr3,vy,w3⟩
  obtain⟨hsz,h⟩:=turn i n ys H3 w3
  rcases h with⟨stop,qn⟩|⟨go,NN,hNN,step⟩
  ·refine noE (thn (T.done X' rfl rfl rfl hcalm i [(D,_)] s3 (wd6 fr σ) H3 _ I3 (fpk fr3) st3 stop) fun r s4 zq=>?_)
   obtain⟨hr,I4⟩:=zq
   subst hr
   refine hRR C D s4 ⟨ys,H3,?_⟩
   obtain⟨pD,nD,_,_,_⟩:=I4.pin (D,_) (List.mem_append_right _ (List.mem_singleton.mpr rfl))
   have pD:s4.heap.get? D=some {cls:=.type "list",data:=.seq its k}:=pD
   have nD:H3 D=none:=nD
   have nC:H3 C=none:=I4.free
   obtain⟨mC,hnC,_⟩:=I4.loc
   refine⟨nD,⟨mC,hnC⟩,hDC,(neC Lt).symm,fun x c e z=>?_,fun p hp z=>?_,?_,fun hm=>?_,?_,fun h' hsb=>?_,qn D nD⟩
   ·exact neC (cellLt x c e) z
   ·exact neC (pinLt p hp) z
   ·have:=I2.sz;rw[hDD] at this;exact Nat.le_trans this (Nat.le_of_lt hDlt)
   ·exact I2.nofs (by rw[hDD];exact Nat.le_of_lt hDlt) hm
   ·rw[B4 (Ne.symm hDC)];exact nC
   ·have un:Un (frs X.stack) fp H2 (upd H3 D (.lst ys)) s2.heap h':=by
     have u:=I4.base
     have neC:∀ (b:Addr) (o:Obj),s2.heap.get? b=some o->b≠C:=fun b o e=>neC (below b o e)
     have neD:∀ (b:Addr) (o:Obj),s2.heap.get? b=some o->b≠D:=fun b o e=>neD (below b o e)
     have trkNe:∀ b (o:HO),H3 b=some o->b≠D:=fun b o e z=>by rw[z,nD] at e;cases e
     refine⟨fun b o e n hb hx=>hsb.extBut b o (neC b o e) (u.keep b o e n hb hx),fun b o e n hb hx=>?_,fun b o e n hx=>by rw[B4 (neD b o e)];exact u.free b o e n hx,fun b o e hx=>?_,fun b xs e=>?_,fun b o xs e=>?_,fun b ps e=>?_⟩
     ·obtain⟨sl,q⟩:=u.slot b o e n hb hx
      exact⟨sl,hsb.extBut b _ (neC b o e) q⟩
     ·obtain⟨o',q⟩:=u.there b o e hx
      exact⟨o',hsb.extBut b _ (neC b o e) q⟩
     ·have q:=u.tups b xs e
      rw[B4 (trkNe b _ q)];exact q
     ·have q:=u.frzs b o xs e
      rw[B4 (trkNe b _ q)];exact q
     ·obtain⟨more,q⟩:=u.tbls b ps e
      exact⟨more,by rw[B4 (trkNe b _ q)];exact q⟩
    have hok:HOk X.prog X.w (upd H3 D (.lst ys)) h':=fun b u e=>by
     by_cases hb:b=D
     ·rw[hb,A5] at e
      cases e
      rw[hb]
      exact⟨hsz,its.toList,k,vy,by simpa using hsb.extBut D _ hDC pD⟩
     ·rw[B4 hb] at e
      refine(I4.hok b u e).stay (fun c v hc q=>hsb.extBut c v ?_ q) (fun c q=>?_) fun c xs q=>?_
      ·rcases hc with rfl|hc
       ·rintro rfl;rw[nC] at e;cases e
       ·rintro rfl;rw[nC] at hc;cases hc
      ·rw[B4 (U8 q nD)];exact q
      ·rw[B4 (U8 q nD)];exact q
    obtain⟨hh,gg,dd,tt',os'⟩:=s4
    obtain rfl:os'=s2.os:=I4.os
    refine(show Inv X pins σ (upd H3 D (.lst ys)) {s2 with heap:=h',gens:=gg,drawn:=dd,toks:=tt'} from I2.call (h':=h') (g':=gg) (d':=dd) (t':=tt') (ch:=fp) un hok I4.bare fun b hb=>?_)
    obtain⟨_,f1,_,f3,f4,f5⟩:=f2 b hb
    exact⟨f3,f1,f4,f5⟩
  ·refine noE (thn (T.item X' rfl rfl rfl hcalm i [(D,_)] s3 (wd6 fr σ) H3 _ I3 (fpk fr3) st3 go) fun r s4 zq=>?_)
   obtain⟨u,hr,h4⟩:=zq
   subst hr
   refine noE (thn h4 fun _ s5 zq=>?_)
   obtain⟨x,H5,I5,r5,y5,st5,fr5⟩:=zq
   have I5':=I5.pinned (fpk fr5) (T.obj _ _ st5)
   refine noE (thn (hg C s2 H2 fp (X.pn++pins) _ s5 (wd6 fr σ) H5 x u _ I5' r5 (hgo _ _ _ _ (step x H5 y5))) fun _ s6 zq=>?_)
   obtain⟨σ6,H6,I6,q6,k6⟩:=zq
   refine noE (thn (ht C s2 H2 fp (X.pn++pins) _ s6 σ6 H6 _ I6 q6) fun b s7 zq=>?_)
   obtain⟨H7,I7,q7⟩:=zq
   have back:∀ {s8:Shared} {H8:Hp},Inv X' ([(D,({cls:=.type "list",data:=.seq its k}:Obj))]++xa8 fp s5.heap) σ6 H8 s8->Inv X' [(D,({cls:=.type "list",data:=.seq its k}:Obj))] (wd6 fr σ) H8 s8/\tn (i+1) s8.heap/\∀ b∈fp,H8 b=none:=fun{s8 H8} I8=>by
    refine⟨(I8.unpinned).weak ?_ fun j v e=>?_,T.keep _ _ _ st5 fun b hb o e=>(I8.pin (b,o) (List.mem_append_right _ (List.mem_append_right _ (qy3 hb e)))).1,fun b hb=>?_⟩
    ·rw[I8.len];show(wd6 fr σ).length=N.length;unfold wd6;rw[List.length_map,S.len]
    ·obtain⟨i',q1,_⟩:=xv2 e
     rw[k6 j i' q1];exact e
    ·obtain⟨o,e,d⟩:=T.obj _ _ st5 b hb
     exact(I8.pin (b,o) (List.mem_append_right _ (List.mem_append_right _ (qy3 hb e)))).2.1
   cases b with
   | false =>
     rw[if_neg Bool.false_ne_true] at q7 ⊢
     obtain⟨m',hm,w7⟩:=hNN _ _ q7
     obtain⟨J1,J2,J3⟩:=back I7
     exact⟨m',hm,i+1,ys,its,k,H7,J1,J2,J3,vy,w7⟩
   | true =>
     rw[if_pos rfl] at q7 ⊢
     refine noE (thn (he C s2 H2 fp (X.pn++pins) _ s7 σ6 H7 _ I7 q7) fun y s8 zq=>?_)
     obtain⟨yv,H8,I8,r8,n8⟩:=zq
     obtain⟨m',hm,w8⟩:=hNN _ _ n8
     obtain⟨J1,J2,J3⟩:=back I8
     obtain⟨pD,nD,_,_,_⟩:=J1.pin (D,_) (List.mem_append_right _ (List.mem_singleton.mpr rfl))
     have pD:s8.heap.get? D=some {cls:=.type "list",data:=.seq its k}:=pD
     have nD:H8 D=none:=nD
     have hz':its.size<=sizeLine:=by
      have e1:its.size=ys.length:=by rw[vy.length];simp
      rw[e1];exact hsz
     refine wpAny_list_append_plain (hsz:=hz') ⟨k,pD⟩ fun h' ⟨k',hl'⟩ hsb=>?_
     ·refine⟨m',hm,i+1,ys++[yv],its.push y,k',H8,?_,T.keep _ _ _ J2 fun b hb o e=>?_,J3,?_,w8⟩
      ·have K0:Inv X' [] (wd6 fr σ) H8 s8:=J1.pins_of fun p hp=>by cases hp
       have K1:Inv X' [] (wd6 fr σ) H8 {s8 with heap:=h'}:=by
        refine K0.turned (it:=D) (t':=s8.toks) (fun b o hb e=>hsb.extBut b o hb e) nD hDC (.inr (by show s2.heap.objs.size<=D;rw[hDD];exact Nat.le_refl _)) (fun x c e z=>?_) fun p hp z=>?_
        ·exact neD (cellLt x c (hclS _ _ e)) z
        ·have hp:p∈X.pn++pins:=by
          rcases List.mem_append.mp hp with hp|hp
          ·exact hp
          ·cases hp
         exact neD (pinLt p hp) z
       refine K1.pins_of fun p hp=>?_
       have hp:p=(D,({cls:=.type "list",data:=.seq (its.push y) k'}:Obj)):=by simpa using hp
       subst hp
       refine⟨hl',nD,hDC,fun hm=>?_,fun v z=>by cases z⟩
       rcases List.mem_cons.mp (I2.stkSub _ hm) with h|h
       ·exact neD Lt h.symm
       ·exact I2.nofs (by rw[hDD];exact Nat.le_refl _) h
      ·exact hsb.extBut b o (neD (fpLt b hb)) e
      ·rw[Array.toList_push]
       exact G0.append vy (.cons r8 .nil)
 exact codeAny_compStart_list (loop _ rfl) (T.self _ 0 _ _ _ (T.keep 0 _ _ st2 fun b _ o e=>old b o e) (loop _ rfl))
theorem qy7{tg:Expr}(hcalm:X.calm=true)(S:wg5 X scope N fr)(hi:PI X tg iter wi)(hg:∀ cl C s₂ H₂ fp pn,PG (blk X N scope cl C s₂ H₂ fp pn) tg g)(hgo:yv3 fr g)(ht:∀ cl C s₂ H₂ fp pn,PTs (blk X N scope cl C s₂ H₂ fp pn) ifs tt)(he:∀ cl C s₂ H₂ fp pn,PE (blk X N scope cl C s₂ H₂ fp pn) elt te)(hs:autoParam (∀ x,foldedSetIterable iter X.env x=pure x) zAi):PE X (.ListComp elt [⟨tg,iter,ifs,0⟩] scope pos) (wa9 fr wi g tt te):=by
 intro pins s σ H Q I h
 obtain⟨cl,hclos,hclS,hclH⟩:=wi6 (env:=X.env) (scope:=scope) fun y hy hf=>I.ok.has y.1 (S.free y hy hf)
 rw[eval_ListComp]
 refine wpAny_comprehension_free (use:=none) rfl hs hclos S.kind S.names (thn (hi pins s σ H _ I h) fun v s1 h1=>thn h1 fun itv s2 h2=>?_)
 obtain⟨it,fp,tn,J,H2,e,I2,T,st2,f2,W,w0,turn⟩:=h2
 subst e
 refine xb8 (RR:=fun acc C=>compPost (model X.prog X.w) X.A X.xe none (EP X pins σ Q) acc C) hcalm S hclS hclH (hg cl) hgo (ht cl) (he cl) I2 T st2 f2 W w0 turn fun C D s' B=>?_
 obtain⟨ys,H',nD,hC,_,_,_,_,_,_,_,hI,q⟩:=B.ex
 obtain⟨m,hn⟩:=hC
 exact⟨m,hn,fun h' hs'=>⟨.ref D,_,hI h' hs',rfl,q⟩⟩
theorem yj4{tg:Expr}{spos py:Pos}{i:Nat}{y:Str}(hN:X.N.Nodup)(hy:X.N[i]?=some y)(hly:X.env.scope.names.lookup y=some .local)(hcalm:X.calm=true)(S:wg5 X scope N fr)(hi:PI X tg iter wi)(hg:∀ cl C s₂ H₂ fp pn,PG (blk X N scope cl C s₂ H₂ fp pn) tg g)(hgo:yv3 fr g)(ht:∀ cl C s₂ H₂ fp pn,PTs (blk X N scope cl C s₂ H₂ fp pn) ifs tt)(he:∀ cl C s₂ H₂ fp pn,PE (blk X N scope cl C s₂ H₂ fp pn) elt te)(hsw:autoParam (swapsWith (.ListComp elt [⟨tg,iter,ifs,0⟩] scope pos) (some (.Name y py)) spos.line X.env=pure true) zAr)(hs:autoParam (∀ x,foldedSetIterable iter X.env x=pure x) zAi):PS X (.Assign [.Name y py] (.ListComp elt [⟨tg,iter,ifs,0⟩] scope pos) spos) (E3 (wa9 fr wi g tt te) (B2 i)):=by
 intro pins s σ H D I h
 obtain⟨cl,hclos,hclS,hclH⟩:=wi6 (env:=X.env) (scope:=scope) fun y hy hf=>I.ok.has y.1 (S.free y hy hf)
 rw[exec_Assign_Name_used _ _ _ _ hsw]
 refine wpAny_bind (wpAny_standAt (wpAny_bind ?_))
 show wpAny _ X.A (do let _<-comprehension (.ListComp elt [⟨tg,iter,ifs,0⟩] scope pos) scope X.env _ (newList []) false (eval iter X.env) (some (assign (.Name y py) X.env))) _ _ s
 refine wpAny_bind (wpAny_mono (wpAny_comprehension_free (use:=some (assign (.Name y py) X.env)) (Q:=fun _ s'=>SP X pins D .next s') rfl hs hclos S.kind S.names
  (thn (hi pins s σ H _ I h) fun v s1 h1=>thn h1 fun itv s2 h2=>?_)) (fun _ s' hq=>wpAny_pure (wpAny_pure hq)) fun _ _ e=>e)
 obtain⟨it,fp,tn,J,H2,e,I2,T,st2,f2,W,w0,turn⟩:=h2
 subst e
 refine xb8 (Q:=fun x H1=>B2 i x σ H1 D.nx) (RR:=fun acc C=>compPost (model X.prog X.w) X.A X.xe (some (assign (.Name y py) X.env)) (fun _ s'=>SP X pins D .next s') acc C) hcalm S hclS hclH (hg cl) hgo (ht cl) (he cl) I2 T st2 f2 W w0 turn fun C D' s' B=>?_
 obtain⟨ys,H',nD,hC,hDC,hCL,hCc,hCp,hCs,hCf,hCn,hI,q⟩:=B.ex
 obtain⟨m,hn⟩:=hC
 have I1:Inv X pins σ (upd H' D' (.lst ys)) s':=by
  have:=hI s'.heap (.refl ..)
  obtain⟨hh,gg,dd,tt',os'⟩:=s'
  exact this
 show wpAny _ X.A (assign (.Name y py) X.env (.ref D')) _ _ _
 refine wpAny_assign_Name (xk7 I1 hN hy (.inl hly) (v:=.ref D') rfl (fun s2 I3 zq=>?_) (.inr hly))
 obtain⟨a,sb,ha⟩:=zq
 have hCa:C≠a:=by
  rcases ha with rfl|ha
  ·exact hCL
  ·exact fun z=>hCc y a ha z.symm
 refine⟨m,hn.sameBut sb hCa,fun h3 hs3=>?_⟩
 exact⟨_,_,I3.turned (it:=C) (t':=s2.toks) (fun b o hb e=>hs3.extBut b o hb e) hCn hCL (.inr hCs) hCc hCp,q⟩
mutual
def Dv(K:Fg)(H:Hp):PyData->V->Prop
 | .none,v=>v=.non
 | .bool b,v=>v=.bl b
 | .int i,v=>v=.int i
 | .str x,v=>v=.str x
 | .list ds,v=>∃ a vs,v=.ref a/\SqL K H a vs/\Dvs K H ds vs
 | .tuple ds,v=>∃ a vs,v=.ref a/\SqT K H a vs/\Dvs K H ds vs
 | .dict _,_=>False
def Dvs(K:Fg)(H:Hp):List PyData->List V->Prop
 | [],vs=>vs=[]
 | d::ds,vs=>∃ v r,vs=v::r/\Dv K H d v/\Dvs K H ds r
end
theorem Dvs.length:∀ {ds:List PyData} {vs:List V},Dvs K H ds vs->vs.length=ds.length
 | [],_,h=>by rw[Dvs] at h;subst h;rfl
 | d::ds,_,h=>by
   rw[Dvs] at h
   obtain⟨v,r,rfl,_,h⟩:=h
   rw[List.length_cons,List.length_cons,Dvs.length h]
theorem Dvs.get:∀ {ds:List PyData} {vs:List V} {i:Nat} {d:PyData},Dvs K H ds vs->ds[i]?=some d->∃ v,vs[i]?=some v/\Dv K H d v
 | [],_,_,_,_,e=>by simp at e
 | d::ds,_,0,_,h,e=>by
   rw[Dvs] at h
   obtain⟨v,r,rfl,h,_⟩:=h
   cases e
   exact⟨v,rfl,h⟩
 | d::ds,_,i+1,_,h,e=>by
   rw[Dvs] at h
   obtain⟨v,r,rfl,_,h⟩:=h
   exact Dvs.get (i:=i) h (by simpa using e)
theorem Dvs.get':∀ {ds:List PyData} {vs:List V} {i:Nat} {v:V},Dvs K H ds vs->vs[i]?=some v->∃ d,ds[i]?=some d/\Dv K H d v
 | [],_,_,_,h,e=>by rw[Dvs] at h;subst h;simp at e
 | d::ds,_,0,_,h,e=>by
   rw[Dvs] at h
   obtain⟨v,r,rfl,h,_⟩:=h
   cases e
   exact⟨d,rfl,h⟩
 | d::ds,_,i+1,_,h,e=>by
   rw[Dvs] at h
   obtain⟨v,r,rfl,_,h⟩:=h
   exact Dvs.get' (i:=i) h (by simpa using e)
theorem Dvs.append:∀ {ds es:List PyData} {vs ws:List V},Dvs K H ds vs->Dvs K H es ws->Dvs K H (ds++es) (vs++ws)
 | [],_,_,_,h,g=>by rw[Dvs] at h;subst h;exact g
 | d::ds,es,_,_,h,g=>by
   rw[Dvs] at h
   obtain⟨v,r,rfl,h1,h⟩:=h
   show Dvs K H (d::(ds++es)) _
   rw[Dvs]
   exact⟨v,r++_,rfl,h1,Dvs.append h g⟩
theorem E2:Dvs K H [] []:=by rw[Dvs]
variable{d:PyData}{ds:List PyData}
theorem B3(h:Dv K H d v)(t:Dvs K H ds vs):Dvs K H (d::ds) (v::vs):=by rw[Dvs];exact⟨v,vs,rfl,h,t⟩
theorem wn7:Dv K H .none v↔v=.non:=by rw[Dv]
theorem wn8{b:Bool}:Dv K H (.bool b) v↔v=.bl b:=by rw[Dv]
theorem O2:Dv K H (.int i) v↔v=.int i:=by rw[Dv]
theorem D5:Dv K H (.str x) v↔v=.str x:=by rw[Dv]
theorem Y8:Dv K H (.list ds) v↔∃ a vs,v=.ref a/\SqL K H a vs/\Dvs K H ds vs:=by rw[Dv]
theorem C8:Dv K H (.tuple ds) v↔∃ a vs,v=.ref a/\SqT K H a vs/\Dvs K H ds vs:=by rw[Dv]
def sDa(xs:List Str):List PyData:=xs.map .str
def B6(xs:List Str):List V:=xs.map .str
theorem qd3:∀ {xs:List Str} {vs:List V},Dvs K H (sDa xs) vs↔vs=B6 xs
 | [],_=>by show Dvs K H [] _↔_=[];rw[Dvs]
 | x::xs,vs=>by
   show Dvs K H (.str x::sDa xs) vs↔vs=V.str x::B6 xs
   rw[Dvs]
   constructor
   ·rintro⟨v,r,rfl,h1,h2⟩
    rw[D5.mp h1,qd3.mp h2]
   ·rintro rfl
    exact⟨_,_,rfl,D5.mpr rfl,qd3.mpr rfl⟩
def T4(H H':Hp):Prop:=(∀ b xs,H b=some (.tup xs)->H' b=some (.tup xs))/\∀ b o xs,H b=some (.frz o (.tup xs))->H' b=some (.frz o (.tup xs))
theorem A7.tupK(h:A7 H H'):T4 H H':=⟨fun b xs e=>h b _ e,fun b o xs e=>h b _ e⟩
theorem T4.refl(H:Hp):T4 H H:=⟨fun _ _ e=>e,fun _ _ _ e=>e⟩
theorem T4.trans(a:T4 H H1)(b:T4 H1 H2):T4 H H2:=⟨fun c xs e=>b.1 c xs (a.1 c xs e),fun c o xs e=>b.2 c o xs (a.2 c o xs e)⟩
theorem T4.sqT(e:T4 H H')(h:SqT K H a xs):SqT K H' a xs:=by
 rcases h with(h|⟨o,h⟩)|h
 ·exact .inl (.inl (e.1 _ _ h))
 ·exact .inl (.inr ⟨o,e.2 _ _ _ h⟩)
 ·exact .inr h
theorem A7.sqT(e:A7 H H')(h:SqT K H a xs):SqT K H' a xs:=e.tupK.sqT h
theorem A7.sqL(e:A7 H H')(h:SqL K H a xs):SqL K H' a xs:=e.seq h
theorem A7.new(h:H p=none)(o:HO):A7 H (upd H p o):=fun b u q=>by rw[B4 (U8 q h)];exact q
def But(ps:List Addr)(H H':Hp):Prop:=∀ b o,H b=some o->b∉ps->H' b=some o
theorem But.refl(ps:List Addr)(H:Hp):But ps H H:=fun _ _ e _=>e
mutual
/-- data without lists -/
def fix:PyData->Bool
 | .none=>true | .bool _=>true | .int _=>true | .str _=>true
 | .list _=>false
 | .tuple ds=>Q4 ds
 | .dict _=>false
def Q4:List PyData->Bool
 | []=>true
 | d::ds=>fix d && Q4 ds
end
mutual
theorem Dv.tupK{K:Fg}{H H':Hp}(k:T4 H H'):∀ (d:PyData) (v:V),fix d=true->Dv K H d v->Dv K H' d v
 | .none,_,_,h=>wn7.mpr (wn7.mp h)
 | .bool _,_,_,h=>wn8.mpr (wn8.mp h)
 | .int _,_,_,h=>O2.mpr (O2.mp h)
 | .str _,_,_,h=>D5.mpr (D5.mp h)
 | .list _,_,f,_=>by rw[fix] at f;cases f
 | .tuple ds,v,f,h=>by
   rw[fix] at f
   obtain⟨a,vs,rfl,hq,h⟩:=C8.mp h
   exact C8.mpr ⟨a,vs,rfl,k.sqT hq,Dvs.tupK k ds vs f h⟩
 | .dict _,_,f,_=>by rw[fix] at f;cases f
theorem Dvs.tupK{K:Fg}{H H':Hp}(k:T4 H H'):∀ (ds:List PyData) (vs:List V),Q4 ds=true->Dvs K H ds vs->Dvs K H' ds vs
 | [],_,_,h=>by rw[Dvs] at h ⊢;exact h
 | d::ds,vs,f,h=>by
   rw[Q4,Bool.and_eq_true] at f
   rw[Dvs] at h ⊢
   obtain⟨v,r,e,h1,h2⟩:=h
   exact⟨v,r,e,Dv.tupK k d v f.1 h1,Dvs.tupK k ds r f.2 h2⟩
end
mutual
theorem Dv.same{K:Fg}{H H':Hp}(k:A7 H H'):∀ (d:PyData) (v:V),Dv K H d v->Dv K H' d v
 | .none,_,h=>wn7.mpr (wn7.mp h)
 | .bool _,_,h=>wn8.mpr (wn8.mp h)
 | .int _,_,h=>O2.mpr (O2.mp h)
 | .str _,_,h=>D5.mpr (D5.mp h)
 | .list ds,v,h=>by
   obtain⟨a,vs,rfl,hq,h⟩:=Y8.mp h
   exact Y8.mpr ⟨a,vs,rfl,k.sqL hq,Dvs.same k ds vs h⟩
 | .tuple ds,v,h=>by
   obtain⟨a,vs,rfl,hq,h⟩:=C8.mp h
   exact C8.mpr ⟨a,vs,rfl,k.sqT hq,Dvs.same k ds vs h⟩
 | .dict _,_,h=>by rw[Dv] at h;exact h.elim
theorem Dvs.same{K:Fg}{H H':Hp}(k:A7 H H'):∀ (ds:List PyData) (vs:List V),Dvs K H ds vs->Dvs K H' ds vs
 | [],_,h=>by rw[Dvs] at h ⊢;exact h
 | d::ds,vs,h=>by
   rw[Dvs] at h ⊢
   obtain⟨v,r,e,h1,h2⟩:=h
   exact⟨v,r,e,Dv.same k d v h1,Dvs.same k ds r h2⟩
end
mutual
theorem Dv.reads{X:Cx}{pins:List (Addr×Obj)}{σ:St}{H:Hp}{s:Shared}(I:Inv X pins σ H s):∀ (d:PyData) (v:V) (u:Value),Dv X.K H d v->J8 v u->∃ as,Reads s.heap u d as
 | .none,_,_,h,r=>by rw[wn7.mp h] at r;cases r;exact⟨_,.none⟩
 | .bool b,_,_,h,r=>by rw[wn8.mp h] at r;cases r;exact⟨_,.bool b⟩
 | .int i,_,_,h,r=>by rw[O2.mp h] at r;obtain⟨t,rfl⟩:=r;exact⟨_,.int i t⟩
 | .str x,_,_,h,r=>by rw[D5.mp h] at r;obtain⟨t,rfl⟩:=r;exact⟨_,.str x t⟩
 | .list ds,_,_,h,r=>by
   obtain⟨a,vs,rfl,hq,h⟩:=Y8.mp h
   cases r
   obtain⟨its,rv,pl,_⟩:=I.list hq
   obtain⟨o,e,c,n,d⟩:=pl.isList
   obtain⟨as,ra⟩:=Dvs.reads I ds vs its h rv
   exact⟨_,.list e c d (by simpa using ra)⟩
 | .tuple ds,_,_,h,r=>by
   obtain⟨a,vs,rfl,hq,h⟩:=C8.mp h
   cases r
   obtain⟨its,rv,pl,_⟩:=I.tuple hq
   obtain⟨o,e,c,n,d⟩:=pl
   obtain⟨as,ra⟩:=Dvs.reads I ds vs its h rv
   exact⟨_,.tuple e c d (by simpa using ra)⟩
 | .dict _,_,_,h,_=>by rw[Dv] at h;exact h.elim
theorem Dvs.reads{X:Cx}{pins:List (Addr×Obj)}{σ:St}{H:Hp}{s:Shared}(I:Inv X pins σ H s):∀ (ds:List PyData) (vs:List V) (us:List Value),Dvs X.K H ds vs->G0 vs us->∃ as,ReadsAll s.heap us ds as
 | [],_,_,h,r=>by rw[Dvs] at h;subst h;cases r;exact⟨_,.nil⟩
 | d :: ds,_,_,h,r=>by
   rw[Dvs] at h
   obtain⟨v,r',rfl,h1,h2⟩:=h
   cases r with
   | cons r1 r2 =>
     obtain⟨as,a1⟩:=Dv.reads I d v _ h1 r1
     obtain⟨bs,a2⟩:=Dvs.reads I ds r' _ h2 r2
     exact⟨_,.cons a1 a2⟩
end
open PySem.SeqAt
mutual
def nd:PyData->Bool
 | .none=>true | .bool _=>true | .int _=>true | .str _=>true
 | .list ds=>nds ds
 | .tuple ds=>nds ds
 | .dict _=>false
def nds:List PyData->Bool
 | []=>true
 | d::ds=>nd d && nds ds
end
mutual
theorem Dv.nd{K:Fg}{H:Hp}:∀ (d:PyData) (v:V),Dv K H d v->nd d=true
 | .none,_,_=>by rw[L2.nd]
 | .bool _,_,_=>by rw[L2.nd]
 | .int _,_,_=>by rw[L2.nd]
 | .str _,_,_=>by rw[L2.nd]
 | .list ds,_,h=>by
   obtain⟨a,vs,_,_,h⟩:=Y8.mp h
   rw[L2.nd];exact Dvs.nd ds vs h
 | .tuple ds,_,h=>by
   obtain⟨a,vs,_,_,h⟩:=C8.mp h
   rw[L2.nd];exact Dvs.nd ds vs h
 | .dict _,_,h=>by rw[Dv] at h;exact h.elim
theorem Dvs.nd{K:Fg}{H:Hp}:∀ (ds:List PyData) (vs:List V),Dvs K H ds vs->nds ds=true
 | [],_,_=>by rw[nds]
 | d::ds,vs,h=>by
   rw[Dvs] at h
   obtain⟨v,r,_,h1,h2⟩:=h
   rw[nds,Dv.nd d v h1,Dvs.nd ds r h2];rfl
end
mutual
theorem xb9{h:Heap}:∀ (d d':PyData) (v:Value) (as as':List Addr),nd d=true->Reads h v d as->Reads h v d' as'->d=d'
 | .none,_,_,_,_,_,r,q=>by cases r;cases q;rfl
 | .bool _,_,_,_,_,_,r,q=>by cases r;cases q;rfl
 | .int _,_,_,_,_,_,r,q=>by cases r;cases q;rfl
 | .str _,_,_,_,_,_,r,q=>by cases r;cases q;rfl
 | .dict _,_,_,_,_,n,_,_=>by rw[L2.nd] at n;cases n
 | .list xs,d',_,_,_,n,r,q=>by
   rw[L2.nd] at n
   cases r with
   | list a1 a2 a3 a4 =>
     cases q with
     | list b1 b2 b3 b4=>rw[a1] at b1;cases b1;rw[a3] at b3;cases b3;rw[ws0 xs _ _ _ _ n a4 b4]
     | tuple b1 b2 b3 b4=>rw[a1] at b1;cases b1;rw[a2] at b2;exact absurd b2 (by simp)
     | dict b1 b2=>rw[a1] at b1;cases b1;rw[a2] at b2;exact absurd b2 (by simp)
 | .tuple xs,d',_,_,_,n,r,q=>by
   rw[L2.nd] at n
   cases r with
   | tuple a1 a2 a3 a4 =>
     cases q with
     | tuple b1 b2 b3 b4=>rw[a1] at b1;cases b1;rw[a3] at b3;cases b3;rw[ws0 xs _ _ _ _ n a4 b4]
     | list b1 b2 b3 b4=>rw[a1] at b1;cases b1;rw[a2] at b2;exact absurd b2 (by simp)
     | dict b1 b2=>rw[a1] at b1;cases b1;rw[a2] at b2;exact absurd b2 (by simp)
theorem ws0{h:Heap}:∀ (xs ys:List PyData) (vs:List Value) (as as':List Addr),nds xs=true->ReadsAll h vs xs as->ReadsAll h vs ys as'->xs=ys
 | [],_,_,_,_,_,r,q=>by cases r;cases q;rfl
 | x :: xs,_,_,_,_,n,r,q=>by
   rw[nds,Bool.and_eq_true] at n
   cases r with
   | cons r1 r2 =>
     cases q with
     | cons q1 q2=>rw[xb9 x _ _ _ _ n.1 r1 q1,ws0 xs _ _ _ _ n.2 r2 q2]
end
mutual
theorem wn9:∀ d:PyData,nd d=true->PyData.eqv d d=true
 | .none,_=>rfl
 | .bool b,_=>by simp[PyData.eqv]
 | .int i,_=>by simp[PyData.eqv]
 | .str x,_=>by simp[PyData.eqv]
 | .list xs,h=>by rw[PyData.eqv];rw[L2.nd] at h;exact ws1 xs h
 | .tuple xs,h=>by rw[PyData.eqv];rw[L2.nd] at h;exact ws1 xs h
 | .dict _,h=>by rw[L2.nd] at h;cases h
theorem ws1:∀ xs:List PyData,nds xs=true->PyData.eqvAll xs xs=true
 | [],_=>rfl
 | x::xs,h=>by
   rw[nds,Bool.and_eq_true] at h
   rw[PyData.eqvAll,wn9 x h.1,ws1 xs h.2];rfl
end
theorem L6{h:Heap}:∀ {xs:List PyData} {vs:List Value} {as:List Addr},ReadsAll h vs xs as->vs.length=xs.length
 | [],_,_,r=>by cases r;rfl
 | _::xs,_,_,r=>by
   cases r with
   | cons _ r'=>rw[List.length_cons,List.length_cons,L6 r']
mutual
theorem yv4:∀ (da db:PyData) (A:Around) (s:Shared) (a b:Value) (as bs:List Addr),Reads s.heap a da as->Reads s.heap b db bs->nd da=true->nd db=true->A.units+min da.depth db.depth<cLine->EqAt A s a b (PyData.eqv da db)
 | .none,db,A,s,_,_,_,_,ra,rb,_,hb,hu=>by
   cases ra
   cases rb with
   | none=>exact EqAt.same _
   | bool y=>exact EqAt.none_bool y
   | int y u=>exact EqAt.none_int y u
   | str y u=>exact EqAt.none_str y u
   | list k1 k2 k3 k4=>exact EqAt.none_list ⟨_,k1,k2,_,k3⟩ (room_here hu)
   | tuple k1 k2 k3 k4=>exact EqAt.none_tuple ⟨_,k1,k2,_,k3⟩ (room_here hu)
   | dict=>rw[L2.nd] at hb;cases hb
 | .bool x,db,A,s,_,_,_,_,ra,rb,_,hb,hu=>by
   cases ra
   cases rb with
   | none=>exact EqAt.bool_none x
   | bool y=>exact EqAt.bool_bool x y
   | int y u=>exact EqAt.bool_int x y u
   | str y u=>exact EqAt.bool_str x y u
   | list k1 k2 k3 k4=>exact EqAt.bool_list x ⟨_,k1,k2,_,k3⟩ (room_here hu)
   | tuple k1 k2 k3 k4=>exact EqAt.bool_tuple x ⟨_,k1,k2,_,k3⟩ (room_here hu)
   | dict=>rw[L2.nd] at hb;cases hb
 | .int x,db,A,s,_,_,_,_,ra,rb,_,hb,hu=>by
   cases ra
   cases rb with
   | none=>exact EqAt.int_none x _
   | bool y=>exact EqAt.int_bool x _ y
   | int y u=>exact EqAt.int_int x _ y u
   | str y u=>exact EqAt.int_str x _ y u
   | list k1 k2 k3 k4=>exact EqAt.int_list x _ ⟨_,k1,k2,_,k3⟩ (room_here hu)
   | tuple k1 k2 k3 k4=>exact EqAt.int_tuple x _ ⟨_,k1,k2,_,k3⟩ (room_here hu)
   | dict=>rw[L2.nd] at hb;cases hb
 | .str x,db,A,s,_,_,_,_,ra,rb,_,hb,hu=>by
   cases ra
   cases rb with
   | none=>exact EqAt.str_none x _
   | bool y=>exact EqAt.str_bool x _ y
   | int y u=>exact EqAt.str_int x _ y u
   | str y u=>exact EqAt.str_str x _ y u
   | list k1 k2 k3 k4=>exact EqAt.str_list x _ ⟨_,k1,k2,_,k3⟩ (room_here hu)
   | tuple k1 k2 k3 k4=>exact EqAt.str_tuple x _ ⟨_,k1,k2,_,k3⟩ (room_here hu)
   | dict=>rw[L2.nd] at hb;cases hb
 | .list xs,db,A,s,_,_,_,_,ra,rb,ha,hb,hu=>by
   have ra0:=ra
   have rb0:=rb
   cases ra with
   | @list l o1 vs1 n1 xs as h1 h2 h3 h4 =>
     cases rb with
     | none=>exact EqAt.list_none ⟨_,h1,h2,_,h3⟩ (room_here hu)
     | bool y=>exact EqAt.list_bool y ⟨_,h1,h2,_,h3⟩ (room_here hu)
     | int y u=>exact EqAt.list_int y u ⟨_,h1,h2,_,h3⟩ (room_here hu)
     | str y u=>exact EqAt.list_str y u ⟨_,h1,h2,_,h3⟩ (room_here hu)
     | tuple k1 k2 k3 k4=>exact EqAt.list_tuple ⟨_,h1,h2,_,h3⟩ ⟨_,k1,k2,_,k3⟩ (room_here hu)
     | @list b o vs2 n2 ys bs k1 k2 k3 k4 =>
       by_cases e:l=b
       ·subst e
        rw[xb9 _ _ _ _ _ ha ra0 rb0,wn9 _ hb]
        exact EqAt.same _
       ·refine EqAt.of_refs e ?_
        have l1:=L6 h4
        have l2:=L6 k4
        rw[L2.nd] at ha hb
        by_cases hz:xs.length=ys.length
        ·have:=RcAt.lists (A:=A) (s:=s) (e:=pairEq xs ys) ⟨_,h1,h2,_,h3⟩ ⟨_,k1,k2,_,k3⟩ (by simp at l1 l2;omega) (room_here hu) (fun j h1 h2=>by have q:=qe3 xs ys A.in1 s _ _ _ _ h4 k4 ha hb (room_in (by rw[PyData.depth,PyData.depth] at hu;exact hu)) j (by simpa using h1) (by simpa using h2);rw[Array.getElem_toList,Array.getElem_toList] at q;exact q)
         rw[show PyData.eqv (.list xs) (.list ys)=PyData.eqvAll xs ys by rw[PyData.eqv],<-eqvAll_same_length hz]
         have e1:vs1.size=xs.length:=by simpa using l1
         rw[e1] at this
         exact this
        ·rw[show PyData.eqv (.list xs) (.list ys)=PyData.eqvAll xs ys by rw[PyData.eqv],eqvAll_other_length hz]
         exact RcAt.lists_lengths ⟨_,h1,h2,_,h3⟩ ⟨_,k1,k2,_,k3⟩ (by simp at l1 l2;simp;omega) (room_here hu)
     | dict=>rw[L2.nd] at hb;cases hb
 | .tuple xs,db,A,s,_,_,_,_,ra,rb,ha,hb,hu=>by
   have ra0:=ra
   have rb0:=rb
   cases ra with
   | @tuple l o1 vs1 n1 xs as h1 h2 h3 h4 =>
     cases rb with
     | none=>exact EqAt.tuple_none ⟨_,h1,h2,_,h3⟩ (room_here hu)
     | bool y=>exact EqAt.tuple_bool y ⟨_,h1,h2,_,h3⟩ (room_here hu)
     | int y u=>exact EqAt.tuple_int y u ⟨_,h1,h2,_,h3⟩ (room_here hu)
     | str y u=>exact EqAt.tuple_str y u ⟨_,h1,h2,_,h3⟩ (room_here hu)
     | list k1 k2 k3 k4=>exact EqAt.tuple_list ⟨_,h1,h2,_,h3⟩ ⟨_,k1,k2,_,k3⟩ (room_here hu)
     | @tuple b o vs2 n2 ys bs k1 k2 k3 k4 =>
       by_cases e:l=b
       ·subst e
        rw[xb9 _ _ _ _ _ ha ra0 rb0,wn9 _ hb]
        exact EqAt.same _
       ·refine EqAt.of_refs e ?_
        have l1:=L6 h4
        have l2:=L6 k4
        rw[L2.nd] at ha hb
        have:=RcAt.tuples (A:=A) (s:=s) (e:=pairEq xs ys) ⟨_,h1,h2,_,h3⟩ ⟨_,k1,k2,_,k3⟩ (room_here hu) (fun j h1 h2=>by have q:=qe3 xs ys A.in1 s _ _ _ _ h4 k4 ha hb (room_in (by rw[PyData.depth,PyData.depth] at hu;exact hu)) j (by simpa using h1) (by simpa using h2);rw[Array.getElem_toList,Array.getElem_toList] at q;exact q)
        rw[show PyData.eqv (.tuple xs) (.tuple ys)=PyData.eqvAll xs ys by rw[PyData.eqv],<-eqvAll_eq xs ys]
        have e1:vs1.size=xs.length:=by simpa using l1
        have e2:vs2.size=ys.length:=by simpa using l2
        rw[e1,e2] at this
        exact this
     | dict=>rw[L2.nd] at hb;cases hb
 | .dict _,_,_,_,_,_,_,_,_,_,ha,_,_=>by rw[L2.nd] at ha;cases ha
theorem qe3:∀ (xs ys:List PyData) (A:Around) (s:Shared) (us ws:List Value) (as bs:List Addr),ReadsAll s.heap us xs as->ReadsAll s.heap ws ys bs->nds xs=true->nds ys=true->A.units+min (PyData.depthAll xs) (PyData.depthAll ys)<cLine ->
 ∀ j (h1:j<us.length) (h2:j<ws.length),EqAt A s us[j] ws[j] (pairEq xs ys j)
 | [],_,_,_,_,_,_,_,r,_,_,_,_=>by cases r;intro j h1;simp at h1
 | x :: xs,ys,A,s,_,ws,_,_,r,q,ha,hb,hu=>by
   cases r with
   | @cons u us d ds as1 as2 r1 r2 =>
     cases q with
     | nil=>intro j h1 h2;simp at h2
     | @cons w ws y ys bs1 bs2 q1 q2 =>
       rw[nds,Bool.and_eq_true] at ha hb
       rw[PyData.depthAll,PyData.depthAll] at hu
       intro j h1 h2
       cases j with
       | zero=>exact yv4 x y A s u w _ _ r1 q1 ha.1 hb.1 (room_head hu)
       | succ j =>
         exact qe3 xs ys A s us ws _ _ r2 q2 ha.2 hb.2 (room_tail hu) j (by simpa using h1) (by simpa using h2)
end
variable{db:PyData}
theorem zp7{da:PyData}{a b:Value}{bs:List Addr}(ra:Reads s.heap a da as)(rb:Reads s.heap b db bs)(ha:nd da=true)(hb:nd db=true)(hu:A.units+min da.depth db.depth<cLine):RcAt A s a b (PyData.eqv da db):=by
 cases ra with
 | none =>
   cases rb with
   | none=>exact RcAt.none_none
   | bool y=>exact RcAt.none_bool y
   | int y u=>exact RcAt.none_int y u
   | str y u=>exact RcAt.none_str y u
   | @list l2 o2 ws n2 ys bs k1 k2 k3 k4=>exact RcAt.none_list ⟨_,k1,k2,_,k3⟩ (room_here hu)
   | @tuple l2 o2 ws n2 ys bs k1 k2 k3 k4=>exact RcAt.none_tuple ⟨_,k1,k2,_,k3⟩ (room_here hu)
   | dict=>rw[L2.nd] at hb;cases hb
 | bool x =>
   cases rb with
   | none=>exact RcAt.bool_none x
   | bool y=>exact RcAt.bool_bool x y
   | int y u=>exact RcAt.bool_int x y u
   | str y u=>exact RcAt.bool_str x y u
   | @list l2 o2 ws n2 ys bs k1 k2 k3 k4=>exact RcAt.bool_list x ⟨_,k1,k2,_,k3⟩ (room_here hu)
   | @tuple l2 o2 ws n2 ys bs k1 k2 k3 k4=>exact RcAt.bool_tuple x ⟨_,k1,k2,_,k3⟩ (room_here hu)
   | dict=>rw[L2.nd] at hb;cases hb
 | int x t =>
   cases rb with
   | none=>exact RcAt.int_none x t
   | bool y=>exact RcAt.int_bool x t y
   | int y u=>exact RcAt.int_int x t y u
   | str y u=>exact RcAt.int_str x t y u
   | @list l2 o2 ws n2 ys bs k1 k2 k3 k4=>exact RcAt.int_list x t ⟨_,k1,k2,_,k3⟩ (room_here hu)
   | @tuple l2 o2 ws n2 ys bs k1 k2 k3 k4=>exact RcAt.int_tuple x t ⟨_,k1,k2,_,k3⟩ (room_here hu)
   | dict=>rw[L2.nd] at hb;cases hb
 | str x t =>
   cases rb with
   | none=>exact RcAt.str_none x t
   | bool y=>exact RcAt.str_bool x t y
   | int y u=>exact RcAt.str_int x t y u
   | str y u=>exact RcAt.str_str x t y u
   | @list l2 o2 ws n2 ys bs k1 k2 k3 k4=>exact RcAt.str_list x t ⟨_,k1,k2,_,k3⟩ (room_here hu)
   | @tuple l2 o2 ws n2 ys bs k1 k2 k3 k4=>exact RcAt.str_tuple x t ⟨_,k1,k2,_,k3⟩ (room_here hu)
   | dict=>rw[L2.nd] at hb;cases hb
 | @list l o vs n xs as h1 h2 h3 h4 =>
   cases rb with
   | none=>exact RcAt.list_none ⟨_,h1,h2,_,h3⟩ (room_here hu)
   | bool y=>exact RcAt.list_bool y ⟨_,h1,h2,_,h3⟩ (room_here hu)
   | int y u=>exact RcAt.list_int y u ⟨_,h1,h2,_,h3⟩ (room_here hu)
   | str y u=>exact RcAt.list_str y u ⟨_,h1,h2,_,h3⟩ (room_here hu)
   | @list l2 o2 ws n2 ys bs k1 k2 k3 k4 =>
     have l1:vs.size=xs.length:=by simpa using L6 h4
     have l2:ws.size=ys.length:=by simpa using L6 k4
     rw[L2.nd] at ha hb
     rw[PyData.depth,PyData.depth] at hu
     have hi:∀ j (h1:j<vs.size) (h2:j<ws.size),EqAt A.in1 s vs[j] ws[j] (pairEq xs ys j):=fun j h1 h2=>by
      have q:=qe3 xs ys A.in1 s _ _ _ _ h4 k4 ha hb (room_in hu) j (by simpa using h1) (by simpa using h2)
      rw[Array.getElem_toList,Array.getElem_toList] at q
      exact q
     have hu':A.units<cLine:=room_here hu
     rw[show PyData.eqv (.list xs) (.list ys)=PyData.eqvAll xs ys by rw[PyData.eqv]]
     by_cases hz:xs.length=ys.length
     ·have q:=RcAt.lists (A:=A) (s:=s) (e:=pairEq xs ys) ⟨_,h1,h2,_,h3⟩ ⟨_,k1,k2,_,k3⟩ (by omega) hu' hi
      rw[l1,eqvAll_same_length hz] at q
      exact q
     ·rw[eqvAll_other_length hz]
      exact RcAt.lists_lengths ⟨_,h1,h2,_,h3⟩ ⟨_,k1,k2,_,k3⟩ (by simp;omega) hu'
   | @tuple l2 o2 ws n2 ys bs k1 k2 k3 k4=>exact RcAt.list_tuple ⟨_,h1,h2,_,h3⟩ ⟨_,k1,k2,_,k3⟩ (room_here hu)
   | dict=>rw[L2.nd] at hb;cases hb
 | @tuple l o vs n xs as h1 h2 h3 h4 =>
   cases rb with
   | none=>exact RcAt.tuple_none ⟨_,h1,h2,_,h3⟩ (room_here hu)
   | bool y=>exact RcAt.tuple_bool y ⟨_,h1,h2,_,h3⟩ (room_here hu)
   | int y u=>exact RcAt.tuple_int y u ⟨_,h1,h2,_,h3⟩ (room_here hu)
   | str y u=>exact RcAt.tuple_str y u ⟨_,h1,h2,_,h3⟩ (room_here hu)
   | @list l2 o2 ws n2 ys bs k1 k2 k3 k4=>exact RcAt.tuple_list ⟨_,h1,h2,_,h3⟩ ⟨_,k1,k2,_,k3⟩ (room_here hu)
   | @tuple l2 o2 ws n2 ys bs k1 k2 k3 k4 =>
     have l1:vs.size=xs.length:=by simpa using L6 h4
     have l2:ws.size=ys.length:=by simpa using L6 k4
     rw[L2.nd] at ha hb
     rw[PyData.depth,PyData.depth] at hu
     have hi:∀ j (h1:j<vs.size) (h2:j<ws.size),EqAt A.in1 s vs[j] ws[j] (pairEq xs ys j):=fun j h1 h2=>by
      have q:=qe3 xs ys A.in1 s _ _ _ _ h4 k4 ha hb (room_in hu) j (by simpa using h1) (by simpa using h2)
      rw[Array.getElem_toList,Array.getElem_toList] at q
      exact q
     have hu':A.units<cLine:=room_here hu
     rw[show PyData.eqv (.tuple xs) (.tuple ys)=PyData.eqvAll xs ys by rw[PyData.eqv]]
     have q:=RcAt.tuples (A:=A) (s:=s) (e:=pairEq xs ys) ⟨_,h1,h2,_,h3⟩ ⟨_,k1,k2,_,k3⟩ hu' hi
     rw[l1,l2,eqvAll_eq xs ys] at q
     exact q
   | dict=>rw[L2.nd] at hb;cases hb
 | dict=>rw[L2.nd] at ha;cases ha
theorem yv5{da:PyData}{a b:Value}{bs:List Addr}(ra:Reads s.heap a da as)(rb:Reads s.heap b db bs)(ha:nd da=true)(hb:nd db=true)(hu:A.units+min da.depth db.depth<cLine):RcNeAt A s a b (!PyData.eqv da db):=by
 cases ra with
 | none =>
   cases rb with
   | none=>exact RcNeAt.none_none
   | bool y=>exact RcNeAt.none_bool y
   | int y u=>exact RcNeAt.none_int y u
   | str y u=>exact RcNeAt.none_str y u
   | @list l2 o2 ws n2 ys bs k1 k2 k3 k4=>exact RcNeAt.none_list ⟨_,k1,k2,_,k3⟩ (room_here hu)
   | @tuple l2 o2 ws n2 ys bs k1 k2 k3 k4=>exact RcNeAt.none_tuple ⟨_,k1,k2,_,k3⟩ (room_here hu)
   | dict=>rw[L2.nd] at hb;cases hb
 | bool x =>
   cases rb with
   | none=>exact RcNeAt.bool_none x
   | bool y=>exact RcNeAt.bool_bool x y
   | int y u=>exact RcNeAt.bool_int x y u
   | str y u=>exact RcNeAt.bool_str x y u
   | @list l2 o2 ws n2 ys bs k1 k2 k3 k4=>exact RcNeAt.bool_list x ⟨_,k1,k2,_,k3⟩ (room_here hu)
   | @tuple l2 o2 ws n2 ys bs k1 k2 k3 k4=>exact RcNeAt.bool_tuple x ⟨_,k1,k2,_,k3⟩ (room_here hu)
   | dict=>rw[L2.nd] at hb;cases hb
 | int x t =>
   cases rb with
   | none=>exact RcNeAt.int_none x t
   | bool y=>exact RcNeAt.int_bool x t y
   | int y u=>exact RcNeAt.int_int x t y u
   | str y u=>exact RcNeAt.int_str x t y u
   | @list l2 o2 ws n2 ys bs k1 k2 k3 k4=>exact RcNeAt.int_list x t ⟨_,k1,k2,_,k3⟩ (room_here hu)
   | @tuple l2 o2 ws n2 ys bs k1 k2 k3 k4=>exact RcNeAt.int_tuple x t ⟨_,k1,k2,_,k3⟩ (room_here hu)
   | dict=>rw[L2.nd] at hb;cases hb
 | str x t =>
   cases rb with
   | none=>exact RcNeAt.str_none x t
   | bool y=>exact RcNeAt.str_bool x t y
   | int y u=>exact RcNeAt.str_int x t y u
   | str y u=>exact RcNeAt.str_str x t y u
   | @list l2 o2 ws n2 ys bs k1 k2 k3 k4=>exact RcNeAt.str_list x t ⟨_,k1,k2,_,k3⟩ (room_here hu)
   | @tuple l2 o2 ws n2 ys bs k1 k2 k3 k4=>exact RcNeAt.str_tuple x t ⟨_,k1,k2,_,k3⟩ (room_here hu)
   | dict=>rw[L2.nd] at hb;cases hb
 | @list l o vs n xs as h1 h2 h3 h4 =>
   cases rb with
   | none=>exact RcNeAt.list_none ⟨_,h1,h2,_,h3⟩ (room_here hu)
   | bool y=>exact RcNeAt.list_bool y ⟨_,h1,h2,_,h3⟩ (room_here hu)
   | int y u=>exact RcNeAt.list_int y u ⟨_,h1,h2,_,h3⟩ (room_here hu)
   | str y u=>exact RcNeAt.list_str y u ⟨_,h1,h2,_,h3⟩ (room_here hu)
   | @list l2 o2 ws n2 ys bs k1 k2 k3 k4 =>
     have l1:vs.size=xs.length:=by simpa using L6 h4
     have l2:ws.size=ys.length:=by simpa using L6 k4
     rw[L2.nd] at ha hb
     rw[PyData.depth,PyData.depth] at hu
     have hi:∀ j (h1:j<vs.size) (h2:j<ws.size),EqAt A.in1 s vs[j] ws[j] (pairEq xs ys j):=fun j h1 h2=>by
      have q:=qe3 xs ys A.in1 s _ _ _ _ h4 k4 ha hb (room_in hu) j (by simpa using h1) (by simpa using h2)
      rw[Array.getElem_toList,Array.getElem_toList] at q
      exact q
     have hu':A.units<cLine:=room_here hu
     rw[show PyData.eqv (.list xs) (.list ys)=PyData.eqvAll xs ys by rw[PyData.eqv]]
     by_cases hz:xs.length=ys.length
     ·have q:=RcNeAt.lists (A:=A) (s:=s) (e:=pairEq xs ys) ⟨_,h1,h2,_,h3⟩ ⟨_,k1,k2,_,k3⟩ (by omega) hu' hi
      rw[l1,eqvAll_same_length hz] at q
      exact q
     ·rw[eqvAll_other_length hz]
      exact RcNeAt.lists_lengths ⟨_,h1,h2,_,h3⟩ ⟨_,k1,k2,_,k3⟩ (by simp;omega) hu'
   | @tuple l2 o2 ws n2 ys bs k1 k2 k3 k4=>exact RcNeAt.list_tuple ⟨_,h1,h2,_,h3⟩ ⟨_,k1,k2,_,k3⟩ (room_here hu)
   | dict=>rw[L2.nd] at hb;cases hb
 | @tuple l o vs n xs as h1 h2 h3 h4 =>
   cases rb with
   | none=>exact RcNeAt.tuple_none ⟨_,h1,h2,_,h3⟩ (room_here hu)
   | bool y=>exact RcNeAt.tuple_bool y ⟨_,h1,h2,_,h3⟩ (room_here hu)
   | int y u=>exact RcNeAt.tuple_int y u ⟨_,h1,h2,_,h3⟩ (room_here hu)
   | str y u=>exact RcNeAt.tuple_str y u ⟨_,h1,h2,_,h3⟩ (room_here hu)
   | @list l2 o2 ws n2 ys bs k1 k2 k3 k4=>exact RcNeAt.tuple_list ⟨_,h1,h2,_,h3⟩ ⟨_,k1,k2,_,k3⟩ (room_here hu)
   | @tuple l2 o2 ws n2 ys bs k1 k2 k3 k4 =>
     have l1:vs.size=xs.length:=by simpa using L6 h4
     have l2:ws.size=ys.length:=by simpa using L6 k4
     rw[L2.nd] at ha hb
     rw[PyData.depth,PyData.depth] at hu
     have hi:∀ j (h1:j<vs.size) (h2:j<ws.size),EqAt A.in1 s vs[j] ws[j] (pairEq xs ys j):=fun j h1 h2=>by
      have q:=qe3 xs ys A.in1 s _ _ _ _ h4 k4 ha hb (room_in hu) j (by simpa using h1) (by simpa using h2)
      rw[Array.getElem_toList,Array.getElem_toList] at q
      exact q
     have hu':A.units<cLine:=room_here hu
     rw[show PyData.eqv (.tuple xs) (.tuple ys)=PyData.eqvAll xs ys by rw[PyData.eqv]]
     have q:=RcNeAt.tuples (A:=A) (s:=s) (e:=pairEq xs ys) ⟨_,h1,h2,_,h3⟩ ⟨_,k1,k2,_,k3⟩ hu' hi
     rw[l1,l2,eqvAll_eq xs ys] at q
     exact q
   | dict=>rw[L2.nd] at hb;cases hb
 | dict=>rw[L2.nd] at ha;cases ha
theorem qf5(r:qj3 k A):A.units+190<cLine:=by have:=r.un;omega
def Y0(K:Fg):R2:=fun x y H Q=>rEq x y H Q\/∃ d e,Dv K H d x/\Dv K H e y/\min d.depth e.depth<=190/\Q (.bl (PyData.eqv d e)) H
def wo0(K:Fg):R2:=fun x y H Q=>rNe x y H Q\/∃ d e,Dv K H d x/\Dv K H e y/\min d.depth e.depth<=190/\Q (.bl (!PyData.eqv d e)) H
theorem R8(hu:X.A.units+190<cLine):OpR X (compareOp .Eq) (Y0 X.K):=by
 refine zu7.or ?_
 intro pins s σ H x y v u Q I rx ry h
 obtain⟨d,e,hx,hy,hz,q⟩:=h
 obtain⟨as,ra⟩:=Dv.reads I d x v hx rx
 obtain⟨bs,rb⟩:=Dv.reads I e y u hy ry
 have hroom:X.A.units+min d.depth e.depth<cLine:=Nat.lt_of_le_of_lt (Nat.add_le_add_left hz _) hu
 exact zp7 ra rb (Dv.nd d x hx) (Dv.nd e y hy) hroom X.prog X.w X.xe _ ⟨.bl _,H,I,rfl,q⟩
theorem wk4(hu:X.A.units+190<cLine):OpR X (compareOp .NotEq) (wo0 X.K):=by
 refine zu8.or ?_
 intro pins s σ H x y v u Q I rx ry h
 obtain⟨d,e,hx,hy,hz,q⟩:=h
 obtain⟨as,ra⟩:=Dv.reads I d x v hx rx
 obtain⟨bs,rb⟩:=Dv.reads I e y u hy ry
 have hroom:X.A.units+min d.depth e.depth<cLine:=Nat.lt_of_le_of_lt (Nat.add_le_add_left hz _) hu
 exact yv5 ra rb (Dv.nd d x hx) (Dv.nd e y hy) hroom X.prog X.w X.xe _ ⟨.bl _,H,I,rfl,q⟩
def E6(K:Fg):R2:=fun x y H Q=>rI0 (fun i j=>.int (i+j)) x y H Q\/(∃ i j,x=.str i/\y=.str j/\i.length+j.length<=sizeLine/\Q (.str (i++j)) H)\/zv9 x y H Q\/zl3 K x y H Q
theorem C5:OpR X (binaryOp .Add) (E6 X.K):=zo0.or (yc2.or (zo8.or ze7))
def zl5:R2:=fun x y H Q=>∃ z n,x=.str z/\y=.int n/\0<=n/\n<=1000/\z.length<=1000/\Q (.str (PySem.Txt.mul z n)) H
theorem yd6:OpR X (binaryOp .Mult) zl5:=by
 intro pins s σ H x y v u Q I rx ry h
 obtain⟨z,n,rfl,rfl,h0,h1,h2,q⟩:=h
 obtain⟨t,rfl⟩:=rx
 obtain⟨t',rfl⟩:=ry
 refine wpAny_with_toks (n:=1) I.tk (SB.mul ⟨?_,fun hn _=>?_,fun hn _=>?_⟩ fun t' k ht=>⟨.str _,H,I.tok _ ht,⟨_,rfl⟩,q⟩)
 ·rw[decide_eq_false (by omega),decide_eq_false (by omega)];rfl
 ·have e1:(2 ^ 63-1:Int) / n>=(2 ^ 63-1) / 1000:=by
   have hp:(0:Int)<n:=by omega
   apply Int.le_ediv_of_mul_le hp
   have:(2 ^ 63-1:Int) / 1000*n<=(2 ^ 63-1) / 1000*1000:=Int.mul_le_mul_of_nonneg_left h1 (by decide)
   have e:(2 ^ 63-1:Int) / 1000*1000<=2 ^ 63-1:=by decide
   omega
  have e2:(2 ^ 63-1:Int) / 1000>=1000:=by decide
  omega
 ·have:z.length*n.toNat<=1000*1000:=Nat.mul_le_mul h2 (by omega)
  have hs:sizeLine=16777216:=sizeLine_eq
  unfold Builtin.Str.tooLong
  exact decide_eq_false (by omega)
def qv6:R2:=fun x y H Q=>rI yt7 (fun i j=>.int (i*j)) x y H Q\/zl5 x y H Q\/zw0 x y H Q
theorem qk2:OpR X (binaryOp .Mult) qv6:=zo1.or (yd6.or zo9)
def Aa6:R2:=fun x y H Q=>∃ i j:Str,x=.str i/\y=.str j/\Q (.bl (decide (i.cps.toList<j.cps.toList))) H
def zw6:R2:=fun x y H Q=>∃ i j:Str,x=.str i/\y=.str j/\Q (.bl (!decide (j.cps.toList<i.cps.toList))) H
def zw7:R2:=fun x y H Q=>∃ i j:Str,x=.str i/\y=.str j/\Q (.bl (decide (j.cps.toList<i.cps.toList))) H
def zw8:R2:=fun x y H Q=>∃ i j:Str,x=.str i/\y=.str j/\Q (.bl (!decide (i.cps.toList<j.cps.toList))) H
theorem yq0:OpR X (compareOp .LtE) zw6:=by
 intro pins s σ H x y v u Q I rx ry h
 obtain⟨i,j,rfl,rfl,q⟩:=h
 obtain⟨t,rfl⟩:=rx
 obtain⟨t',rfl⟩:=ry
 exact PySem.P.le_str ⟨.bl _,H,I,rfl,q⟩
theorem yq1:OpR X (compareOp .Gt) zw7:=by
 intro pins s σ H x y v u Q I rx ry h
 obtain⟨i,j,rfl,rfl,q⟩:=h
 obtain⟨t,rfl⟩:=rx
 obtain⟨t',rfl⟩:=ry
 exact PySem.P.gt_str ⟨.bl _,H,I,rfl,q⟩
theorem yq2:OpR X (compareOp .GtE) zw8:=by
 intro pins s σ H x y v u Q I rx ry h
 obtain⟨i,j,rfl,rfl,q⟩:=h
 obtain⟨t,rfl⟩:=rx
 obtain⟨t',rfl⟩:=ry
 exact PySem.P.ge_str ⟨.bl _,H,I,rfl,q⟩
def yd7:R2:=fun x y H Q=>rI0 (fun i j=>.bl (decide (i<j))) x y H Q\/Aa6 x y H Q
def yd8:R2:=fun x y H Q=>rI0 (fun i j=>.bl (decide (i<=j))) x y H Q\/zw6 x y H Q
def wo1:R2:=fun x y H Q=>rI0 (fun i j=>.bl (decide (j<i))) x y H Q\/zw7 x y H Q
def zf6:R2:=fun x y H Q=>rI0 (fun i j=>.bl (decide (j<=i))) x y H Q\/zw8 x y H Q
theorem xc0:OpR X (compareOp .Lt) yd7:=zu9.or yo9
theorem xp5:OpR X (compareOp .LtE) yd8:=zv0.or yq0
theorem ql9:OpR X (compareOp .Gt) wo1:=zv1.or yq1
theorem zp8:OpR X (compareOp .GtE) zf6:=zv2.or yq2
def Aa7(neg:Bool):R2:=fun x y H Q=>∃ i j:Str,x=.str i/\y=.str j/\Q (.bl (if neg then !(!(Builtin.Str.occurrences j i 0 j.length 1).isEmpty) else !(Builtin.Str.occurrences j i 0 j.length 1).isEmpty)) H
def yv6(K:Fg)(neg:Bool):R2:=fun x y H Q=>rIn K neg x y H Q\/Aa7 neg x y H Q
theorem zp9:OpR X (compareOp .In) (yv6 X.K false):=yp7.or yp0
theorem yq3:OpR X (compareOp .NotIn) (yv6 X.K true):=xp0.or xp1
def xv3:R2:=fun x y H Q=>y=.non/\Q (.bl (decide (x=.non))) H
def wg6:R2:=fun x y H Q=>y=.non/\Q (.bl (!decide (x=.non))) H
theorem wk5:OpR X (compareOp .Is) xv3:=zo2
theorem qv7:OpR X (compareOp .IsNot) wg6:=ze1
def O6(K:Fg):List V->Hp->VK->Prop:=fun xs H Q=>(∃ p ys,xs=[.ref p]/\(SqL K H p ys\/SqT K H p ys)/\Q (.int ys.length) H)\/(∃ z,xs=[.str z]/\z.length<=sizeLine/\Q (.int z.length) H) \/
 ∃ a kvs,xs=[V.ref a]/\H a=some (.dK kvs)/\Q (.int kvs.length) H
theorem D2:qf3 X (.builtin "len") (O6 X.K):=xp2.or (xp3.or yp9)
def qk3(K:Fg):List V->Hp->VK->Prop:=fun xs H Q=>∃ p ys,xs=[.ref p]/\((SqL K H p ys/\∀ l,H l=none->Q (.ref l) (upd H l (.tup ys)))\/(SqT K H p ys/\Q (.ref p) H))
theorem S7:qf3 X (.type "tuple") (qk3 X.K):=xi3
def yj5:List V->Hp->VK->Prop:=fun xs H Q=>(∃ i,xs=[.int i]/\Q (.int i) H)\/∃ k,xs=[.bl k]/\Q (.int (if k then 1 else 0)) H
theorem ws3:qf3 X (.type "int") yj5:=yp1
theorem xc1:∀ {xs:List Str} {us:List Value},G0 (B6 xs) us->StrsAre us xs
 | [],_,h=>by cases h;exact .nil
 | x :: xs,_,h=>by
   have h:G0 (V.str x::B6 xs) _:=h
   cases h with
   | cons r t =>
     obtain⟨t',rfl⟩:=r
     exact .cons x t' (xc1 t)
def zl6(K:Fg):V->List V->Hp->VK->Prop:=fun x vs H Q=>∃ z p ys,x=.str z/\vs=[.ref p]/\(SqL K H p (B6 ys)\/SqT K H p (B6 ys))/\(ys.map (·.length)).sum+ys.length*z.length<=16777216/\Q (.str (PySem.Txt.join z ys)) H
theorem zf7:MtR X "str.join" (zl6 X.K):=by
 intro pins s σ H x vs v us Q I rx rv h
 obtain⟨z,p,ys,rfl,rfl,hq,hs,q⟩:=h
 obtain⟨t,rfl⟩:=rx
 obtain⟨u,rfl,ru⟩:=rv.one
 cases ru
 rcases hq with hq|hq
 ·obtain⟨its,r,pl,hz⟩:=I.list hq
  exact wpAny_with_toks (n:=1) I.tk (join_list pl.isList (by simpa using xc1 r) hs fun t' k ht=>⟨.str _,H,I.tok _ ht,⟨_,rfl⟩,q⟩)
 ·obtain⟨its,r,pl,hz⟩:=I.tuple hq
  exact wpAny_with_toks (n:=1) I.tk (join_tuple pl (by simpa using xc1 r) hs fun t' k ht=>⟨.str _,H,I.tok _ ht,⟨_,rfl⟩,q⟩)
def wc3(K:Fg)(tl:TE):TI:=fun σ H R=>tl σ H fun x H1=>∃ a,x=.ref a/\(((∃ xs,SqL K H1 a xs)/\R (Itl K a) H1)\/((∃ xs,SqT K H1 a xs)/\R (Itt K a) H1))
theorem qb9{tg l:Expr}{tl:TE}(hl:PE X l tl):PI X tg l (wc3 X.K tl):=by
 intro pins s σ H R I h
 refine thn (hl pins s σ H _ I h) fun v s1 zq=>?_
 obtain⟨x,H1,I1,r1,q1⟩:=zq
 obtain⟨a,e,q⟩:=q1
 subst e
 cases r1
 rcases q with⟨⟨xs,hq⟩,q⟩|⟨⟨xs,hq⟩,q⟩
 ·obtain⟨its,rv,p,hz⟩:=I1.list hq
  refine wpAny_pyIter_list p.isList ?_
  refine⟨s1.heap.objs.size,[s1.heap.objs.size],_,_,H1,rfl,I1.kept (t':=s1.toks) fun b o e=>Heap.get?_push_of_some _ e,yo6 a _,⟨_,Heap.get?_push_size _ rfl,rfl,rfl⟩,fun b hb=>?_,q⟩
  have e:b=s1.heap.objs.size:=by simpa using hb
  subst e
  exact I1.fpOk (Nat.le_refl _) (I1.hok.fresh (Nat.le_refl _))
 ·obtain⟨its,rv,p,hz⟩:=I1.tuple hq
  refine wpAny_pyIter_tuple (show s1.heap.IsTuple a its.toArray from p) ?_
  refine⟨s1.heap.objs.size,[s1.heap.objs.size],_,_,H1,rfl,I1.kept (t':=s1.toks) fun b o e=>Heap.get?_push_of_some _ e,yb9 a _,⟨_,Heap.get?_push_size _ rfl,rfl,rfl⟩,fun b hb=>?_,q⟩
  have e:b=s1.heap.objs.size:=by simpa using hb
  subst e
  exact I1.fpOk (Nat.le_refl _) (I1.hok.fresh (Nat.le_refl _))
theorem yv7 (h:wi σ H fun J H1=>∃ W:Nat->Nat->St->Hp->Prop,(∃ m,W 0 m σ H1)/\∀ i m σ H,W i m σ H ->
 (J.stop i H/\D.nx σ H)\/(J.go i H/\∃ N:St->Hp->Prop,(∀ σ' H',N σ' H'->∃ m',m'<m/\W (i+1) m' σ' H')/\∀ x H',J.yld i H x H'->g x σ H' fun σ2 H2=>tb {D with nx:=N,ct:=N,bk:=D.nx} σ2 H2)):qy2 wi g tb D σ H:=h
abbrev wo2(g:TG)(tb:TS)(D:qb6)(σ:St)(J:It)(H1:Hp):Prop:=∃ W:Nat->Nat->St->Hp->Prop,(∃ m,W 0 m σ H1)/\∀ i m σ H,W i m σ H ->
 (J.stop i H/\D.nx σ H)\/(J.go i H/\∃ N:St->Hp->Prop,(∀ σ' H',N σ' H'->∃ m',m'<m/\W (i+1) m' σ' H')/\∀ x H',J.yld i H x H'->g x σ H' fun σ2 H2=>tb {D with nx:=N,ct:=N,bk:=D.nx} σ2 H2)
theorem yj6(hq:SqL K H a xs\/SqT K H a xs)(Pv:Nat->St->Hp->Prop)(h0:Pv 0 σ H)(hl:SqL K H a xs->∀ i σ H,i<=xs.length->Pv i σ H->SqL K H a xs)(ht:SqT K H a xs->∀ i σ H,i<=xs.length->Pv i σ H->SqT K H a xs)(hs:∀ i x σ H,xs[i]?=some x->Pv i σ H->g x σ H fun σ2 H2=>tb {D with nx:=PAt Pv (i+1),ct:=PAt Pv (i+1),bk:=D.nx} σ2 H2)(hd:∀ σ H,Pv xs.length σ H->D.nx σ H) :
 ∃ b,V.ref a=.ref b/\(((∃ xs,SqL K H b xs)/\wo2 g tb D σ (Itl K b) H)\/((∃ xs,SqT K H b xs)/\wo2 g tb D σ (Itt K b) H)):=by
 refine⟨a,rfl,?_⟩
 rcases hq with hq|hq
 ·exact .inl ⟨⟨xs,hq⟩,xa9 Pv h0 (hl hq) hs hd⟩
 ·exact .inr ⟨⟨xs,hq⟩,xo5 Pv h0 (ht hq) hs hd⟩
theorem xv4{n:Int}(h0:0<=n)(hn:n<2 ^ 62)(Pv:Nat->St->Hp->Prop)(p0:Pv 0 σ H)(hs:∀ (i:Nat) σ H,(i:Int)<n->Pv i σ H->g (.int i) σ H fun σ2 H2=>tb {D with nx:=PAt Pv (i+1),ct:=PAt Pv (i+1),bk:=D.nx} σ2 H2)(hd:∀ σ H,Pv n.toNat σ H->D.nx σ H) :
 ∃ j:Int,[V.int n]=[.int j]/\-(2 ^ 62)<=j/\j<2 ^ 62/\wo2 g tb D σ (Itr 0 j.toNat) H :=
 ⟨n,rfl,by omega,hn,xl0 (lo:=0) (n:=n.toNat) Pv p0 (fun i σ H hi p=>by rw[Int.zero_add];exact hs i σ H (by omega) p) hd⟩
theorem yv8{lo hi:Int}(h1:-(2 ^ 62)<=lo)(h2:lo<=hi)(h3:hi<2 ^ 62)(Pv:Nat->St->Hp->Prop)(p0:Pv 0 σ H)(hs:∀ (i:Nat) σ H,lo+i<hi->Pv i σ H->g (.int (lo+i)) σ H fun σ2 H2=>tb {D with nx:=PAt Pv (i+1),ct:=PAt Pv (i+1),bk:=D.nx} σ2 H2)(hd:∀ σ H,Pv (hi-lo).toNat σ H->D.nx σ H) :
 ∃ i j:Int,[V.int lo,V.int hi]=[.int i,.int j]/\(-(2 ^ 62)<=i/\i<2 ^ 62/\-(2 ^ 62)<=j/\j<2 ^ 62)/\wo2 g tb D σ (Itr i (j-i).toNat) H :=
 ⟨lo,hi,rfl,⟨h1,by omega,by omega,h3⟩,xl0 (lo:=lo) (n:=(hi-lo).toNat) Pv p0 (fun i σ H hi p=>hs i σ H (by omega) p) hd⟩
abbrev wi7(g:TG)(tt:TT)(te:TE)(σ':St)(Q:VK)(J:It)(H1:Hp):Prop:=∃ W:Nat->Nat->List V->Hp->Prop,(∃ m,W 0 m [] H1)/\∀ i m ys H,W i m ys H->ys.length<=sizeLine /\
 ((J.stop i H/\∀ p,H p=none->Q (.ref p) (upd H p (.lst ys))) \/
  (J.go i H/\∃ NN:List V->Hp->Prop,(∀ ys' H',NN ys' H'->∃ m',m'<m/\W (i+1) m' ys' H')/\∀ x H',J.yld i H x H'->g x σ' H' fun σ2 H2=>tt σ2 H2 fun b H3 =>
   if b=true then te σ2 H3 fun y H4=>NN (ys++[y]) H4 else NN ys H3))
theorem zf8{Q:VK}(h:wi σ H (wi7 g tt te (wd6 fr σ) Q)):wa9 fr wi g tt te σ H Q:=h
variable{σ':St}
theorem wz8{Q:VK}(item:Nat->V->Prop)(Pv:Nat->List V->Hp->Prop)(h0:Pv 0 [] H)(hlen:∀ i ys H,i<=n->Pv i ys H->ys.length<=sizeLine)(hgo:∀ i ys H,i<n->Pv i ys H->J.go i H)(hy:∀ i ys H x H',i<n->Pv i ys H->J.yld i H x H'->H'=H/\item i x)(hst:∀ ys H,Pv n ys H->J.stop n H)(hs:∀ i x ys H,i<n->item i x->Pv i ys H->g x σ' H fun σ2 H2=>tt σ2 H2 fun b H3=>if b=true then te σ2 H3 fun y H4=>PAt Pv (i+1) (ys++[y]) H4 else PAt Pv (i+1) ys H3)(hd:∀ ys H,Pv n ys H->∀ p,H p=none->Q (.ref p) (upd H p (.lst ys))):wi7 g tt te σ' Q J H:=by
 refine⟨fun i m ys H=>m=n-i/\i<=n/\Pv i ys H,⟨n,by simp,Nat.zero_le _,h0⟩,?_⟩
 rintro i m ys H ⟨rfl,hi,p⟩
 refine⟨hlen i ys H hi p,?_⟩
 by_cases hlt:i<n
 ·refine .inr ⟨hgo i ys H hlt p,Pv (i+1),fun ys' H' q=>⟨n-(i+1),by omega,rfl,hlt,q⟩,fun x H' y=>?_⟩
  obtain⟨rfl,hx⟩:=hy i ys H x H' hlt p y
  exact hs i x ys _ hlt hx p
 ·have e:i=n:=by omega
  subst e
  exact .inl ⟨hst ys H p,hd ys H p⟩
theorem xv5{Q:VK}(hq:SqL K H a xs\/SqT K H a xs)(Pv:Nat->List V->Hp->Prop)(h0:Pv 0 [] H)(hlen:∀ i ys H,i<=xs.length->Pv i ys H->ys.length<=sizeLine)(hl:SqL K H a xs->∀ i ys H,i<=xs.length->Pv i ys H->SqL K H a xs)(ht:SqT K H a xs->∀ i ys H,i<=xs.length->Pv i ys H->SqT K H a xs)(hs:∀ i x ys H,xs[i]?=some x->Pv i ys H->g x σ' H fun σ2 H2=>tt σ2 H2 fun b H3=>if b=true then te σ2 H3 fun y H4=>PAt Pv (i+1) (ys++[y]) H4 else PAt Pv (i+1) ys H3)(hd:∀ ys H,Pv xs.length ys H->∀ p,H p=none->Q (.ref p) (upd H p (.lst ys))) :
 ∃ b,V.ref a=.ref b/\(((∃ xs,SqL K H b xs)/\wi7 g tt te σ' Q (Itl K b) H)\/((∃ xs,SqT K H b xs)/\wi7 g tt te σ' Q (Itt K b) H)):=by
 refine⟨a,rfl,?_⟩
 have get:∀ i,i<xs.length->∃ x,xs[i]?=some x:=fun i hi=>⟨xs[i],by simp[hi]⟩
 rcases hq with hq|hq
 ·refine .inl ⟨⟨xs,hq⟩,wz8 (n:=xs.length) (fun i x=>xs[i]?=some x) Pv h0 hlen (fun i ys H hi p=>?_) (fun i ys H x H' hi p y=>?_) (fun ys H p=>?_) (fun i x ys H _ hx p=>hs i x ys H hx p) hd⟩
  ·obtain⟨x,hx⟩:=get i hi
   exact⟨xs,x,hl hq i ys H (Nat.le_of_lt hi) p,hx⟩
  ·exact⟨y.1,y.2 xs (hl hq i ys H (Nat.le_of_lt hi) p)⟩
  ·exact⟨xs,hl hq _ ys H (Nat.le_refl _) p,Nat.le_refl _⟩
 ·refine .inr ⟨⟨xs,hq⟩,wz8 (n:=xs.length) (fun i x=>xs[i]?=some x) Pv h0 hlen (fun i ys H hi p=>?_) (fun i ys H x H' hi p y=>?_) (fun ys H p=>?_) (fun i x ys H _ hx p=>hs i x ys H hx p) hd⟩
  ·obtain⟨x,hx⟩:=get i hi
   exact⟨xs,x,ht hq i ys H (Nat.le_of_lt hi) p,hx⟩
  ·exact⟨y.1,y.2 xs (ht hq i ys H (Nat.le_of_lt hi) p)⟩
  ·exact⟨xs,ht hq _ ys H (Nat.le_refl _) p,Nat.le_refl _⟩
theorem xl9{Q:VK}(hq:SqL K H a xs)(Pv:Nat->List V->Hp->Prop)(h0:Pv 0 [] H)(hlen:∀ i ys H,i<=xs.length->Pv i ys H->ys.length<=sizeLine)(hl:∀ i ys H,i<=xs.length->Pv i ys H->SqL K H a xs)(hs:∀ i x ys H,xs[i]?=some x->Pv i ys H->g x σ' H fun σ2 H2=>tt σ2 H2 fun b H3=>if b=true then te σ2 H3 fun y H4=>PAt Pv (i+1) (ys++[y]) H4 else PAt Pv (i+1) ys H3)(hd:∀ ys H,Pv xs.length ys H->∀ p,H p=none->Q (.ref p) (upd H p (.lst ys))) :
 ∃ b,V.ref a=.ref b/\(((∃ xs,SqL K H b xs)/\wi7 g tt te σ' Q (Itl K b) H)\/((∃ xs,SqT K H b xs)/\wi7 g tt te σ' Q (Itt K b) H)):=by
 refine⟨a,rfl,.inl ⟨⟨xs,hq⟩,wz8 (n:=xs.length) (fun i x=>xs[i]?=some x) Pv h0 hlen (fun i ys H hi p=>?_) (fun i ys H x H' hi p y=>?_) (fun ys H p=>?_) (fun i x ys H _ hx p=>hs i x ys H hx p) hd⟩⟩
 ·exact⟨xs,xs[i],hl i ys H (Nat.le_of_lt hi) p,by simp[hi]⟩
 ·exact⟨y.1,y.2 xs (hl i ys H (Nat.le_of_lt hi) p)⟩
 ·exact⟨xs,hl _ ys H (Nat.le_refl _) p,Nat.le_refl _⟩
theorem wd7(hq:SqL K H a xs)(Pv:Nat->St->Hp->Prop)(h0:Pv 0 σ H)(hl:∀ i σ H,i<=xs.length->Pv i σ H->SqL K H a xs)(hs:∀ i x σ H,xs[i]?=some x->Pv i σ H->g x σ H fun σ2 H2=>tb {D with nx:=PAt Pv (i+1),ct:=PAt Pv (i+1),bk:=D.nx} σ2 H2)(hd:∀ σ H,Pv xs.length σ H->D.nx σ H) :
 ∃ b,V.ref a=.ref b/\(((∃ xs,SqL K H b xs)/\wo2 g tb D σ (Itl K b) H)\/((∃ xs,SqT K H b xs)/\wo2 g tb D σ (Itt K b) H)) :=
 ⟨a,rfl,.inl ⟨⟨xs,hq⟩,xa9 Pv h0 hl hs hd⟩⟩
section
variable{Q:VK}
theorem qc0{t u:TS}(h:t {D with nx:=u D} σ H):C1 t u D σ H:=h
theorem yj7(h:D.nx σ H):M7 D σ H:=h
theorem yv9(h:te σ H fun x H1=>g x σ H1 D.nx):E3 te g D σ H:=h
theorem M4{i:Nat}{R:St->Hp->Prop}(h:R (σ.set i (some v)) H):B2 i v σ H R:=h
theorem qu4{i:Nat}(e:σ[i]?=some (some v))(h:Q v H):A2 i σ H Q:=⟨v,e,h⟩
theorem zq0(h:Q v H):tC v σ H Q:=h
theorem yj8{r:R2}{tb:TE}(h:ta σ H fun x H1=>tb σ H1 fun y H2=>r x y H2 Q):tOp r ta tb σ H Q:=h
theorem zw9{r:V->Hp->VK->Prop}(h:ta σ H fun x H1=>r x H1 Q):tUn r ta σ H Q:=h
theorem zq1(h:te σ H D.rt):M3 te D σ H:=h
theorem zf9(h:D.rt .non H):yi0 D σ H:=h
theorem zg0(h:te σ H fun _ H1=>D.nx σ H1):I9 te D σ H:=h
theorem xm0{c:TT}{t u:TS}(h:c σ H fun b H1=>if b=true then t D σ H1 else u D σ H1):P7 c t u D σ H:=h
theorem zq2{c:TT}{tb:TE}(h:c σ H fun b H1=>if b=true then ta σ H1 Q else tb σ H1 Q):tIf c ta tb σ H Q:=h
theorem yj9{t:TE}{R:Bool->Hp->Prop}(h:t σ H fun x H'=>∃ k,x=.bl k/\R k H'):E4 t σ H R:=h
theorem yw0{t:TE}{R:Bool->Hp->Prop}(h:t σ H fun x H'=>∃ k,x=.bl k/\R k H'):tB t σ H R:=h
theorem xc2{b:Bool}{R:Bool->Prop}(h:R b):∃ k,V.bl b=.bl k/\R k:=⟨b,rfl,h⟩
theorem yw1{t u:TT}{R:Bool->Hp->Prop}(h:t σ H fun c H1=>if c=true then u σ H1 R else R false H1):wn0 t u σ H R:=h
theorem zx0{t u:TT}{R:Bool->Hp->Prop}(h:t σ H fun c H1=>if c=true then R true H1 else u σ H1 R):tOr t u σ H R:=h
theorem zq3{t:TT}{R:Bool->Hp->Prop}(h:t σ H fun c H1=>R (!c) H1):yo3 t σ H R:=h
theorem zg1{tb:TE}(h:ta σ H fun x H1=>∃ c,x=.bl c/\if c=true then tb σ H1 Q else Q (.bl false) H1):xu3 ta tb σ H Q:=h
theorem yk0(h:ta σ H fun x H1=>∃ c,x=.bl c/\Q (.bl (!c)) H1):yh9 ta σ H Q:=h
theorem zq4{R:List V->Hp->Prop}(h:R [] H):A9 σ H R:=h
theorem zg2{tr:TA}{R:List V->Hp->Prop}(h:ta σ H fun x H1=>tr σ H1 fun xs H2=>R (x::xs) H2):A1 ta tr σ H R:=h
theorem zq5(h:t σ H fun xs H1=>xs.length<=sizeLine/\∀ p,H1 p=none->Q (.ref p) (upd H1 p (.tup xs))):Q3 t σ H Q:=h
theorem zq6(h:t σ H fun xs H1=>xs.length<=sizeLine/\∀ p,H1 p=none->Q (.ref p) (upd H1 p (.lst xs))):X6 t σ H Q:=h
theorem zg3{E:XK}(h:t σ H fun vs H1=>sp (vs++dvs) H1 Q E):D1 sp dvs E t σ H Q:=h
theorem zx1{r:List V->Hp->VK->Prop}(h:t σ H fun vs H1=>r vs H1 Q):tCB r t σ H Q:=h
theorem zx2{R:Bool->Hp->Prop}(h:R true H):tTT σ H R:=h
theorem yw2(h:D.bk σ H):yb6 D σ H:=h
theorem yw3{tl:TE}(h:tl σ H fun x H1=>∃ a,x=.ref a/\(((∃ xs,SqL K H1 a xs)/\R (Itl K a) H1)\/((∃ xs,SqT K H1 a xs)/\R (Itt K a) H1))):wc3 K tl σ H R:=h
theorem zg4{ta:TA}(h:ta σ H fun vs H1=>∃ j:Int,vs=[.int j]/\-(2 ^ 62)<=j/\j<2 ^ 62/\R (Itr 0 j.toNat) H1):yi2 ta σ H R:=h
theorem zg5{ta:TA}(h:ta σ H fun vs H1=>∃ i j:Int,vs=[.int i,.int j]/\(-(2 ^ 62)<=i/\i<2 ^ 62/\-(2 ^ 62)<=j/\j<2 ^ 62)/\R (Itr i (j-i).toNat) H1):yt5 ta σ H R:=h
theorem zq7{t:yt3}{R:St->Hp->Prop}(h:to σ H fun o H1=>ti σ H1 fun i H2=>t o i v H2 fun H3=>R σ H3):yt4 to ti t v σ H R:=h
theorem zx3{r:V->List V->Hp->VK->Prop}(h:to σ H fun x H1=>tyV K T x H1/\t σ H1 fun xs H2=>r x xs H2 Q):tBM K T r to t σ H Q:=h
theorem yw4{r r':R2}{tb:TE}(h:ta σ H fun x H1=>tb σ H1 fun y H2=>r x y H2 fun z H3=>∃ k,z=.bl k/\(if k=true then tc σ H3 fun w' H4=>r' y w' H4 Q else Q (.bl false) H3)):xb0 r r' ta tb tc σ H Q:=h
end
variable{z:Str}
section
variable{Q:VK}
theorem xp6(h:Q (.int (i+j)) H):E6 K (.int i) (.int j) H Q:=.inl ⟨i,j,rfl,rfl,h⟩
theorem O3{i j:Str}(hz:i.length+j.length<=sizeLine)(h:Q (.str (i++j)) H):E6 K (.str i) (.str j) H Q:=.inr (.inl ⟨i,j,rfl,rfl,hz,h⟩)
theorem yw5(h1:H a=some (.lst xs))(h2:H b=some (.lst ys))(hz:xs.length+ys.length<=sizeLine)(h:∀ p,H p=none->Q (.ref p) (upd H p (.lst (xs++ys)))):E6 K (.ref a) (.ref b) H Q:=.inr (.inr (.inl ⟨a,b,xs,ys,rfl,rfl,h1,h2,hz,h⟩))
theorem zq8(h:Q (.int (i-j)) H):rI0 (fun i j=>.int (i-j)) (.int i) (.int j) H Q:=⟨i,j,rfl,rfl,h⟩
theorem wd8(c:yt7 i j)(h:Q (.int (i*j)) H):qv6 (.int i) (.int j) H Q:=.inl ⟨i,j,rfl,rfl,c,h⟩
theorem yw6{n:Int}(h0:0<=n)(h1:n<=1000)(h2:z.length<=1000)(h:Q (.str (PySem.Txt.mul z n)) H):qv6 (.str z) (.int n) H Q:=.inr (.inl ⟨z,n,rfl,rfl,h0,h1,h2,h⟩)
theorem zq9(c:xo6 i j)(h:Q (.int (i / j)) H):rI xo6 (fun i j=>.int (i / j)) (.int i) (.int j) H Q:=⟨i,j,rfl,rfl,c,h⟩
theorem yk1(c:0<j)(h:Q (.int (i % j)) H):rI (fun _ j=>0<j) (fun i j=>.int (i % j)) (.int i) (.int j) H Q:=⟨i,j,rfl,rfl,c,h⟩
theorem zx4(h:Q (.bl (decide (i<j))) H):yd7 (.int i) (.int j) H Q:=.inl ⟨i,j,rfl,rfl,h⟩
theorem zx5(h:Q (.bl (decide (i<=j))) H):yd8 (.int i) (.int j) H Q:=.inl ⟨i,j,rfl,rfl,h⟩
theorem zx6(h:Q (.bl (decide (j<i))) H):wo1 (.int i) (.int j) H Q:=.inl ⟨i,j,rfl,rfl,h⟩
theorem zl7(h:Q (.bl (decide (j<=i))) H):zf6 (.int i) (.int j) H Q:=.inl ⟨i,j,rfl,rfl,h⟩
theorem zl8{i j:Str}(h:Q (.bl (!decide (j.cps.toList<i.cps.toList))) H):yd8 (.str i) (.str j) H Q:=.inr ⟨i,j,rfl,rfl,h⟩
theorem xv6{x:V}(c:ze0 x y=true)(h:Q (.bl (decide (x=y))) H):Y0 K x y H Q:=.inl ⟨c,h⟩
theorem zx7{x:V}(c:ze0 x y=true)(h:Q (.bl (!decide (x=y))) H):wo0 K x y H Q:=.inl ⟨c,h⟩
theorem zl9{x:V}{e:PyData}(h1:Dv K H d x)(h2:Dv K H e y)(hz:min d.depth e.depth<=190)(h:Q (.bl (PyData.eqv d e)) H):Y0 K x y H Q:=.inr ⟨d,e,h1,h2,hz,h⟩
theorem zx8{x:V}{e:PyData}(h1:Dv K H d x)(h2:Dv K H e y)(hz:min d.depth e.depth<=190)(h:Q (.bl (!PyData.eqv d e)) H):wo0 K x y H Q:=.inr ⟨d,e,h1,h2,hz,h⟩
theorem Aa8{x:V}(h:Q (.bl (decide (x=.non))) H):xv3 x .non H Q:=⟨rfl,h⟩
theorem zg6{x:V}(h:Q (.bl (!decide (x=.non))) H):wg6 x .non H Q:=⟨rfl,h⟩
theorem M5(h1:SqL K H p xs)(e:atI xs i=some v)(h:Q v H):rIx K (.ref p) (.int i) H Q:=.inl ⟨p,xs,i,v,rfl,rfl,h1,e,h⟩
theorem U7(h1:SqT K H p xs)(e:atI xs i=some v)(h:Q v H):rIx K (.ref p) (.int i) H Q:=.inr (.inl ⟨p,xs,i,v,rfl,rfl,h1,e,h⟩)
theorem zm0{c:Nat}(hz:z.length<=sizeLine)(e:atI z.cps.toList i=some c)(h:Q (.str ⟨#[c]⟩) H):rIx K (.str z) (.int i) H Q:=.inr (.inr ⟨z,i,c,rfl,rfl,hz,e,h⟩)
theorem xv7{x:V}(h1:SqL K H p xs\/SqT K H p xs)(fx:qv5 x=true)(fs:xs.all qv5=true)(h:Q (.bl (inV x xs)) H):yv6 K false x (.ref p) H Q:=.inl ⟨p,xs,rfl,h1,fx,fs,h⟩
theorem yk2{x:V}(h1:SqL K H p xs\/SqT K H p xs)(fx:qv5 x=true)(fs:xs.all qv5=true)(h:Q (.bl (!inV x xs)) H):yv6 K true x (.ref p) H Q:=.inl ⟨p,xs,rfl,h1,fx,fs,h⟩
theorem T5(h1:SqL K H p xs\/SqT K H p xs)(h:Q (.int xs.length) H):O6 K [.ref p] H Q:=.inl ⟨p,xs,rfl,h1,h⟩
theorem wk6(hz:z.length<=sizeLine)(h:Q (.int z.length) H):O6 K [.str z] H Q:=.inr (.inl ⟨z,rfl,hz,h⟩)
theorem yd9{k:Int}{j:Nat}{R:Hp->Prop}(h1:H p=some (.lst xs))(e:ixN xs.length k=some j)(h:R (upd H p (.lst (xs.set j v)))):yu6 (.ref p) (.int k) v H R:=⟨p,xs,k,j,rfl,rfl,h1,e,h⟩
theorem L0(h1:H p=some (.lst xs))(hz:xs.length<sizeLine)(h:Q .non (upd H p (.lst (xs++[y])))):J4 (.ref p) [y] H Q:=⟨p,xs,y,rfl,rfl,h1,hz,h⟩
end
def Itv(n:Nat):It:=⟨fun i _=>i<n,fun i H x H'=>H'=H/\x=.int ((n:Int)-1-i),fun i _=>n<=i⟩
theorem yw7{tg:Expr}(it:Addr)(n:Nat):xa7 P w K tg (Itv n) [it] it (fun i h=>IsRangeIter h it ((n:Int)-1+(i:Nat)*(-1)) ((n:Int)-(i:Nat)) (-1)) where
 mem:=by simp
 obj:=fun i h st b hb=>by
  have e:b=it:=by simpa using hb
  subst e
  exact⟨_,st,fun v z=>by
   have z':Data.fields _=Data.cell v:=z
   cases z'⟩
 keep:=fun i h h' st k=>k it (by simp) _ st
 item:=by
  intro X hP hw hK hc i pins s σ H E I hf st hg
  subst hP hw hK
  obtain⟨f0,f1,f2,f3,f4,f5⟩:=hf it (by simp)
  have W:=Walks.range (prog:=X.prog) (w:=X.w) (I.ok.hd hc) it ((n:Int)-1) (-1) n
  refine wpAny_with_toks (n:=1) I.tk (W.item i s _ _ hg st fun v h' tk hv st' kk ht=>?_)
  have ht:0<tk:=ht
  obtain⟨t,rfl⟩:=hv
  have I1:Inv X pins σ H {s with heap:=h',toks:=tk}:=I.turned (fun b o hb e=>kk b o (by simpa using hb) e) f0 f1 f3 f4 f5
  refine⟨_,rfl,xk8 (s:={s with heap:=h',toks:=tk}) (n := "range_iterator") st' rfl rfl (by decide) ⟨.int ((n:Int)-1-i),H,I1,⟨t,?_⟩,⟨rfl,rfl⟩,st',fun b hb=>(hf b hb).1⟩⟩
  have e:(n:Int)-1+(i:Int)*(-1)=(n:Int)-1-i:=by omega
  rw[e]
 done:=by
  intro X hP hw hK hc i pins s σ H E I hf st hg
  subst hP hw hK
  obtain⟨f0,f1,f2,f3,f4,f5⟩:=hf it (by simp)
  exact wpAny_pyNext_range_end (I.ok.hd hc) st (by have:n<=i:=hg;omega) fun h' eb=>⟨rfl,I.turned (t':=s.toks) (fun b o hb e=>eb b o hb e) f0 f1 f3 f4 f5⟩
 self:=fun _ _ _ _ _ st h=>wpAny_pyIter_rangeiter st h
theorem zg7(hn:(n:Int)<2 ^ 62)(Pv:Nat->St->Hp->Prop)(p0:Pv 0 σ H)(hs:∀ (i:Nat) σ H,i<n->Pv i σ H->g (.int ((n:Int)-1-i)) σ H fun σ2 H2=>tb {D with nx:=PAt Pv (i+1),ct:=PAt Pv (i+1),bk:=D.nx} σ2 H2)(hd:∀ σ H,Pv n σ H->D.nx σ H) :
 ∃ m:Nat,[V.int n]=[.int m]/\(m:Int)<2 ^ 62/\wo2 g tb D σ (Itv m) H:=by
 refine⟨n,rfl,hn,fun i m σ H=>m=n-i/\i<=n/\Pv i σ H,⟨n,by simp,Nat.zero_le _,p0⟩,?_⟩
 rintro i m σ H ⟨rfl,hi,p⟩
 by_cases hlt:i<n
 ·refine .inr ⟨hlt,Pv (i+1),fun σ' H' p'=>⟨n-(i+1),by omega,rfl,hlt,p'⟩,fun x H' y=>?_⟩
  obtain⟨e,y⟩:=y
  subst e y
  exact hs i σ _ hlt p
 ·have e:i=n:=by omega
  subst e
  exact .inl ⟨Nat.le_refl _,hd σ H p⟩
def yk3:yt3:=fun o i v H Q=>yu6 o i v H Q\/∃ a H',o=.ref a/\zw4 H a i v H'/\Q H'
theorem xc3(hu:X.A.units+1<cLine):zn8 X yk3:=by
 intro pins s σ H o i v ov iv u Q I ro ri rv h
 rcases h with h|⟨a,H',rfl,g,q⟩
 ·exact yu7 pins s σ H o i v ov iv u Q I ro ri rv h
 ·cases ro
  exact yp8 hu I g ri rv fun s' I'=>⟨H',I',q⟩
def L7(K:Fg):R2:=rIx K
theorem B7(hu:X.A.units+1<cLine):IxR X (L7 X.K):=zo6
def Aa9(neg:Bool):R2:=fun x y H Q=>∃ a o,y=.ref a/\zp0 H a x o/\Q (.bl (if neg then !o.isSome else o.isSome)) H
def xc4(K:Fg)(neg:Bool):R2:=fun x y H Q=>yv6 K neg x y H Q\/Aa9 neg x y H Q
theorem wk7(hu:X.A.units+1<cLine):OpR X (compareOp .In) (xc4 X.K false):=by
 refine zp9.or ?_
 intro pins s σ H x y v u Q I rx ry h
 obtain⟨a,o,rfl,g,q⟩:=h
 cases ry
 exact Aa5 hu I g rx fun s' I'=>⟨.bl o.isSome,H,I',rfl,q⟩
theorem xm1(hu:X.A.units+1<cLine):OpR X (compareOp .NotIn) (xc4 X.K true):=by
 refine yq3.or ?_
 intro pins s σ H x y v u Q I rx ry h
 obtain⟨a,o,rfl,g,q⟩:=h
 cases ry
 exact zf4 hu I g rx fun s' I'=>⟨.bl (!o.isSome),H,I',rfl,q⟩
def ye0(K:Fg):List V->Hp->VK->Prop:=fun xs H Q=>(∃ (x:V) (T:String) (t:Value) (b:Bool),xs=[x,.ty T]/\wn2 K H x t/\PySem.W.kitOne K t (.type T)=some b/\Q (.bl b) H) \/
 ∃ (a:Addr) (ys:List V) (T:String) (b:Bool),xs=[.ref a,.ty T]/\SqT K H a ys/\PySem.W.kitOne K (.type "tuple") (.type T)=some b/\Q (.bl b) H
theorem qj4:qf3 X (.builtin "isinstance") (ye0 X.K):=by
 intro pins s σ H xs us Q I r h
 rcases h with⟨x,T,t,b,rfl,ty,e,q⟩|⟨a,ys,T,b,rfl,hq,e,q⟩
 ·obtain⟨u,w',rfl,r1,r2⟩:=xu6 r
  cases r2
  exact wpAny_with_toks (n:=1) I.tk (yp4 I r1 ty e fun tk ht=>⟨.bl b,H,I.tok _ ht,rfl,q⟩)
 ·obtain⟨u,w',rfl,r1,r2⟩:=xu6 r
  cases r2
  cases r1
  obtain⟨its,rv,pl,hz⟩:=I.tuple hq
  obtain⟨o,h1,h2,_⟩:=pl
  exact wpAny_with_toks (n:=1) I.tk (PySem.W.kia_one PySem.W.kitx_tuple I.kIn ⟨o,h1,h2⟩ e (fun z=>nomatch z) fun tk ht=>⟨.bl b,H,I.tok _ ht,rfl,q⟩)
theorem zx9{Q:VK}{x:V}{t:Value}{b:Bool}(ty:wn2 K H x t)(e:PySem.W.kitOne K t (.type T)=some b)(h:Q (.bl b) H):ye0 K [x,.ty T] H Q:=.inl ⟨x,T,t,b,rfl,ty,e,h⟩
theorem zr0{Q:VK}{b:Bool}(hq:SqT K H a ys)(e:PySem.W.kitOne K (.type "tuple") (.type T)=some b)(h:Q (.bl b) H):ye0 K [.ref a,.ty T] H Q:=.inr ⟨a,ys,T,b,rfl,hq,e,h⟩
example (K:Fg):PySem.W.kitOne K (.type "str") (.type "str")=some true:=by rfl
example (K:Fg):PySem.W.kitOne K (.type "bool") (.type "int")=some true:=by rfl
example (K:Fg):PySem.W.kitOne K (.type "int") (.type "bool")=some false:=by rfl
example (K:Fg):PySem.W.kitOne K (.type "list") (.type "list")=some true:=by rfl
section
variable{σ:List (Option V)}
theorem Inv.turnLaid{ch:List Addr}(I:Inv X pins σ H s)(hf:∀ b∈ch,xi1 X pins H b)(k:∀ b u,b∉ch->s.heap.get? b=some u->h'.get? b=some u)(hp:s.heap.objs.size<=a)(new:U6 X.prog X.w (upd H a o) h' a o)(ht:0<t') :
 Inv X pins σ (upd H a o) {s with heap:=h',toks:=t'}:=by
 have hn:H a=none:=I.hok.fresh hp
 have nit:∀ b u,H b=some u->b∉ch:=fun b u e z=>by rw[(hf b z).1] at e;cases e
 have up:∀ {b:Addr} {u:HO},H b=some u->upd H a o b=some u:=fun{b u} e=>by rw[B4 (U8 e hn)];exact e
 have neA:∀ b u,s.heap.get? b=some u->b≠a:=fun b u e=>Nat.ne_of_lt (Nat.lt_of_lt_of_le (Heap.lt_size e) hp)
 refine I.step (g':=s.gens) (d':=s.drawn) (ch:=ch) (fun b hb=>?_) (fun b u _ _ hc e _=>k b u hc e) (fun b u _ _ hc e _=>⟨u.slots,k b u hc e⟩) (fun b u _ e n=>by rw[B4 (neA b u e)];exact n)
  (fun b u hc e=>⟨u,k b u hc e⟩) (fun _ _ e=>up e) (fun _ _ _ e=>up e) (fun b ps e=>⟨#[],by rw[up e];simp⟩) (fun m hm=>?_) (fun b u e=>?_) I.bare ht
 ·obtain⟨f0,f1,f2,f3,f4,f5⟩:=hf b hb
  exact⟨f3,f1,f4,f5⟩
 ·obtain⟨ob,es,ep,ho,r⟩:=hm
  exact⟨ob,es,ep,k _ ob (fun z=>(hf _ z).2.1 rfl) ho,r⟩
 ·by_cases hb:b=a
  ·subst hb;rw[A5] at e;cases e;exact new
  ·rw[B4 hb] at e
   refine(I.hok b u e).stay (fun c v hc q=>k c v ?_ q) (fun _ q=>up q) fun _ _ q=>up q
   rcases hc with z|z
   ·rw[z];exact nit b u e
   ·exact nit c _ z
end
def Itx(n:Nat)(V':Nat->V->Prop):It:=⟨fun i _=>i<n,fun i H x H'=>H'=H/\V' i x,fun i _=>n<=i⟩
theorem ye1{tg:Expr}{Pv:Nat->Value->Prop}{St:Nat->Heap->Prop}{V':Nat->V->Prop}{vs:Nat->Array Value}(W:∀ A:Around,A.handled=none->Walks P w A it [it] [it] n Pv St)(hV:∀ i v,Pv i v->∃ x,J8 x v/\V' i x)(hO:∀ i h,St i h->∃ o,h.get? it=some o/\o.cls=.type T/\o.data=.fields (vs i))(hT:["enumerate","zip","dict_itemiterator","dict_reverseitemiterator","odict_iterator","itertools.zip_longest","itertools.pairwise"].contains T=false)(hS:∀ (A:Around) (i:Nat) (s:Shared) (Q:Value->Shared->Prop) (E:Value->Shared->Prop),St i s.heap->Q (.ref it) s->wpAny (model P w) A (pyIter (.ref it)) Q E s) :
 xa7 P w K tg (Itx n V') [it] it (fun i h=>i<=n/\St i h) where
 mem:=by simp
 obj:=fun i h st b hb=>by
  have e:b=it:=by simpa using hb
  subst e
  obtain⟨o,e,_,d⟩:=hO i h st.2
  exact⟨o,e,fun v z=>by rw[d] at z;cases z⟩
 keep:=fun i h h' st k=>⟨st.1,(W {} rfl).frame i h h' st.2 k⟩
 item:=by
  intro X hP hw hK hc i pins s σ H E I hf st hg
  subst hP hw hK
  obtain⟨f0,f1,f2,f3,f4,f5⟩:=hf it (by simp)
  refine wpAny_with_toks (n:=1) I.tk ((W X.A (I.ok.hd hc)).item i s _ _ hg st.2 fun v h' tk hv st' kk ht=>?_)
  have ht:0<tk:=ht
  obtain⟨x,rx,vx⟩:=hV i v hv
  have I1:Inv X pins σ H {s with heap:=h',toks:=tk}:=I.turned (fun b o hb e=>kk b o (by simpa using hb) e) f0 f1 f3 f4 f5
  obtain⟨o,e,c,d⟩:=hO _ _ st'
  exact⟨v,rfl,xk8 (s:={s with heap:=h',toks:=tk}) e c d hT ⟨x,H,I1,rx,⟨rfl,vx⟩,⟨hg,st'⟩,fun b hb=>(hf b hb).1⟩⟩
 done:=by
  intro X hP hw hK hc i pins s σ H E I hf st hg
  subst hP hw hK
  obtain⟨f0,f1,f2,f3,f4,f5⟩:=hf it (by simp)
  have hi:i=n:=Nat.le_antisymm st.1 hg
  subst hi
  exact wpAny_with_toks (n:=1) I.tk ((W X.A (I.ok.hd hc)).done s _ _ st.2 fun h' tk eb ht=>⟨rfl,I.turned (fun b o hb e=>eb b o (by simpa using hb) e) f0 f1 f3 f4 f5 ht⟩)
 self:=fun A i s Q E st h=>hS A i s Q E st.2 h
section
variable{σ:List (Option V)}
theorem Inv.turnedL{ch:List Addr}(I:Inv X pins σ H s)(hf:∀ b∈ch,xi1 X pins H b)(k:∀ b u,b∉ch->s.heap.get? b=some u->h'.get? b=some u)(ht:0<t') :
 Inv X pins σ H {s with heap:=h',toks:=t'}:=by
 have nit:∀ b u,H b=some u->b∉ch:=fun b u e z=>by rw[(hf b z).1] at e;cases e
 refine I.step (g':=s.gens) (d':=s.drawn) (ch:=ch) (fun b hb=>?_) (fun b u _ _ hc e _=>k b u hc e) (fun b u _ _ hc e _=>⟨u.slots,k b u hc e⟩) (fun _ _ _ _ n=>n)
  (fun b u hc e=>⟨u,k b u hc e⟩) (fun _ _ e=>e) (fun _ _ _ e=>e) (fun b ps e=>⟨#[],by rw[e];simp⟩) (fun m hm=>?_) (fun b u e=>?_) I.bare ht
 ·obtain⟨f0,f1,f2,f3,f4,f5⟩:=hf b hb
  exact⟨f3,f1,f4,f5⟩
 ·obtain⟨ob,es,ep,ho,r⟩:=hm
  exact⟨ob,es,ep,k _ ob (fun z=>(hf _ z).2.1 rfl) ho,r⟩
 ·refine(I.hok b u e).stay (fun c v hc q=>k c v ?_ q) (fun _ q=>q) fun _ _ q=>q
  rcases hc with z|z
  ·rw[z];exact nit b u e
  ·exact nit c _ z
end
def Itp(n:Nat)(V':Nat->List V->Prop):It:=⟨fun i _=>i<n,fun i H x H'=>∃ p xs,x=.ref p/\H p=none/\V' i xs/\H'=upd H p (.tup xs),fun i _=>n<=i⟩
variable{elts:List Expr}
theorem xv8{fp wr:List Addr}{Pt:Nat->Array Value->Prop}{St:Nat->Heap->Prop}{Mid:Nat->Addr->Heap->Prop}{V':Nat->List V->Prop}(W:∀ A:Around,A.handled=none->WalksT P w A it fp wr n Pt St Mid)(hmem:it∈fp)(hV:∀ i vs,Pt i vs->∃ xs,G0 xs vs.toList/\V' i xs/\xs.length<=64)(hO:∀ i h,St i h->∀ b∈fp,∃ o,h.get? b=some o/\∀ v,o.data≠.cell v)(hS:∀ (A:Around) (i:Nat) (s:Shared) (Q:Value->Shared->Prop) (E:Value->Shared->Prop),St i s.heap->Q (.ref it) s->wpAny (model P w) A (pyIter (.ref it)) Q E s) :
 xa7 P w K (.Tuple elts k pos) (Itp n V') fp it (fun i h=>i<=n/\St i h) where
 mem:=hmem
 obj:=fun i h st b hb=>hO i h st.2 b hb
 keep:=fun i h h' st kk=>⟨st.1,(W {} rfl).frame i h h' st.2 kk⟩
 item:=by
  intro X hP hw hK hc i pins s σ H E I hf st hg
  subst hP hw hK
  have W:=W X.A (I.ok.hd hc)
  refine wpAny_with_toks (n:=1) I.tk (W.item i s _ _ hg st.2 fun T vs h' tk hv hT htup hmid kk ht=>?_)
  have ht:0<tk:=ht
  obtain⟨xs,rx,vx,hz⟩:=hV i vs hv
  have hap:=W.apart i T h' hmid
  refine⟨_,rfl,W.go elts k pos i T {s with heap:=h',toks:=tk} _ _ hmid fun h2 st2 k2=>?_⟩
  have htup2:IsTup h2 T vs.toList.toArray:=by
   obtain⟨o,e,c⟩:=htup
   exact⟨o,k2 T o hap e,by simpa using c⟩
  have I1:Inv X pins σ (upd H T (.tup xs)) {s with heap:=h2,toks:=tk}:=I.turnLaid (ch:=wr) (fun b hb=>hf b (W.sub b hb)) (fun b u hb e=>k2 b u hb (kk b u hb e)) hT ⟨by rw[sizeLine_eq];omega,vs.toList,rx,htup2⟩ ht
  refine⟨.ref T,_,I1,rfl,⟨T,xs,rfl,I.hok.fresh hT,vx,rfl⟩,⟨hg,st2⟩,fun b hb=>?_⟩
  obtain⟨o,e,_⟩:=hO i _ st.2 b hb
  rw[B4 (Nat.ne_of_lt (Nat.lt_of_lt_of_le (Heap.lt_size e) hT))]
  exact(hf b hb).1
 done:=by
  intro X hP hw hK hc i pins s σ H E I hf st hg
  subst hP hw hK
  have W:=W X.A (I.ok.hd hc)
  have hi:i=n:=Nat.le_antisymm st.1 hg
  subst hi
  exact wpAny_with_toks (n:=1) I.tk (W.done s _ _ st.2 fun h' tk eb ht=>⟨rfl,I.turnedL (ch:=wr) (fun b hb=>hf b (W.sub b hb)) eb ht⟩)
 self:=fun A i s Q E st h=>hS A i s Q E st.2 h
theorem yq4(hh:A.handled=none)(it:Addr)(x:Str)(t:Tok) :
 Draws P w A it [it] x.cps.size (fun i v=>∃ c u,x.cps[i]?=some c/\v=.str ⟨#[c]⟩ u) (fun i h=>h.IsStrIter it (strIterType x) x t i):=by
 unfold strIterType
 split
 ·exact Draws.strAscii hh it x t
 ·exact Draws.strWide hh it x t
theorem yq5(hh:A.handled=none)(it:Addr)(x:Str)(t:Tok):Walks P w A it [it] [it] x.cps.size (SignAt x) (fun i h=>h.IsStrIter it (strIterType x) x t i):=by
 unfold strIterType
 split
 ·exact Walks.strAscii hh it x t
 ·exact Walks.strWide hh it x t
theorem xv9{t:Tok}{i:Nat}(hit:s.heap.IsStrIter it (strIterType x) x t i)(h:Q (.ref it) s) :
 wpAny (model P w) A (pyIter (.ref it)) Q E s:=by
 unfold strIterType at hit
 split at hit
 ·exact wpAny_pyIter_striter_ascii hit h
 ·exact wpAny_pyIter_striter_wide hit h
def xw0(z:Str)(i:Nat)(x:V):Prop:=∃ c,z.cps.toList[i]?=some c/\x=.str ⟨#[c]⟩
theorem yw8(i:Nat)(v:Value)(h:SignAt z i v):∃ x,J8 x v/\xw0 z i x:=by
 obtain⟨c,u,e,rfl⟩:=h
 exact⟨.str ⟨#[c]⟩,⟨u,rfl⟩,c,by simpa using e,rfl⟩
theorem yw9{tg:Expr}(it:Addr)(z:Str)(t:Tok):xa7 P w K tg (Itx z.cps.size (xw0 z)) [it] it (fun i h=>i<=z.cps.size/\h.IsStrIter it (strIterType z) z t i):=by
 refine ye1 (T:=strIterType z) (vs:=fun i=>#[.str z t,.int i 0]) (fun A hA=>yq5 hA it z t) yw8 (fun i h st=>?_) ?_ (fun A i s Q E st h=>xv9 st h)
 ·obtain⟨o,e,c,d⟩:=st
  exact⟨o,e,c,d⟩
 ·unfold strIterType
  split <;> decide
def zg8(tl:TE):TI:=fun σ H R=>tl σ H fun x H1=>∃ z,x=.str z/\R (Itx z.cps.size (xw0 z)) H1
theorem yk4{tg l:Expr}{tl:TE}(hl:PE X l tl):PI X tg l (zg8 tl):=by
 intro pins s σ H R I h
 refine thn (hl pins s σ H _ I h) fun v s1 zq=>?_
 obtain⟨x,H1,I1,r1,q1⟩:=zq
 obtain⟨z,e,q⟩:=q1
 subst e
 obtain⟨t,rfl⟩:=r1
 refine wpAny_pyIter_strU ?_
 refine⟨s1.heap.objs.size,[s1.heap.objs.size],_,_,H1,rfl,I1.kept (t':=s1.toks) fun b o e=>Heap.get?_push_of_some _ e,yw9 _ z t,⟨Nat.zero_le _,_,Heap.get?_push_size _ rfl,rfl,rfl⟩,fun b hb=>?_,q⟩
 have e:b=s1.heap.objs.size:=by simpa using hb
 subst e
 exact I1.fpOk (Nat.le_refl _) (I1.hok.fresh (Nat.le_refl _))
def ye2(ta:TA):TI:=fun σ H R=>ta σ H fun vs H1=>∃ z,vs=[.str z]/\R (Itp z.cps.size fun i xs=>∃ c,z.cps.toList[i]?=some c/\xs=[.int i,.str ⟨#[c]⟩]) H1
theorem yx0{p:Pos}{l:Expr}{ta:TA}(hg:Gl X "enumerate")(hm:X.mg "enumerate"=none)(ha:PA X [l] ta)(hs:autoParam (starEach [l] X.env=[(false,eval l X.env)]) zAr) :
 PI X (.Tuple elts k tpos) (.Call (.Name "enumerate" p) [l] [] pos) (ye2 ta):=by
 intro pins s σ H R I h
 refine Call_ (qy1 I hg hm boot_enumerate (PyProof.Rows.callWith_type1 (thn (ha pos pins s σ H _ I h) fun us s1 zq=>?_) hs rfl))
 obtain⟨vs,H1,I1,r1,q1⟩:=zq
 obtain⟨z,e,q⟩:=q1
 subst e
 obtain⟨v,rfl,rv⟩:=qv3 r1
 obtain⟨t,rfl⟩:=rv
 refine call_enumerate_str fun h' he hit hz hk=>?_
 have I2:Inv X pins σ H1 {s1 with heap:=h'}:=I1.kept (t':=s1.toks) hk
 refine wpAny_pyIter_enum he ?_
 have ne:s1.heap.objs.size+1≠s1.heap.objs.size:=by omega
 refine⟨s1.heap.objs.size+1,_,_,_,H1,rfl,I2,xv8 (V':=fun i xs=>∃ c,z.cps.toList[i]?=some c/\xs=[.int i,.str ⟨#[c]⟩]) (fun A hA=>WalksT.enumerateD (yq4 (show A.in1.handled=none from hA) s1.heap.objs.size z t) (s1.heap.objs.size+1) ne (by simpa using ne) (by simp)) (by simp) ?_ ?_ ?_,⟨Nat.zero_le _,⟨_,he⟩,hit⟩,fun b hb=>?_,q⟩
 ·rintro i vs ⟨t1,v,⟨c,u,e,rfl⟩,rfl⟩
  exact⟨[.int i,.str ⟨#[c]⟩],.cons ⟨t1,rfl⟩ (.cons ⟨u,rfl⟩ .nil),⟨c,by simpa using e,rfl⟩,by simp⟩
 ·rintro i h ⟨⟨old,e1⟩,o2,e2,_,d2⟩ b hb
  have hb:b=s1.heap.objs.size+1\/b=s1.heap.objs.size:=by simpa using hb
  rcases hb with rfl|rfl
  ·exact⟨_,e1,fun v z=>by cases (show Data.fields _=Data.cell v from z)⟩
  ·exact⟨_,e2,fun v z=>by rw[d2] at z;cases z⟩
 ·rintro A i s Q E ⟨⟨old,e1⟩,_⟩ h
  exact wpAny_pyIter_enum e1 h
 ·have hb:b=s1.heap.objs.size+1\/b=s1.heap.objs.size:=by simpa using hb
  rcases hb with rfl|rfl
  ·exact I1.fpOk (Nat.le_succ _) (I1.hok.fresh (Nat.le_succ _))
  ·exact I1.fpOk (Nat.le_refl _) (I1.hok.fresh (Nat.le_refl _))
def xm2(te:TE)(y z:Str):TE:=fun σ H Q=>te σ H fun x H1=>∃ a,x=.str a/\a.length<=1048576/\Q (.str (PySem.Txt.replace a y z)) H1
variable{j1 j2:Nat}{p1:Pos}
theorem wz9{o:Expr}{y:Str}(ho:PE X o te)(hz:autoParam (z.length<=14) zAd)(hyz:autoParam ((y == z)=false) zAd)(hbase:autoParam (attributeBase o "replace" X.env (eval o X.env)=eval o X.env) zAr) (hfew:((backTo cpos (starEach [.Constant (.str y) j1 p1,.Constant (.str z) j2 p2] X.env)).all (fun x=>!x.1) && (backToKw cpos (keywordEach [] X.env)).all (fun x=>x.1.isSome)
  && decide (([.Constant (.str y) j1 p1,.Constant (.str z) j2 p2]:List Expr).length+([]:List Keyword).length+(if([]:List Keyword).isEmpty then 0 else 1)<30))=true:=by rfl) (hline:autoParam ((apos.endLine == cpos.line)=true) zAr) (hs:autoParam (starEach [.Constant (.str y) j1 p1,.Constant (.str z) j2 p2] X.env=[(false,eval (.Constant (.str y) j1 p1) X.env),(false,eval (.Constant (.str z) j2 p2) X.env)]) zAr) :
 PE X (.Call (.Attribute o "replace" apos) [.Constant (.str y) j1 p1,.Constant (.str z) j2 p2] [] cpos) (xm2 te y z):=by
 intro pins s σ H Q I h
 refine wpAny_Call_method_late hbase hfew hline rfl (thn (ho pins s σ H _ I h) fun v s1 zq=>?_)
 obtain⟨x,H1,I1,r1,q1⟩:=zq
 obtain⟨a,rfl,hl,q⟩:=q1
 obtain⟨h1,h2⟩:=yd4 (T := "str") I1 r1 (show tyV X.K "str" (.str a) H1 from rfl)
 refine⟨"str","str.replace",PySem.F.plainAttrs_str,PySem.F.slot_str_replace,PySem.F.type_str_replace,h1,h2,?_⟩
 obtain⟨t,rfl⟩:=r1
 rw[hs]
 refine Calls.callWith_builtin rfl (Calls.evalArgs_plain ?_)
 refine Calls.spliced_cons (Calls.Constant_str (k:=j1) (pos:=p1) (Calls.spliced_cons (Calls.Constant_str (k:=j2) (pos:=p2) (Calls.spliced_nil ?_))))
 exact wpAny_with_toks (n:=1) (s:={s1 with toks:=s1.toks+1+1}) (Nat.succ_pos _) (PySem.SC.replaceW (Nat.ne_of_gt I1.tk) (Nat.succ_ne_zero _) (by show s1.toks≠s1.toks+1;omega) hyz hl hz fun t' k ht=>⟨.str _,H1,I1.tok _ ht,⟨_,rfl⟩,q⟩)
def qf6(x:Str)(lo hi:Option Int):Str:=⟨((x.cps.toList.drop (HT.sIx x.cps.toList.length 0 lo)).take (HT.sIx x.cps.toList.length x.cps.toList.length hi-HT.sIx x.cps.toList.length 0 lo)).toArray⟩
def zy0:V->Option Int->Option Int->Hp->VK->Prop:=fun x lo hi H Q=>∃ z,x=.str z/\z.length<=sizeLine/\Q (.str (qf6 z lo hi)) H
theorem yq6(x:Str)(lo hi:Option Int):(⟨((Builtin.Str.strSliceIndices lo hi 1 x.length).filterMap (x.cps[·]?)).toArray⟩:Str)=qf6 x lo hi:=by
 obtain⟨h1,h2,h3⟩:=qy6 lo hi x.length
 have e:Builtin.Str.strSliceIndices lo hi 1 x.length=sliceRange (sliceBounds lo hi none x.length).1 (sliceBounds lo hi none x.length).2.1 (sliceBounds lo hi none x.length).2.2:=rfl
 rw[e,h1,h2,h3]
 unfold qf6
 rw[sliceRange_one,pick_run]
 rfl
theorem yd0(n d:Nat)(o:Option Int)(h:d<=n):HT.sIx n d o<=n:=by
 cases o with
 | none=>exact h
 | some v =>
   show(if v<0 then(v+(n:Int)).toNat else min v.toNat n)<=n
   split <;> omega
theorem zr1:SlR X zy0:=by
 intro pins s σ H x v vl vu lo hi sl Q I rx hs pl pu h
 obtain⟨z,rfl,hz,q⟩:=h
 obtain⟨t,rfl⟩:=rx
 refine⟨"str",_,PySem.F.slot_str_getitem.lookup,typeIs_str _ _ _,?_⟩
 have part:∀ {v:Value} {k:Option Int},IsPart v k->∃ l:Option (Int×Tok),v=partValue l/\l.map (·.1)=k:=fun{v k} h=>by
  cases h with
  | none=>exact⟨none,rfl,rfl⟩
  | int i t=>exact⟨some (i,t),rfl,rfl⟩
 obtain⟨l,rfl,el⟩:=part pl
 obtain⟨u,rfl,eu⟩:=part pu
 refine wpAny_getItem_str_slice (l:=l) (u:=u) (st:=none) hs rfl ?_
 have ep:slicePicked z l u none=Builtin.Str.strSliceIndices lo hi 1 z.length:=by unfold slicePicked;rw[el,eu];rfl
 have ec:=yq6 z lo hi
 unfold sliceMade
 rw[ep]
 split
 ·rename_i hc
  have hlen:(Builtin.Str.strSliceIndices lo hi 1 z.length).length=z.length:=by simpa using hc
  have:qf6 z lo hi=z:=by
   obtain⟨h1,h2,h3⟩:=qy6 lo hi z.length
   have e:Builtin.Str.strSliceIndices lo hi 1 z.length=sliceRange (sliceBounds lo hi none z.length).1 (sliceBounds lo hi none z.length).2.1 (sliceBounds lo hi none z.length).2.2:=rfl
   rw[e,h1,h2,h3,sliceRange_one,List.length_map,List.length_range] at hlen
   have hb:=yd0 z.length z.length hi (Nat.le_refl _)
   have el:z.cps.toList.length=z.length:=Array.length_toList
   obtain⟨⟨l⟩⟩:=z
   unfold qf6
   rw[el,hlen]
   by_cases h0:HT.sIx (Str.length ⟨⟨l⟩⟩) 0 lo=0
   ·rw[h0,List.drop_zero,List.take_of_length_le (Nat.le_of_eq el)]
   ·have:Str.length ⟨⟨l⟩⟩=0:=by omega
    rw[this,List.take_zero]
    have:l=[]:=List.eq_nil_of_length_eq_zero (by rw[<-this];exact el.symm▸rfl)
    rw[this]
  rw[this] at q
  exact⟨.str z,H,I,⟨_,rfl⟩,q⟩
 ·rw[ec]
  refine⟨?_,.str _,H,I.tok _,⟨_,rfl⟩,q⟩
  have:(qf6 z lo hi).length<=z.length:=by
   unfold qf6 Str.length
   simp only[List.size_toArray,List.length_take,List.length_drop,Array.length_toList]
   omega
  omega
def wo3(K:Fg):V->Option Int->Option Int->Hp->VK->Prop:=fun x lo hi H Q=>zy0 x lo hi H Q\/zv4 K x lo hi H Q\/zv8 K x lo hi H Q
theorem qp6:SlR X (wo3 X.K):=zr1.or (zo3.or zf0)
variable{hi lo:Option Int}
section
variable{Q:VK}
theorem xm3(hz:z.length<=sizeLine)(h:Q (.str (qf6 z lo hi)) H):wo3 K (.str z) lo hi H Q:=.inl ⟨z,rfl,hz,h⟩
theorem yk5(hx:SqL K H a xs)(h:∀ p,H p=none->Q (.ref p) (upd H p (.lst (ql8 xs lo hi)))):wo3 K (.ref a) lo hi H Q:=.inr (.inr ⟨a,xs,rfl,hx,h⟩)
theorem zy1{tl:TO}(h:te σ H fun x H1=>tl σ H1 fun l H2=>th σ H2 fun u H3=>r x l u H3 Q):tSl r te tl th σ H Q:=h
theorem zg9{t:TE}{R:Option Int->Hp->Prop}(h:t σ H fun x H1=>∃ i,x=.int i/\R (some i) H1):X8 t σ H R:=h
theorem yq7{R:Option Int->Hp->Prop}(h:R none H):qf4 σ H R:=h
theorem zr2{R:Int->Prop}(h:R i):∃ j,V.int i=.int j/\R j:=⟨i,rfl,h⟩
theorem zh0{y:Str}(h:te σ H fun x H1=>∃ a,x=.str a/\a.length<=1048576/\Q (.str (PySem.Txt.replace a y z)) H1):xm2 te y z σ H Q:=h
theorem yx1{ta:TA}(h:ta σ H fun vs H1=>∃ z,vs=[.str z]/\R (Itp z.cps.size fun i xs=>∃ c,z.cps.toList[i]?=some c/\xs=[.int i,.str ⟨#[c]⟩]) H1):ye2 ta σ H R:=h
theorem zh1{tl:TE}(h:tl σ H fun x H1=>∃ z,x=.str z/\R (Itx z.cps.size (xw0 z)) H1):zg8 tl σ H R:=h
theorem ye3(Pv:Nat->List V->Hp->Prop)(h0:Pv 0 [] H)(hlen:∀ i ys H,i<=z.cps.size->Pv i ys H->ys.length<=sizeLine)(hs:∀ (i c:Nat) (p:Addr) ys H,z.cps.toList[i]?=some c->H p=none->Pv i ys H->g (.ref p) σ' (upd H p (.tup [.int i,.str ⟨#[c]⟩])) fun σ2 H2=>tt σ2 H2 fun b H3=>if b=true then te σ2 H3 fun y H4=>PAt Pv (i+1) (ys++[y]) H4 else PAt Pv (i+1) ys H3)(hd:∀ ys H,Pv z.cps.size ys H->∀ p,H p=none->Q (.ref p) (upd H p (.lst ys))) :
 ∃ z',[V.str z]=[.str z']/\wi7 g tt te σ' Q (Itp z'.cps.size fun i xs=>∃ c,z'.cps.toList[i]?=some c/\xs=[.int i,.str ⟨#[c]⟩]) H:=by
 refine⟨z,rfl,fun i m ys H=>m=z.cps.size-i/\i<=z.cps.size/\Pv i ys H,⟨z.cps.size,by simp,Nat.zero_le _,h0⟩,?_⟩
 rintro i m ys H ⟨rfl,hi,p⟩
 refine⟨hlen i ys H hi p,?_⟩
 by_cases hlt:i<z.cps.size
 ·refine .inr ⟨hlt,Pv (i+1),fun ys' H' p'=>⟨z.cps.size-(i+1),by omega,rfl,hlt,p'⟩,fun x H' y=>?_⟩
  obtain⟨a,xs,rfl,ha,⟨c,ec,rfl⟩,rfl⟩:=y
  exact hs i c a ys H ec ha p
 ·have e:i=z.cps.size:=by omega
  subst e
  exact .inl ⟨Nat.le_refl _,hd ys H p⟩
theorem yk6{y:Str}(h:Q (.bl (decide (x=y))) H):Y0 K (.str x) (.str y) H Q:=by
 refine xv6 rfl ?_
 have e:(decide ((V.str x)=V.str y))=decide (x=y):=by simp
 rw[e];exact h
theorem yx2{y:Str}(h:Q (.bl (!decide (x=y))) H):wo0 K (.str x) (.str y) H Q:=by
 refine zx7 rfl ?_
 have e:(decide ((V.str x)=V.str y))=decide (x=y):=by simp
 rw[e];exact h
theorem zm1{x y:Int}(h:Q (.bl (decide (x=y))) H):Y0 K (.int x) (.int y) H Q:=by
 refine xv6 rfl ?_
 have e:(decide ((V.int x)=V.int y))=decide (x=y):=by simp
 rw[e];exact h
end
section
open PySem.Builtin PySem.Builtin.Str
def xm4(x y:Str)(i j:Int):Int:=match occurrences x y (fromIndex x.length i) (min (fromIndex x.length j) x.length) 1 with|k::_=>(k:Int) | []=>-1
theorem xw1(x y:Str)(i j:Int)(t u v v':Tok):Gives («str.find» ⟨[.str x t,.str y u,.int i v,.int j v'],[]⟩) (.int (xm4 x y i j)):=by
 unfold xm4
 show Gives (match occurrences x y (fromIndex x.length i) (min (fromIndex x.length j) x.length) 1 with|k::_=>retInt k | []=>(do rule "str.find.not-found";retInt (-1))) _
 cases occurrences x y (fromIndex x.length i) (min (fromIndex x.length j) x.length) 1 with
 | nil=>exact .rule (.of_eq rfl)
 | cons k _=>exact .of_eq rfl
theorem G0.three{x z:V}(r:G0 [x,y,z] us):∃ u v w',us=[u,v,w']/\J8 x u/\J8 y v/\J8 z w':=by
 cases r with
 | cons r1 r2=>obtain⟨v,w',rfl,a,b⟩:=xu6 r2;exact⟨_,_,_,rfl,r1,a,b⟩
def xp7:V->List V->Hp->VK->Prop:=fun x vs H Q=>∃ (z y:Str) (i:Int),x=.str z/\vs=[.str y,.int i]/\Q (.int (PySem.Txt.find3 z y i)) H
theorem xc5:MtR X "str.find" xp7:=by
 intro pins s σ H x vs v us Q I rx rv h
 obtain⟨z,y,i,rfl,rfl,q⟩:=h
 obtain⟨t,rfl⟩:=rx
 obtain⟨u,w',rfl,⟨t1,rfl⟩,⟨t2,rfl⟩⟩:=xu6 rv
 exact SC.find3 ⟨.int _,H,I.tok _,⟨_,rfl⟩,q⟩
def yx3:V->List V->Hp->VK->Prop:=fun x vs H Q=>∃ (z y:Str) (i j:Int),x=.str z/\vs=[.str y,.int i,.int j]/\Q (.int (xm4 z y i j)) H
theorem yx4:MtR X "str.find" yx3:=by
 intro pins s σ H x vs v us Q I rx rv h
 obtain⟨z,y,i,j,rfl,rfl,q⟩:=h
 obtain⟨t,rfl⟩:=rx
 obtain⟨u,w',w2,rfl,⟨t1,rfl⟩,⟨t2,rfl⟩,⟨t3,rfl⟩⟩:=G0.three rv
 exact call_gives F.slot_str_find (typeIs_str _ _ _) F.entry_str_find (F.args_str_find_4 _ _ _ _) (xw1 z y i j t t1 t2 t3) ⟨.int _,H,I.tok _,⟨_,rfl⟩,q⟩
def yk7:V->List V->Hp->VK->Prop:=fun x vs H Q=>∃ (z y:Str) (i:Int),x=.str z/\vs=[.str y,.int i]/\Q (.bl (PySem.Txt.startswith3 z y i)) H
theorem yq8:MtR X "str.startswith" yk7:=by
 intro pins s σ H x vs v us Q I rx rv h
 obtain⟨z,y,i,rfl,rfl,q⟩:=h
 obtain⟨t,rfl⟩:=rx
 obtain⟨u,w',rfl,⟨t1,rfl⟩,⟨t2,rfl⟩⟩:=xu6 rv
 exact SC.startswith3 ⟨.bl _,H,I,rfl,q⟩
theorem ye4:∀ {bs:List Bool} {us:List Value},G0 (bs.map V.bl) us->us=bs.map Value.bool
 | [],_,h=>by cases h;rfl
 | b::bs,_,h=>by
   have h:G0 (V.bl b::bs.map V.bl) _:=h
   cases h with
   | cons r t=>rw[ye4 t];cases (show _=Value.bool b from r);rfl
theorem yq9(bs:List Bool):(List.range bs.length).all (fun i=>(bs[i]?).getD false)=bs.all id:=by
 rw[Bool.eq_iff_iff,List.all_eq_true,List.all_eq_true]
 constructor
 ·intro h b hb
  obtain⟨i,hi,e⟩:=List.getElem_of_mem hb
  have:=h i (List.mem_range.mpr hi)
  rw[List.getElem?_eq_getElem hi,e] at this
  exact this
 ·intro h i hi
  have hi:=List.mem_range.mp hi
  rw[List.getElem?_eq_getElem hi]
  exact h _ (List.getElem_mem hi)
theorem yr0(bs:List Bool):(List.range bs.length).any (fun i=>(bs[i]?).getD false)=bs.any id:=by
 rw[Bool.eq_iff_iff,List.any_eq_true,List.any_eq_true]
 constructor
 ·rintro⟨i,hi,h⟩
  have hi:=List.mem_range.mp hi
  rw[List.getElem?_eq_getElem hi] at h
  exact⟨_,List.getElem_mem hi,h⟩
 ·rintro⟨b,hb,h⟩
  obtain⟨i,hi,e⟩:=List.getElem_of_mem hb
  exact⟨i,List.mem_range.mpr hi,by rw[List.getElem?_eq_getElem hi,e];exact h⟩
def yx5(K:Fg):List V->Hp->VK->Prop:=fun xs H Q=>∃ (p:Addr) (bs:List Bool),xs=[.ref p]/\SqL K H p (bs.map V.bl)/\Q (.bl (bs.all id)) H
def yx6(K:Fg):List V->Hp->VK->Prop:=fun xs H Q=>∃ (p:Addr) (bs:List Bool),xs=[.ref p]/\SqL K H p (bs.map V.bl)/\Q (.bl (bs.any id)) H
theorem yr1(hc:X.calm=true):qf3 X (.builtin "all") (yx5 X.K):=by
 intro pins s σ H xs us Q I r h
 obtain⟨p,bs,rfl,hq,q⟩:=h
 obtain⟨u,rfl,ru⟩:=qv3 r
 cases ru
 obtain⟨its,rv,pl,hz⟩:=I.list hq
 have ei:=ye4 rv
 subst ei
 refine wpAny_with_toks (n:=1) I.tk (call_all_walk (wpAny_pyIter_list pl.isList ?_))
 have ne:p≠s.heap.objs.size:=Nat.ne_of_lt (by obtain⟨o,e,_⟩:=pl.isList;exact Heap.lt_size e)
 refine⟨_,_,_,_,_,_,fun i=>(bs[i]?).getD false,rfl,Walks.list (show X.A.in1.handled=none from I.ok.hd hc) s.heap.objs.size p ne _,⟨⟨_,Heap.get?_push_size _ rfl,rfl,rfl⟩,pl.isList.at fun o e=>Heap.get?_push_of_some _ e⟩,?_,fun h' tk hk ht=>?_⟩
 ·intro i v s Q E hP hQ
  have hP:(bs.map Value.bool)[i]?=some v:=by simpa using hP
  rw[List.getElem?_map] at hP
  obtain⟨b,hb,rfl⟩:=Option.map_eq_some_iff.mp hP
  have hQ:Q ((bs[i]?).getD false) s:=hQ
  rw[hb] at hQ
  exact wpAny_pure hQ
 ·refine⟨.bl (bs.all id),H,I.kept (fun b o e=>hk b o ?_ (Heap.get?_push_of_some _ e)) ht,?_,q⟩
  ·intro z
   have:b=s.heap.objs.size:=by simpa using z
   exact absurd (Heap.lt_size e) (by rw[this];exact Nat.lt_irrefl _)
  ·show Value.bool _=Value.bool _
   rw[<-yq9 bs]
   congr 2
   simp
theorem yr2(hc:X.calm=true):qf3 X (.builtin "any") (yx6 X.K):=by
 intro pins s σ H xs us Q I r h
 obtain⟨p,bs,rfl,hq,q⟩:=h
 obtain⟨u,rfl,ru⟩:=qv3 r
 cases ru
 obtain⟨its,rv,pl,hz⟩:=I.list hq
 have ei:=ye4 rv
 subst ei
 refine wpAny_with_toks (n:=1) I.tk (call_any_walk (wpAny_pyIter_list pl.isList ?_))
 have ne:p≠s.heap.objs.size:=Nat.ne_of_lt (by obtain⟨o,e,_⟩:=pl.isList;exact Heap.lt_size e)
 refine⟨_,_,_,_,_,_,fun i=>(bs[i]?).getD false,rfl,Walks.list (show X.A.in1.handled=none from I.ok.hd hc) s.heap.objs.size p ne _,⟨⟨_,Heap.get?_push_size _ rfl,rfl,rfl⟩,pl.isList.at fun o e=>Heap.get?_push_of_some _ e⟩,?_,fun h' tk hk ht=>?_⟩
 ·intro i v s Q E hP hQ
  have hP:(bs.map Value.bool)[i]?=some v:=by simpa using hP
  rw[List.getElem?_map] at hP
  obtain⟨b,hb,rfl⟩:=Option.map_eq_some_iff.mp hP
  have hQ:Q ((bs[i]?).getD false) s:=hQ
  rw[hb] at hQ
  exact wpAny_pure hQ
 ·refine⟨.bl (bs.any id),H,I.kept (fun b o e=>hk b o ?_ (Heap.get?_push_of_some _ e)) ht,?_,q⟩
  ·intro z
   have:b=s.heap.objs.size:=by simpa using z
   exact absurd (Heap.lt_size e) (by rw[this];exact Nat.lt_irrefl _)
  ·show Value.bool _=Value.bool _
   rw[<-yr0 bs]
   congr 2
   simp
section
variable{Q:VK}
theorem zy2{bs:List Bool}(h:SqL K H p (bs.map V.bl))(q:Q (.bl (bs.all id)) H):yx5 K [.ref p] H Q:=⟨p,bs,rfl,h,q⟩
theorem zy3{bs:List Bool}(h:SqL K H p (bs.map V.bl))(q:Q (.bl (bs.any id)) H):yx6 K [.ref p] H Q:=⟨p,bs,rfl,h,q⟩
theorem xw2(Pv:Nat->List V->Hp->Prop)(h0:Pv 0 [] H)(hlen:∀ i ys H,i<=z.cps.size->Pv i ys H->ys.length<=sizeLine)(hs:∀ (i c:Nat) ys H,z.cps.toList[i]?=some c->Pv i ys H->g (.str ⟨#[c]⟩) σ' H fun σ2 H2=>tt σ2 H2 fun b H3=>if b=true then te σ2 H3 fun y H4=>PAt Pv (i+1) (ys++[y]) H4 else PAt Pv (i+1) ys H3)(hd:∀ ys H,Pv z.cps.size ys H->∀ p,H p=none->Q (.ref p) (upd H p (.lst ys))) :
 ∃ z',V.str z=.str z'/\wi7 g tt te σ' Q (Itx z'.cps.size (xw0 z')) H:=by
 refine⟨z,rfl,fun i m ys H=>m=z.cps.size-i/\i<=z.cps.size/\Pv i ys H,⟨z.cps.size,by simp,Nat.zero_le _,h0⟩,?_⟩
 rintro i m ys H ⟨rfl,hi,p⟩
 refine⟨hlen i ys H hi p,?_⟩
 by_cases hlt:i<z.cps.size
 ·refine .inr ⟨hlt,Pv (i+1),fun ys' H' p'=>⟨z.cps.size-(i+1),by omega,rfl,hlt,p'⟩,fun x H' y=>?_⟩
  obtain⟨rfl,c,ec,rfl⟩:=y
  exact hs i c ys _ ec p
 ·have e:i=z.cps.size:=by omega
  subst e
  exact .inl ⟨Nat.le_refl _,hd ys H p⟩
end
end
section
variable{Q:VK}
theorem zr3{r:V->List V->Hp->VK->Prop}(h:to σ H fun x H1=>tyV K T x H1/\r x [] H1 Q):zf1 K T r to σ H Q:=h
theorem zm2(h1:H p=some (.lst (xs++[y])))(h:Q y (upd H p (.lst xs))):zf2 (.ref p) [] H Q :=
 ⟨p,xs++[y],y,rfl,rfl,h1,by simp,by rw[List.dropLast_concat];exact h⟩
end
variable{items:Array Value}
theorem wh9{t sl:Addr}{vl vu:Value}(ht:IsTup s.heap t items)(hs:s.heap.IsSliceOf sl vl vu .none)(pl:IsPart vl lo)(pu:IsPart vu hi)(hw:HT.sIx items.size 0 lo=0/\HT.sIx items.size items.size hi=items.size)(h:Q (.ref t) s):wpAny (model prog w) A (getItem (.ref t) (.ref sl)) Q E s:=by
 obtain⟨os,hos,hcs,hds⟩:=id hs
 have hTs:s.TypeIs (.ref sl) "slice":=⟨os,hos,hcs⟩
 unfold getItem
 try with_reducible refine wpAny_holding ?_
 first|refine wpAny_bind (wpAny_pure ?_)|skip
 refine wpAny_bind (wpAny_sequenceKey ht.typeIs (by decide) ?_)
 refine wpAny_bind (wpAny_callSpecial?_slot (name:=Str.ofString "__getitem__") ht.typeIs PyProof.Rows.slot_tuple_getitem
  (wpAny_call_entry PyProof.Rows.slot_tuple_getitem ht.typeIs entry_tuple_getitem ?_ (args_tuple_getitem _ _)))
 show wpAny _ _ (Builtin.Tuple.tupleItemsOf (.ref t) >>= _) _ _ s
 refine wpAny_bind (tupleItemsOf_ ht ?_)
 refine wpAny_bind (wpAny_typeOf hTs ?_)
 rw[if_pos (by decide)]
 refine wpAny_bind (HT.qv4 hs pl pu ?_)
 have hyes:((((HT.sIx items.size 0 lo:Nat):Int) == 0 && (1:Int) == 1 && (HT.sIx items.size items.size hi-HT.sIx items.size 0 lo) == items.size)=true):=by
  rw[hw.1,hw.2];simp
 show wpAny _ _ (if(((HT.sIx items.size 0 lo:Nat):Int) == 0 && (1:Int) == 1 && (HT.sIx items.size items.size hi-HT.sIx items.size 0 lo) == items.size)=true then _ else _) _ _ s
 rw[if_pos hyes]
 refine wpAny_bind (m:=Builtin.Tuple.tupleIsExact (.ref t)) ?_
 unfold Builtin.Tuple.tupleIsExact
 refine wpAny_bind (wpAny_typeOf ht.typeIs (wpAny_pure ?_))
 rw[if_pos (by decide)]
 first
  | exact wpAny_bind (wpAny_rule (wpAny_bind (wpAny_pure ⟨_,rfl,wpAny_pure h⟩)))
  | exact wpAny_bind (wpAny_rule (wpAny_pure ⟨_,rfl,wpAny_pure h⟩))
  | exact wpAny_bind (wpAny_rule (wpAny_pure (wpAny_pure ⟨_,rfl,wpAny_pure h⟩)))
def zy4(K:Fg):V->Option Int->Option Int->Hp->VK->Prop:=fun x lo hi H Q=>∃ a xs,x=.ref a/\SqT K H a xs/\(HT.sIx xs.length 0 lo=0/\HT.sIx xs.length xs.length hi=xs.length)/\Q (.ref a) H
theorem zh2:SlR X (zy4 X.K):=by
 intro pins s σ H x v vl vu lo hi sl Q I rx hs pl pu h
 obtain⟨a,xs,rfl,hx,hw,q⟩:=h
 cases rx
 obtain⟨its,r,ht,hz⟩:=I.tuple hx
 have hlen:its.toArray.size=xs.length:=by rw[List.size_toArray];exact r.length.symm
 refine⟨"tuple",_,PyProof.Rows.slot_tuple_getitem.lookup,ht.typeIs,?_⟩
 exact wh9 ht hs pl pu (by rw[hlen];exact hw) ⟨.ref a,H,I,rfl,q⟩
def ye5(K:Fg):V->Option Int->Option Int->Hp->VK->Prop:=fun x lo hi H Q=>wo3 K x lo hi H Q\/zy4 K x lo hi H Q
theorem wo4:SlR X (ye5 X.K):=qp6.or zh2
def zm3(K:Fg):R2:=fun x y H Q=>∃ a b ys,x=.ref a/\y=.ref b/\SqT K H a []/\SqT K H b ys/\Q (.ref b) H
theorem zh3:OpR X (binaryOp .Add) (zm3 X.K):=by
 intro pins s σ H x y v u Q I rx ry h
 obtain⟨a,b,ys,rfl,rfl,ha,hb,q⟩:=h
 cases rx
 cases ry
 obtain⟨its,r1,p1,_⟩:=I.tuple ha
 obtain⟨its2,r2,p2,_⟩:=I.tuple hb
 cases r1
 obtain⟨⟨cls,dd,data,sl⟩,ho,hc,n,hd⟩:=id p1
 obtain⟨⟨cls2,dd2,data2,sl2⟩,ho2,hc2,n2,hd2⟩:=id p2
 simp only at hc hd hc2 hd2
 subst hc hd hc2 hd2
 exact concat_meets ⟨_,ho,rfl⟩ ⟨_,ho2,rfl⟩ noFill_tuple_add seq_tuple_add PySem.F.slot_tuple_add PySem.F.entry_tuple_add (PySem.F.args_tuple_add_2 _ _)
  (tuple_addW0 a b _ its2.toArray n n2 dd dd2 sl sl2 (by simp)) ⟨ho,ho2,⟨.ref b,H,I,rfl,q⟩⟩
def qv8(K:Fg):R2:=fun x y H Q=>E6 K x y H Q\/zm3 K x y H Q
theorem Y9:OpR X (binaryOp .Add) (qv8 X.K):=C5.or zh3
section
variable{Q:VK}
theorem wk8(h1:SqT K H a xs)(h2:SqT K H b ys)(hz:xs.length+ys.length<=sizeLine)(h:∀ p H',A7 H H'->SqT K H' p (xs++ys)->Q (.ref p) H'):qv8 K (.ref a) (.ref b) H Q:=by
 by_cases hx:xs=[]
 ·subst hx
  exact .inr ⟨a,b,ys,rfl,rfl,h1,h2,h b H (fun _ _ e=>e) h2⟩
 ·refine .inl (.inr (.inr (.inr ⟨a,b,xs,ys,rfl,rfl,h1,h2,hx,hz,fun hy=>?_,fun hy p hp=>h p _ (A7.new hp _) (SqT.of A5)⟩)))
  subst hy
  exact h a H (fun _ _ e=>e) (by rw[List.append_nil];exact h1)
theorem xw3(h1:SqT K H a xs)(h:∀ p H',A7 H H'->SqT K H' p (ql8 xs lo hi)->Q (.ref p) H'):ye5 K (.ref a) lo hi H Q:=by
 by_cases hw:HT.sIx xs.length 0 lo=0/\HT.sIx xs.length xs.length hi=xs.length
 ·refine .inr ⟨a,xs,rfl,h1,hw,h a H (fun _ _ e=>e) ?_⟩
  unfold ql8
  rw[hw.1,hw.2,List.drop_zero,Nat.sub_zero,List.take_length];exact h1
 ·exact .inl (.inr (.inl ⟨a,xs,rfl,h1,hw,fun p hp=>h p _ (A7.new hp _) (SqT.of A5)⟩))
theorem zm4(c:0<=j)(h:Q (.int (i / 2 ^ j.toNat)) H):rI (fun _ j=>0<=j) (fun i j=>.int (i / 2 ^ j.toNat)) (.int i) (.int j) H Q:=⟨i,j,rfl,rfl,c,h⟩
theorem zm5(c:yt6 i j)(h:Q (.int (i*2 ^ j.toNat)) H):rI yt6 (fun i j=>.int (i*2 ^ j.toNat)) (.int i) (.int j) H Q:=⟨i,j,rfl,rfl,c,h⟩
end
def yx7(ta:TA):TI:=fun σ H R=>ta σ H fun vs H1=>∃ n:Nat,vs=[.int ((n:Int)-1),.int (-1),.int (-1)]/\(n:Int)<2 ^ 62/\R (Itv n) H1
theorem xm5(n:Nat):Builtin.Range.rangeSize ((n:Int)-1) (-1) (-1)=n:=by
 unfold Builtin.Range.rangeSize
 rw[if_neg (by decide)]
 have e:(- (-1):Int)=1:=by decide
 rw[e,Int.ediv_one]
 split <;> omega
theorem yr3 {tg:Expr} {a b:Expr} {ta:TA} {p:Pos} (hg:Gl X "range") (hm:X.mg "range"=none) (ha:PA X [a,b,c] ta) (hs:autoParam (starEach [a,b,c] X.env=(false,eval a X.env)::starEach [b,c] X.env) zAr) (hs2:autoParam (starEach [b,c] X.env=[(false,eval b X.env),(false,eval c X.env)]) zAr) :
 PI X tg (.Call (.Name "range" p) [a,b,c] [] pos) (yx7 ta):=by
 intro pins s σ H R I h
 refine Call_ (qy1 I hg hm boot_range (PyProof.Rows.callWith_type1 (thn (ha pos pins s σ H _ I h) fun us s1 zq=>?_) hs (by rw[hs2];rfl)))
 obtain⟨vs,H1,I1,r1,q1⟩:=zq
 obtain⟨n,e,q1,q⟩:=q1
 subst e
 cases r1 with
 | cons r rr =>
   cases rr with
   | cons r' rr =>
     cases rr with
     | cons r'' rr =>
       cases rr
       obtain⟨t,rfl⟩:=r
       obtain⟨t',rfl⟩:=r'
       obtain⟨t'',rfl⟩:=r''
       refine call_range_3 (by decide) ?_ (Or.inl (PyProof.noPylong_small (by decide)))
       have I2:Inv X pins σ H1 {s1 with heap:=s1.heap.push {cls:=.type "range",data:=.fields #[.int ((n:Int)-1) t,.int (-1) t',.int (-1) t'']},toks:=s1.toks}:=I1.kept (t':=s1.toks) fun b o e=>Heap.get?_push_of_some _ e
       refine wpAny_pyIter_range (IsRange.new ..) ?_ ?_
       ·unfold Builtin.Range.small
        rw[xm5]
        simp only[Builtin.Range.rangeFitsLong,Bool.and_eq_true,Bool.or_eq_true,decide_eq_true_eq,beq_iff_eq,show ¬((-1:Int) > 0) by decide,if_false]
        omega
       refine⟨_,[_],_,_,H1,rfl,I2.kept (t':=s1.toks) fun b o e=>Heap.get?_push_of_some _ e,yw7 _ n,?_,fun b hb=>?_,q⟩
       ·have e1:(n:Int)-1+((0:Nat):Int)*(-1)=(n:Int)-1:=by simp
        have e2:(n:Int)-((0:Nat):Int)=n:=by simp
        rw[e1,e2]
        have:=Heap.get?_push_size (s1.heap.push {cls:=.type "range",data:=.fields #[.int ((n:Int)-1) t,.int (-1) t',.int (-1) t'']}) (o:={cls:=.type "range_iterator",data:=.fields #[rawInt ((n:Int)-1),rawInt (Builtin.Range.rangeSize ((n:Int)-1) (-1) (-1)),rawInt (-1)]}) rfl
        rw[xm5] at this ⊢
        exact this
       ·have e:b=(s1.heap.push {cls:=.type "range",data:=.fields #[.int ((n:Int)-1) t,.int (-1) t',.int (-1) t'']}).objs.size:=by simpa using hb
        subst e
        exact I2.fpOk (Nat.le_refl _) (I2.hok.fresh (Nat.le_refl _))
theorem zh4{ta:TA}(h:ta σ H fun vs H1=>∃ n:Nat,vs=[.int ((n:Int)-1),.int (-1),.int (-1)]/\(n:Int)<2 ^ 62/\R (Itv n) H1):yx7 ta σ H R:=h
theorem wo5{i:Nat}{items}{x:Value}(hit:s.heap.IsTupleIter it l i)(hl:s.heap.IsTuple l items)(hx:items[i]?=some x)(hQ:∀ h',h'.IsTupleIter it l (i+1)->Heap.SameBut it s.heap h'->Q x {s with heap:=h'}) :
 wpAny (model prog w) A (Builtin.SmallTypes.nextOf (.ref it)) Q E s:=by
 obtain⟨o,ho,hc,hd⟩:=id hit
 obtain⟨ol,hol,_,nl,hdl⟩:=hl
 unfold Builtin.SmallTypes.nextOf
 refine wpAny_bind (wpAny_callSpecial?_slot (name:=Str.ofString "__next__") hit.typeIs F.slot_tuple_iterator_next
  (wpAny_call_entry F.slot_tuple_iterator_next hit.typeIs F.entry_tuple_iterator_next ?_ (F.args_tuple_iterator_next_1 _)))
 show wpAny _ _ (field (.ref it) 0 >>= _) _ _ s
 refine wpAny_bind (wpAny_field ho hd (x:=.ref l) rfl ?_)
 show wpAny _ _ (if(Value.ref l == Value.none)=true then _ else _) _ _ s
 rw[if_neg (show ¬((Value.ref l == Value.none)=true) from Bool.false_ne_true)]
 show wpAny _ _ (field (.ref it) 1 >>= _) _ _ s
 refine wpAny_bind (wpAny_field ho hd (x:=.int i 0) rfl ?_)
 show wpAny _ _ (seqItems? (.ref l) >>= _) _ _ s
 refine wpAny_bind (wpAny_seqItems hol hdl ?_)
 simp only[Int.toNat_natCast,hx]
 refine wpAny_bind (wpAny_setField ho hd (by simp) (wpAny_pure ⟨x,rfl,wpAny_pure (hQ _ ?_ (Heap.SameBut.update ..))⟩))
 exact⟨_,Heap.get?_update_self _ ho (Obj.isFreed_of_fields (Obj.data_mapFields hd _)),(Obj.cls_mapFields ..).trans hc,by
  rw[Obj.data_mapFields hd];simp[rawInt]⟩
theorem qv9{i:Nat}{items}(hh:A.handled=none)(hit:s.heap.IsTupleIter it l i)(hl:s.heap.IsTuple l items)(hx:items[i]?=none)(hE:∀ h' e,Heap.ExtBut it s.heap h'->(∃ o,h'.get? e=some o/\o.cls=.type "StopIteration")->E (.ref e) {s with heap:=h'}) :
 wpAny (model prog w) A (Builtin.SmallTypes.nextOf (.ref it)) Q E s:=by
 obtain⟨o,ho,hc,hd⟩:=id hit
 obtain⟨ol,hol,_,nl,hdl⟩:=hl
 unfold Builtin.SmallTypes.nextOf
 refine wpAny_bind (wpAny_callSpecial?_slot (name:=Str.ofString "__next__") hit.typeIs F.slot_tuple_iterator_next
  (wpAny_call_entry F.slot_tuple_iterator_next hit.typeIs F.entry_tuple_iterator_next ?_ (F.args_tuple_iterator_next_1 _)))
 show wpAny _ _ (field (.ref it) 0 >>= _) _ _ s
 refine wpAny_bind (wpAny_field ho hd (x:=.ref l) rfl ?_)
 show wpAny _ _ (if(Value.ref l == Value.none)=true then _ else _) _ _ s
 rw[if_neg (show ¬((Value.ref l == Value.none)=true) from Bool.false_ne_true)]
 show wpAny _ _ (field (.ref it) 1 >>= _) _ _ s
 refine wpAny_bind (wpAny_field ho hd (x:=.int i 0) rfl ?_)
 show wpAny _ _ (seqItems? (.ref l) >>= _) _ _ s
 refine wpAny_bind (wpAny_seqItems hol hdl ?_)
 simp only[Int.toNat_natCast,hx]
 refine wpAny_bind (wpAny_rule (wpAny_bind (wpAny_setField ho hd (by simp) ?_)))
 show wpAny _ _ (newExc (.type "StopIteration") [] >>= _) _ _ _
 refine wpAny_bind ?_
 simp only[newExc,newTuple]
 refine wpAny_bind (wpAny_newObj_type ?_ (by size_fits))
 refine wpAny_bind (m:=firstArgMember _ _) (wpAny_of_eq (a:=Value.none) (by first|rfl|(simp only[firstArgMember];rfl)) ?_)
 refine wpAny_newObj_type ?_ (by size_fits)
 simp only[raiseNew]
 refine wpAny_bind (wpAny_handled ?_)
 first|rw[show A.in1.handled=none from hh]|rw[hh]
 refine wpAny_bind (wpAny_pure (wpAny_throw ?_))
 exact hE _ _ (((Heap.SameBut.update ..).extBut.push _).push _) ⟨_,Heap.get?_push_size _ rfl,rfl⟩
theorem xw4(hh:A.handled=none)(it l:Addr)(hne:l≠it)(items:Array Value) :
 Draws prog w A it [it,l] items.size (fun i v=>items[i]?=some v) (fun i h=>h.IsTupleIter it l i/\h.IsTuple l items) where
 live:=fun _ _ st=>let ⟨o,ho,_⟩:=st.1;⟨o,ho⟩
 frame:=fun _ _ _ st hk=>⟨st.1.at fun o e=>hk it (by simp) o e,st.2.at fun o e=>hk l (by simp) o e⟩
 item:=fun i s Q E hi st hQ=>by
  refine wo5 st.1 st.2 (x:=items[i]) (by simp[hi]) fun h' hit' hs'=>?_
  exact hQ _ h' s.toks (by simp[hi]) ⟨hit',st.2.extBut hs'.extBut hne⟩ hs'
 done:=fun s Q E st hE=>qv9 hh st.1 st.2 (by simp) hE
set_option maxHeartbeats 1000000 in
theorem wd9(l:Addr)(items:Array Value)(n:Nat)(dct:Option Addr)(sl:Array (Option Value)) :
 Meets (Builtin.«enumerate.__new__» ⟨[.type "enumerate",.ref l],[]⟩) (fun _ R s=>s.heap.get? l=some {cls:=.type "tuple",dict:=dct,data:=.seq items n,slots:=sl} /\
  R (.ok (.ret (.ref (s.heap.push {cls:=.type "tuple_iterator",data:=.fields #[.ref l,.int 0 0]}).objs.size)))
   {s with heap:=(s.heap.push {cls:=.type "tuple_iterator",data:=.fields #[.ref l,.int 0 0]}).push {cls:=.type "enumerate",data:=.fields #[.none,.bool false,.ref s.heap.objs.size,rawInt 0,.none,.none]}}) :=
 .of_wp fun prog w A R s h=>by
  obtain⟨hp,g,d,tk,os⟩:=s;obtain⟨hl,h⟩:=h
  have hsub:=sub_enumerate
  have hL:Heap.IsTuple (Shared.heap ⟨hp,g,d,tk,os⟩) l items:=⟨_,hl,rfl,n,rfl⟩
  wp_walk using AutoSeq1.wpAny_loadPart' hl
  refine wpAny_stack_any fun st=>wpAny_pure ?_
  split
  ·rename_i c _ _ _ _ _
   cases (c == Value.type "enumerate")
   ·wp_walk using AutoSeq1.wpAny_loadPart' hl,wpAny_pyIter_tuple hL
    exact⟨_,rfl,h⟩
   ·wp_walk using AutoSeq1.wpAny_loadPart' hl,wpAny_pyIter_tuple hL
    exact⟨_,rfl,h⟩
  ·wp_walk using AutoSeq1.wpAny_loadPart' hl,wpAny_pyIter_tuple hL
   exact⟨_,rfl,h⟩
theorem we0(hL:s.heap.IsTuple l items) (h:∀ h',IsEnum h' (s.heap.objs.size+1) s.heap.objs.size 0 .none->h'.IsTupleIter s.heap.objs.size l 0->h'.objs.size=s.heap.objs.size+2 ->
  (∀ b o,s.heap.get? b=some o->h'.get? b=some o)->Q (.ref (s.heap.objs.size+1)) {s with heap:=h'}) :
 wpAny (model prog w) A (call (.type "enumerate") [.ref l]) Q E s:=by
 obtain⟨⟨c,dct,dt,sl⟩,hl,hc,n,hd⟩:=hL
 replace hc:c=.type "tuple":=hc
 replace hd:dt=.seq items n:=hd
 subst hc hd
 refine callType_new F.called_enumerate (by decide) (F.typeCall_enumerate_1 _) (F.newCall_enumerate_1 _) (fun obj=>F.args_object_init_2 obj _) F.entry_enumerate_new
  (wd9 l items n dct sl) ⟨hl,?_⟩
 have hz:(s.heap.push {cls:=.type "tuple_iterator",data:=.fields #[.ref l,.int 0 0]}).objs.size=s.heap.objs.size+1:=Heap.size_push ..
 show _/\_
 rw[hz]
 have he:IsEnum ((s.heap.push {cls:=.type "tuple_iterator",data:=.fields #[.ref l,.int 0 0]}).push
  {cls:=.type "enumerate",data:=.fields #[.none,.bool false,.ref s.heap.objs.size,rawInt 0,.none,.none]}) (s.heap.objs.size+1) s.heap.objs.size 0 .none:=by
  have:=Heap.get?_push_size (s.heap.push {cls:=.type "tuple_iterator",data:=.fields #[.ref l,.int 0 0]})
   (o:={cls:=.type "enumerate",data:=.fields #[.none,.bool false,.ref s.heap.objs.size,rawInt 0,.none,.none]}) rfl
  rw[hz] at this;exact this
 refine⟨⟨_,he,rfl⟩,h _ he ⟨_,Heap.get?_push_of_some _ (Heap.get?_push_size _ rfl),rfl,rfl⟩ (by rw[Heap.size_push,hz]) fun b o y=>Heap.get?_push_of_some _ (Heap.get?_push_of_some _ y)⟩
def Ite(K:Fg)(a:Addr):It:=⟨fun i H=>∃ xs x,SqT K H a xs/\xs[i]?=some x,fun i H x H'=>∃ p y,x=.ref p/\H p=none/\(∀ xs,SqT K H a xs->xs[i]?=some y)/\H'=upd H p (.tup [.int i,y]),fun i H=>∃ xs,SqT K H a xs/\xs.length<=i⟩
theorem ye6(a e it:Addr)(hei:e≠it) :
 xa7 P w K (.Tuple elts k pos) (Ite K a) [e,it] e (fun i h=>(∃ old,IsEnum h e it i old)/\h.IsTupleIter it a i) where
 mem:=by simp
 obj:=by
  rintro i h ⟨⟨old,e1⟩,o2,e2,_,d2⟩ b hb
  have hb:b=e\/b=it:=by simpa using hb
  rcases hb with rfl|rfl
  ·exact⟨_,e1,fun v z=>by cases (show Data.fields _=Data.cell v from z)⟩
  ·exact⟨_,e2,fun v z=>by rw[d2] at z;cases z⟩
 keep:=fun i h h' st kk=>⟨let ⟨old,e1⟩:=st.1;⟨old,kk e (by simp) _ e1⟩,st.2.at fun o q=>kk it (by simp) o q⟩
 item:=by
  intro X hP hw hK hc i pins s σ H E I hf st hg
  subst hP hw hK
  obtain⟨xs,x,hq,hx⟩:=hg
  obtain⟨its,rv,p,hz⟩:=I.tuple hq
  obtain⟨u,hu,ru⟩:=rv.get hx
  have hil:i<its.toArray.size:=by rw[List.size_toArray];exact(List.getElem?_eq_some_iff.mp hu).1
  have pT:s.heap.IsTuple a its.toArray:=p
  have nea:a≠it:=fun z=>by
   obtain⟨o1,h1,c1,_⟩:=pT
   obtain⟨o2,h2,c2,_⟩:=st.2
   rw[z,h2] at h1
   cases h1
   rw[c1] at c2
   exact absurd c2 (by decide)
  have nee:e≠a:=fun z=>by
   obtain⟨o1,h1,c1,_⟩:=pT
   obtain⟨old,h2⟩:=st.1
   rw[<-z] at h1
   have h2:s.heap.get? e=some _:=h2
   rw[h2] at h1
   cases h1
   exact absurd c1 (show ¬(Value.type "enumerate"=Value.type "tuple") by decide)
  have W:=WalksT.enumerateD (prog:=X.prog) (w:=X.w) (A:=X.A) (xw4 (A:=X.A.in1) (show X.A.in1.handled=none from I.ok.hd hc) it a nea its.toArray) e hei (by simp[hei,nee]) (by simp)
  refine wpAny_with_toks (n:=1) I.tk (W.item i s _ _ hil ⟨st.1,st.2,pT⟩ fun T vs h' tk hv hT htup hmid kk ht=>?_)
  have ht:0<tk:=ht
  obtain⟨tk1,y,hy,rfl⟩:=hv
  have hy:its[i]?=some y:=by simpa using hy
  rw[hu] at hy
  injection hy with hy
  subst hy
  have hap:=W.apart i T h' hmid
  refine⟨_,rfl,W.go elts k pos i T {s with heap:=h',toks:=tk} _ _ hmid fun h2 st2 k2=>?_⟩
  have htup2:IsTup h2 T [Value.int i tk1,u].toArray:=by
   obtain⟨o,e,c⟩:=htup
   exact⟨o,k2 T o hap e,by simpa using c⟩
  have I1:Inv X pins σ (upd H T (.tup [.int i,x])) {s with heap:=h2,toks:=tk}:=I.turnLaid (ch:=[e,it]) (fun b hb=>hf b hb) (fun b u hb e=>k2 b u hb (kk b u hb e)) hT ⟨by rw[sizeLine_eq];simp,[Value.int i tk1,u],.cons ⟨tk1,rfl⟩ (.cons ru .nil),htup2⟩ ht
  refine⟨.ref T,_,I1,rfl,⟨T,x,rfl,I.hok.fresh hT,fun ys hy=>by rw[I.tuple_inj hy hq];exact hx,rfl⟩,⟨st2.1,st2.2.1⟩,fun b hb=>?_⟩
  have hb2:∃ o,s.heap.get? b=some o:=by
   have hb:b=e\/b=it:=by simpa using hb
   rcases hb with rfl|rfl
   ·obtain⟨old,e1⟩:=st.1;exact⟨_,e1⟩
   ·obtain⟨o,e1,_⟩:=st.2;exact⟨_,e1⟩
  obtain⟨o,e⟩:=hb2
  rw[B4 (Nat.ne_of_lt (Nat.lt_of_lt_of_le (Heap.lt_size e) hT))]
  exact(hf b hb).1
 done:=by
  intro X hP hw hK hc i pins s σ H E I hf st hg
  subst hP hw hK
  obtain⟨xs,hq,hx⟩:=hg
  obtain⟨its,rv,p,hz⟩:=I.tuple hq
  have pT:s.heap.IsTuple a its.toArray:=p
  have hno:its.toArray[i]?=none:=by
   have:=rv.length
   simp;omega
  obtain⟨old,he⟩:=st.1
  have D:Draws X.prog X.w X.A.in1 it [it,a] 0 (fun _ _=>True) (fun _ h=>h.IsTupleIter it a i/\h.IsTuple a its.toArray) :=
   { live:=fun _ _ st=>let ⟨o,ho,_⟩:=st.1;⟨o,ho⟩
     frame:=fun _ _ _ st hk=>⟨st.1.at fun o e=>hk it (by simp) o e,st.2.at fun o e=>hk a (by simp) o e⟩
     item:=fun j s Q E hj=>absurd hj (Nat.not_lt_zero _)
     done:=fun s Q E st hE=>qv9 (show X.A.in1.handled=none from I.ok.hd hc) st.1 st.2 hno hE}
  exact wpAny_pyNext_enum_endD D he ⟨st.2,pT⟩ fun h' hx=>⟨rfl,I.turnedL (ch:=[e,it]) (t':=s.toks) (fun b hb=>hf b hb) (fun b o hb y=>hx b o (fun z=>hb (by simp[z])) y) I.tk⟩
 self:=fun A i s Q E st h=>let ⟨old,e1⟩:=st.1;wpAny_pyIter_enum e1 h
def xp8(K:Fg)(ta:TA):TI:=fun σ H R=>ta σ H fun vs H1=>∃ a xs,vs=[.ref a]/\SqT K H1 a xs/\R (Ite K a) H1
theorem xw5{p:Pos}{l:Expr}{ta:TA}(hg:Gl X "enumerate")(hm:X.mg "enumerate"=none)(ha:PA X [l] ta)(hs:autoParam (starEach [l] X.env=[(false,eval l X.env)]) zAr) :
 PI X (.Tuple elts k tpos) (.Call (.Name "enumerate" p) [l] [] pos) (xp8 X.K ta):=by
 intro pins s σ H R I h
 refine Call_ (qy1 I hg hm boot_enumerate (PyProof.Rows.callWith_type1 (thn (ha pos pins s σ H _ I h) fun us s1 zq=>?_) hs rfl))
 obtain⟨vs,H1,I1,r1,q1⟩:=zq
 obtain⟨a,xs,e,hq,q⟩:=q1
 subst e
 obtain⟨v,rfl,rv⟩:=qv3 r1
 cases rv
 obtain⟨its,rv,pT,hz⟩:=I1.tuple hq
 refine we0 (show s1.heap.IsTuple a its.toArray from pT) fun h' he hit hz hk=>?_
 have I2:Inv X pins σ H1 {s1 with heap:=h'}:=I1.kept (t':=s1.toks) hk
 refine wpAny_pyIter_enum he ?_
 have ne:s1.heap.objs.size+1≠s1.heap.objs.size:=by omega
 refine⟨s1.heap.objs.size+1,_,_,_,H1,rfl,I2,ye6 a (s1.heap.objs.size+1) s1.heap.objs.size ne,⟨⟨_,he⟩,hit⟩,fun b hb=>?_,q⟩
 have hb:b=s1.heap.objs.size+1\/b=s1.heap.objs.size:=by simpa using hb
 rcases hb with rfl|rfl
 ·exact I1.fpOk (Nat.le_succ _) (I1.hok.fresh (Nat.le_succ _))
 ·exact I1.fpOk (Nat.le_refl _) (I1.hok.fresh (Nat.le_refl _))
theorem yx8{ta:TA}(h:ta σ H fun vs H1=>∃ a xs,vs=[.ref a]/\SqT K H1 a xs/\R (Ite K a) H1):xp8 K ta σ H R:=h
theorem xm6(hq:SqT K H a xs)(Pv:Nat->St->Hp->Prop)(h0:Pv 0 σ H)(hk:∀ i σ H',Pv i σ H'->SqT K H' a xs)(hs:∀ i x σ H p,xs[i]?=some x->Pv i σ H->H p=none->g (.ref p) σ (upd H p (.tup [.int i,x])) fun σ2 H2=>tb {D with nx:=PAt Pv (i+1),ct:=PAt Pv (i+1),bk:=D.nx} σ2 H2)(hd:∀ σ H,Pv xs.length σ H->D.nx σ H) :
 ∃ b ys,[V.ref a]=[.ref b]/\SqT K H b ys/\wo2 g tb D σ (Ite K b) H:=by
 refine⟨a,xs,rfl,hq,fun i m σ H=>m=xs.length-i/\i<=xs.length/\Pv i σ H,⟨xs.length,by simp,Nat.zero_le _,h0⟩,?_⟩
 rintro i m σ H ⟨rfl,hi,p⟩
 have sq:=hk i σ H p
 by_cases hlt:i<xs.length
 ·refine .inr ⟨⟨xs,xs[i],sq,by simp[hlt]⟩,Pv (i+1),fun σ' H' p'=>⟨xs.length-(i+1),by omega,rfl,hlt,p'⟩,fun x H' y=>?_⟩
  obtain⟨t,z,rfl,ht,hz,rfl⟩:=y
  exact hs i z σ H t (hz xs sq) p ht
 ·have e:i=xs.length:=by omega
  subst e
  exact .inl ⟨⟨xs,sq,Nat.le_refl _⟩,hd σ H p⟩
theorem yx9(hn:(n:Int)<2 ^ 62)(Pv:Nat->St->Hp->Prop)(p0:Pv 0 σ H)(hs:∀ (i:Nat) σ H,i<n->Pv i σ H->g (.int ((n:Int)-1-i)) σ H fun σ2 H2=>tb {D with nx:=PAt Pv (i+1),ct:=PAt Pv (i+1),bk:=D.nx} σ2 H2)(hd:∀ σ H,Pv n σ H->D.nx σ H) :
 ∃ m:Nat,[V.int ((n:Int)-1),V.int (-1),V.int (-1)]=[.int ((m:Int)-1),.int (-1),.int (-1)]/\(m:Int)<2 ^ 62/\wo2 g tb D σ (Itv m) H:=by
 obtain⟨m,e,h1,h2⟩:=zg7 hn Pv p0 hs hd
 injection e with e
 injection e with e
 have:n=m:=by omega
 subst this
 exact⟨n,rfl,h1,h2⟩
section
variable{Q:VK}
theorem yy0(h1:H p=some (.lst xs))(h2:H b=some (.lst zs))(hz:xs.length+zs.length<=sizeLine)(h:Q .non (upd H p (.lst (xs++zs)))):wz6 (.ref p) [.ref b] H Q:=⟨p,b,xs,zs,rfl,rfl,h1,h2,hz,h⟩
end
section
variable{t:TE}
def tFs(c1 c2:Str)(t:TE):TE:=fun σ H Q=>t σ H fun x H1=>∃ z,x=.str z/\z.length<=4096/\Q (.str (c1++z++c2)) H1
theorem zm6{c1 c2:Str}{p3:Pos}(he:PE X e t)(h1:autoParam (c1.length<=4096) zAd)(h2:autoParam (c2.length<=4096) zAd) :
 PE X (.JoinedStr [.Constant (.str c1) j1 p1,.FormattedValue e (-1) none p2,.Constant (.str c2) j2 p3] pos) (tFs c1 c2 t):=by
 intro pins s σ H Q I h
 have e0:Str.empty++c1=c1:=Str.empty_append c1
 have hs:sizeLine=16777216:=sizeLine_eq
 refine JoinedStr_many (joinParts_cons (Calls.Constant_str ?_))
 refine⟨by rw[e0,hs];omega,?_⟩
 rw[e0]
 refine joinParts_cons (FormattedValue_plain (thn (he pins _ σ H _ (I.tok _) h) fun u s1 zq=>?_))
 obtain⟨x,H1,I1,r1,z,e1,hz,q⟩:=zq
 subst e1
 obtain⟨tk,rfl⟩:=r1
 refine wpAny_with_toks (n:=1) I1.tk (formatField_str (fun t' tk'=>?_) (by rw[hs];omega))
 intro htk
 refine⟨by rw[strLen_append,hs];omega,?_⟩
 refine joinParts_consE (joinParts_cons (Calls.Constant_str ?_))
 refine⟨by rw[strLen_append,strLen_append,hs];omega,joinParts_nilE (joinParts_nil ?_ (by rw[strLen_append,strLen_append,hs];omega))⟩
 exact⟨.str (c1++z++c2),H1,I1.tok _,⟨_,rfl⟩,q⟩
end
theorem xm7:Manifest.owners.lookup (String.ofList ['d','e','s','r','e','v','e','r'].reverse)=some Manifest.sig_reversed:=by kernel_rfl
theorem qc5:Slot "reversed" "__next__" "reversed.__next__" :=
 .of (owner := "reversed") (n := "__next__") (by rw[typeLookup_type,builtinLookup_eq_fast];kernel_rfl) (by decide +kernel) (by decide +kernel) (by decide +kernel)
  (by first|exact .inl (by decide +kernel)|exact .inr (by decide +kernel)) (by rw[isSubtype_type];kernel_rfl)
theorem we1:entryFor table "reversed.__next__"=some Builtin.«reversed.__next__»:=entryFor_of_tree (by kernel_rfl)
theorem wb0(a:Value):argsOk "reversed.__next__" ⟨[a],[]⟩:=by
 unfold argsOk;rw[signature?_of (id := "reversed.__next__") (n:=['_','_','t','x','e','n','_','_']) (o:=['d','e','s','r','e','v','e','r']) (by kernel_rfl) xm7];kernel_rfl
theorem wi8:Slot "reversed" "__iter__" "reversed.__iter__" :=
 .of (owner := "reversed") (n := "__iter__") (by rw[typeLookup_type,builtinLookup_eq_fast];kernel_rfl) (by decide +kernel) (by decide +kernel) (by decide +kernel)
  (by first|exact .inl (by decide +kernel)|exact .inr (by decide +kernel)) (by rw[isSubtype_type];kernel_rfl)
theorem wy0(a:Value):argsOk "reversed.__iter__" ⟨[a],[]⟩:=by
 unfold argsOk;rw[signature?_of (id := "reversed.__iter__") (n:=['_','_','r','e','t','i','_','_']) (o:=['d','e','s','r','e','v','e','r']) (by kernel_rfl) xm7];kernel_rfl
theorem xc6:entryFor table "reversed.__iter__"=some Builtin.«dict_keyiterator.__iter__» :=
 entryFor_alias (id' := "dict_keyiterator.__iter__") (by kernel_rfl) (by first | rfl | decide +kernel | (unfold String.splitOn; simp +decide [String.splitOnAux])) (by decide +kernel) (by kernel_rfl)
theorem xi5:Slot "reversed" "__init__" "object.__init__" :=
 .of (owner := "object") (n := "__init__") (by rw[typeLookup_type,builtinLookup_eq_fast];kernel_rfl) (by decide +kernel) (by decide +kernel) (by decide +kernel)
  (by first|exact .inl (by decide +kernel)|exact .inr (by decide +kernel)) (by rw[isSubtype_type];kernel_rfl)
theorem wy1:TypeCalled "reversed" "reversed.__new__" "object.__init__" :=
 ⟨by decide +kernel,by decide +kernel,⟨_,_,F.mro_reversed⟩,F.made_reversed,by decide +kernel,by rw[isSubtype_type];kernel_rfl,xi5⟩
theorem wy2:typeLookup (.type "tuple") "__reversed__"=pure none:=by rw[typeLookup_type,builtinLookup_eq_fast];kernel_rfl
theorem we2:typeLookup (.type "tuple") "__getitem__"=pure (some (.builtin "tuple.__getitem__")):=by rw[typeLookup_type,builtinLookup_eq_fast];kernel_rfl
def ye7(l:Addr)(i:Int):Obj:={cls:=.type "reversed",data:=.fields #[.ref l,rawInt i]}
def we3(h:Heap)(a l:Addr)(i:Int):Prop:=∃ o,h.get? a=some o/\o.cls=.type "reversed"/\o.data=.fields #[.ref l,rawInt i]
theorem we3.typeIs(x:we3 s.heap a l i):s.TypeIs (.ref a) "reversed":=let ⟨o,ho,hc,_⟩:=x;⟨o,ho,hc⟩
theorem we3.at(x:we3 h a l i)(e:∀ o,h.get? a=some o->h'.get? a=some o):we3 h' a l i:=let ⟨o,ho,r⟩:=x;⟨o,e _ ho,r⟩
theorem wi0(l:Addr)(items:Array Value)(hz:(items.size:Int)<2 ^ 63) :
 Meets (Builtin.«reversed.__new__» ⟨[.type "reversed",.ref l],[]⟩) (fun _ R s=>IsTup s.heap l items /\
  R (.ok (.ret (.ref s.heap.objs.size))) {s with heap:=s.heap.push (ye7 l ((items.size:Int)-1)),toks:=s.toks+1+1}) :=
 .of_wp fun prog w A R s h=>by
  obtain⟨ht,h⟩:=h
  unfold Builtin.«reversed.__new__»
  refine wpAny_bind (wpAny_of_eq (newClass_reversed _) ?_)
  try dsimp only
  refine wpAny_bind (wpAny_of_eq (a:=()) (by first|rfl|kernel_rfl) ?_)
  refine wpAny_bind (wpAny_of_eq (a:=()) (by first|rfl|kernel_rfl) ?_)
  try dsimp only
  refine wpAny_bind (wpAny_specialOf ht.typeIs wy2 ?_)
  try dsimp only
  refine wpAny_bind ?_
  show wpAny _ _ (isInstance (.ref l) (.type "dict") >>= _) _ _ _
  refine wpAny_bind (wpAny_isInstance ht.typeIs sub_tuple_dict ?_)
  try dsimp only
  rw[if_neg (by decide)]
  refine wpAny_bind (wpAny_specialOf ht.typeIs we2 ?_)
  try dsimp only
  rw[if_pos (by decide)]
  refine wpAny_pure ?_
  try dsimp only
  rw[if_neg (by decide)]
  refine wpAny_bind (len_tuple ht hz ?_)
  refine wpAny_bind (m:=asInt? _) (wpAny_of_eq (a:=some (items.size:Int)) rfl ?_)
  try dsimp only
  refine wpAny_bind ?_
  show wpAny _ _ (newObj (.type "reversed") (.fields #[.ref l,rawInt ((items.size:Int)-1)]) none) _ _ _
  refine wpAny_newObj_type ?_ (by size_fits)
  exact wpAny_pure ⟨_,rfl,h⟩
theorem wo6(hl:IsTup s.heap l items)(hz:(items.size:Int)<2 ^ 63)(h:Q (.ref s.heap.objs.size) {s with heap:=s.heap.push (ye7 l ((items.size:Int)-1)),toks:=s.toks+1+1}):wpAny (model prog w) A (call (.type "reversed") [.ref l]) Q E s :=
 callType_new wy1 (by decide) (F.typeCall_reversed_1 _) (F.newCall_reversed_1 _) (fun obj=>F.args_object_init_2 obj _) F.entry_reversed_new (wi0 l items hz)
  ⟨hl,⟨_,Heap.get?_push_size _ rfl,rfl⟩,h⟩
theorem wy3{i:Nat}{x:Value}{Q:Option Value->Shared->Prop}(hit:we3 s.heap it l (i:Int))(hl:IsTup s.heap l items)(hi:(i:Int)<2 ^ 63)(hx:items[i]?=some x)(hQ:∀ h' tk,we3 h' it l ((i:Int)-1)->Heap.SameBut it s.heap h'->Q (some x) {s with heap:=h',toks:=tk}):wpAny (model prog w) A (pyNext (.ref it)) Q E s:=by
 obtain⟨o,ho,hc,hd⟩:=id hit
 unfold pyNext
 refine wpAny_bind (wpAny_attempt (wpAny_callSpecial?_slot (name:=Str.ofString "__next__") hit.typeIs qc5
  (wpAny_call_entry qc5 hit.typeIs we1 ?_ (wb0 _))))
 unfold Builtin.«reversed.__next__»
 refine wpAny_bind (wpAny_of_eq (a:=(Value.ref it,[])) rfl ?_)
 try dsimp only
 refine wpAny_bind (wpAny_field ho hd (x:=.ref l) rfl ?_)
 refine wpAny_bind (wpAny_field ho hd (x:=rawInt (i:Int)) rfl ?_)
 show wpAny _ _ (if(i:Int)<0 then _ else _) _ _ s
 rw[if_neg (by omega)]
 refine wpAny_bind (wpAny_specialOf hl.typeIs we2 ?_)
 try dsimp only
 rw[if_neg (by decide)]
 have hil:i<items.size:=(Array.getElem?_eq_some_iff.mp hx).1
 refine wpAny_bind (wpAny_mkInt ?_)
 refine wpAny_bind (wpAny_attempt (getItem_tuple (j:=i) hl (by omega) hi (by unfold seqIndex?;simp;omega) hx ?_))
 try dsimp only
 refine wpAny_bind (wpAny_field (s:={s with toks:=s.toks+1}) ho hd (x:=rawInt (i:Int)) rfl ?_)
 show wpAny _ _ (setField (.ref it) 1 (rawInt ((i:Int)-1)) >>= _) _ _ _
 refine wpAny_bind (wpAny_setField (s:={s with toks:=s.toks+1}) ho hd (by simp) ?_)
 refine wpAny_pure ⟨x,rfl,wpAny_pure (hQ _ _ ?_ (Heap.SameBut.update ..))⟩
 exact⟨_,Heap.get?_update_self _ ho (Obj.isFreed_of_fields (Obj.data_mapFields hd _)),(Obj.cls_mapFields ..).trans hc,by
  rw[Obj.data_mapFields hd];simp⟩
theorem xc7{Q:Option Value->Shared->Prop}(hh:A.handled=none)(hit:we3 s.heap it l (-1))(hQ:∀ h',Heap.ExtBut it s.heap h'->Q none {s with heap:=h'}):wpAny (model prog w) A (pyNext (.ref it)) Q E s:=by
 obtain⟨o,ho,hc,hd⟩:=id hit
 unfold pyNext
 refine wpAny_bind (wpAny_attempt (wpAny_callSpecial?_slot (name:=Str.ofString "__next__") hit.typeIs qc5
  (wpAny_call_entry qc5 hit.typeIs we1 ?_ (wb0 _))))
 unfold Builtin.«reversed.__next__»
 refine wpAny_bind (wpAny_of_eq (a:=(Value.ref it,[])) rfl ?_)
 try dsimp only
 refine wpAny_bind (wpAny_field ho hd (x:=.ref l) rfl ?_)
 refine wpAny_bind (wpAny_field ho hd (x:=rawInt (-1)) rfl ?_)
 show wpAny _ _ (if(-1:Int)<0 then _ else _) _ _ s
 rw[if_pos (by decide)]
 refine wpAny_bind (wpAny_rule ?_)
 refine wpAny_bind ?_
 show wpAny _ _ (setField (.ref it) 1 (rawInt (-1)) >>= _) _ _ _
 refine wpAny_bind (wpAny_setField ho hd (by simp) ?_)
 have h1:=Heap.get?_update_self (Obj.mapFields (·.setIfInBounds 1 (rawInt (-1)))) ho (Obj.isFreed_of_fields (Obj.data_mapFields hd _))
 have d1:=Obj.data_mapFields hd (·.setIfInBounds 1 (rawInt (-1)))
 refine wpAny_setField (s:={s with heap:=_}) h1 d1 (by simp) ?_
 have eb:Heap.ExtBut it s.heap ((s.heap.update it (Obj.mapFields (·.setIfInBounds 1 (rawInt (-1))))).update it (Obj.mapFields (·.setIfInBounds 0 Value.none))):=by
  intro b u hb e
  exact((Heap.SameBut.update _ _ _).2 b hb).trans (((Heap.SameBut.update _ _ _).2 b hb).trans e)
 first
 | show wpAny _ _ (newExc (.type "StopIteration") [] >>= _) _ _ _
 | (refine wpAny_bind ?_;show wpAny _ _ (newExc (.type "StopIteration") [] >>= _) _ _ _)
 refine wpAny_bind ?_
 simp only[newExc,newTuple]
 refine wpAny_bind (wpAny_newObj_type ?_ (by size_fits))
 refine wpAny_bind (m:=firstArgMember _ _) (wpAny_of_eq (a:=Value.none) (by first|rfl|(simp only[firstArgMember];rfl)) ?_)
 refine wpAny_newObj_type ?_ (by size_fits)
 simp only[raiseNew]
 refine wpAny_bind (wpAny_handled ?_)
 first|rw[show A.in1.handled=none from hh]|rw[hh]
 refine wpAny_bind (wpAny_pure (wpAny_throw ?_))
 refine wpAny_bind (wpAny_isInstance (T := "StopIteration") (b:=true) ⟨_,Heap.get?_push_size _ rfl,rfl⟩ isSubtype_stop ?_)
 exact wpAny_pure (hQ _ ((eb.push _).push _))
theorem xc8(hit:we3 s.heap it l i)(h:Q (.ref it) s):wpAny (model prog w) A (pyIter (.ref it)) Q E s:=by
 refine wpAny_pyIter_slot hit.typeIs wi8 (wpAny_call_entry wi8 hit.typeIs xc6 ?_ (wy0 _))
 show wpAny _ _ (ret (.ref it)) _ _ s
 exact wpAny_pure ⟨_,rfl, "reversed",_,hit.typeIs,qc5.lookup,h⟩
def zh5(K:Fg)(a:Addr)(n:Nat):It :=
 ⟨fun i H=>i<n/\∃ xs x,SqT K H a xs/\xs[n-1-i]?=some x,fun i H x H'=>H'=H/\∀ xs,SqT K H a xs->xs[n-1-i]?=some x,fun i _=>i=n⟩
theorem yr4{tg:Expr}(a it:Addr)(n:Nat):xa7 P w K tg (zh5 K a n) [it] it (fun i h=>we3 h it a ((n:Int)-1-(i:Int))) where
 mem:=by simp
 obj:=fun i h st b hb=>by
  have e:b=it:=by simpa using hb
  subst e
  obtain⟨o,e,c,d⟩:=st
  exact⟨o,e,fun v z=>by rw[d] at z;cases z⟩
 keep:=fun i h h' st k=>st.at fun o e=>k it (by simp) o e
 item:=by
  intro X hP hw hK hc i pins s σ H E I hf st hg
  subst hP hw hK
  obtain⟨hi,xs,x,hq,hx⟩:=hg
  obtain⟨its,rv,p,hz⟩:=I.tuple hq
  obtain⟨u,hu,ru⟩:=rv.get hx
  obtain⟨f0,f1,f2,f3,f4,f5⟩:=hf it (by simp)
  have e:(n:Int)-1-(i:Int)=((n-1-i:Nat):Int):=by omega
  have st1:=st
  rw[e] at st1
  have hlt:=(List.getElem?_eq_some_iff.mp hx).1
  have hs:sizeLine=16777216:=sizeLine_eq
  refine wpAny_with_toks (n:=1) I.tk (wy3 st1 p (by omega) (x:=u) (by simpa using hu) fun h' tk st' sb=>?_)
  intro htk
  have I1:Inv X pins σ H {s with heap:=h',toks:=tk}:=I.turned (t':=tk) (fun b o hb e=>(sb.2 b hb).trans e) f0 f1 f3 f4 f5
  obtain⟨o,e',c,d⟩:=id st'
  have e2:((n-1-i:Nat):Int)-1=(n:Int)-1-((i+1:Nat):Int):=by omega
  rw[e2] at st'
  exact⟨u,rfl,xk8 (s:={s with heap:=h',toks:=tk}) e' c d (by decide) ⟨x,H,I1,ru,⟨rfl,fun ys hy=>by rw[I.tuple_inj hy hq];exact hx⟩,st',fun b hb=>(hf b hb).1⟩⟩
 done:=by
  intro X hP hw hK hc i pins s σ H E I hf st hg
  subst hP hw hK
  have hg:i=n:=hg
  subst hg
  obtain⟨f0,f1,f2,f3,f4,f5⟩:=hf it (by simp)
  have e:(i:Int)-1-(i:Int)=-1:=by omega
  have st1:=st
  rw[e] at st1
  exact xc7 (I.ok.hd hc) st1 fun h' eb=>⟨rfl,I.turned (t':=s.toks) (fun b o hb e=>eb b o hb e) f0 f1 f3 f4 f5⟩
 self:=fun _ _ _ _ _ st h=>xc8 st h
def yy1(K:Fg)(ta:TA):TI:=fun σ H R=>ta σ H fun vs H1=>∃ a xs,vs=[.ref a]/\SqT K H1 a xs/\R (zh5 K a xs.length) H1
theorem zh6{tg:Expr}{l:Expr}{ta:TA}{p:Pos}(hg:Gl X "reversed")(hm:X.mg "reversed"=none)(ha:PA X [l] ta)(hs:autoParam (starEach [l] X.env=[(false,eval l X.env)]) zAr) :
 PI X tg (.Call (.Name "reversed" p) [l] [] pos) (yy1 X.K ta):=by
 intro pins s σ H R I h
 refine Call_ (qy1 I hg hm boot_reversed (PyProof.Rows.callWith_type1 (thn (ha pos pins s σ H _ I h) fun us s1 zq=>?_) hs rfl))
 obtain⟨vs,H1,I1,r1,q1⟩:=zq
 obtain⟨a,xs,e,hq,q⟩:=q1
 subst e
 obtain⟨v,rfl,rv⟩:=qv3 r1
 cases rv
 obtain⟨its,rv,p,hz⟩:=I1.tuple hq
 have hsz:sizeLine=16777216:=sizeLine_eq
 have hlen:=rv.length
 refine wo6 p (by simp only[List.size_toArray];omega) ?_
 have e:((its.toArray.size:Nat):Int)-1=(xs.length:Int)-1-((0:Nat):Int):=by rw[rv.length];simp
 rw[e]
 have hit:we3 (s1.heap.push (ye7 a ((xs.length:Int)-1-((0:Nat):Int)))) s1.heap.objs.size a ((xs.length:Int)-1-((0:Nat):Int)):=⟨_,Heap.get?_push_size _ rfl,rfl,rfl⟩
 refine xc8 hit ?_
 refine⟨s1.heap.objs.size,[s1.heap.objs.size],_,_,H1,rfl,I1.kept (t':=s1.toks+1+1) fun b o e=>Heap.get?_push_of_some _ e,yr4 a _ xs.length,hit,fun b hb=>?_,q⟩
 have e:b=s1.heap.objs.size:=by simpa using hb
 subst e
 exact I1.fpOk (Nat.le_refl _) (I1.hok.fresh (Nat.le_refl _))
section
variable{Q:VK}
theorem zh7{ta:TA}(h:ta σ H fun vs H1=>∃ a xs,vs=[.ref a]/\SqT K H1 a xs/\R (zh5 K a xs.length) H1):yy1 K ta σ H R:=h
end
section
variable{Q:VK}
theorem yy2(hq:SqT K H a xs)(Pv:Nat->St->Hp->Prop)(h0:Pv 0 σ H)(hk:∀ i σ H',Pv i σ H'->SqT K H' a xs)(hs:∀ i x σ H,xs[xs.length-1-i]?=some x->i<xs.length->Pv i σ H->g x σ H fun σ2 H2=>tb {D with nx:=PAt Pv (i+1),ct:=PAt Pv (i+1),bk:=D.nx} σ2 H2)(hd:∀ σ H,Pv xs.length σ H->D.nx σ H) :
 ∃ b ys,[V.ref a]=[.ref b]/\SqT K H b ys/\wo2 g tb D σ (zh5 K b ys.length) H:=by
 refine⟨a,xs,rfl,hq,fun i m σ H=>m=xs.length-i/\i<=xs.length/\Pv i σ H,⟨xs.length,by simp,Nat.zero_le _,h0⟩,?_⟩
 rintro i m σ H ⟨rfl,hi,p⟩
 have sq:=hk i σ H p
 by_cases hlt:i<xs.length
 ·refine .inr ⟨⟨hlt,xs,xs[xs.length-1-i],sq,List.getElem?_eq_getElem (by omega)⟩,Pv (i+1),fun σ' H' p'=>⟨xs.length-(i+1),by omega,rfl,hlt,p'⟩,fun x H' y=>?_⟩
  obtain⟨rfl,hz⟩:=y
  exact hs i x σ _ (hz xs sq) hlt p
 ·have e:i=xs.length:=by omega
  subst e
  exact .inl ⟨rfl,hd σ H p⟩
end
def yk8:V->List V->Hp->VK->Prop:=fun x xs H Q=>∃ z c:Str,x=.str z/\xs=[.str c]/\z.length<=1000000/\Q (.str (PySem.Txt.stripChars z c)) H
theorem yr5:MtR X "str.strip" yk8:=by
 intro pins s σ H x vs v us Q I rx rv h
 obtain⟨z,c,rfl,rfl,hz,q⟩:=h
 obtain⟨t,rfl⟩:=rx
 obtain⟨u,rfl,ru⟩:=rv.one
 obtain⟨t',rfl⟩:=ru
 refine wpAny_with_toks (n:=1) I.tk (call_gives F.slot_str_strip (typeIs_str _ _ _) F.entry_str_strip (F.args_str_strip_2 _ _) (gives_str_strip_chars z c t t') (post_val_or_made (fun _=>fits_stripped _ _ _ (by rw[sizeLine_eq];omega)) fun t2 k=>?_))
 intro hk
 exact⟨.str (PySem.Txt.stripChars z c),H,I.tok _ hk,⟨_,rfl⟩,q⟩
section
variable{Q:VK}{f:Str}{E:XK}
theorem E9(h:ta σ H fun x H1=>∃ a C dx fs v,x=.ref a/\H1 a=some (.ins C dx fs)/\Cls K C/\wd0 K C f/\fs.lookup f=some v/\Q v H1):S5 K ta f σ H Q:=h
theorem qk4(h:tv σ H fun y H1=>ta σ H1 fun x H2=>∃ a C dx fs,x=.ref a/\H2 a=some (.ins C dx fs)/\Cls K C/\wd0 K C f/\fs.length<1000/\D.nx σ (upd H2 a (.ins C dx (ql1 f y fs)))):wd1 K ta tv f D σ H:=h
theorem E5(h:ta σ H fun x H1=>∃ a dx fs,x=.ref a/\H1 a=some (.ins C dx fs)/\fs.lookup m=none/\t σ H1 fun vs H2=>sp (x::(vs++dvs)) H2 Q E):N1 C m sp dvs E ta t σ H Q:=h
theorem xp9(h:t σ H fun vs H1=>∀ x dx,H1 x=none->H1 dx=none->dx≠x->sp (.ref x::(vs++dvs)) (upd (upd H1 dx (.own x)) x (.ins C dx [])) (fun v H2=>v=.non/\Q (.ref x) H2) E):xu8 C sp dvs E t σ H Q:=h
end
def yy3(K:Fg):List V->Hp->VK->Prop:=fun xs H Q=>∃ i,xs=[.int i]/\i.natAbs.log2<1920/\Q (.str (toString i)) H
theorem xm8:qf3 X (.type "str") (yy3 X.K):=xo7
end L2
local macro_rules | `(tactic| lk) => do
 let a <- ("qc0 X9 R0 yv9 M4 zq0 yj8 zw9 zq1 zf9 zg0 xm0 zq2 yj9 yw0 xc2 yw1 zx0 zq3 zg1 yk0 zq4 zg2 zq5 zq6 zg3 zx1 zx2 yw2 yj7 zq7 zx3 yw4 yv7 zf8 yw3 zg4 zg5 zy1 zg9 yq7 zr2 zh0 yx1 zh1 zr3 zh4 yx8 xp6 zq8 zx4 zx5 zx6 zl7 zm1 yk6 yx2 Aa8 zg6".splitOn " ").toArray.mapM fun n => `(Lean.Parser.Tactic.tacticSeq| refine $(Lean.mkIdent (.str `L2 n)) ?_)
 `(tactic| (repeat (first | (with_reducible first $[| $a]*) | ((with_reducible refine' L2.qu4 ?ev ?_); (case ev => exact rfl)) | ((with_reducible refine L2.yk1 ?ec ?_); (case ec => first | decide | omega | assumption)) | ((with_reducible refine L2.zq9 ?ec ?_); (case ec => first | exact ⟨by decide, by decide⟩ | exact ⟨by omega, by omega⟩)))))
local macro_rules | `(tactic| x_go) => `(tactic| refine L2.X9 ?_)
local macro_rules | `(tactic| k_go) => `(tactic| refine L2.R0 ?_)
namespace My
open PySem L2
variable{H H':Hp}{K:Fg}{Q:VK}{v:V}{x y:Str}{α:Type}{E:XK}{vs:List V}
section
open PyProof.Rows
set_option genInjectivity false in
structure Row where
 name:Str
 sort:Str
 host:Str
 shuts:List Str
 bars:List Str
def Row.da(r:Row):PyData:=.tuple [.str r.name,.str r.sort,.str r.host,.tuple (sDa r.shuts),.tuple (sDa r.bars)]
def oV:Option Str->V
 | some s=>.str s
 | none=>.non
theorem qw0{r:Row}(h:Dv K H r.da v):∃ b sv bv,v=.ref b/\SqT K H b [.str r.name,.str r.sort,.str r.host,sv,bv]/\Dv K H (.tuple (sDa r.shuts)) sv/\Dv K H (.tuple (sDa r.bars)) bv:=by
 obtain⟨b,ys,rfl,hb,h⟩:=C8.mp h
 rw[Dvs] at h;obtain⟨v1,r1,rfl,e1,h⟩:=h
 rw[Dvs] at h;obtain⟨v2,r2,rfl,e2,h⟩:=h
 rw[Dvs] at h;obtain⟨v3,r3,rfl,e3,h⟩:=h
 rw[Dvs] at h;obtain⟨v4,r4,rfl,e4,h⟩:=h
 rw[Dvs] at h;obtain⟨v5,r5,rfl,e5,h⟩:=h
 rw[Dvs] at h;subst h
 rw[D5.mp e1,D5.mp e2,D5.mp e3] at hb
 exact⟨b,v4,v5,rfl,hb,e4,e5⟩
def Rws(K:Fg)(H:Hp)(v:V)(rs:List Row):Prop:=∃ a vs,v=.ref a/\(SqL K H a vs\/SqT K H a vs)/\Dvs K H (rs.map Row.da) vs
theorem zm7 {n:Option Str} (h:Q (.bl (decide (some x=n))) H):Y0 K (.str x) (oV n) H Q:=by
 cases n with
 | none => refine xv6 rfl ?_;have e:(decide ((V.str x)=oV none))=decide (some x=none):=by simp[oV]
           rw[e];exact h
 | some y => refine xv6 rfl ?_;have e:(decide ((V.str x)=oV (some y)))=decide (some x=some y):=by simp[oV]
             rw[e];exact h
theorem yk6(h:Q (.bl (decide (x=y))) H):Y0 K (.str x) (.str y) H Q:=by
 refine xv6 rfl ?_
 have e:(decide ((V.str x)=V.str y))=decide (x=y):=by simp
 rw[e];exact h
theorem yx2(h:Q (.bl (!decide (x=y))) H):wo0 K (.str x) (.str y) H Q:=by
 refine zx7 rfl ?_
 have e:(decide ((V.str x)=V.str y))=decide (x=y):=by simp
 rw[e];exact h
theorem zm1{x y:Int}(h:Q (.bl (decide (x=y))) H):Y0 K (.int x) (.int y) H Q:=by
 refine xv6 rfl ?_
 have e:(decide ((V.int x)=V.int y))=decide (x=y):=by simp
 rw[e];exact h
def V4(rs:List Row)(n:Option Str):Option Row:=rs.find? fun r=>decide (some r.name=n)
def L3(rs:List Row)(n:Option Str):Option Str:=(V4 rs n).map (·.sort)
def P5(rs:List Row)(n:Option Str):Option Str:=(V4 rs n).bind fun r=>if r.sort=("frame":Str) then some r.host else none
def M6(rs:List Row)(n:Option Str):Option Str:=(rs.find? fun r=>decide (r.sort=("frame":Str)) && decide (some r.host=n)).map (·.name)
def qe6(K:Fg):Sp:=fun vs H Q _=>∃ v n rs,vs=[v,oV n]/\Rws K H v rs/\(V4 rs n=none->Q .non H)/\∀ r u,V4 rs n=some r->Dv K H r.da u->Q u H
theorem ye8(K:Fg):∀ vs H Q E,qe6 K vs H Q E->vs.length=["rows","name"].length:=by
 rintro vs H Q E ⟨v,n,rs,rfl,_⟩;rfl
def wo7(K:Fg):TS :=
 (C1 (qy2 (wc3 K (A2 0)) (B2 2)
 (P7 (E4 (tOp (Y0 K) (tOp (L7 K) (A2 2) (tC (.int 0))) (A2 1)))
 (M3 (A2 2)) M7))
 (M3 (tC .non)))
theorem qp7{α:Type}{p:α->Bool}:∀ {l:List α} {i:Nat} {x:α},l[i]?=some x->(∀ y∈l.take i,p y=false)->p x=true->l.find? p=some x
 | y::l,0,x,e,_,hp=>by cases e;rw[List.find?_cons,hp]
 | y::l,i+1,x,e,h,hp=>by
   have hy:p y=false:=h y (by simp)
   rw[List.find?_cons,hy]
   exact qp7 (i:=i) (by simpa using e) (fun z hz=>h z (by simp[hz])) hp
theorem xc9{P:α->Prop}{l:List α}{i:Nat}{x:α}(e:l[i]?=some x)(h:∀ y∈l.take i,P y)(hx:P x):∀ y∈l.take (i+1),P y:=by
 intro y hy
 rw[List.take_add_one,e] at hy
 rcases List.mem_append.mp hy with z|z
 ·exact h y z
 ·have:y=x:=by simpa using z
  subst this;exact hx
theorem yr6(h:qe6 K vs H Q E):wo7 K {nx:=fun _ H'=>Q .non H',rt:=Q} (D6 ["rows","name","row"] vs) H:=by
 obtain⟨v,n,rs,rfl,⟨a,xs,rfl,hq,hd⟩,h1,h2⟩:=h
 show wo7 K _ [some (.ref a),some (oV n),none] H
 have hlen:xs.length=rs.length:=by have:=hd.length;simpa using this
 unfold wo7
 refine qc0 (yv7 (yw3 (qu4 rfl ?_)))
 refine yj6 hq (fun i σ H'=>H'=H/\(∃ w,σ=[some (.ref a),some (oV n),w])/\∀ r∈rs.take i,decide (some r.name=n)=false) ⟨rfl,⟨_,rfl⟩,by simp⟩ (fun hl i σ H' _ p=>p.1▸hl) (fun ht i σ H' _ p=>p.1▸ht) ?_ ?_
 ·rintro i x σ H' hx ⟨rfl,⟨w,rfl⟩,hn⟩
  obtain⟨d,hd1,hd2⟩:=hd.get' hx
  rw[List.getElem?_map] at hd1
  obtain⟨r,hr,rfl⟩:=Option.map_eq_some_iff.mp hd1
  obtain⟨b,sv,bv,rfl,hb,hsv,hbv⟩:=qw0 hd2
  refine M4 (xm0 (yj9 (yj8 (yj8 (qu4 rfl (zq0 (U7 hb rfl (qu4 rfl (zm7 ⟨_,rfl,?_⟩)))))))))
  by_cases e:some r.name=n
  ·rw[decide_eq_true e,if_pos rfl]
   refine⟨_,rfl,?_⟩
   exact h2 r _ (qp7 hr hn (decide_eq_true e)) hd2
  ·rw[decide_eq_false e,if_neg Bool.false_ne_true]
   exact yj7 ⟨rfl,⟨_,rfl⟩,xc9 hr hn (decide_eq_false e)⟩
 ·rintro σ H' ⟨rfl,⟨w,rfl⟩,hn⟩
  show Q .non H'
  refine h1 ?_
  unfold V4
  rw[List.find?_eq_none]
  intro r hr
  rw[hlen,List.take_length] at hn
  simp[hn r hr]
end
variable{rk:Str->Nat}{rs:List Row}{k:Nat}
section
open PyProof.Rows
def Y1(K:Fg):Sp:=fun vs H Q _=>∃ v n rs,vs=[v,oV n]/\Rws K H v rs/\Q (oV (L3 rs n)) H
def ws4(K:Fg):TS :=
 (C1 (E3 (D1 (qe6 K) [] E0 (A1 (A2 0) (A1 (A2 1) A9))) (B2 2))
 (M3 (tIf (E4 (tOp xv3 (A2 2) (tC .non))) (tC .non) (tOp (L7 K) (A2 2) (tC (.int 1))))))
theorem ye9(h:Y1 K vs H Q E):ws4 K {nx:=fun _ H'=>Q .non H',rt:=Q} (D6 ["book","name","row"] vs) H:=by
 obtain⟨v,n,rs,rfl,hR,q⟩:=h
 show ws4 K _ [some v,some (oV n),none] H
 refine⟨_,rfl,_,rfl,v,n,rs,rfl,hR,fun e=>?_,fun r u e hu=>?_⟩
 ·refine⟨_,rfl,rfl,_,rfl,?_⟩
  show Q .non H
  have:L3 rs n=none:=by unfold L3;rw[e];rfl
  rw[this] at q;exact q
 ·obtain⟨b,sv,bv,rfl,hb,_,_⟩:=qw0 hu
  refine⟨_,rfl,rfl,_,rfl,?_⟩
  show(if decide (V.ref b=V.non)=true then _ else _)
  rw[decide_eq_false (by simp)];refine R0 ?_
  refine⟨_,rfl,U7 hb rfl ?_⟩
  have:L3 rs n=some r.sort:=by unfold L3;rw[e];rfl
  rw[this] at q;exact q
def qp8(K:Fg):Sp:=fun vs H Q _=>∃ v n rs,vs=[v,oV n]/\Rws K H v rs/\Q (oV (P5 rs n)) H
def ws5(K:Fg):TS :=
 (C1 (E3 (D1 (qe6 K) [] E0 (A1 (A2 0) (A1 (A2 1) A9))) (B2 2))
 (C1 (P7 (tOr (E4 (tOp xv3 (A2 2) (tC .non))) (E4 (tOp (wo0 K) (tOp (L7 K) (A2 2) (tC (.int 1))) (tC (.str "frame")))))
 (M3 (tC .non)) M7)
 (M3 (tOp (L7 K) (A2 2) (tC (.int 2))))))
theorem yf0(h:qp8 K vs H Q E):ws5 K {nx:=fun _ H'=>Q .non H',rt:=Q} (D6 ["book","name","row"] vs) H:=by
 obtain⟨v,n,rs,rfl,hR,q⟩:=h
 show ws5 K _ [some v,some (oV n),none] H
 refine⟨_,rfl,_,rfl,v,n,rs,rfl,hR,fun e=>?_,fun r u e hu=>?_⟩
 ·refine⟨_,rfl,rfl,_,rfl,?_⟩
  show Q .non H
  have:P5 rs n=none:=by unfold P5;rw[e];rfl
  rw[this] at q;exact q
 ·obtain⟨b,sv,bv,rfl,hb,_,_⟩:=qw0 hu
  refine⟨_,rfl,rfl,_,rfl,?_⟩
  show(if decide (V.ref b=V.non)=true then _ else _)
  rw[decide_eq_false (by simp)];refine R0 ?_
  refine⟨_,rfl,U7 hb rfl (yx2 ⟨_,rfl,?_⟩)⟩
  by_cases hs:r.sort=("frame":Str)
  ·rw[decide_eq_true hs,Bool.not_true];refine R0 ?_
   refine⟨_,rfl,U7 hb rfl ?_⟩
   have:P5 rs n=some r.host:=by unfold P5;rw[e];show(if r.sort=("frame":Str) then some r.host else none)=_;rw[if_pos hs]
   rw[this] at q;exact q
  ·rw[decide_eq_false hs,Bool.not_false];refine X9 ?_
   show Q .non H
   have:P5 rs n=none:=by unfold P5;rw[e];show(if r.sort=("frame":Str) then some r.host else none)=_;rw[if_neg hs]
   rw[this] at q;exact q
def qe7(K:Fg):Sp:=fun vs H Q _=>∃ v n rs,vs=[v,oV n]/\Rws K H v rs/\Q (oV (M6 rs n)) H
def wk9(K:Fg):TS :=
 (C1 (qy2 (wc3 K (A2 0)) (B2 2)
 (P7 (wn0 (E4 (tOp (Y0 K) (tOp (L7 K) (A2 2) (tC (.int 1))) (tC (.str "frame")))) (E4 (tOp (Y0 K) (tOp (L7 K) (A2 2) (tC (.int 2))) (A2 1))))
 (M3 (tOp (L7 K) (A2 2) (tC (.int 0)))) M7))
 (M3 (tC .non)))
theorem xw8(h:qe7 K vs H Q E):wk9 K {nx:=fun _ H'=>Q .non H',rt:=Q} (D6 ["book","name","row"] vs) H:=by
 obtain⟨v,n,rs,rfl,⟨a,xs,rfl,hq,hd⟩,q⟩:=h
 show wk9 K _ [some (.ref a),some (oV n),none] H
 have hlen:xs.length=rs.length:=by have:=hd.length;simpa using this
 refine⟨_,rfl,yj6 hq (fun i σ H'=>H'=H/\(∃ w,σ=[some (.ref a),some (oV n),w])/\∀ r∈rs.take i,(decide (r.sort=("frame":Str)) && decide (some r.host=n))=false) ⟨rfl,⟨_,rfl⟩,by simp⟩ (fun hl i σ H' _ p=>p.1▸hl) (fun ht i σ H' _ p=>p.1▸ht) ?_ ?_⟩
 ·rintro i x σ H' hx ⟨rfl,⟨w,rfl⟩,hn⟩
  obtain⟨d,hd1,hd2⟩:=hd.get' hx
  rw[List.getElem?_map] at hd1
  obtain⟨r,hr,rfl⟩:=Option.map_eq_some_iff.mp hd1
  obtain⟨b,sv,bv,rfl,hb,hsv,hbv⟩:=qw0 hd2
  refine⟨_,rfl,U7 hb rfl (yk6 ⟨_,rfl,?_⟩)⟩
  by_cases hs:r.sort=("frame":Str)
  ·rw[decide_eq_true hs];refine X9 ?_
   refine⟨_,rfl,U7 hb rfl ⟨_,rfl,zm7 ⟨_,rfl,?_⟩⟩⟩
   by_cases e:some r.host=n
   ·rw[decide_eq_true e];refine X9 ?_
    refine⟨_,rfl,U7 hb rfl ?_⟩
    have:M6 rs n=some r.name:=by
     unfold M6
     rw[qp7 hr hn (by rw[decide_eq_true hs,decide_eq_true e];rfl)];rfl
    rw[this] at q;exact q
   ·rw[decide_eq_false e];refine R0 ?_
    exact⟨rfl,⟨_,rfl⟩,xc9 hr hn (by rw[decide_eq_false e,Bool.and_false])⟩
  ·rw[decide_eq_false hs];refine R0 ?_
   k_go
   exact⟨rfl,⟨_,rfl⟩,xc9 hr hn (by rw[decide_eq_false hs,Bool.false_and])⟩
 ·rintro σ H' ⟨rfl,⟨w,rfl⟩,hn⟩
  show Q .non H'
  have:M6 rs n=none:=by
   unfold M6
   rw[List.find?_eq_none.mpr]
   ·rfl
   ·intro r hr
    rw[hlen,List.take_length] at hn
    rw[hn r hr];exact Bool.false_ne_true
  rw[this] at q;exact q
def ups(rs:List Row):Nat->Option Str->List Str
 | 0,_=>[]
 | k+1,n=>match M6 rs n with
   | none=>[]
   | some y=>y::ups rs k (some y)
def wo8(rs:List Row)(rk:Str->Nat):Prop:=∀ x y,M6 rs (some x)=some y->rk y<rk x
theorem xd0{rs:List Row}{rk:Str->Nat}(f:wo8 rs rk):∀ (k:Nat) (x:Str),rk x<=k->ups rs k (some x)=ups rs (rk x) (some x)
 | 0, x, h => by have:rk x=0:=by omega
                 rw[this]
 | k + 1,x,h=>by
   cases e:M6 rs (some x) with
   | none =>
     have e1:ups rs (k+1) (some x)=[]:=by rw[ups,e]
     rw[e1]
     cases e2:rk x with
     | zero=>rfl
     | succ m=>rw[ups,e]
   | some y =>
     have hy:=f x y e
     have e1:ups rs (k+1) (some x)=y::ups rs k (some y):=by rw[ups,e]
     rw[e1,xd0 f k y (by omega)]
     cases e2:rk x with
     | zero=>omega
     | succ m =>
       have e3:ups rs (m+1) (some x)=y::ups rs m (some y):=by rw[ups,e]
       rw[e3,xd0 f m y (by omega)]
theorem yy4(f:wo8 rs rk)(e:M6 rs (some x)=some y):ups rs (rk x) (some x)=y::ups rs (rk y) (some y):=by
 have hy:=f x y e
 cases e2:rk x with
 | zero=>omega
 | succ m =>
   have e3:ups rs (m+1) (some x)=y::ups rs m (some y):=by rw[ups,e]
   rw[e3,xd0 f m y (by omega)]
theorem zh8{x:Option Str}(e:M6 rs x=none):ups rs k x=[]:=by
 cases k with
 | zero=>rfl
 | succ m=>rw[ups,e]
def qy8(K:Fg):Sp:=fun vs H Q _=>∃ v n g rs rk,vs=[v,.str n,.str g]/\Rws K H v rs/\wo8 rs rk/\Q (.bl (decide (g∈ups rs (rk n) (some n)))) H
def ws6(K:Fg):TS :=
 (C1 (E3 (D1 (qe7 K) [] E0 (A1 (A2 0) (A1 (A2 1) A9))) (B2 3))
 (C1 (wc9 (E4 (tOp wg6 (A2 3) (tC .non)))
 (C1 (P7 (E4 (tOp (Y0 K) (A2 3) (A2 2)))
 (M3 (tC (.bl true))) M7)
 (E3 (D1 (qe7 K) [] E0 (A1 (A2 0) (A1 (A2 3) A9))) (B2 3))))
 (M3 (tC (.bl false)))))
def zh9(rs:List Row)(rk:Str->Nat):Option Str->List Str
 | none=>[]
 | some y=>y::ups rs (rk y) (some y)
theorem xx0(f:wo8 rs rk)(x:Str):ups rs (rk x) (some x)=zh9 rs rk (M6 rs (some x)):=by
 cases e:M6 rs (some x) with
 | none=>rw[zh8 e];rfl
 | some y=>rw[yy4 f e];rfl
theorem yf1(h:qy8 K vs H Q E):ws6 K {nx:=fun _ H'=>Q .non H',rt:=Q} (D6 ["book","name","frame","above"] vs) H:=by
 obtain⟨v,n,g,rs,rk,rfl,hR,f,q⟩:=h
 show ws6 K _ [some v,some (.str n),some (.str g),none] H
 refine⟨_,rfl,_,rfl,v,some n,rs,rfl,hR,?_⟩
 refine xu5 (fun σ H'=>H'=H/\∃ x,σ=[some v,some (.str n),some (.str g),some (oV x)]/\(g∈ups rs (rk n) (some n)↔g∈zh9 rs rk x))
  (fun σ _=>match σ with | [_,_,_,some (.str y)]=>rk y+1|_=>0) ⟨rfl,M6 rs (some n),rfl,by rw[xx0 f]⟩ ?_ ?_
 ·rintro σ H' ⟨rfl,x,rfl,hx⟩
  cases x with
  | none =>
    refine⟨_,rfl,rfl,_,rfl,?_⟩
    show Q (.bl false) H'
    have:¬g∈ups rs (rk n) (some n):=fun z=>by have:=hx.mp z;simp[zh9] at this
    rw[decide_eq_false this] at q;exact q
  | some y =>
    refine⟨_,rfl,rfl,_,rfl,?_⟩
    show(if(!decide (V.str y=V.non))=true then _ else _)
    rw[decide_eq_false (by simp),Bool.not_false];refine X9 ?_
    refine⟨_,rfl,_,rfl,yk6 ⟨_,rfl,?_⟩⟩
    by_cases e:y=g
    ·rw[decide_eq_true e];refine X9 ?_
     show Q (.bl true) H'
     have:g∈ups rs (rk n) (some n):=hx.mpr (by subst e;simp[zh9])
     rw[decide_eq_true this] at q;exact q
    ·rw[decide_eq_false e];refine R0 ?_
     refine⟨_,rfl,_,rfl,v,some y,rs,rfl,hR,?_⟩
     refine⟨⟨rfl,M6 rs (some y),rfl,?_⟩,?_⟩
     ·rw[hx]
      show g∈y::ups rs (rk y) (some y)↔_
      rw[xx0 f,List.mem_cons]
      exact⟨fun z=>z.resolve_left fun z=>e z.symm,Or.inr⟩
     ·show(match [some v,some (V.str n),some (V.str g),some (oV (M6 rs (some y)))] with | [_,_,_,some (.str y)]=>rk y+1|_=>0)<rk y+1
      cases e2:M6 rs (some y) with
      | none=>exact Nat.succ_pos _
      | some z=>have:=f y z e2;show rk z+1<rk y+1;omega
 ·rintro σ H' Q1 Q2 hQ ⟨v1,e1,e2,k,e3,q1⟩
  exact⟨v1,e1,e2,k,e3,hQ _ _ q1⟩
end
variable{i:Int}{c:Nat}{H1 H2 H0:Hp}{p d a e:Addr}{xs:List V}{o:HO}{ns:List Int}{D:qb6}{tb:TS}{σ:St}{te:TE}{ds:List PyData}
section
variable{K:Fg}{vs:List V}{H:Hp}{Q:VK}{E:XK}
theorem C3(xs:List Str):(B6 xs).length=xs.length:=List.length_map _
def ch(c:Nat):Str:=⟨#[c]⟩
def Lt:Str := "abcdefghijklmnopqrstuvwxyz"
theorem zr4:∀ j:Nat,j<26->Lt.cps.toList[j]?=some (97+j):=by decide +kernel
theorem zr5:Lt.length=26:=by decide +kernel
theorem zy5(h0:0<=i)(h1:i<26):atI Lt.cps.toList i=some (97+i.toNat):=by
 have e:i=((i.toNat:Nat):Int):=by omega
 have q:atI Lt.cps.toList ((i.toNat:Nat):Int)=some (97+i.toNat):=W3 (zr4 _ (by omega))
 rw[<-e] at q
 exact q
theorem xq1:∀ bs:List Nat,(PySem.Txt.join ("":Str) (bs.map ch)).cps.toList=bs:=by
 intro bs
 have e:PySem.Txt.join ("":Str) (bs.map ch)=Str.join ("":Str) (bs.map ch):=PySem.StrLaws.glued_eq_join _ _
 rw[e]
 induction bs with
 | nil=>rfl
 | cons b r ih =>
   cases r with
   | nil=>rfl
   | cons c r =>
     show((ch b++("":Str)++Str.join ("":Str) ((c::r).map ch)).cps).toList=_
     have ih:=ih (PySem.StrLaws.glued_eq_join _ _)
     show((ch b).cps++("":Str).cps++(Str.join ("":Str) ((c::r).map ch)).cps).toList=_
     rw[Array.toList_append,Array.toList_append,ih]
     rfl
theorem xd1{n:Int}(h:1<=n):(PySem.Txt.mul (ch c) n).cps.toList=List.replicate n.toNat c:=by
 unfold PySem.Txt.mul
 rw[if_neg (by omega)]
 have f:∀ (k:Nat) (acc:Array Nat),((List.replicate k #[c]).foldl (·++·) acc).toList=acc.toList++List.replicate k c:=by
  intro k
  induction k with
  | zero=>intro acc;simp
  | succ k ih=>intro acc;rw[List.replicate_succ,List.foldl_cons,ih];simp[List.replicate_succ]
 by_cases h1:n=1
 ·subst h1;rfl
 ·have e:(n == 1 || (ch c).length == 0)=false:=by
   have:(n == 1)=false:=by simpa using h1
   rw[this];rfl
  rw[e,if_neg Bool.false_ne_true]
  have:=f n.toNat #[]
  show(List.foldl (fun x1 x2=>x1++x2) #[] (List.replicate n.toNat #[c])).toList=_
  simpa using this
theorem D4{n:Nat}(h:n<=100000):n<=sizeLine:=by rw[sizeLine_eq];omega
theorem A7.tr(a:A7 H H1)(b:A7 H1 H2):A7 H H2:=fun c o e=>b c o (a c o e)
theorem A7.put(s:A7 H H1)(h:H p=none)(o:HO):A7 H (upd H1 p o):=fun b u e=>by
 have nb:b≠p:=fun z=>by rw[z,h] at e;cases e
 rw[B4 nb];exact s b u e
theorem xd2{ys:List V}(h:H d=some (.lst xs)):T4 H (upd H d (.lst ys)) :=
 ⟨fun b zs e=>by rw[B4 (fun z=>by rw[z,h] at e;cases e)];exact e,fun b o zs e=>by rw[B4 (fun z=>by rw[z,h] at e;cases e)];exact e⟩
theorem qn7{b:Addr}(h:H a=some o)(g:H b=none):a≠b:=fun e=>by rw[e,g] at h;cases h
theorem qe8(xs:List Str):(B6 xs).all qv5=true:=by unfold B6;rw[List.all_map];exact List.all_eq_true.mpr fun _ _=>rfl
theorem qf7(x:Str):∀ xs:List Str,inV (.str x) (B6 xs)=decide (x∈xs)
 | []=>by simp[B6,inV]
 | y::ys=>by
   have ih:=qf7 x ys
   unfold inV at ih ⊢
   show(eqV (.str y) (.str x) || (B6 ys).any fun z=>eqV z (.str x))=_
   rw[ih]
   by_cases e:x=y
   ·subst e;simp[eqV]
   ·have e':¬y=x:=fun z=>e z.symm
    simp[eqV,e,e']
def qc6(ns:List Int):List V:=ns.map V.int
theorem ql2(ns:List Int):(qc6 ns).length=ns.length:=List.length_map _
theorem yy5(ns:List Int)(x:Int):qc6 ns++[V.int x]=qc6 (ns++[x]):=by simp[qc6]
theorem I0(a b:Str):(a++b).length=a.length+b.length:=PySem.Str.length_append a b
theorem xx1(ns:List Int)(i:Nat)(x:Int):(qc6 ns).set i (.int x)=qc6 (ns.set i x):=by unfold qc6;rw[List.map_set]
theorem yk9{i:Nat}(h:i<ns.length):(qc6 ns)[i]?=some (.int ns[i]):=by unfold qc6;rw[List.getElem?_map,List.getElem?_eq_getElem h];rfl
theorem xx2{n:Nat}(h:1<=n):ixN n (-1)=some (n-1):=by
 unfold ixN
 rw[if_neg (by decide),if_pos (by omega)]
 congr 1
 omega
theorem yl0(h:1<=xs.length)(e:xs[xs.length-1]?=some v):atI xs (-1)=some v:=by
 unfold atI
 rw[xx2 h];exact e
theorem zy6{n:Nat}(h:1<=n):ixN n 0=some 0:=by
 unfold ixN
 rw[if_pos (by decide),if_pos (by omega)];rfl
theorem yy6{g:TG}(hq:SqL K H0 a xs\/SqT K H0 a xs)(s0:A7 H0 H)(Pv:Nat->St->Hp->Prop)(h0:Pv 0 σ H)(hk:∀ i σ H',Pv i σ H'->A7 H0 H')(hs:∀ i x σ H,xs[i]?=some x->Pv i σ H->g x σ H fun σ2 H2=>tb {D with nx:=Pv (i+1),ct:=Pv (i+1),bk:=D.nx} σ2 H2)(hd:∀ σ H,Pv xs.length σ H->D.nx σ H) :
 ∃ b,V.ref a=.ref b/\(((∃ xs,SqL K H b xs)/\wo2 g tb D σ (Itl K b) H)\/((∃ xs,SqT K H b xs)/\wo2 g tb D σ (Itt K b) H)):=by
 rcases hq with hq|hq
 ·exact⟨a,rfl,.inl ⟨⟨xs,s0.sqL hq⟩,xa9 Pv h0 (fun i σ H' _ p=>(hk i σ H' p).sqL hq) hs hd⟩⟩
 ·exact⟨a,rfl,.inr ⟨⟨xs,s0.sqT hq⟩,xo5 Pv h0 (fun i σ H' _ p=>(hk i σ H' p).sqT hq) hs hd⟩⟩
theorem yr7{c:TT}(Pv:St->Hp->Prop)(μ:St->Hp->Nat)(h0:Pv σ H)(hs:∀ σ H,Pv σ H->c σ H fun b H1=>if b=true then(∃ N:St->Hp->Prop,(∀ σ' H',N σ' H'->∃ m',m'<μ σ H/\m'=μ σ' H'/\Pv σ' H')/\tb {D with nx:=N,ct:=N,bk:=D.nx} σ H1) else D.nx σ H1):wc9 c tb D σ H:=by
 refine⟨fun m σ H=>m=μ σ H/\Pv σ H,⟨_,rfl,h0⟩,?_⟩
 rintro m σ H ⟨rfl,p⟩
 exact hs σ H p
theorem ws7{g:TG}{tt:TT}{σ':St}(hq:SqL K H0 a xs\/SqT K H0 a xs)(s0:A7 H0 H)(Pv:Nat->List V->Hp->Prop)(h0:Pv 0 [] H)(hlen:∀ i ys H,i<=xs.length->Pv i ys H->ys.length<=sizeLine)(hk:∀ i ys H',Pv i ys H'->A7 H0 H')(hs:∀ i x ys H,xs[i]?=some x->Pv i ys H->g x σ' H fun σ2 H2=>tt σ2 H2 fun b H3=>if b=true then te σ2 H3 fun y H4=>Pv (i+1) (ys++[y]) H4 else Pv (i+1) ys H3)(hd:∀ ys H,Pv xs.length ys H->∀ p,H p=none->Q (.ref p) (upd H p (.lst ys))) :
 ∃ b,V.ref a=.ref b/\(((∃ xs,SqL K H b xs)/\wi7 g tt te σ' Q (Itl K b) H)\/((∃ xs,SqT K H b xs)/\wi7 g tt te σ' Q (Itt K b) H)):=by
 rcases hq with hq|hq
 ·exact xl9 (s0.sqL hq) Pv h0 hlen (fun i ys H' _ p=>(hk i ys H' p).sqL hq) hs hd
 ·refine⟨a,rfl,.inr ⟨⟨xs,s0.sqT hq⟩,wz8 (n:=xs.length) (fun i x=>xs[i]?=some x) Pv h0 hlen (fun i ys H hi p=>?_) (fun i ys H x H' hi p y=>?_) (fun ys H p=>?_) (fun i x ys H _ hx p=>hs i x ys H hx p) hd⟩⟩
  ·exact⟨xs,xs[i],(hk i ys H p).sqT hq,by simp[hi]⟩
  ·exact⟨y.1,y.2 xs ((hk i ys H p).sqT hq)⟩
  ·exact⟨xs,(hk _ ys H p).sqT hq,Nat.le_refl _⟩
theorem ql3{xs:List Str}{i:Nat}{x:V}(h:(B6 xs)[i]?=some x):∃ y,xs[i]?=some y/\x=.str y:=by
 unfold B6 at h
 rw[List.getElem?_map] at h
 obtain⟨y,hy,e⟩:=Option.map_eq_some_iff.mp h
 exact⟨y,hy,e.symm⟩
theorem we4(xs:List Str)(x:Str):B6 xs++[V.str x]=B6 (xs++[x]):=by simp[B6]
theorem Dvs.one{d:PyData}(h:Dv K H d v):Dvs K H [d] [v]:=B3 h E2
def yy7(ns:List Int):List PyData:=ns.map .int
theorem xd3:∀ {ns:List Int} {vs:List V},Dvs K H (yy7 ns) vs↔vs=qc6 ns
 | [],_=>by show Dvs K H [] _↔_=[];rw[Dvs]
 | x::xs,vs=>by
   show Dvs K H (.int x::yy7 xs) vs↔vs=V.int x::qc6 xs
   rw[Dvs]
   constructor
   ·rintro⟨v,r,rfl,h1,h2⟩
    rw[O2.mp h1,xd3.mp h2]
   ·rintro rfl
    exact⟨_,_,rfl,O2.mpr rfl,xd3.mpr rfl⟩
theorem yy8(h1:Dv K H (.list ds) (.ref p))(h2:H e=some (.lst []))(h:Q (.bl (!ds.isEmpty)) H):wo0 K (.ref p) (.ref e) H Q:=by
 refine zx8 h1 (e:=.list []) (Y8.mpr ⟨e,[],rfl,SqL.of h2,E2⟩) ?_ ?_
 ·exact Nat.le_trans (Nat.min_le_right _ _) (by decide)
 ·cases ds <;> exact h
theorem zy7(h1:Dv K H (.list ds) (.ref p))(h2:H e=some (.lst []))(h:Q (.bl ds.isEmpty) H):Y0 K (.ref p) (.ref e) H Q:=by
 refine zl9 h1 (e:=.list []) (Y8.mpr ⟨e,[],rfl,SqL.of h2,E2⟩) ?_ ?_
 ·exact Nat.le_trans (Nat.min_le_right _ _) (by decide)
 ·cases ds <;> exact h
theorem none_of(s:A7 H H')(h:H' p=none):H p=none:=by
 cases e:H p with
 | none=>rfl
 | some o=>have:=s _ _ e;rw[h] at this;cases this
inductive Tr where
 | tx (s:Str)
 | nd (n:Str) (ps:List Tr)
mutual
def Tr.da:Tr->PyData
 | .tx s=>.str s
 | .nd n ps=>.tuple [.str n,.tuple (Tr.das ps)]
def Tr.das:List Tr->List PyData
 | []=>[]
 | t::ts=>t.da::Tr.das ts
end
theorem W4:∀ ts:List Tr,Tr.das ts=ts.map Tr.da
 | []=>by rw[Tr.das];rfl
 | t::ts=>by rw[Tr.das,W4 ts];rfl
mutual
theorem yy9:∀ t:Tr,fix t.da=true
 | .tx s=>by rw[Tr.da,fix]
 | .nd n ps=>by rw[Tr.da,fix,Q4,fix,Q4,fix,Q4,qf8 ps];rfl
theorem qf8:∀ ts:List Tr,Q4 (Tr.das ts)=true
 | []=>by rw[Tr.das,Q4]
 | t::ts=>by rw[Tr.das,Q4,yy9 t,qf8 ts];rfl
end
def Tr.isTx:Tr->Bool
 | .tx _=>true
 | .nd _ _=>false
mutual
def pre(pl:List Int):Tr->List (List Int×Tr)
 | .tx s=>[(pl,.tx s)]
 | .nd n ps=>(pl,.nd n ps)::zy8 pl 0 ps
def zy8(pl:List Int)(k:Nat):List Tr->List (List Int×Tr)
 | []=>[]
 | t::ts=>pre (pl++[(k:Int)]) t++zy8 pl (k+1) ts
end
theorem xx3:∀ ns:List Int,Q4 (yy7 ns)=true
 | []=>by show Q4 []=true;rw[Q4]
 | x::xs=>by show Q4 (.int x::yy7 xs)=true;rw[Q4,xx3 xs,fix];rfl
theorem P8{α:Type}{f:α->PyData}(h:∀ x,fix (f x)=true):∀ l:List α,Q4 (l.map f)=true
 | []=>by show Q4 []=true;rw[Q4]
 | x::l=>by show Q4 (f x::l.map f)=true;rw[Q4,h,P8 h l];rfl
variable{n:Str}
theorem yz0{ps:List Tr}(h:Dv K H (Tr.nd n ps).da v):∃ a b us,v=.ref a/\SqT K H a [.str n,.ref b]/\SqT K H b us/\Dvs K H (Tr.das ps) us:=by
 rw[Tr.da] at h
 obtain⟨a,xs,rfl,ha,h⟩:=C8.mp h
 rw[Dvs] at h;obtain⟨v1,r1,rfl,e1,h⟩:=h
 rw[Dvs] at h;obtain⟨v2,r2,rfl,e2,h⟩:=h
 rw[Dvs] at h;subst h
 rw[D5.mp e1] at ha
 obtain⟨b,ys,rfl,hb,h⟩:=C8.mp e2
 exact⟨a,b,ys,rfl,ha,hb,h⟩
theorem zy9{s:Str}(h:Dv K H (Tr.tx s).da v):v=.str s:=by rw[Tr.da] at h;exact D5.mp h
variable{us:List V}
theorem yl1{ts:List Tr}(h:Dvs K H (Tr.das ts) us){i:Nat}{t:Tr}(e:ts[i]?=some t):∃ u,us[i]?=some u/\Dv K H t.da u :=
 h.get (by rw[W4,List.getElem?_map,e];rfl)
theorem qy9{ts:List Tr}(h:Dvs K H (Tr.das ts) us):us.length=ts.length:=by have:=h.length;rw[W4,List.length_map] at this;exact this
theorem yf2{t:Tr}(h:Dv K H t.da v)(q:Q (.bl t.isTx) H):ye0 K [v,.ty "str"] H Q:=by
 cases t with
 | tx s=>rw[zy9 h];exact zx9 (.str _) (b:=true) rfl q
 | nd n ps=>obtain⟨a,b,us,rfl,ha,_⟩:=yz0 h;exact zr0 ha (b:=false) rfl q
def qz0(K:Fg):Sp:=fun vs H Q _=>∃ (t:Tr) (v:V),vs=[v]/\Dv K H t.da v/\Q (.bl t.isTx) H
def wg7(K:Fg):TS :=
 (M3 (tCB (ye0 K) (A1 (A2 0) (A1 (tC (.ty "str")) A9))))
theorem yf3(h:qz0 K vs H Q E):wg7 K {nx:=fun _ H'=>Q .non H',rt:=Q} (D6 ["part"] vs) H:=by
 obtain⟨t,v,rfl,hd,q⟩:=h
 show wg7 K _ [some v] H
 unfold wg7
 lk
 exact yf2 hd q
variable{r:Addr}
theorem xm9{ps:List Tr}{t:Addr}(h1:SqT K H r [.str n,.ref t])(h2:SqT K H t us)(h3:Dvs K H (Tr.das ps) us):Dv K H (Tr.nd n ps).da (.ref r):=by
 rw[Tr.da]
 exact C8.mpr ⟨r,_,rfl,h1,B3 (D5.mpr rfl) (B3 (C8.mpr ⟨t,us,rfl,h2,h3⟩) E2)⟩
mutual
def hgt:Tr->Nat
 | .tx _=>0
 | .nd _ ps=>1+Y2 ps
def Y2:List Tr->Nat
 | []=>0
 | t::ts=>max (hgt t) (Y2 ts)
end
theorem qp9:∀ a b:List Tr,Y2 (a++b)=max (Y2 a) (Y2 b)
 | [],b=>by rw[List.nil_append,Y2];omega
 | t::a,b=>by rw[List.cons_append,Y2,Y2,qp9 a b];omega
structure Cz(K:Fg)(k_Branch:Addr)(k_Reader:Addr):Prop where
 pg_Branch:PySem.W.plainGet K k_Branch Str.empty=true
 hd_Branch:PySem.W.hasDictIn K k_Branch=true
 po_Branch:PySem.W.plainOver K k_Branch=true
 sa_Branch:PySem.W.findIn K (.ref k_Branch) "__setattr__"=some (some (.builtin "object.__setattr__"))
 ns_Branch:PySem.W.nsIn K mainGlobals "Branch"=some (some (.ref k_Branch))
 na_Branch_name:PySem.W.findIn K (.ref k_Branch) "name"=some none
 na_Branch_place:PySem.W.findIn K (.ref k_Branch) "place"=some none
 na_Branch_parts:PySem.W.findIn K (.ref k_Branch) "parts"=some none
 na_Branch_waiting:PySem.W.findIn K (.ref k_Branch) "waiting"=some none
 pg_Reader:PySem.W.plainGet K k_Reader Str.empty=true
 hd_Reader:PySem.W.hasDictIn K k_Reader=true
 po_Reader:PySem.W.plainOver K k_Reader=true
 sa_Reader:PySem.W.findIn K (.ref k_Reader) "__setattr__"=some (some (.builtin "object.__setattr__"))
 ns_Reader:PySem.W.nsIn K mainGlobals "Reader"=some (some (.ref k_Reader))
 na_Reader_book:PySem.W.findIn K (.ref k_Reader) "book"=some none
 na_Reader_branches:PySem.W.findIn K (.ref k_Reader) "branches"=some none
 na_Reader_mends:PySem.W.findIn K (.ref k_Reader) "mends"=some none
 na_Reader_laid:PySem.W.findIn K (.ref k_Reader) "laid"=some none
variable{k_Branch k_Reader:Addr}
theorem Cz.cl_Branch(z:Cz K k_Branch k_Reader):Cls K k_Branch:=⟨z.pg_Branch,z.hd_Branch,z.po_Branch,z.sa_Branch⟩
theorem Cz.cl_Reader(z:Cz K k_Branch k_Reader):Cls K k_Reader:=⟨z.pg_Reader,z.hd_Reader,z.po_Reader,z.sa_Reader⟩
structure Brn where
 n:Str
 pl:List Int
 ps:List Tr
 ws:List Str
structure BA where
 o:Addr
 x:Addr
 p:Addr
 q:Addr
 w:Addr
def BA.fp(a:BA):List Addr:=[a.o,a.q,a.w]
def bF(a:BA)(b:Brn):List (Str×V):=[("name",.str b.n),("place",.ref a.p),("parts",.ref a.q),("waiting",.ref a.w)]
structure BrO(K:Fg)(H:Hp)(kB:Addr)(a:BA)(b:Brn):Prop where
 o:H a.o=some (.ins kB a.x (bF a b))
 p:SqT K H a.p (qc6 b.pl)
 q:∃ us,H a.q=some (.lst us)/\Dvs K H (Tr.das b.ps) us
 w:H a.w=some (.lst (B6 b.ws))
structure Mnd where
 s:Int
 e:Int
 t:Str
 r:Str
def Mnd.da(m:Mnd):PyData:=.tuple [.int m.s,.int m.e,.str m.t,.str m.r]
structure Lad where
 s:Int
 g:Str
 pl:List Int
 a:Int
def Lad.da(m:Lad):PyData:=.tuple [.int m.s,.str m.g,.tuple (yy7 m.pl),.int m.a]
theorem Mnd.fix(m:Mnd):L2.fix m.da=true:=by unfold Mnd.da;simp[L2.fix,Q4]
theorem Lad.fix(m:Lad):L2.fix m.da=true:=by unfold Lad.da;simp[L2.fix,Q4,xx3]
structure Rst where
 bs:List Brn
 ms:List Mnd
 ls:List Lad
structure RAd where
 x:Addr
 L:Addr
 M:Addr
 A:Addr
 as:List BA
def fpA(as:List BA):List Addr:=as.flatMap BA.fp
def RAd.fp(r:Addr)(a:RAd):List Addr:=r::a.L::a.M::a.A::fpA a.as
inductive qj5(K:Fg)(H:Hp)(kB:Addr):List BA->List Brn->Prop
 | nil:qj5 K H kB [] []
 | cons {a:BA} {b:Brn} {as:List BA} {bs:List Brn}:BrO K H kB a b->qj5 K H kB as bs->qj5 K H kB (a::as) (b::bs)
structure RdO(K:Fg)(H:Hp)(kR kB r:Addr)(bv:V)(a:RAd)(st:Rst):Prop where
 kr:PySem.W.nsIn K mainGlobals "Reader"=some (some (.ref kR))
 kb:PySem.W.nsIn K mainGlobals "Branch"=some (some (.ref kB))
 o:H r=some (.ins kR a.x [("book",bv),("branches",.ref a.L),("mends",.ref a.M),("laid",.ref a.A)])
 l:H a.L=some (.lst (a.as.map fun z=>V.ref z.o))
 b:qj5 K H kB a.as st.bs
 m:∃ us,H a.M=some (.lst us)/\Dvs K H (st.ms.map Mnd.da) us
 d:∃ us,H a.A=some (.lst us)/\Dvs K H (st.ls.map Lad.da) us
 nd:(RAd.fp r a).Nodup
def xi6(H:Hp)(p:Addr):Prop:=(∃ xs,H p=some (.lst xs))\/∃ C dx fs,H p=some (.ins C dx fs)
variable{b:Brn}{kB:Addr}{as:List BA}
section
variable{kR kB r:Addr}{bv:V}{a a':RAd}{st st':Rst}{H':Hp}{ps:List Addr}
theorem wo9(bt:But ps H H')(hm:∀ p∈ps,xi6 H p):T4 H H':=by
 have no:∀ c o,H c=some o->(∀ xs,o≠.lst xs)->(∀ C dx fs,o≠.ins C dx fs)->c∉ps:=fun c o e h1 h2 hc=>by
  rcases hm c hc with⟨xs,e2⟩|⟨C,dx,fs,e2⟩
  ·rw[e] at e2;cases e2;exact h1 xs rfl
  ·rw[e] at e2;cases e2;exact h2 C dx fs rfl
 exact⟨fun c xs e=>bt c _ e (no c _ e (fun _ z=>by cases z) fun _ _ _ z=>by cases z),fun c o xs e=>bt c _ e (no c _ e (fun _ z=>by cases z) fun _ _ _ z=>by cases z)⟩
theorem BrO.but{a:BA}(h:BrO K H kB a b)(bt:But ps H H')(tk:T4 H H')(hd:∀ x∈a.fp,x∉ps):BrO K H' kB a b:=by
 obtain⟨us,h1,h2⟩:=h.q
 exact⟨bt _ _ h.o (hd _ (by simp[BA.fp])),tk.sqT h.p,⟨us,bt _ _ h1 (hd _ (by simp[BA.fp])),Dvs.tupK tk _ _ (qf8 _) h2⟩,bt _ _ h.w (hd _ (by simp[BA.fp]))⟩
theorem qj5.but{as:List BA}{bs:List Brn}(h:qj5 K H kB as bs)(bt:But ps H H')(tk:T4 H H')(hd:∀ x∈fpA as,x∉ps):qj5 K H' kB as bs:=by
 induction h with
 | nil=>exact .nil
 | cons h1 h2 ih=>exact .cons (h1.but bt tk fun x hx=>hd x (by unfold fpA;rw[List.flatMap_cons];exact List.mem_append_left _ hx)) (ih fun x hx=>hd x (by unfold fpA;rw[List.flatMap_cons];exact List.mem_append_right _ hx))
theorem qj5.app{as2:List BA}{bs bs2:List Brn}(h:qj5 K H kB as bs)(h2:qj5 K H kB as2 bs2):qj5 K H kB (as++as2) (bs++bs2):=by
 induction h with
 | nil=>exact h2
 | cons h1 _ ih=>exact .cons h1 ih
theorem qj5.len{bs:List Brn}(h:qj5 K H kB as bs):as.length=bs.length:=by
 induction h with
 | nil=>rfl
 | cons _ _ ih=>simp[ih]
theorem qj5.snoc{bs:List Brn}(h:qj5 K H kB as (bs++[b])):∃ as' a,as=as'++[a]/\qj5 K H kB as' bs/\BrO K H kB a b:=by
 induction bs generalizing as with
 | nil=>cases h with|cons h1 h2=>cases h2;exact⟨[],_,rfl,.nil,h1⟩
 | cons c bs ih =>
   cases h with
   | cons h1 h2 =>
     obtain⟨as',a,rfl,h3,h4⟩:=ih h2
     exact⟨_::as',a,rfl,.cons h1 h3,h4⟩
theorem qj5.mut{bs:List Brn}(h:qj5 K H kB as bs):∀ p∈fpA as,xi6 H p:=by
 induction h with
 | nil=>intro p hp;cases hp
 | cons h1 _ ih =>
   intro p hp
   unfold fpA at hp
   rw[List.flatMap_cons] at hp
   rcases List.mem_append.mp hp with hp|hp
   ·simp only[BA.fp,List.mem_cons,List.not_mem_nil,or_false] at hp
    rcases hp with rfl|rfl|rfl
    ·exact .inr ⟨_,_,_,h1.o⟩
    ·obtain⟨us,h2,_⟩:=h1.q;exact .inl ⟨_,h2⟩
    ·exact .inl ⟨_,h1.w⟩
   ·exact ih p hp
theorem RdO.mut(h:RdO K H kR kB r bv a st):∀ p∈RAd.fp r a,xi6 H p:=by
 intro p hp
 simp only[RAd.fp,List.mem_cons] at hp
 rcases hp with rfl|rfl|rfl|rfl|hp
 ·exact .inr ⟨_,_,_,h.o⟩
 ·exact .inl ⟨_,h.l⟩
 ·obtain⟨us,h1,_⟩:=h.m;exact .inl ⟨_,h1⟩
 ·obtain⟨us,h1,_⟩:=h.d;exact .inl ⟨_,h1⟩
 ·exact h.b.mut p hp
structure Rup(K:Fg)(kR kB r:Addr)(bv:V)(H:Hp)(a:RAd)(H':Hp)(a':RAd)(st':Rst):Prop where
 ok:RdO K H' kR kB r bv a' st'
 bt:But (RAd.fp r a) H H'
 fr:∀ x∈RAd.fp r a',x∈RAd.fp r a\/H x=none
theorem Rup.tr{a2:RAd}{st2:Rst}(h1:Rup K kR kB r bv H a H' a' st')(h2:Rup K kR kB r bv H' a' H2 a2 st2)(hd:∀ x,H' x=none->H x=none):Rup K kR kB r bv H a H2 a2 st2 :=
 ⟨h2.ok,fun c o e n=>h2.bt c o (h1.bt c o e n) fun hc=>(h1.fr c hc).elim n fun z=>(by rw[z] at e;cases e),
  fun x hx=>(h2.fr x hx).elim (h1.fr x) fun z=>.inr (hd x z)⟩
theorem Rup.tupK(h:Rup K kR kB r bv H a H' a' st')(h0:RdO K H kR kB r bv a st):T4 H H':=wo9 h.bt h0.mut
theorem RdO.same(h:RdO K H kR kB r bv a st)(s:A7 H H'):RdO K H' kR kB r bv a st:=by
 obtain⟨us,m1,m2⟩:=h.m
 obtain⟨vs,d1,d2⟩:=h.d
 exact⟨h.kr,h.kb,s _ _ h.o,s _ _ h.l,h.b.but (ps:=[]) (fun c o e _=>s c o e) s.tupK (fun _ _ z=>by cases z),⟨us,s _ _ m1,Dvs.same s _ _ m2⟩,⟨vs,s _ _ d1,Dvs.same s _ _ d2⟩,h.nd⟩
end
theorem M9{k k':Addr}(h:PySem.W.nsIn K mainGlobals x=some (some (.ref k)))(h':PySem.W.nsIn K mainGlobals x=some (some (.ref k'))):k=k':=by rw[h] at h';cases h';rfl
theorem zr6(v:V):ql1 ("name":Str) v []=[(("name":Str),v)]:=rfl
theorem zr7(n v:V):ql1 ("place":Str) v [(("name":Str),n)]=[(("name":Str),n),(("place":Str),v)]:=by
 show(if(("name":Str)) = "place" then _ else _)=_
 rw[if_neg (by decide)];rfl
theorem zr8(n p v:V):ql1 ("parts":Str) v [(("name":Str),n),(("place":Str),p)]=[(("name":Str),n),(("place":Str),p),(("parts":Str),v)]:=by
 show(if(("name":Str)) = "parts" then _ else _::(if(("place":Str)) = "parts" then _ else _))=_
 rw[if_neg (by decide),if_neg (by decide)];rfl
theorem zr9(n p q v:V):ql1 ("waiting":Str) v [(("name":Str),n),(("place":Str),p),(("parts":Str),q)]=[(("name":Str),n),(("place":Str),p),(("parts":Str),q),(("waiting":Str),v)]:=by
 show(if(("name":Str)) = "waiting" then _ else _::(if(("place":Str)) = "waiting" then _ else _::(if(("parts":Str)) = "waiting" then _ else _)))=_
 rw[if_neg (by decide),if_neg (by decide),if_neg (by decide)];rfl
variable{u:HO}
theorem R1{o q:Addr}(h:upd H o u q=none):q≠o/\H q=none:=by
 by_cases e:q=o
 ·subst e;rw[A5] at h;cases h
 ·rw[B4 e] at h;exact⟨e,h⟩
abbrev wp0(K:Fg):TS :=
 (C1 (wd1 K (A2 0) (A2 2) "place")
 (C1 (wd1 K (A2 0) (X6 A9) "parts")
 (wd1 K (A2 0) (X6 A9) "waiting")))
def U1(K:Fg):Sp:=fun vs H Q _=>∃ (kB o x p:Addr) (n:Str) (pl:List Int),vs=[.ref o,.str n,.ref p]/\PySem.W.nsIn K mainGlobals "Branch"=some (some (.ref kB))/\H o=some (.ins kB x [])/\SqT K H p (qc6 pl)/\∀ (q w:Addr) (H':Hp),H q=none->H w=none->q≠w->But [o] H H'->BrO K H' kB ⟨o,x,p,q,w⟩ ⟨n,pl,[],[]⟩->(∀ z,H' z=none->H z=none)->Q .non H'
def qd4(K:Fg):TS :=
 (C1 (wd1 K (A2 0) (A2 1) "name")
 (wp0 K))
theorem ws8(cz:Cz K k_Branch k_Reader)(h:U1 K vs H Q E):qd4 K {nx:=fun _ H'=>Q .non H',rt:=Q} (D6 ["self","name","place"] vs) H:=by
 obtain⟨kB,o,x,p,n,pl,rfl,hkB,ho,hp,q⟩:=h
 obtain rfl:=M9 cz.ns_Branch hkB
 show qd4 K _ [some (.ref o),some (.str n),some (.ref p)] H
 unfold qd4
 have c:=cz.cl_Branch
 refine qc0 (qk4 ?_)
 lk
 refine⟨o,_,x,_,rfl,ho,c,cz.na_Branch_name,by simp,?_⟩
 rw[zr6]
 show C1 (wd1 K (A2 0) (A2 2) "place") _ _ _ _
 refine qc0 (qk4 ?_)
 lk
 refine⟨o,_,x,_,rfl,A5,c,cz.na_Branch_place,by simp,?_⟩
 rw[zr7]
 show C1 (wd1 K (A2 0) (X6 A9) "parts") _ _ _ _
 refine qc0 (qk4 ?_)
 lk
 refine⟨D4 (by z_go),fun q1 hq1=>?_⟩
 lk
 obtain⟨n1,hq2⟩:=R1 hq1
 obtain⟨_,hq⟩:=R1 hq2
 refine⟨o,_,x,_,rfl,by rw[B4 (Ne.symm n1),A5],c,cz.na_Branch_parts,by simp,?_⟩
 rw[zr8]
 show wd1 K (A2 0) (X6 A9) "waiting" _ _ _
 refine qk4 ?_
 lk
 refine⟨D4 (by z_go),fun w1 hw1=>?_⟩
 lk
 obtain⟨n2,hw2⟩:=R1 hw1
 obtain⟨n3,hw3⟩:=R1 hw2
 obtain⟨_,hw4⟩:=R1 hw3
 obtain⟨_,hw⟩:=R1 hw4
 refine⟨o,_,x,_,rfl,by rw[B4 (Ne.symm n2),A5],c,cz.na_Branch_waiting,by simp,?_⟩
 rw[zr9]
 have bt:∀ z u,H z=some u->z≠o->(upd (upd (upd (upd (upd (upd H o (.ins k_Branch x [(("name":Str),.str n)])) o (.ins k_Branch x [(("name":Str),.str n),(("place":Str),.ref p)])) q1 (.lst [])) o (.ins k_Branch x [(("name":Str),.str n),(("place":Str),.ref p),(("parts":Str),.ref q1)])) w1 (.lst [])) o (.ins k_Branch x [(("name":Str),.str n),(("place":Str),.ref p),(("parts":Str),.ref q1),(("waiting":Str),.ref w1)])) z=some u:=fun z u e no=>by
  have a1:z≠q1:=fun y=>by rw[y,hq] at e;cases e
  have a2:z≠w1:=fun y=>by rw[y,hw] at e;cases e
  rw[B4 no,B4 a2,B4 no,B4 a1,B4 no,B4 no];exact e
 have b1:But [o] H _:=fun z u e nz=>bt z u e (by simpa using nz)
 refine q q1 w1 _ hq hw (Ne.symm n3) b1 ⟨A5,(wo9 b1 fun z hz=>?_).sqT hp,⟨[],by rw[B4 n1,B4 (Ne.symm n3),B4 n1,A5],by rw[Tr.das];exact E2⟩,by rw[B4 n2,A5];rfl⟩ fun z hz=>?_
 ·rw[List.mem_singleton.mp hz];exact .inr ⟨_,_,_,ho⟩
 ·obtain⟨a1,hz⟩:=R1 hz
  obtain⟨_,hz⟩:=R1 hz
  obtain⟨_,hz⟩:=R1 hz
  obtain⟨_,hz⟩:=R1 hz
  obtain⟨_,hz⟩:=R1 hz
  exact(R1 hz).2
theorem qk5{xs:List α}{v:α}{n:Nat}(hn:xs.length=n+1)(e:xs[n]?=some v):atI xs (-1)=some v:=by
 unfold atI ixN
 rw[if_neg (by decide),if_pos (by omega)]
 show xs[((xs.length:Int) + -1).toNat]?=some v
 rw[show((xs.length:Int) + -1).toNat=n by omega];exact e
section
variable{kR kB r:Addr}{bv:V}{a:RAd}{st:Rst}
theorem RdO.apart(h:RdO K H kR kB r bv a st):r≠a.L/\r≠a.M/\r≠a.A/\a.L≠a.M/\a.L≠a.A/\a.M≠a.A/\r∉fpA a.as/\a.L∉fpA a.as/\a.M∉fpA a.as/\a.A∉fpA a.as/\(fpA a.as).Nodup:=by
 have:=h.nd
 simp only[RAd.fp,List.nodup_cons,List.mem_cons,not_or] at this
 obtain⟨⟨a1,a2,a3,a4⟩,⟨b1,b2,b3⟩,⟨c1,c2⟩,d1,e1⟩:=this
 exact⟨a1,a2,a3,b1,b2,c1,a4,b3,c2,d1,e1⟩
theorem But.upd1:But [p] H (upd H p o):=fun z u e n=>by rw[B4 (by simpa using n)];exact e
theorem N5(h:xi6 H p):T4 H (upd H p o):=wo9 (ps:=[p]) But.upd1 fun z hz=>by rw[List.mem_singleton.mp hz];exact h
theorem RdO.setM{ms:List Mnd}(h:RdO K H kR kB r bv a st)(hd:Dvs K H (ms.map Mnd.da) us):RdO K (upd H a.M (.lst us)) kR kB r bv a {st with ms:=ms}:=by
 obtain⟨a1,a2,a3,b1,b2,c1,d1,d2,d3,d4,e1⟩:=h.apart
 obtain⟨us0,m1,_⟩:=h.m
 obtain⟨vs,l1,l2⟩:=h.d
 have tk:T4 H (upd H a.M (.lst us)):=N5 (.inl ⟨_,m1⟩)
 exact⟨h.kr,h.kb,by rw[B4 a2];exact h.o,by rw[B4 b1];exact h.l,h.b.but But.upd1 tk fun x hx z=>d3 (by rw[List.mem_singleton.mp z] at hx;exact hx),⟨us,A5,Dvs.tupK tk _ _ (P8 Mnd.fix ms) hd⟩,⟨vs,by rw[B4 (Ne.symm c1)];exact l1,Dvs.tupK tk _ _ (P8 Lad.fix _) l2⟩,h.nd⟩
theorem RdO.setA{ls:List Lad}(h:RdO K H kR kB r bv a st)(hd:Dvs K H (ls.map Lad.da) us):RdO K (upd H a.A (.lst us)) kR kB r bv a {st with ls:=ls}:=by
 obtain⟨a1,a2,a3,b1,b2,c1,d1,d2,d3,d4,e1⟩:=h.apart
 obtain⟨us0,m1,m2⟩:=h.m
 obtain⟨vs,l1,_⟩:=h.d
 have tk:T4 H (upd H a.A (.lst us)):=N5 (.inl ⟨_,l1⟩)
 exact⟨h.kr,h.kb,by rw[B4 a3];exact h.o,by rw[B4 b2];exact h.l,h.b.but But.upd1 tk fun x hx z=>d4 (by rw[List.mem_singleton.mp z] at hx;exact hx),⟨us0,by rw[B4 c1];exact m1,Dvs.tupK tk _ _ (P8 Mnd.fix _) m2⟩,⟨us,A5,Dvs.tupK tk _ _ (P8 Lad.fix ls) hd⟩,h.nd⟩
def C2(H H':Hp):Prop:=∀ z,H' z=none->H z=none
theorem A7.grow(s:A7 H H'):C2 H H':=fun z hz=>by
 cases e:H z with
 | none=>rfl
 | some u=>rw[s z u e] at hz;cases hz
theorem C2.upd:C2 H (upd H p o):=fun z hz=>(R1 hz).2
theorem C2.tr(g1:C2 H H1)(g2:C2 H1 H2):C2 H H2:=fun z hz=>g1 z (g2 z hz)
theorem Rup.keep{st':Rst}(ok:RdO K H' kR kB r bv a st')(bt:But (RAd.fp r a) H H'):Rup K kR kB r bv H a H' a st':=⟨ok,bt,fun x hx=>.inl hx⟩
end
def L8(K:Fg):Sp:=fun vs H Q _=>∃ (kR kB r:Addr) (bv:V) (a:RAd) (st:Rst) (i:Int) (g rule:Str),vs=[.ref r,.int i,.str g,.str rule]/\RdO K H kR kB r bv a st/\st.ms.length<=9000000/\g.length<=1000000/\∀ H',Rup K kR kB r bv H a H' a {st with ms:=st.ms++[⟨i,i+g.length, "",rule⟩]}->C2 H H'->Q .non H'
def qd5(K:Fg):TS :=
 (I9 (tBM K "list" J4 (S5 K (A2 0) "mends") (A1 (Q3 (A1 (A2 1) (A1 (tOp (E6 K) (A2 1) (tCB (O6 K) (A1 (A2 2) A9))) (A1 (tC (.str "")) (A1 (A2 3) A9))))) A9)))
theorem ws9(cz:Cz K k_Branch k_Reader)(h:L8 K vs H Q E):qd5 K {nx:=fun _ H'=>Q .non H',rt:=Q} (D6 ["self","start","signs","rule"] vs) H:=by
 obtain⟨kR,kB,r,bv,a,st,i,g,rule,rfl,h,hl,hg,q⟩:=h
 obtain rfl:=M9 cz.ns_Reader h.kr
 show qd5 K _ [some (.ref r),some (.int i),some (.str g),some (.str rule)] H
 unfold qd5
 obtain⟨us,m1,m2⟩:=h.m
 have hul:us.length=st.ms.length:=by have:=m2.length;rw[List.length_map] at this;exact this
 lk
 refine E9 ?_
 lk
 refine⟨r,_,a.x,_,_,rfl,h.o,cz.cl_Reader,cz.na_Reader_mends,rfl,?_⟩
 lk
 refine⟨.inl ⟨rfl,_,SqL.of m1⟩,?_⟩
 lk
 refine .inr (.inl ⟨g,rfl,by rw[sizeLine_eq];omega,?_⟩)
 lk
 refine⟨D4 (by z_go),fun p hp=>?_⟩
 have s1:=A7.new hp (.tup [.int i,.int (i+g.length),.str "",.str rule])
 have e1:(upd H p (.tup [.int i,.int (i+g.length),.str "",.str rule])) p=some (.tup [.int i,.int (i+g.length),.str "",.str rule]):=A5
 generalize upd H p (.tup [.int i,.int (i+g.length),.str "",.str rule])=H1 at *
 have h1:=h.same s1
 lk
 refine L0 (s1 _ _ m1) (by rw[sizeLine_eq];omega) ?_
 refine q _ (.keep (h1.setM ?_) fun c o e n=>?_) (C2.tr (A7.grow s1) C2.upd)
 ·rw[List.map_append]
  refine Dvs.append (Dvs.same s1 _ _ m2) (Dvs.one (C8.mpr ⟨p,_,rfl,SqT.of e1,B3 (O2.mpr rfl) (B3 (O2.mpr rfl) (B3 (D5.mpr rfl) (B3 (D5.mpr rfl) E2)))⟩))
 ·rw[B4 (fun z=>n (by rw[z];simp[RAd.fp]))];exact s1 c o e
section
variable{kR kB r:Addr}{bv:V}{a:RAd}{st:Rst}
theorem R3(as bs:List BA):fpA (as++bs)=fpA as++fpA bs:=by unfold fpA;rw[List.flatMap_append]
theorem RdO.dom(h:RdO K H kR kB r bv a st):∀ p∈RAd.fp r a,H p≠none:=fun p hp e=>by
 rcases h.mut p hp with⟨xs,e2⟩|⟨C,dx,fs,e2⟩ <;> rw[e] at e2 <;> cases e2
theorem RdO.push{H4:Hp}{x:BA}{b:Brn}(h:RdO K H kR kB r bv a st)(s:A7 H H4)(hb:BrO K H4 kB x b)(hn:∀ z∈x.fp,H z=none)(hd:x.fp.Nodup) :
 RdO K (upd H4 a.L (.lst ((a.as++[x]).map fun z=>V.ref z.o))) kR kB r bv {a with as:=a.as++[x]} {st with bs:=st.bs++[b]}:=by
 have h4:=h.same s
 obtain⟨a1,a2,a3,b1,b2,c1,d1,d2,d3,d4,e1⟩:=h.apart
 obtain⟨us,m1,m2⟩:=h4.m
 obtain⟨vs,l1,l2⟩:=h4.d
 have tk:T4 H4 (upd H4 a.L (.lst ((a.as++[x]).map fun z=>V.ref z.o))):=N5 (.inl ⟨_,h4.l⟩)
 have nx:∀ z∈RAd.fp r a,z∉x.fp:=fun z hz hx=>h.dom z hz (hn z hx)
 have nL:∀ z∈x.fp,z≠a.L:=fun z hz e=>nx a.L (by simp[RAd.fp]) (e▸hz)
 refine⟨h.kr,h.kb,by rw[B4 a1];exact h4.o,A5,(h4.b.but But.upd1 tk fun z hz w=>d2 (by rw[List.mem_singleton.mp w] at hz;exact hz)).app (.cons (hb.but But.upd1 tk fun z hz w=>nL z hz (List.mem_singleton.mp w)) .nil),⟨us,by rw[B4 (Ne.symm b1)];exact m1,Dvs.tupK tk _ _ (P8 Mnd.fix _) m2⟩,⟨vs,by rw[B4 (Ne.symm b2)];exact l1,Dvs.tupK tk _ _ (P8 Lad.fix _) l2⟩,?_⟩
 have e:RAd.fp r {a with as:=a.as++[x]}=RAd.fp r a++x.fp:=by
  unfold RAd.fp
  show r::a.L::a.M::a.A::fpA (a.as++[x])=_
  rw[R3]
  show _=r::a.L::a.M::a.A::(fpA a.as++x.fp)
  have:fpA [x]=x.fp:=by unfold fpA;rw[List.flatMap_cons,List.flatMap_nil,List.append_nil]
  rw[this]
 rw[e,List.nodup_append]
 exact⟨h.nd,hd,fun p hp q hq e=>nx p hp (e▸hq)⟩
end
abbrev wl0(K:Fg)(k_Branch:Addr):TS :=
 (I9 (tBM K "list" J4 (S5 K (A2 0) "branches") (A1 (xu8 k_Branch (U1 K) [] E0 (A1 (A2 1) (A1 (tOp (qv8 K) (S5 K (A2 2) "place") (Q3 (A1 (tCB (O6 K) (A1 (S5 K (A2 2) "parts") A9)) A9))) A9))) A9)))
def S8(K:Fg):Sp:=fun vs H Q _=>∃ (kR kB r:Addr) (bv:V) (a:RAd) (st:Rst) (n:Str) (bs:List Brn) (b0:Brn),vs=[.ref r,.str n]/\RdO K H kR kB r bv a st/\st.bs=bs++[b0]/\bs.length<=1000/\b0.pl.length<=1000/\b0.ps.length<=9000000/\∀ a' H',Rup K kR kB r bv H a H' a' {st with bs:=st.bs++[⟨n,b0.pl++[(b0.ps.length:Int)],[],[]⟩]}->C2 H H'->Q .non H'
def Z0(K:Fg)(k_Branch:Addr):TS :=
 (C1 (E3 (tOp (L7 K) (S5 K (A2 0) "branches") (tUn (rU fun i=>.int (-i)) (tC (.int 1)))) (B2 2))
 (wl0 K k_Branch))
theorem wp3(cz:Cz K k_Branch k_Reader)(h:S8 K vs H Q E):Z0 K k_Branch {nx:=fun _ H'=>Q .non H',rt:=Q} (D6 ["self","name","above"] vs) H:=by
 obtain⟨kR,kB,r,bv,a,st,n,bs,b0,rfl,h,eb,hl,hp,hz,q⟩:=h
 obtain rfl:=M9 cz.ns_Reader h.kr
 obtain rfl:=M9 cz.ns_Branch h.kb
 show Z0 K _ _ [some (.ref r),some (.str n),none] H
 unfold Z0
 have hb:=h.b
 rw[eb] at hb
 obtain⟨as',x,ea,hb1,hx⟩:=hb.snoc
 obtain⟨us,q1,q2⟩:=hx.q
 have hul:=qy9 q2
 have hal:=hb1.len
 have hLl:(a.as.map fun z=>V.ref z.o).length=as'.length+1:=by rw[ea];simp
 lk
 refine E9 ?_
 lk
 refine⟨r,_,a.x,_,_,rfl,h.o,cz.cl_Reader,cz.na_Reader_branches,rfl,?_⟩
 lk
 refine⟨1,rfl,?_⟩
 refine M5 (SqL.of h.l) (v:=.ref x.o) (qk5 hLl (by rw[ea];simp)) ?_
 lk
 refine E9 ?_
 lk
 refine⟨r,_,a.x,_,_,rfl,h.o,cz.cl_Reader,cz.na_Reader_branches,rfl,?_⟩
 lk
 refine⟨.inl ⟨rfl,_,SqL.of h.l⟩,?_⟩
 lk
 refine xp9 ?_
 lk
 refine E9 ?_
 lk
 refine⟨x.o,_,x.x,_,_,rfl,hx.o,cz.cl_Branch,cz.na_Branch_place,rfl,?_⟩
 lk
 refine E9 ?_
 lk
 refine⟨x.o,_,x.x,_,_,rfl,hx.o,cz.cl_Branch,cz.na_Branch_parts,rfl,?_⟩
 lk
 refine T5 (.inl (SqL.of q1)) ?_
 rw[hul]
 lk
 refine⟨D4 (by z_go),fun p1 h1=>?_⟩
 have s1:=A7.new h1 (.tup [.int b0.ps.length])
 refine wk8 (s1.sqT hx.p) (SqT.of A5) (by rw[ql2];exact D4 (by show _+1<=_;omega)) fun p2 H2 s2 hp2=>?_
 rw[show qc6 b0.pl++[V.int b0.ps.length]=qc6 (b0.pl++[(b0.ps.length:Int)]) by simp[qc6]] at hp2
 have s12:=A7.tr s1 s2
 lk
 intro o dx ho hdx ne
 have s3:A7 H2 (upd (upd H2 dx (.own o)) o (.ins k_Branch dx [])):=fun z u e=>by rw[B4 (fun y=>by rw[y,ho] at e;cases e),B4 (fun y=>by rw[y,hdx] at e;cases e)];exact e
 have g3:C2 H2 (upd (upd H2 dx (.own o)) o (.ins k_Branch dx [])):=C2.tr C2.upd C2.upd
 have e3:(upd (upd H2 dx (.own o)) o (.ins k_Branch dx [])) o=some (.ins k_Branch dx []):=A5
 generalize upd (upd H2 dx (.own o)) o (.ins k_Branch dx [])=H3 at *
 refine⟨k_Branch,o,dx,p2,n,_,rfl,cz.ns_Branch,e3,s3.sqT hp2,fun qq ww H4 hq hw hqw bt hB g4=>⟨rfl,?_⟩⟩
 have s4:A7 H2 H4:=fun z u e=>bt z u (s3 z u e) (by simp;intro y;rw[y,ho] at e;cases e)
 have s14:=A7.tr s12 s4
 lk
 refine L0 (s14 _ _ h.l) (by rw[hLl,sizeLine_eq];omega) ?_
 have nH:∀ z,H2 z=none->H z=none:=A7.grow s12
 have fq:∀ z∈BA.fp ⟨o,dx,p2,qq,ww⟩,H z=none:=fun z hz=>by
  simp only[BA.fp,List.mem_cons,List.not_mem_nil,or_false] at hz
  rcases hz with rfl|rfl|rfl
  ·exact nH _ ho
  ·exact nH _ (g3 _ hq)
  ·exact nH _ (g3 _ hw)
 have nd:(BA.fp ⟨o,dx,p2,qq,ww⟩).Nodup:=by
  have n1:o≠qq:=fun y=>by rw[<-y,e3] at hq;cases hq
  have n2:o≠ww:=fun y=>by rw[<-y,e3] at hw;cases hw
  simp[BA.fp,n1,n2,hqw]
 have hp:=h.push s14 hB fq nd
 rw[List.map_append] at hp
 refine q _ _ ⟨hp,fun c u e nc=>?_,fun z hz=>?_⟩ (C2.tr (C2.tr (C2.tr (A7.grow s12) g3) g4) C2.upd)
 ·rw[B4 (fun y=>nc (by rw[y];simp[RAd.fp]))];exact s14 c u e
 ·have:z∈RAd.fp r a\/z∈BA.fp ⟨o,dx,p2,qq,ww⟩:=by
   simp only[RAd.fp,R3,List.mem_cons,List.mem_append] at hz ⊢
   rcases hz with h|h|h|h|h|h
   ·exact .inl (.inl h)
   ·exact .inl (.inr (.inl h))
   ·exact .inl (.inr (.inr (.inl h)))
   ·exact .inl (.inr (.inr (.inr (.inl h))))
   ·exact .inl (.inr (.inr (.inr (.inr h))))
   ·exact .inr (by simpa [fpA] using h)
  exact this.imp id fun h=>fq z h
def qd6(K:Fg):Sp:=fun vs H Q _=>∃ (a:Addr) (ns:List Int) (k:Int),vs=[.ref a,.int k]/\SqL K H a (ns.map V.int)/\0<=k/\∀ n:Int,Q (.int n) H
def qf9(K:Fg):TS :=
 (C1 (P7 (E4 (tOp yd7 (A2 1) (tCB (O6 K) (A1 (A2 0) A9))))
 (M3 (tOp (L7 K) (A2 0) (A2 1))) M7)
 (M3 (tC (.int 0))))
theorem wy4(h:qd6 K vs H Q E):qf9 K {nx:=fun _ H'=>Q .non H',rt:=Q} (D6 ["_law_script","_law_k"] vs) H:=by
 obtain⟨a,ns,k,rfl,hS,h0,q⟩:=h
 show qf9 K _ [some (.ref a),some (.int k)] H
 unfold qf9
 lk
 refine T5 (.inl hS) ?_
 lk
 rw[List.length_map]
 by_cases hk:k<(ns.length:Int)
 ·rw[decide_eq_true hk];refine X9 ?_
  have hk':k.toNat<ns.length:=by omega
  lk
  refine M5 hS (v:=.int ns[k.toNat]) ?_ (q _)
  have ek:k=((k.toNat:Nat):Int):=by omega
  have e:atI (ns.map V.int) ((k.toNat:Nat):Int)=some (.int ns[k.toNat]):=W3 (by rw[List.getElem?_map,List.getElem?_eq_getElem hk'] <;> rfl)
  rw[<-ek] at e
  exact e
 ·rw[decide_eq_false hk];refine R0 ?_
  exact q 0
end
theorem yl2{α:Type}[BEq α][LawfulBEq α]:∀ {l m:List α},l.Nodup->(∀ x∈l,x∈m)->l.length<=m.length
 | [],_,_,_=>Nat.zero_le _
 | x::l,m,hn,hs=>by
   rw[List.nodup_cons] at hn
   have hm:=hs x (by simp)
   have h2:∀ y∈l,y∈m.erase x:=fun y hy=>(List.mem_erase_of_ne (fun e=>hn.1 (by rw[<-e];exact hy))).mpr (hs y (by simp[hy]))
   have:=yl2 hn.2 h2
   have e:=List.length_erase_of_mem hm
   have hp:=List.length_pos_of_mem hm
   rw[List.length_cons];omega
def V8(K:Fg):Sp:=fun vs H Q _=>∃ c k:Int,vs=[.int c,.int k]/\0<=k/\k<=1000/\∀ n:Int,0<=n->Q (.int n) H
def qn8(K:Fg):TS :=
 (C1 (E3 (tOp (rI xo6 fun i j=>.int (i / j)) (A2 0) (tC (.int 2))) (B2 2))
 (C1 (P7 (E4 (tOp (Y0 K) (tOp (rI (fun _ j=>0<j) fun i j=>.int (i % j)) (A2 0) (tC (.int 2))) (tC (.int 0))))
 (M3 (tOp (rI (fun _ j=>0<j) fun i j=>.int (i % j)) (tOp (rI (fun _ j=>0<=j) fun i j=>.int (i / 2 ^ j.toNat)) (A2 2) (tOp qv6 (tC (.int 64)) (A2 1))) (tOp (rI yt6 fun i j=>.int (i*2 ^ j.toNat)) (tC (.int 1)) (tC (.int 64))))) M7)
 (C1 (E3 (tOp (E6 K) (tOp (rI (fun _ j=>0<j) fun i j=>.int (i % j)) (A2 2) (tC (.int 2147483647))) (tOp qv6 (tC (.int 48271)) (tOp (E6 K) (A2 1) (tC (.int 1))))) (B2 3))
 (C1 (E3 (tOp (rI (fun _ j=>0<j) fun i j=>.int (i % j)) (tOp (E6 K) (tOp qv6 (A2 3) (A2 3)) (tOp qv6 (tC (.int 69621)) (A2 1))) (tC (.int 2147483647))) (B2 3))
 (M3 (tOp (rI (fun _ j=>0<j) fun i j=>.int (i % j)) (tOp (E6 K) (tOp (E6 K) (tOp qv6 (A2 3) (A2 3)) (tOp qv6 (tC (.int 16807)) (A2 1))) (tC (.int 1))) (tC (.int 2147483629))))))))
theorem xi7(h:V8 K vs H Q E):qn8 K {nx:=fun _ H'=>Q .non H',rt:=Q} (D6 ["_law_cell","_law_k","_law_half","_law_number"] vs) H:=by
 obtain⟨c,k,rfl,hk0,hk1,q⟩:=h
 show qn8 K _ [some (.int c),some (.int k),none,none] H
 unfold qn8
 lk
 by_cases hc:c % 2=0
 ·rw[decide_eq_true hc];refine X9 ?_
  lk
  refine wd8 (.inl ⟨by decide,by decide⟩) ?_
  refine zm4 (by omega) ?_
  lk
  refine zm5 ⟨by decide,by decide,by decide⟩ ?_
  refine yk1 (by decide) ?_
  exact q _ (Int.emod_nonneg _ (by decide))
 ·rw[decide_eq_false hc];refine R0 ?_
  lk
  refine wd8 (.inl ⟨by decide,by decide⟩) ?_
  lk
  have a0:=Int.emod_nonneg (c / 2) (show(2147483647:Int)≠0 by decide)
  have a1:=Int.emod_lt_of_pos (c / 2) (show(0:Int)<2147483647 by decide)
  generalize hm:c / 2 % 2147483647+48271*(k+1)=m at *
  refine wd8 (.inl ⟨by omega,by omega⟩) ?_
  lk
  refine wd8 (.inl ⟨by decide,by decide⟩) ?_
  lk
  have b0:=Int.emod_nonneg (m*m+69621*k) (show(2147483647:Int)≠0 by decide)
  have b1:=Int.emod_lt_of_pos (m*m+69621*k) (show(0:Int)<2147483647 by decide)
  generalize hm2:(m*m+69621*k) % 2147483647=m2 at *
  refine wd8 (.inl ⟨by omega,by omega⟩) ?_
  lk
  refine wd8 (.inl ⟨by decide,by decide⟩) ?_
  lk
  exact q _ (Int.emod_nonneg _ (by decide))
def Sg(ns:List Int):Prop:=(∀ x∈ns,0<=x/\x<26)/\1<=ns.length/\ns.length<=8
def S1(K:Fg):Sp:=fun vs H Q _=>∃ n:Int,vs=[.int n]/\∀ (p:Addr) (ns:List Int) (H':Hp),A7 H H'->H p=none->H' p=some (.lst (qc6 ns))->Sg ns->Q (.ref p) H'
def qg0(K:Fg):TS :=
 (C1 (E3 (X6 A9) (B2 1))
 (C1 (E3 (tOp (E6 K) (tC (.int 1)) (tOp (rI (fun _ j=>0<j) fun i j=>.int (i % j)) (A2 0) (tC (.int 8)))) (B2 2))
 (C1 (E3 (tOp (rI xo6 fun i j=>.int (i / j)) (A2 0) (tC (.int 8))) (B2 0))
 (C1 (qy2 (yi2 (A1 (A2 2) A9)) (B2 3)
 (C1 (I9 (tBM K "list" J4 (A2 1) (A1 (tOp (rI (fun _ j=>0<j) fun i j=>.int (i % j)) (A2 0) (tC (.int 26))) A9)))
 (E3 (tOp (rI xo6 fun i j=>.int (i / j)) (A2 0) (tC (.int 26))) (B2 0))))
 (M3 (A2 1))))))
theorem wy5(h:S1 K vs H Q E):qg0 K {nx:=fun _ H'=>Q .non H',rt:=Q} (D6 ["_law_number","_law_signs","_law_width","_law_j"] vs) H:=by
 obtain⟨n,rfl,q⟩:=h
 show qg0 K _ [some (.int n),none,none,none] H
 unfold qg0
 lk
 refine⟨D4 (by z_go),fun d hd=>?_⟩
 lk
 have a0:=Int.emod_nonneg n (show(8:Int)≠0 by decide)
 have a1:=Int.emod_lt_of_pos n (show(0:Int)<8 by decide)
 generalize hm:(1:Int)+n % 8=m at *
 refine xv4 (by omega) (by omega) (fun i σ H'=>∃ (y:Int) (a:Option V) (ns:List Int),σ=[some (.int y),some (.ref d),some (.int m),a]/\A7 H H'/\H' d=some (.lst (qc6 ns))/\ns.length=i/\∀ x∈ns,0<=x/\x<26) ⟨_,none,[],rfl,A7.new hd _,A5,rfl,by simp⟩ ?_ ?_
 ·rintro i σ H' hi ⟨y,a,ns,rfl,s1,h1,hl,hns⟩
  lk
  refine⟨.inl ⟨rfl,_,SqL.of h1⟩,?_⟩
  lk
  refine L0 h1 (by rw[ql2,sizeLine_eq];omega) ?_
  lk
  refine⟨_,_,ns++[y % 26],rfl,A7.put s1 hd _,by rw[<-yy5];exact A5,by simp[hl],fun x hx=>?_⟩
  rcases List.mem_append.mp hx with h|h
  ·exact hns x h
  ·rw[List.mem_singleton.mp h];exact⟨Int.emod_nonneg _ (by decide),Int.emod_lt_of_pos _ (by decide)⟩
 ·rintro σ H' ⟨y,a,ns,rfl,s1,h1,hl,hns⟩
  lk
  exact q d ns H' s1 hd h1 ⟨hns,by omega,by omega⟩
def xq2(K:Fg):TS :=
 (C1 (E3 (tBM K "str" (zl6 K) (tC (.str "")) (A1 (wa9 [some 1,none] (wc3 K (A2 4)) (B2 1) tTT (tOp (L7 K) (A2 0) (A2 1))) A9)) (B2 5))
 (C1 (E3 (wa9 [some 2,none] (zg8 (A2 1)) (B2 1) (E4 (tOp (xc4 K true) (tOp qv6 (A2 1) (tC (.int 8))) (A2 0))) (tOp qv6 (A2 1) (tC (.int 8)))) (B2 6))
 (I9 (tBM K "list" J4 (A2 2) (A1 (tOp (L7 K) (X6 (A1 (A2 5) (A1 (tOp (L7 K) (A2 6) (tC (.int 0))) A9))) (tCB yj5 (A1 (tOp (xc4 K false) (A2 5) (tOp (E6 K) (A2 2) (X6 (A1 (tC (.str "bars")) (A1 (tC (.str "shuts")) A9))))) A9))) A9)))))
def xq3(K:Fg):TS :=
 (C1 (P7 (E4 (tOp (Y0 K) (tOp (rI (fun _ j=>0<j) fun i j=>.int (i % j)) (A2 0) (tC (.int 4))) (tC (.int 3))))
 (C1 (E3 (tSl (wo3 K) (D1 (S1 K) [] E0 (A1 (tOp (E6 K) (tC (.int 7)) (tOp qv6 (tC (.int 8)) (D1 (V8 K) [] E0 (A1 (A2 0) (A1 (tC (.int 2)) A9))))) A9)) qf4 (X8 (tOp (E6 K) (tOp (rI (fun _ j=>0<j) fun i j=>.int (i % j)) (A2 3) (tC (.int 8))) (tC (.int 1))))) (B2 4))
 (E3 (tOp (rI (fun _ j=>0<j) fun i j=>.int (i % j)) (tOp (E6 K) (tOp (L7 K) (A2 4) (tC (.int 0))) (tCB yj5 (A1 (tOp wo1 (A2 3) (tC (.int 7))) A9))) (tC (.int 26))) (yt4 (A2 4) (tC (.int 0)) yk3))) M7)
 (xq2 K))
structure Nms(names:List Str):Prop where
 nd:names.Nodup
 ne:∀ x∈names,x≠("":Str)
 le:∀ x∈names,x.length<=8
 lt:∀ x∈names,∀ c∈x.cps.toList,97<=c/\c<=122
theorem zi0(c:Nat):PySem.Txt.mul (ch c) 8≠("":Str):=fun e=>by
 have h1:(PySem.Txt.mul (ch c) 8).cps.toList=List.replicate 8 c:=xd1 (by decide)
 rw[e] at h1
 cases h1
theorem yz1{d:Nat}(e:PySem.Txt.mul (ch c) 8=PySem.Txt.mul (ch d) 8):c=d:=by
 have h1:(PySem.Txt.mul (ch c) 8).cps.toList=List.replicate 8 c:=xd1 (by decide)
 have h2:(PySem.Txt.mul (ch d) 8).cps.toList=List.replicate 8 d:=xd1 (by decide)
 rw[e,h2] at h1
 injection h1 with h1
 exact h1.symm
def qm0(names:List Str)(cs:List Nat):List Str:=(cs.map fun c=>PySem.Txt.mul (ch c) 8).filter fun x=>!decide (x∈names)
theorem yz2:Lt.cps.toList.Nodup:=by decide +kernel
theorem wi9{α β:Type}{f:α->β}(hf:∀ x y,f x=f y->x=y):∀ {l:List α},l.Nodup->(l.map f).Nodup
 | [],_=>by simp
 | x::l,h=>by
   rw[List.nodup_cons] at h
   rw[List.map_cons,List.nodup_cons]
   refine⟨fun hm=>?_,wi9 hf h.2⟩
   obtain⟨y,hy,e⟩:=List.mem_map.mp hm
   exact h.1 (by rw[<-hf _ _ e];exact hy)
variable{names:List Str}
theorem yr8(h:names.length<26):qm0 names Lt.cps.toList≠[]:=fun e=>by
 unfold qm0 at e
 rw[List.filter_eq_nil_iff] at e
 have hs:∀ x∈Lt.cps.toList.map (fun c=>PySem.Txt.mul (ch c) 8),x∈names:=fun x hx=>by
  have:=e x hx
  simpa using this
 have:=yl2 (wi9 (fun _ _=>yz1) yz2) hs
 rw[List.length_map] at this
 have l26:Lt.cps.toList.length=26:=by decide +kernel
 omega
def wrd(ns:List Int):Str:=PySem.Txt.join ("":Str) (ns.map fun x=>ch (97+x.toNat))
theorem zs0(h:1<=ns.length):wrd ns≠("":Str):=fun e=>by
 have e2:(wrd ns).cps.toList=ns.map fun x=>97+x.toNat:=by
  unfold wrd
  have:=xq1 (ns.map fun x=>97+x.toNat)
  rw[List.map_map] at this
  exact this
 rw[e] at e2
 cases ns with
 | nil=>simp at h
 | cons x l=>cases e2
theorem zs1:∀ e∈Lt.cps.toList,97<=e/\e<=122:=by decide +kernel
theorem zs2(hS:Sg ns):∀ c∈(wrd ns).cps.toList,97<=c/\c<=122:=by
 have e2:(wrd ns).cps.toList=ns.map fun x=>97+x.toNat:=by
  unfold wrd
  have:=xq1 (ns.map fun x=>97+x.toNat)
  rw[List.map_map] at this
  exact this
 rw[e2]
 intro c hc
 obtain⟨x,hx,rfl⟩:=List.mem_map.mp hc
 have:=hS.1 x hx
 exact⟨by omega,by omega⟩
theorem yz3(c:Nat):(PySem.Txt.mul (ch c) 8).length=8:=by
 show(PySem.Txt.mul (ch c) 8).cps.size=8
 rw[<-Array.length_toList,xd1 (by decide)];rfl
theorem zi1:(wrd ns).length=ns.length:=by
 show(wrd ns).cps.size=_
 rw[<-Array.length_toList]
 unfold wrd
 have:=xq1 (ns.map fun x=>97+x.toNat)
 rw[List.map_map] at this
 rw[show(PySem.Txt.join ("":Str) (ns.map fun x=>ch (97+x.toNat))).cps.toList=_ from this,List.length_map]
variable{a5 a6:Option V}
theorem wx1{c:Int}(s0:A7 H0 H)(hd0:H0 d=none)(hd:H d=some (.lst (B6 names)))(hp:H p=some (.lst (qc6 ns)))(hS:Sg ns)(hN:Nms names)(hl:names.length<12)(q:∀ (x:Str) (b1 b2:Option V) (H':Hp),A7 H0 H'->H' d=some (.lst (B6 (names++[x])))->Nms (names++[x])->D.nx [some (.int c),some (.str Lt),some (.ref d),some (.int k),some (.ref p),b1,b2] H') :
 xq2 K D [some (.int c),some (.str Lt),some (.ref d),some (.int k),some (.ref p),a5,a6] H:=by
 unfold xq2
 lk
 refine⟨rfl,?_⟩
 lk
 refine xl9 (xs:=qc6 ns) (SqL.of hp) (fun i ys H'=>H'=H/\ys=B6 ((ns.take i).map fun x=>ch (97+x.toNat))) ⟨rfl,rfl⟩ ?_ ?_ ?_ ?_
 ·rintro i ys H' hi ⟨rfl,rfl⟩
  rw[C3,List.length_map,List.length_take]
  have:=hS.2.2
  exact D4 (by omega)
 ·rintro i ys H' hi ⟨rfl,rfl⟩
  exact SqL.of hp
 ·rintro i x ys H' hx ⟨rfl,rfl⟩
  unfold qc6 at hx
  rw[List.getElem?_map] at hx
  obtain⟨y,hy,rfl⟩:=Option.map_eq_some_iff.mp hx
  obtain⟨y0,y1⟩:=hS.1 y (List.mem_of_getElem? hy)
  lk
  refine zm0 (D4 (by rw[zr5];decide)) (zy5 y0 y1) ?_
  refine⟨rfl,?_⟩
  rw[List.take_add_one,hy]
  simp[B6,ch]
 ·rintro ys H' ⟨rfl,rfl⟩ l hl'
  rw[ql2,List.take_length]
  lk
  refine⟨"",l,ns.map fun x=>ch (97+x.toNat),rfl,rfl,.inl (SqL.of A5),?_,?_⟩
  ·rw[List.map_map,show("":Str).length=0 from rfl,Nat.mul_zero,Nat.add_zero]
   have:(ns.map ((fun x=>x.length)∘fun x=>ch (97+x.toNat))).sum=ns.length:=by
    clear hp hS hl' q hd
    induction ns with
    | nil=>rfl
    | cons x l ih=>rw[List.map_cons,List.sum_cons,ih,List.length_cons];show 1+_=_;omega
   rw[this]
   have:=hS.2.2
   omega
  have e1:PySem.Txt.join ("":Str) (ns.map fun x=>ch (97+x.toNat))=wrd ns:=rfl
  rw[e1]
  lk
  have hd1:(upd H' l (.lst (B6 (ns.map fun x=>ch (97+x.toNat))))) d=some (.lst (B6 names)):=by rw[B4 (qn7 hd hl')];exact hd
  have s1:A7 H0 (upd H' l (.lst (B6 (ns.map fun x=>ch (97+x.toNat))))):=A7.tr s0 (A7.new hl' _)
  generalize upd H' l (.lst (B6 (ns.map fun x=>ch (97+x.toNat))))=H1 at *
  refine xw2 (z:=Lt) (fun i ys H'=>H'=H1/\ys=B6 (qm0 names (Lt.cps.toList.take i))) ⟨rfl,rfl⟩ ?_ ?_ ?_
  ·rintro i ys H' hi ⟨rfl,rfl⟩
   rw[C3]
   have h1:(qm0 names (Lt.cps.toList.take i)).length<=26:=by
    unfold qm0
    refine Nat.le_trans (List.length_filter_le _ _) ?_
    rw[List.length_map,List.length_take]
    have l26:Lt.cps.toList.length=26:=by decide +kernel
    omega
   exact D4 (by omega)
  ·rintro i e ys H' he ⟨rfl,rfl⟩
   have hsp:qm0 names (Lt.cps.toList.take (i+1))=qm0 names (Lt.cps.toList.take i)++(if PySem.Txt.mul (ch e) 8∈names then[] else[PySem.Txt.mul (ch e) 8]):=by
    unfold qm0
    rw[List.take_add_one,he,List.map_append,List.filter_append]
    congr 1
    by_cases hm:PySem.Txt.mul (ch e) 8∈names <;> simp[hm]
   lk
   refine yw6 (by decide) (by decide) (show(1:Nat)<=1000 by decide) ?_
   lk
   refine .inl (yk2 (.inl (SqL.of hd1)) rfl (qe8 _) ?_)
   rw[qf7]
   lk
   by_cases hm:PySem.Txt.mul (ch e) 8∈names
   ·rw[show(⟨#[e]⟩:Str)=ch e from rfl,decide_eq_true hm]
    k_go
    refine⟨rfl,?_⟩
    rw[hsp,if_pos hm,List.append_nil]
   ·rw[show(⟨#[e]⟩:Str)=ch e from rfl,decide_eq_false hm]
    x_go
    lk
    refine yw6 (by decide) (by decide) (show(1:Nat)<=1000 by decide) ?_
    refine⟨rfl,?_⟩
    rw[hsp,if_neg hm];simp[B6]
  rintro ys H' ⟨rfl,rfl⟩ t ht
  have hls:Lt.cps.toList.take Lt.cps.size=Lt.cps.toList:=List.take_of_length_le (by rw[Array.length_toList];exact Nat.le_refl _)
  rw[hls]
  have hne:=yr8 (names:=names) (by omega)
  obtain⟨x0,xr,hx0⟩:∃ x r,qm0 names Lt.cps.toList=x::r:=by
   cases h:qm0 names Lt.cps.toList with
   | nil=>exact absurd h hne
   | cons x r=>exact⟨x,r,rfl⟩
  have hx0m:x0∈qm0 names Lt.cps.toList:=by rw[hx0];simp
  unfold qm0 at hx0m
  rw[List.mem_filter] at hx0m
  have hx0n:x0∉names:=by simpa using hx0m.2
  have hx0e:x0≠("":Str):=by
   obtain⟨e,_,he⟩:=List.mem_map.mp hx0m.1
   rw[<-he];exact zi0 e
  have hx0l:x0.length<=8:=by
   obtain⟨e,_,he⟩:=List.mem_map.mp hx0m.1
   rw[<-he,yz3];exact Nat.le_refl _
  have hx0t:∀ c∈x0.cps.toList,97<=c/\c<=122:=by
   obtain⟨e,he1,he⟩:=List.mem_map.mp hx0m.1
   intro c hc
   rw[<-he,xd1 (by decide)] at hc
   rw[(List.mem_replicate.mp hc).2]
   exact zs1 e he1
  rw[hx0]
  lk
  have hd2:(upd H' t (.lst (B6 (x0::xr)))) d=some (.lst (B6 names)):=by rw[B4 (qn7 hd1 ht)];exact hd1
  refine⟨.inl ⟨rfl,_,SqL.of hd2⟩,?_⟩
  lk
  refine M5 (SqL.of A5) (v:=.str x0) (W3 (j:=0) rfl) ?_
  lk
  refine⟨D4 (by z_go),fun t2 ht2=>?_⟩
  lk
  refine⟨D4 (by z_go),fun t3 ht3=>?_⟩
  lk
  have n32:t3≠t2:=fun e=>by rw[e,A5] at ht3;cases ht3
  have hd3:(upd (upd (upd H' t (.lst (B6 (x0::xr)))) t2 (.lst [.str (wrd ns),.str x0])) t3 (.lst [.str "bars",.str "shuts"])) d=some (.lst (B6 names)):=by
   rw[B4 (qn7 (by rw[B4 (qn7 hd2 ht2)];exact hd2) ht3),B4 (qn7 hd2 ht2)];exact hd2
  refine yw5 hd3 A5 (by rw[C3];exact D4 (by simp;omega)) fun t4 ht4=>?_
  have ex:B6 names++[V.str "bars",V.str "shuts"]=B6 (names++[("bars":Str),("shuts":Str)]):=by simp[B6]
  refine .inl (xv7 (.inl (SqL.of A5)) rfl (by rw[ex];exact qe8 _) ?_)
  rw[ex,qf7]
  lk
  have n42:t2≠t4:=fun e=>by rw[<-e,B4 n32.symm,A5] at ht4;cases ht4
  have hd4:(upd (upd (upd (upd H' t (.lst (B6 (x0::xr)))) t2 (.lst [.str (wrd ns),.str x0])) t3 (.lst [.str "bars",.str "shuts"])) t4 (.lst (B6 (names++[("bars":Str),("shuts":Str)])))) d=some (.lst (B6 names)):=by
   rw[B4 (qn7 hd3 ht4)];exact hd3
  have hq2:(upd (upd (upd (upd H' t (.lst (B6 (x0::xr)))) t2 (.lst [.str (wrd ns),.str x0])) t3 (.lst [.str "bars",.str "shuts"])) t4 (.lst (B6 (names++[("bars":Str),("shuts":Str)])))) t2=some (.lst [.str (wrd ns),.str x0]):=by
   rw[B4 n42,B4 n32.symm];exact A5
  have s4:A7 H0 (upd (upd (upd (upd H' t (.lst (B6 (x0::xr)))) t2 (.lst [.str (wrd ns),.str x0])) t3 (.lst [.str "bars",.str "shuts"])) t4 (.lst (B6 (names++[("bars":Str),("shuts":Str)])))) :=
   A7.tr s1 (A7.tr (A7.new ht _) (A7.tr (A7.new ht2 _) (A7.tr (A7.new ht3 _) (A7.new ht4 _))))
  generalize (upd (upd (upd (upd H' t (.lst (B6 (x0::xr)))) t2 (.lst [.str (wrd ns),.str x0])) t3 (.lst [.str "bars",.str "shuts"])) t4 (.lst (B6 (names++[("bars":Str),("shuts":Str)]))))=H4 at *
  have app:∀ x:Str,x∉names->x≠("":Str)->x.length<=8->(∀ c∈x.cps.toList,97<=c/\c<=122)->Nms (names++[x]):=fun x hx hxe hxl hxt=>⟨by
   rw[List.nodup_append];refine⟨hN.nd,by simp,?_⟩
   intro a ha b hb e
   rw[List.mem_singleton.mp hb] at e
   exact hx (e▸ha),fun y hy=>by
   rcases List.mem_append.mp hy with h|h
   ·exact hN.ne y h
   ·rw[List.mem_singleton.mp h];exact hxe,fun y hy=>by
   rcases List.mem_append.mp hy with h|h
   ·exact hN.le y h
   ·rw[List.mem_singleton.mp h];exact hxl,fun y hy=>by
   rcases List.mem_append.mp hy with h|h
   ·exact hN.lt y h
   ·rw[List.mem_singleton.mp h];exact hxt⟩
  have fin:∀ x:Str,x∉names->x≠("":Str)->x.length<=8->(∀ c∈x.cps.toList,97<=c/\c<=122)->J4 (.ref d) [.str x] H4 (fun _ H1=>D.nx [some (.int c),some (.str Lt),some (.ref d),some (.int k),some (.ref p),some (.str (wrd ns)),some (.ref t)] H1):=fun x hx hxe hxl hxt=>by
   refine L0 hd4 (by rw[C3,sizeLine_eq];omega) ?_
   exact q x _ _ _ (A7.put s4 hd0 _) (by rw[show B6 (names++[x])=B6 names++[V.str x] by simp[B6]];exact A5) (app x hx hxe hxl hxt)
  by_cases hm:wrd ns∈names++[("bars":Str),("shuts":Str)]
  ·rw[decide_eq_true hm]
   refine .inr ⟨true,rfl,?_⟩
   refine M5 (SqL.of hq2) (v:=.str x0) (W3 (j:=1) rfl) ?_
   lk
   exact fin x0 hx0n hx0e hx0l hx0t
  ·rw[decide_eq_false hm]
   refine .inr ⟨false,rfl,?_⟩
   refine M5 (SqL.of hq2) (v:=.str (wrd ns)) (W3 (j:=0) rfl) ?_
   lk
   exact fin _ (fun h=>hm (List.mem_append_left _ h)) (zs0 hS.2.1) (by rw[zi1];exact hS.2.2) (zs2 hS)
theorem Sg.set(h:Sg ns)(i:Nat){x:Int}(h0:0<=x)(h1:x<26):Sg (ns.set i x):=by
 refine⟨fun y hy=>?_,by rw[List.length_set];exact h.2.1,by rw[List.length_set];exact h.2.2⟩
 rcases List.mem_or_eq_of_mem_set hy with h' | h'
 ·exact h.1 y h'
 ·rw[h'];exact⟨h0,h1⟩
theorem wx2{c:Int}(s0:A7 H0 H)(hd0:H0 d=none)(hd:H d=some (.lst (B6 names)))(hp:H p=some (.lst (qc6 ns)))(hS:Sg ns)(hN:Nms names)(hl:names.length<12)(q:∀ (x:Str) (b0 b1 b2:Option V) (H':Hp),A7 H0 H'->H' d=some (.lst (B6 (names++[x])))->Nms (names++[x])->D.nx [some (.int c),some (.str Lt),some (.ref d),some (.int k),b0,b1,b2] H') :
 xq3 K D [some (.int c),some (.str Lt),some (.ref d),some (.int k),some (.ref p),a5,a6] H:=by
 unfold xq3
 lk
 by_cases h4:c % 4=3
 ·rw[decide_eq_true h4];refine X9 ?_
  lk
  refine⟨c,2,rfl,by decide,by decide,fun m hm=>?_⟩
  refine wd8 (.inl ⟨by decide,by decide⟩) ?_
  lk
  refine⟨_,rfl,fun p1 ns1 H1 s1 hp1 h1 hS1=>?_⟩
  lk
  refine .inr (.inr ⟨p1,_,rfl,SqL.of h1,fun p2 hp2=>?_⟩)
  obtain⟨u,hu⟩:∃ u:Nat,(k:Int) % 8+1=(u:Int)/\1<=u:=⟨((k:Int) % 8+1).toNat,by omega,by omega⟩
  have ec:ql8 (qc6 ns1) none (some ((k:Int) % 8+1))=qc6 (ns1.take u):=by
   unfold ql8
   rw[hu.1,HT.qy5]
   show((qc6 ns1).drop 0).take (min u (qc6 ns1).length-0)=_
   rw[List.drop_zero,Nat.sub_zero]
   unfold qc6
   rw[List.map_take,List.length_map]
   by_cases hh:u<=ns1.length
   ·rw[Nat.min_eq_left hh]
   ·rw[Nat.min_eq_right (by omega),List.take_of_length_le (by rw[List.length_map];exact Nat.le_refl _),List.take_of_length_le (by rw[List.length_map];omega)]
  rw[ec]
  have hS2:Sg (ns1.take u):=⟨fun x hx=>hS1.1 x (List.mem_of_mem_take hx),by rw[List.length_take];have:=hS1.2.1;omega,by rw[List.length_take];have:=hS1.2.2;omega⟩
  generalize ns1.take u=ns2 at *
  have hd2:(upd H1 p2 (.lst (qc6 ns2))) d=some (.lst (B6 names)):=by rw[B4 (qn7 (s1 _ _ hd) hp2)];exact s1 _ _ hd
  have npd:p2≠d:=(qn7 (s1 _ _ hd) hp2).symm
  lk
  refine M5 (SqL.of A5) (v:=.int (ns2[0]'hS2.2.1)) (W3 (j:=0) (yk9 hS2.2.1)) ?_
  lk
  refine .inr ⟨_,rfl,?_⟩
  lk
  refine .inl (yd9 A5 (j:=0) (zy6 (by rw[ql2];exact hS2.2.1)) ?_)
  rw[xx1]
  refine wx1 (H0:=H0) ?_ hd0 ?_ A5 (hS2.set 0 (Int.emod_nonneg _ (by decide)) (Int.emod_lt_of_pos _ (by decide))) hN hl fun x b1 b2 H'=>q x _ b1 b2 H'
  ·exact A7.put (A7.tr s0 (A7.tr s1 (A7.new hp2 _))) (A7.free s0 (A7.free s1 hp2)) _
  ·rw[B4 npd.symm];exact hd2
 ·rw[decide_eq_false h4];refine R0 ?_
  lk
  exact wx1 s0 hd0 hd hp hS hN hl fun x b1 b2 H'=>q x _ b1 b2 H'
def qk6(K:Fg):Sp:=fun vs H Q _=>∃ c:Int,vs=[.int c]/\∀ (d:Addr) (names:List Str) (H':Hp),A7 H H'->H d=none->H' d=some (.lst (B6 names))->names.length=12->Nms names->Q (.ref d) H'
def qn9(K:Fg):TS :=
 (C1 (E3 (tC (.str "abcdefghijklmnopqrstuvwxyz")) (B2 1))
 (C1 (E3 (X6 A9) (B2 2))
 (C1 (qy2 (yi2 (A1 (tC (.int 12)) A9)) (B2 3)
 (C1 (E3 (D1 (S1 K) [] E0 (A1 (tOp (rI (fun _ j=>0<j) fun i j=>.int (i % j)) (tOp (rI (fun _ j=>0<=j) fun i j=>.int (i / 2 ^ j.toNat)) (tOp (rI xo6 fun i j=>.int (i / j)) (A2 0) (tC (.int 2))) (tOp qv6 (tC (.int 41)) (A2 3))) (tOp (rI yt6 fun i j=>.int (i*2 ^ j.toNat)) (tC (.int 1)) (tC (.int 41)))) A9)) (B2 4))
 (C1 (P7 (E4 (tOp (Y0 K) (tOp (rI (fun _ j=>0<j) fun i j=>.int (i % j)) (A2 0) (tC (.int 2))) (tC (.int 1))))
 (C1 (E3 (D1 (S1 K) [] E0 (A1 (D1 (V8 K) [] E0 (A1 (A2 0) (A1 (tC (.int 1)) A9))) A9)) (B2 4))
 (E3 (tOp (rI (fun _ j=>0<j) fun i j=>.int (i % j)) (tOp (E6 K) (tOp (L7 K) (A2 4) (tUn (rU fun i=>.int (-i)) (tC (.int 1)))) (A2 3)) (tC (.int 26))) (yt4 (A2 4) (tUn (rU fun i=>.int (-i)) (tC (.int 1))) yk3))) M7)
 (xq3 K))))
 (M3 (A2 2)))))
theorem xi8(h:qk6 K vs H Q E):qn9 K {nx:=fun _ H'=>Q .non H',rt:=Q} (D6 ["_law_cell","_law_letters_here","_law_names_here","_law_k","_law_signs","_law_name","_law_spare"] vs) H:=by
 obtain⟨c,rfl,q⟩:=h
 show qn9 K _ [some (.int c),none,none,none,none,none,none] H
 unfold qn9
 lk
 refine⟨D4 (by z_go),fun d hd=>?_⟩
 lk
 refine xv4 (by decide) (by decide) (fun i σ H'=>∃ (a3 a4 a5 a6:Option V) (names:List Str),σ=[some (.int c),some (.str Lt),some (.ref d),a3,a4,a5,a6]/\A7 H H'/\H' d=some (.lst (B6 names))/\names.length=i/\Nms names) ⟨none,none,none,none,[],rfl,A7.new hd _,A5,rfl,⟨by simp,by simp,by simp,by simp⟩⟩ ?_ ?_
 ·rintro i σ H' hi ⟨a3,a4,a5,a6,names,rfl,s1,h1,hl,hN⟩
  lk
  refine wd8 (.inl ⟨by decide,by decide⟩) ?_
  refine zm4 (by omega) ?_
  lk
  refine zm5 ⟨by decide,by decide,by decide⟩ ?_
  refine yk1 (by decide) ?_
  lk
  refine⟨_,rfl,fun p ns H2 s2 hp hp2 hS=>?_⟩
  lk
  have fin:∀ (x:Str) (b0 b1 b2:Option V) (H':Hp),A7 H H'->H' d=some (.lst (B6 (names++[x])))->Nms (names++[x])->(fun σ H'=>∃ (a3 a4 a5 a6:Option V) (names:List Str),σ=[some (.int c),some (.str Lt),some (.ref d),a3,a4,a5,a6]/\A7 H H'/\H' d=some (.lst (B6 names))/\names.length=i+1/\Nms names) [some (.int c),some (.str Lt),some (.ref d),some (.int i),b0,b1,b2] H' :=
   fun x b0 b1 b2 H' s h n=>⟨_,_,_,_,_,rfl,s,h,by simp[hl],n⟩
  by_cases h2:c % 2=1
  ·rw[decide_eq_true h2];refine X9 ?_
   lk
   refine⟨c,1,rfl,by decide,by decide,fun m hm=>?_⟩
   lk
   refine⟨_,rfl,fun p1 ns1 H3 s3 hp1 h3 hS1=>?_⟩
   have hd3:=s3 _ _ (s2 _ _ h1)
   have npd:p1≠d:=(qn7 (s2 _ _ h1) hp1).symm
   lk
   refine⟨1,rfl,?_⟩
   refine M5 (SqL.of h3) (yl0 (by rw[ql2];exact hS1.2.1) (by rw[ql2];exact yk9 (by have:=hS1.2.1;omega))) ?_
   lk
   refine⟨1,rfl,?_⟩
   refine .inl (yd9 h3 (xx2 (by rw[ql2];exact hS1.2.1)) ?_)
   rw[xx1]
   refine wx2 (H0:=H) ?_ hd ?_ A5 (hS1.set _ (Int.emod_nonneg _ (by decide)) (Int.emod_lt_of_pos _ (by decide))) hN (by omega) fin
   ·exact A7.put (A7.tr s1 (A7.tr s2 s3)) (A7.free s1 (A7.free s2 hp1)) _
   ·rw[B4 npd.symm];exact hd3
  ·rw[decide_eq_false h2];refine R0 ?_
   lk
   exact wx2 (H0:=H) (A7.tr s1 s2) hd (s2 _ _ h1) hp2 hS hN (by omega) fin
 ·rintro σ H' ⟨a3,a4,a5,a6,names,rfl,s1,h1,hl,hN⟩
  lk
  exact q d names H' s1 hd h1 hl hN
def gd(l:List Str)(i:Nat):Str:=l.getD i ("":Str)
def zs3(x:Str):Prop:=x=("bare":Str)\/x=("plain":Str)\/x=("anew":Str)\/x=("room":Str)\/x=("frame":Str)
theorem xd6{l:List Str}{i:Nat}(h:i<l.length):l[i]?=some (gd l i):=by
 unfold gd;rw[List.getD_eq_getElem?_getD];simp[h]
theorem wt2{l:List Str}{i:Nat}(h:i<l.length):gd l i∈l:=List.mem_of_getElem? (xd6 h)
variable{j:Nat}
theorem zs4(hn:names.Nodup){i:Nat}(hi:i<names.length)(hj:j<names.length)(e:gd names i=gd names j):i=j:=by
 have e1:gd names i=names[i]:=by have:=xd6 hi;rw[List.getElem?_eq_getElem hi] at this;exact(Option.some.inj this).symm
 have e2:gd names j=names[j]:=by have:=xd6 hj;rw[List.getElem?_eq_getElem hj] at this;exact(Option.some.inj this).symm
 have h1:=hn.idxOf_getElem i hi
 have h2:=hn.idxOf_getElem j hj
 rw[<-e1,e,e2,h2] at h1
 exact h1.symm
theorem W1{xs:List Str}{i:Nat}(h:i<xs.length):atI (B6 xs) ((i:Nat):Int)=some (.str (gd xs i)):=W3 (by unfold B6;rw[List.getElem?_map,xd6 h];rfl)
def xx5(js:List Nat):List V:=js.map fun(j:Nat)=>.int (j:Int)
def zz0(x:Str):Prop:=x=("plain":Str)\/x=("frame":Str)
instance (x:Str):Decidable (zz0 x):=inferInstanceAs (Decidable (_\/_))
theorem xx6:∀ xs:List Str,Q4 (sDa xs)=true
 | []=>by show Q4 []=true;rw[Q4]
 | x::xs=>by show Q4 (.str x::sDa xs)=true;rw[Q4,xx6 xs,fix];rfl
theorem zi2(r:Row):fix r.da=true:=by
 unfold Row.da
 simp[fix,Q4,xx6]
theorem xx7:∀ rs:List Row,Q4 (rs.map Row.da)=true
 | []=>by show Q4 []=true;rw[Q4]
 | r::rs=>by show Q4 (r.da::rs.map Row.da)=true;rw[Q4,zi2,xx7 rs];rfl
structure Boo(rs:List Row):Prop where
 l1:1<=rs.length
 l2:rs.length<=12
 nd:(rs.map (·.name)).Nodup
 ne:∀ r∈rs,r.name≠("":Str)
 rk:∃ rk:Str->Nat,(∀ r∈rs,rk r.name<12)/\∀ r∈rs,r.sort=("frame":Str)->(∃ r'∈rs,r'.name=r.host/\zz0 r'.sort)/\rk r.name<rk r.host
 noh:∀ r∈rs,r.sort≠("frame":Str)->r.host=("":Str)
 uq:∀ r∈rs,∀ r'∈rs,r.sort=("frame":Str)->r'.sort=("frame":Str)->r.host=r'.host->r.name=r'.name
 srt:∀ r∈rs,zs3 r.sort
 nosh:∀ r∈rs,∀ x∈r.shuts,∀ f∈rs,f.sort=("frame":Str)->f.host≠x
theorem Rws.same(h:Rws K H v rs)(s:A7 H H'):Rws K H' v rs:=by
 obtain⟨a,vs,rfl,hq,hd⟩:=h
 exact⟨a,vs,rfl,hq.imp s.sqL s.sqT,Dvs.same s _ _ hd⟩
theorem wp4{r:Row}(h:V4 rs (some n)=some r):r∈rs/\r.name=n:=by
 refine⟨List.mem_of_find?_eq_some h,?_⟩
 have:=List.find?_some h
 simpa using this
theorem yf4(h:∃ r∈rs,r.name=n):∃ r,V4 rs (some n)=some r/\r∈rs/\r.name=n:=by
 cases e:V4 rs (some n) with
 | none =>
   obtain⟨r,hr,hn⟩:=h
   have:=List.find?_eq_none.mp e r hr
   simp[hn] at this
 | some r=>exact⟨r,rfl,wp4 e⟩
def S9(rs:List Row)(n:Str):Bool:=match V4 rs (some n) with|none=>false|some r=>decide (r.sort∈[("room":Str),("frame":Str)])
def qc7(rs:List Row)(ns:List Str):List Str:=ns.foldl (fun acc n=>if S9 rs n then[] else acc++[n]) []
theorem wt3(rs:List Row)(ns:List Str)(n:Str):qc7 rs (ns++[n])=if S9 rs n then[] else qc7 rs ns++[n]:=by
 unfold qc7;rw[List.foldl_append];rfl
theorem qw1(rs:List Row):∀ (k:Nat) (ns:List Str),ns.length=k->(qc7 rs ns).length<=k
 | 0,ns,h=>by rw[List.length_eq_zero_iff.mp h];exact Nat.le_refl _
 | k+1,ns,h=>by
   have hp:ns≠[]:=fun e=>by rw[e] at h;cases h
   rw[<-List.dropLast_concat_getLast hp,wt3]
   have:=qw1 rs k ns.dropLast (by rw[List.length_dropLast];omega)
   split
   ·exact Nat.zero_le _
   ·rw[List.length_append,List.length_singleton];omega
theorem xq4{r:Row}(h:Dv K H r.da v):∃ b ps pb,v=.ref b/\SqT K H b [.str r.name,.str r.sort,.str r.host,.ref ps,.ref pb]/\SqT K H ps (B6 r.shuts)/\SqT K H pb (B6 r.bars):=by
 obtain⟨b,sv,bv,rfl,hb,h1,h2⟩:=qw0 h
 obtain⟨ps,vs,rfl,q1,d1⟩:=C8.mp h1
 obtain⟨pb,ws,rfl,q2,d2⟩:=C8.mp h2
 rw[qd3.mp d1] at q1
 rw[qd3.mp d2] at q2
 exact⟨b,ps,pb,rfl,hb,q1,q2⟩
def P6(ys:List Str):Str:=gd ys (ys.length-1)
def qc8(rs:List Row):Nat->Option Str->List Str
 | 0,_=>[]
 | k+1,n=>match P5 rs n with
   | none=>[]
   | some y=>y::qc8 rs k (some y)
def zs5(rs:List Row)(rk:Str->Nat):Prop:=∀ x y,P5 rs (some x)=some y->rk x<rk y/\rk y<12
theorem Boo.rise(B:Boo rs):∃ rk,zs5 rs rk:=by
 obtain⟨rk,h1,h2⟩:=B.rk
 refine⟨rk,fun x y e=>?_⟩
 unfold P5 at e
 cases er:V4 rs (some x) with
 | none=>rw[er] at e;cases e
 | some r =>
   rw[er] at e
   obtain⟨hr,hn⟩:=wp4 er
   by_cases hf:r.sort=("frame":Str)
   ·have e:some r.host=some y:=by simpa [hf] using e
    injection e with e
    obtain⟨⟨r',hr',en,_⟩,h⟩:=h2 r hr hf
    subst e hn
    exact⟨h,by rw[<-en];exact h1 r' hr'⟩
   ·simp[hf] at e
theorem xd7{rs:List Row}{rk:Str->Nat}(f:zs5 rs rk):∀ (k m:Nat) (x:Str),12-rk x<=k->k<=m->qc8 rs m (some x)=qc8 rs k (some x)
 | k, 0, x, h, hm => by have:k=0:=by omega
                        rw[this]
 | k,m+1,x,h,hm=>by
   cases e:P5 rs (some x) with
   | none =>
     have e1:∀ k,qc8 rs k (some x)=[]:=fun k=>by cases k with|zero=>rfl|succ k=>rw[qc8,e]
     rw[e1,e1]
   | some y =>
     obtain⟨hy,hy2⟩:=f x y e
     cases k with
     | zero=>omega
     | succ k =>
       rw[qc8,e,qc8,e]
       show y::qc8 rs m (some y)=y::qc8 rs k (some y)
       rw[xd7 f k m y (by omega) (by omega)]
def L9(rs:List Row)(x:Str):List Str:=qc8 rs 12 (some x)
theorem qj6(rs:List Row):∀ (k:Nat) (n:Option Str),(qc8 rs k n).length<=k
 | 0,_=>Nat.le_refl _
 | k+1,n=>by
   rw[qc8]
   split
   ·exact Nat.zero_le _
   ·rw[List.length_cons];have:=qj6 rs k;exact Nat.succ_le_succ (this _)
theorem wl2(e:P5 rs (some x)=none):L9 rs x=[]:=by
 unfold L9;rw[qc8,e]
theorem xd8(f:zs5 rs rk)(e:P5 rs (some x)=some y):L9 rs x=y::L9 rs y:=by
 unfold L9
 rw[qc8,e]
 show y::qc8 rs 11 (some y)=y::qc8 rs 12 (some y)
 obtain⟨h1,h2⟩:=f x y e
 rw[xd7 f 11 12 y (by omega) (by omega)]
def O7(K:Fg):Sp:=fun vs H Q _=>∃ (a:Addr) (ys:List Str),vs=[.ref a]/\(SqL K H a (B6 ys)\/SqT K H a (B6 ys))/\Q (.str (P6 ys)) H
def Z1(K:Fg):TS :=
 (M3 (tIf (E4 (tOp wo1 (tCB (O6 K) (A1 (A2 0) A9)) (tC (.int 0)))) (tOp (L7 K) (A2 0) (tUn (rU fun i=>.int (-i)) (tC (.int 1)))) (tC (.str ""))))
theorem wp5(h:O7 K vs H Q E):Z1 K {nx:=fun _ H'=>Q .non H',rt:=Q} (D6 ["names"] vs) H:=by
 obtain⟨a,ys,rfl,hq,q⟩:=h
 show Z1 K _ [some (.ref a)] H
 unfold Z1
 lk
 refine T5 hq ?_
 rw[C3]
 lk
 by_cases h0:(0:Int)<(ys.length:Int)
 ·rw[decide_eq_true h0]
  x_go
  lk
  refine⟨1,rfl,?_⟩
  have e1:(B6 ys)[(B6 ys).length-1]?=some (.str (P6 ys)):=by
   rw[C3];unfold B6 P6;rw[List.getElem?_map,xd6 (by omega)];rfl
  have e2:=yl0 (by rw[C3];omega) e1
  rcases hq with hq|hq
  ·exact M5 hq e2 q
  ·exact U7 hq e2 q
 ·rw[decide_eq_false h0]
  k_go
  lk
  have:ys=[]:=List.length_eq_zero_iff.mp (by omega)
  subst this
  exact q
def V5(K:Fg):Sp:=fun vs H Q _=>∃ (v:V) (x:Str) (rs:List Row),vs=[v,.str x]/\Rws K H v rs/\Boo rs/\∀ (p:Addr) (H':Hp),A7 H H'->SqT K H' p (B6 (L9 rs x))->Q (.ref p) H'
def qg1(K:Fg):TS :=
 (C1 (E3 (X6 A9) (B2 2))
 (C1 (E3 (D1 (qp8 K) [] E0 (A1 (A2 0) (A1 (A2 1) A9))) (B2 3))
 (C1 (wc9 (E4 (tOp wg6 (A2 3) (tC .non)))
 (C1 (I9 (tBM K "list" J4 (A2 2) (A1 (A2 3) A9)))
 (E3 (D1 (qp8 K) [] E0 (A1 (A2 0) (A1 (A2 3) A9))) (B2 3))))
 (M3 (tCB (qk3 K) (A1 (A2 2) A9))))))
theorem wy6(h:V5 K vs H Q E):qg1 K {nx:=fun _ H'=>Q .non H',rt:=Q} (D6 ["book","name","hosts","host"] vs) H:=by
 obtain⟨v,x,rs,rfl,hR,B,q⟩:=h
 show qg1 K _ [some v,some (.str x),none,none] H
 unfold qg1
 obtain⟨rk,f⟩:=B.rise
 lk
 refine⟨D4 (by z_go),fun d hd=>?_⟩
 lk
 refine⟨v,some x,rs,rfl,hR.same (A7.new hd _),?_⟩
 lk
 refine xu5 (fun σ H'=>∃ (n:Option Str) (ys:List Str),σ=[some v,some (.str x),some (.ref d),some (oV n)]/\A7 H H'/\H' d=some (.lst (B6 ys))/\L9 rs x=ys++(match n with|none=>[]|some y=>y::L9 rs y)/\ys.length<=12/\∀ y,n=some y->∃ x,P5 rs (some x)=some y)
  (fun σ _=>match σ with | [_,_,_,some (.str y)]=>13-rk y|_=>0) ?_ ?_ ?_
 ·refine⟨P5 rs (some x),[],rfl,A7.new hd _,A5,?_,Nat.zero_le _,fun y e=>⟨x,e⟩⟩
  cases e:P5 rs (some x) with
  | none=>rw[wl2 e];rfl
  | some y=>rw[xd8 f e];rfl
 ·rintro σ H' ⟨n,ys,rfl,s1,h1,eh,hl,hn⟩
  have hlen:(L9 rs x).length<=12:=qj6 rs 12 _
  cases n with
  | none =>
    refine⟨_,rfl,rfl,_,rfl,?_⟩
    show(if(!decide (V.non=V.non))=true then _ else _)
    rw[decide_eq_true rfl,Bool.not_true];refine R0 ?_
    lk
    refine⟨d,_,rfl,.inl ⟨SqL.of h1,fun p hp=>?_⟩⟩
    have:L9 rs x=ys:=by rw[eh];exact List.append_nil _
    exact q p _ (A7.tr s1 (A7.new hp _)) (by rw[this];exact SqT.of A5)
  | some y =>
    refine⟨_,rfl,rfl,_,rfl,?_⟩
    show(if(!decide (V.str y=V.non))=true then _ else _)
    rw[decide_eq_false (by simp),Bool.not_false];refine X9 ?_
    have hl2:ys.length+1<=12:=by
     rw[eh,List.length_append] at hlen
     simp at hlen;omega
    lk
    refine⟨.inl ⟨rfl,_,SqL.of h1⟩,?_⟩
    lk
    refine L0 h1 (by rw[C3,sizeLine_eq];omega) ?_
    rw[show(oV (some y))=V.str y from rfl,we4]
    lk
    refine⟨v,some y,rs,rfl,hR.same (A7.put s1 hd _),?_⟩
    lk
    refine⟨⟨P5 rs (some y),ys++[y],rfl,A7.put s1 hd _,A5,?_,by rw[List.length_append,List.length_singleton];omega,fun z e=>⟨y,e⟩⟩,?_⟩
    ·rw[eh,List.append_assoc]
     congr 1
     cases e:P5 rs (some y) with
     | none=>show y::L9 rs y=_;rw[wl2 e];rfl
     | some z=>show y::L9 rs y=_;rw[xd8 f e];rfl
    ·show(match [some v,some (V.str x),some (V.ref d),some (oV (P5 rs (some y)))] with | [_,_,_,some (.str y)]=>13-rk y|_=>0)<13-rk y
     obtain⟨w,hw⟩:=hn y rfl
     have:=(f _ _ hw).2
     cases e2:P5 rs (some y) with
     | none=>show 0<13-rk y;omega
     | some z=>have:=f y z e2;show 13-rk z<13-rk y;omega
 ·rintro σ H' Q1 Q2 hQ ⟨v1,e1,e2,k,e3,q1⟩
  exact⟨v1,e1,e2,k,e3,hQ _ _ q1⟩
def qo0(K:Fg):Sp:=fun vs H Q _=>∃ (v:V) (a:Addr) (ys:List Str) (rs:List Row),vs=[v,.ref a]/\Rws K H v rs/\Boo rs/\(SqL K H a (B6 ys)\/SqT K H a (B6 ys))/\(20<ys.length+(L9 rs (P6 ys)).length->∀ H',A7 H H'->Q .non H')/\(¬20<ys.length+(L9 rs (P6 ys)).length->∀ (p:Addr) (H':Hp),A7 H H'->SqT K H' p (B6 (L9 rs (P6 ys)))->Q (.ref p) H')
def qs1(K:Fg):TS :=
 (C1 (E3 (D1 (V5 K) [] E0 (A1 (A2 0) (A1 (D1 (O7 K) [] E0 (A1 (A2 1) A9)) A9))) (B2 2))
 (M3 (tIf (E4 (tOp wo1 (tOp (E6 K) (tCB (O6 K) (A1 (A2 1) A9)) (tCB (O6 K) (A1 (A2 2) A9))) (tC (.int 20)))) (tC .non) (A2 2))))
theorem xq5(h:qo0 K vs H Q E):qs1 K {nx:=fun _ H'=>Q .non H',rt:=Q} (D6 ["book","names","hosts"] vs) H:=by
 obtain⟨v,a,ys,rs,rfl,hR,B,hq,q1,q2⟩:=h
 show qs1 K _ [some v,some (.ref a),none] H
 unfold qs1
 lk
 refine⟨a,ys,rfl,hq,?_⟩
 lk
 refine⟨v,_,rs,rfl,hR,B,fun p H1 s1 hp=>?_⟩
 lk
 refine T5 (hq.imp s1.sqL s1.sqT) ?_
 rw[C3]
 lk
 refine T5 (.inr hp) ?_
 rw[C3]
 lk
 by_cases h:20<ys.length+(L9 rs (P6 ys)).length
 ·rw[decide_eq_true (by omega)]
  x_go
  lk
  exact q1 h _ s1
 ·rw[decide_eq_false (by omega)]
  k_go
  lk
  exact q2 h p _ s1 hp
variable{ys:List Str}
theorem xd9(k:Nat):ql8 (B6 ys) none (some ((k:Nat):Int))=B6 (ys.take k):=by
 unfold ql8
 rw[HT.qy5]
 show((B6 ys).drop 0).take (min k (B6 ys).length-0)=_
 rw[List.drop_zero,Nat.sub_zero]
 unfold B6
 rw[List.map_take,List.length_map]
 by_cases hh:k<=ys.length
 ·rw[Nat.min_eq_left hh]
 ·rw[Nat.min_eq_right (by omega),List.take_of_length_le (by rw[List.length_map];exact Nat.le_refl _),List.take_of_length_le (by rw[List.length_map];omega)]
theorem xn0(e:M6 rs (some x)=some y):∃ r∈rs,r.name=y/\r.sort=("frame":Str)/\r.host=x:=by
 unfold M6 at e
 obtain⟨r,hr,rfl⟩:=Option.map_eq_some_iff.mp e
 have hm:=List.mem_of_find?_eq_some hr
 have hp:=List.find?_some hr
 rw[Bool.and_eq_true,decide_eq_true_eq,decide_eq_true_eq] at hp
 exact⟨r,hm,rfl,hp.1,Option.some.inj hp.2⟩
def bel(rs:List Row)(rk:Str->Nat)(y x:Str):Bool:=decide (x∈ups rs (rk y) (some y))
def clo(rs:List Row)(rk:Str->Nat)(ys:List Str)(x:Str):Nat->Option Nat
 | 0=>none
 | k+1=>if gd ys k=x then some k else if S9 rs (gd ys k) && !(bel rs rk (gd ys k) x) then none else clo rs rk ys x k
def nV:Option Nat->V
 | some k=>.int (k:Int)
 | none=>.non
theorem zi3(xs:List Str):inV .non (B6 xs)=false:=by
 induction xs with
 | nil=>rfl
 | cons x l ih =>
   unfold inV at ih ⊢
   show(eqV (.str x) .non || (B6 l).any fun z=>eqV z .non)=false
   rw[ih];rfl
def qe4(K:Fg):Sp:=fun vs H Q _=>∃ v n rs,vs=[v,.str n]/\Rws K H v rs/\Q (.bl (S9 rs n)) H
def wg8(K:Fg)(c_WALL_SORTS:Addr):TS :=
 (M3 (tOp (xc4 K false) (D1 (Y1 K) [] E0 (A1 (A2 0) (A1 (A2 1) A9))) (tC (.ref c_WALL_SORTS))))
theorem yf5{c_WALL_SORTS:Addr}(q_WALL_SORTS:∀ H:Hp,SqT K H c_WALL_SORTS [.str "room",.str "frame"])(h:qe4 K vs H Q E):wg8 K c_WALL_SORTS {nx:=fun _ H'=>Q .non H',rt:=Q} (D6 ["book","name"] vs) H:=by
 obtain⟨v,n,rs,rfl,hR,q⟩:=h
 show wg8 K c_WALL_SORTS _ [some v,some (.str n)] H
 unfold wg8
 lk
 refine⟨v,some n,rs,rfl,hR,?_⟩
 lk
 have hw:S9 rs n=inV (oV (L3 rs (some n))) (B6 [("room":Str),("frame":Str)]):=by
  unfold S9 L3
  cases V4 rs (some n) with
  | none=>exact(zi3 _).symm
  | some r=>exact(qf7 _ _).symm
 refine .inl (xv7 (xs:=B6 [("room":Str),("frame":Str)]) (.inr (q_WALL_SORTS H)) ?_ (qe8 _) ?_)
 ·cases L3 rs (some n) <;> rfl
 ·rw[<-hw];exact q
def qq0(K:Fg):Sp:=fun vs H Q _=>∃ (v:V) (a:Addr) (ys:List Str) (x:Str) (rs:List Row) (rk:Str->Nat),vs=[v,.ref a,.str x]/\Rws K H v rs/\wo8 rs rk/\(SqL K H a (B6 ys)\/SqT K H a (B6 ys))/\ys.length<=1000/\Q (nV (clo rs rk ys x ys.length)) H
def wg9(K:Fg):TS :=
 (C1 (qy2 (yx7 (A1 (tOp (rI0 fun i j=>.int (i-j)) (tCB (O6 K) (A1 (A2 1) A9)) (tC (.int 1))) (A1 (tUn (rU fun i=>.int (-i)) (tC (.int 1))) (A1 (tUn (rU fun i=>.int (-i)) (tC (.int 1))) A9)))) (B2 3)
 (C1 (P7 (E4 (tOp (Y0 K) (tOp (L7 K) (A2 1) (A2 3)) (A2 2)))
 (M3 (A2 3)) M7)
 (P7 (wn0 (tB (D1 (qe4 K) [] E0 (A1 (A2 0) (A1 (tOp (L7 K) (A2 1) (A2 3)) A9)))) (yo3 (tB (D1 (qy8 K) [] E0 (A1 (A2 0) (A1 (tOp (L7 K) (A2 1) (A2 3)) (A1 (A2 2) A9)))))))
 (M3 (tC .non)) M7)))
 (M3 (tC .non)))
theorem yf6(h:qq0 K vs H Q E):wg9 K {nx:=fun _ H'=>Q .non H',rt:=Q} (D6 ["book","names","name","number"] vs) H:=by
 obtain⟨v,a,ys,x,rs,rk,rfl,hR,f,hq,hl,q⟩:=h
 show wg9 K _ [some v,some (.ref a),some (.str x),none] H
 unfold wg9
 lk
 refine T5 hq ?_
 rw[C3]
 lk
 refine⟨1,rfl,?_⟩
 lk
 refine⟨1,rfl,?_⟩
 lk
 refine yx9 (by omega) (fun i σ H'=>H'=H/\(∃ w,σ=[some v,some (.ref a),some (.str x),w])/\clo rs rk ys x ys.length=clo rs rk ys x (ys.length-i)) ⟨rfl,⟨_,rfl⟩,rfl⟩ ?_ ?_
 ·rintro i σ H' hi ⟨rfl,⟨w,rfl⟩,hc⟩
  obtain⟨k,hk⟩:∃ k:Nat,ys.length-i=k+1:=⟨ys.length-i-1,by omega⟩
  have ek:(ys.length:Int)-1-(i:Int)=((k:Nat):Int):=by omega
  have hk2:ys.length-(i+1)=k:=by omega
  have ix:∀ Q':VK,Q' (.str (gd ys k)) H'->L7 K (.ref a) (.int ((k:Nat):Int)) H' Q':=fun Q' h=>by
   rcases hq with hq|hq
   ·exact M5 hq (W1 (by omega)) h
   ·exact U7 hq (W1 (by omega)) h
  rw[hk,clo] at hc
  rw[ek]
  lk
  refine ix _ ?_
  lk
  by_cases e:gd ys k=x
  ·rw[decide_eq_true e]
   x_go
   lk
   rw[hc,if_pos e] at q
   exact q
  ·rw [decide_eq_false e]
   k_go
   rw[if_neg e] at hc
   lk
   refine ix _ ?_
   lk
   refine⟨v,_,rs,rfl,hR,?_⟩
   lk
   cases hw:S9 rs (gd ys k) with
   | false =>
     rw[hw,Bool.false_and,if_neg Bool.false_ne_true] at hc
     k_go
     k_go
     lk
     exact⟨rfl,⟨_,rfl⟩,by rw[hk2];exact hc⟩
   | true =>
     rw[hw,Bool.true_and] at hc
     x_go
     lk
     refine ix _ ?_
     lk
     refine⟨v,_,x,rs,rk,rfl,hR,f,?_⟩
     show ∃ k_1,V.bl (bel rs rk (gd ys k) x)=V.bl k_1/\_
     lk
     cases hb:bel rs rk (gd ys k) x with
     | true =>
       rw[hb,Bool.not_true,if_neg Bool.false_ne_true] at hc
       rw[Bool.not_true]
       k_go
       lk
       exact⟨rfl,⟨_,rfl⟩,by rw[hk2];exact hc⟩
     | false =>
       rw[hb,Bool.not_false,if_pos rfl] at hc
       rw[Bool.not_false]
       x_go
       lk
       rw[hc] at q
       exact q
 ·rintro σ H' ⟨rfl,⟨w,rfl⟩,hc⟩
  lk
  rw[Nat.sub_self] at hc
  rw[hc] at q
  exact q
def qo1(rs:List Row)(x:Str):List Str:=match V4 rs (some x) with|none=>[]|some r=>r.shuts
def we5(rs:List Row)(x:Str):List Str:=match V4 rs (some x) with|none=>[]|some r=>r.bars
def kpt(ys sh:List Str):Nat->Nat->Nat
 | k,0=>k
 | k,m+1=>if gd ys k∈sh then k else kpt ys sh (k+1) m
theorem yz4(ys sh:List Str):∀ m k,kpt ys sh k m<=k+m
 | 0,k=>Nat.le_refl _
 | m+1,k=>by
   rw[kpt]
   split
   ·omega
   ·have:=yz4 ys sh m (k+1);omega
def wx3(rs:List Row)(ys:List Str)(x:Str):Nat:=kpt ys (qo1 rs x) (ys.length-(qc7 rs ys).length) (qc7 rs ys).length
def qc1(rs:List Row)(ys:List Str)(x:Str):Nat×List Str:=if L9 rs (P6 ys)=[] then(wx3 rs ys x,[x]) else(ys.length,L9 rs (P6 ys)++[x])
def wb1(rs:List Row)(rk:Str->Nat)(ys:List Str)(rec:Str->Nat×List Str)(x:Str):Nat×List Str :=
 match M6 rs (some x) with
 | none=>qc1 rs ys x
 | some y=>match clo rs rk ys y ys.length with
   | some k=>(k+1,[x])
   | none=>((rec y).1,(rec y).2++[x])
def L1(rs:List Row)(rk:Str->Nat)(ys:List Str):Nat->Str->Nat×List Str
 | 0=>wb1 rs rk ys fun _=>(0,[])
 | n+1=>wb1 rs rk ys (L1 rs rk ys n)
theorem xe0{rs:List Row}{rk:Str->Nat}{ys:List Str}{x:Str}:∀ {m k:Nat},clo rs rk ys x m=some k->k<m
 | 0,k,h=>by cases h
 | m+1,k,h=>by
   rw[clo] at h
   split at h
   ·injection h with h;omega
   ·split at h
    ·cases h
    ·have:=xe0 h;omega
theorem qw2 {rs:List Row} (B:Boo rs):∀ (m:Nat) (n:Option Str),∀ z∈qc8 rs m n,∃ r∈rs,r.name=z
 | 0,_,z,h=>by cases h
 | m + 1,n,z,h=>by
   rw[qc8] at h
   split at h
   ·cases h
   ·rename_i y e
    rcases List.mem_cons.mp h with h|h
    ·subst h
     unfold P5 at e
     cases er:V4 rs n with
     | none=>rw[er] at e;cases e
     | some r =>
       rw[er] at e
       have hr:r∈rs:=List.mem_of_find?_eq_some er
       by_cases hf:r.sort=("frame":Str)
       ·have e:some r.host=some z:=by simpa [hf] using e
        injection e with e
        obtain⟨rk,_,h2⟩:=B.rk
        obtain⟨⟨r',hr',en,_⟩,_⟩:=h2 r hr hf
        exact⟨r',hr',by rw[en,e]⟩
       ·simp[hf] at e
    ·exact qw2 B m _ z h
structure Wok(rs:List Row)(ys:List Str)(n:Nat)(w:Nat×List Str):Prop where
 k:w.1<=ys.length
 m:∀ z∈w.2,∃ r∈rs,r.name=z
 l:w.2.length<=13+n
theorem yz5(rs:List Row)(ys:List Str)(x:Str):wx3 rs ys x<=ys.length:=by
 have:=yz4 ys (qo1 rs x) (qc7 rs ys).length (ys.length-(qc7 rs ys).length)
 have:=qw1 rs ys.length ys rfl
 unfold wx3
 omega
theorem yz6(B:Boo rs)(hx:∃ r∈rs,r.name=x)(n:Nat):Wok rs ys n (qc1 rs ys x):=by
 unfold qc1
 split
 ·exact⟨yz5 rs ys x,fun z hz=>by rw[List.mem_singleton.mp hz];exact hx,by simp;omega⟩
 ·refine⟨Nat.le_refl _,fun z hz=>?_,?_⟩
  ·rcases List.mem_append.mp hz with h|h
   ·exact qw2 B 12 _ z h
   ·rw[List.mem_singleton.mp h];exact hx
  ·show(L9 rs (P6 ys)++[x]).length<=_
   rw[List.length_append,List.length_singleton]
   have:(L9 rs (P6 ys)).length<=12:=qj6 rs 12 _
   omega
theorem wh0 {rs:List Row} (B:Boo rs) {rk:Str->Nat} (f:wo8 rs rk) {ys:List Str}:∀ (n:Nat) (x:Str),(∃ r∈rs,r.name=x)->rk x<=n->Wok rs ys n (L1 rs rk ys n x)
 | n, x, hx,hn=>by
   have go:∀ rec:Str->Nat×List Str,(∀ y,M6 rs (some x)=some y->∃ m,n=m+1/\Wok rs ys m (rec y))->Wok rs ys n (wb1 rs rk ys rec x):=by
    intro rec hrec
    unfold wb1
    cases e:M6 rs (some x) with
    | none=>exact yz6 B hx n
    | some y =>
      dsimp only
      cases ec:clo rs rk ys y ys.length with
      | some k =>
        have:=xe0 ec
        exact⟨by show k+1<=_;omega,fun z hz=>by rw[List.mem_singleton.mp hz];exact hx,by simp;omega⟩
      | none =>
        obtain⟨m,rfl,w⟩:=hrec y e
        refine⟨w.k,fun z hz=>?_,?_⟩
        ·rcases List.mem_append.mp hz with h|h
         ·exact w.m z h
         ·rw[List.mem_singleton.mp h];exact hx
        ·show((rec y).2++[x]).length<=_
         rw[List.length_append,List.length_singleton];have:=w.l;omega
   cases n with
   | zero=>exact go _ fun y e=>absurd (f x y e) (by omega)
   | succ m=>exact go _ fun y e=>⟨m,rfl,wh0 B f m y (let ⟨r,h1,h2,_⟩:=xn0 e;⟨r,h1,h2⟩) (by have:=f x y e;omega)⟩
def bar(rs:List Row):List Str->List Str->Bool
 | _,[]=>false
 | there,x::xs=>(qc7 rs there).any (fun y=>decide (y∈we5 rs x)) || bar rs (there++[x]) xs
def xe1(rs:List Row)(rk:Str->Nat)(ys:List Str)(x:Str):PyData :=
 if bar rs (ys.take (L1 rs rk ys 13 x).1) (L1 rs rk ys 13 x).2=true then .tuple [.str "drop",.str "barred"]
 else if 20<(L1 rs rk ys 13 x).1+(L1 rs rk ys 13 x).2.length then .tuple [.str "drop",.str "deep"]
 else .tuple [.str "open",.int (L1 rs rk ys 13 x).1,.tuple (sDa (L1 rs rk ys 13 x).2)]
def qj7(K:Fg):Sp:=fun vs H Q _=>∃ v a ys rs,vs=[v,.ref a]/\Rws K H v rs/\SqT K H a (B6 ys)/\ys.length<=1000/\∀ p H',A7 H H'->SqT K H' p (B6 (qc7 rs ys))->Q (.ref p) H'
def wh1(K:Fg):TS :=
 (C1 (E3 (tC (.int 0)) (B2 2))
 (C1 (qy2 (xp8 K (A1 (A2 1) A9)) (yo5 K 2 (wa8 (B2 3) (wa8 (B2 4) yo4)))
 (P7 (tB (D1 (qe4 K) [] E0 (A1 (A2 0) (A1 (A2 4) A9))))
 (E3 (tOp (qv8 K) (A2 3) (tC (.int 1))) (B2 2)) M7))
 (M3 (tCB (qk3 K) (A1 (tSl (ye5 K) (A2 1) (X8 (A2 2)) qf4) A9)))))
theorem yf7(h:qj7 K vs H Q E):wh1 K {nx:=fun _ H'=>Q .non H',rt:=Q} (D6 ["book","names","start","number","name"] vs) H:=by
 obtain⟨v,a,ys,rs,rfl,hR,hq,hl,q⟩:=h
 show wh1 K _ [some v,some (.ref a),none,none,none] H
 unfold wh1
 lk
 refine xm6 hq (fun i σ H'=>A7 H H'/\∃ (st:Nat) (a3 a4:Option V),σ=[some v,some (.ref a),some (.int st),a3,a4]/\st<=i/\qc7 rs (ys.take i)=(ys.take i).drop st) ⟨A7.refl _,0,none,none,rfl,Nat.le_refl _,rfl⟩ (fun i σ H' p=>p.1.sqT hq) ?_ ?_
 ·rintro i x σ H' p hx ⟨s1,st,a3,a4,rfl,hst,hnr⟩ hp
  obtain⟨y,hy,rfl⟩:=ql3 hx
  have il:=(List.getElem?_eq_some_iff.mp hy).1
  have etk:ys.take (i+1)=ys.take i++[y]:=by rw[List.take_add_one,hy];rfl
  have s2:A7 H (upd H' p (.tup [.int (i:Int),.str y])):=A7.tr s1 (A7.new hp _)
  refine⟨p,_,rfl,SqT.of A5,rfl,_,_,rfl,M4 ⟨_,_,rfl,M4 ⟨rfl,?_⟩⟩⟩
  lk
  refine⟨v,y,rs,rfl,hR.same s2,?_⟩
  lk
  cases hw:S9 rs y with
  | true =>
    x_go
    lk
    refine .inl (xp6 ?_)
    lk
    refine⟨s2,i+1,_,_,rfl,Nat.le_refl _,?_⟩
    rw[etk,wt3,if_pos hw,List.drop_eq_nil_of_le (by rw[List.length_append,List.length_take,List.length_singleton];omega)]
  | false =>
    k_go
    lk
    refine⟨s2,st,_,_,rfl,by omega,?_⟩
    rw[etk,wt3,if_neg (by rw[hw];exact Bool.false_ne_true),hnr,List.drop_append_of_le_length (by rw[List.length_take];omega)]
 ·rintro σ H' ⟨s1,st,a3,a4,rfl,hst,hnr⟩
  rw[C3,List.take_length] at hnr
  lk
  refine xw3 (s1.sqT hq) fun p H2 s2 hp=>?_
  have e:ql8 (B6 ys) (some (st:Int)) none=B6 (qc7 rs ys):=by
   unfold ql8
   rw[HT.qy5]
   show((B6 ys).drop (min st (B6 ys).length)).take ((B6 ys).length-min st (B6 ys).length)=_
   rw[C3] at hst ⊢
   rw[Nat.min_eq_left hst,List.take_of_length_le (by rw[List.length_drop,C3];exact Nat.le_refl _),hnr]
   unfold B6
   rw[List.map_drop]
  rw[e] at hp
  lk
  refine⟨p,_,rfl,.inr ⟨hp,?_⟩⟩
  exact q p H2 (A7.tr s1 s2) hp
def V6(K:Fg):Sp:=fun vs H Q _=>∃ (a b:Addr) (ys zs:List Str),vs=[.ref a,.ref b]/\SqT K H a (B6 ys)/\SqT K H b (B6 zs)/\ys.length<=1000/\∀ H',A7 H H'->Q (.bl (ys.any fun y=>decide (y∈zs))) H'
def qg2(K:Fg):TS :=
 (M3 (tCB (yx6 K) (A1 (wa9 [some 1,none] (wc3 K (A2 0)) (B2 1) tTT (tOp (xc4 K false) (A2 1) (A2 0))) A9)))
theorem wy7(h:V6 K vs H Q E):qg2 K {nx:=fun _ H'=>Q .non H',rt:=Q} (D6 ["names","others"] vs) H:=by
 obtain⟨a,b,ys,zs,rfl,ha,hb,hl,q⟩:=h
 show qg2 K _ [some (.ref a),some (.ref b)] H
 unfold qg2
 lk
 refine ws7 (H0:=H) (.inr ha) (A7.refl _) (fun i us H'=>H'=H/\us=((ys.take i).map fun y=>decide (y∈zs)).map V.bl) ⟨rfl,rfl⟩ ?_ (fun i us H' p=>p.1▸A7.refl _) ?_ ?_
 ·rintro i us H' hi ⟨_,rfl⟩
  rw[List.length_map,List.length_map,List.length_take];exact D4 (by omega)
 ·rintro i x us H' hx ⟨rfl,rfl⟩
  obtain⟨y,hy,rfl⟩:=ql3 hx
  lk
  refine .inl (xv7 (.inr hb) rfl (qe8 _) ?_)
  rw[qf7]
  refine⟨rfl,?_⟩
  rw[List.take_add_one,hy]
  simp
 ·rintro us H' ⟨rfl,rfl⟩ p hp
  rw[C3,List.take_length]
  lk
  refine zy3 (SqL.of A5) ?_
  rw[List.any_map]
  exact q _ (A7.new hp _)
def Z2(K:Fg):Sp:=fun vs H Q _=>∃ v a ys x rs,vs=[v,.ref a,.str x]/\Rws K H v rs/\SqT K H a (B6 ys)/\ys.length<=1000/\(∃ r∈rs,Row.name r=x)/\∀ H',A7 H H'->Q (.int (wx3 rs ys x)) H'
def qd7(K:Fg):TS :=
 (C1 (E3 (tOp (L7 K) (D1 (qe6 K) [] E0 (A1 (A2 0) (A1 (A2 2) A9))) (tC (.int 3))) (B2 3))
 (C1 (E3 (tOp (rI0 fun i j=>.int (i-j)) (tCB (O6 K) (A1 (A2 1) A9)) (tCB (O6 K) (A1 (D1 (qj7 K) [] E0 (A1 (A2 0) (A1 (A2 1) A9))) A9))) (B2 4))
 (C1 (qy2 (yt5 (A1 (A2 4) (A1 (tCB (O6 K) (A1 (A2 1) A9)) A9))) (B2 5)
 (P7 (E4 (tOp (xc4 K false) (tOp (L7 K) (A2 1) (A2 5)) (A2 3)))
 (M3 (A2 5)) M7))
 (M3 (tCB (O6 K) (A1 (A2 1) A9))))))
theorem wt6(h:Z2 K vs H Q E):qd7 K {nx:=fun _ H'=>Q .non H',rt:=Q} (D6 ["book","names","name","shuts","first_near","number"] vs) H:=by
 obtain⟨v,a,ys,x,rs,rfl,hR,hq,hl,hx,q⟩:=h
 show qd7 K _ [some v,some (.ref a),some (.str x),none,none,none] H
 unfold qd7
 obtain⟨r,er,mr,nr⟩:=yf4 hx
 have hsh:qo1 rs x=r.shuts:=by unfold qo1;rw[er]
 lk
 refine⟨v,some x,rs,rfl,hR,fun e=>(by rw[er] at e;cases e),fun r2 u e hu=>?_⟩
 rw[er] at e
 injection e with e
 subst e
 obtain⟨b,ps,pb,rfl,hb,h1,h2⟩:=xq4 hu
 lk
 refine U7 hb rfl ?_
 lk
 refine T5 (.inr hq) ?_
 rw[C3]
 lk
 refine⟨v,a,ys,rs,rfl,hR,hq,hl,fun p H1 s1 hp=>?_⟩
 have nl:=qw1 rs ys.length ys rfl
 lk
 refine T5 (.inr hp) ?_
 rw[C3]
 lk
 refine T5 (.inr (s1.sqT hq)) ?_
 rw[C3]
 have e1:(ys.length:Int)-((qc7 rs ys).length:Int)=((ys.length-(qc7 rs ys).length:Nat):Int):=by omega
 rw[e1]
 refine yv8 (by omega) (by omega) (by omega) (fun i σ H'=>H'=H1/\(∃ w,σ=[some v,some (.ref a),some (.str x),some (.ref ps),some (.int ((ys.length-(qc7 rs ys).length:Nat):Int)),w])/\wx3 rs ys x=kpt ys r.shuts (ys.length-(qc7 rs ys).length+i) ((qc7 rs ys).length-i)) ⟨rfl,⟨_,rfl⟩,by unfold wx3;rw[hsh];rfl⟩ ?_ ?_
 ·rintro i σ H' hi ⟨rfl,⟨w,rfl⟩,hk⟩
  obtain⟨m,hm⟩:∃ m:Nat,(qc7 rs ys).length-i=m+1:=⟨(qc7 rs ys).length-i-1,by omega⟩
  have e2:((ys.length-(qc7 rs ys).length:Nat):Int)+(i:Int)=((ys.length-(qc7 rs ys).length+i:Nat):Int):=by omega
  rw[hm,kpt] at hk
  rw[e2]
  lk
  refine U7 (s1.sqT hq) (W1 (by omega)) ?_
  lk
  refine .inl (xv7 (.inr (s1.sqT h1)) rfl (qe8 _) ?_)
  rw[qf7]
  lk
  by_cases hs:gd ys (ys.length-(qc7 rs ys).length+i)∈r.shuts
  ·rw[decide_eq_true hs]
   x_go
   lk
   rw[if_pos hs] at hk
   rw[hk] at q
   exact q _ s1
  ·rw[decide_eq_false hs]
   k_go
   lk
   rw[if_neg hs] at hk
   exact⟨rfl,⟨_,rfl⟩,by rw[hk,show(qc7 rs ys).length-(i+1)=m by omega];rfl⟩
 ·rintro σ H' ⟨rfl,⟨w,rfl⟩,hk⟩
  lk
  refine T5 (.inr (s1.sqT hq)) ?_
  rw[C3]
  have e3:(((ys.length:Int)-((ys.length-(qc7 rs ys).length:Nat):Int))).toNat=(qc7 rs ys).length:=by omega
  rw[e3,Nat.sub_self,kpt,show ys.length-(qc7 rs ys).length+(qc7 rs ys).length=ys.length by omega] at hk
  rw[hk] at q
  exact q _ s1
def qo2(K:Fg):Sp:=fun vs H Q _=>∃ v a b ks ps rs,vs=[v,.ref a,.ref b]/\Rws K H v rs/\SqT K H a (B6 ks)/\SqT K H b (B6 ps)/\ks.length<=100/\ps.length<=100/\(∀ z∈ps,∃ r∈rs,Row.name r=z)/\∀ H',A7 H H'->Q (.bl (bar rs ks ps)) H'
def qs2(K:Fg):TS :=
 (C1 (qy2 (xp8 K (A1 (A2 2) A9)) (yo5 K 2 (wa8 (B2 3) (wa8 (B2 4) yo4)))
 (C1 (E3 (D1 (qj7 K) [] E0 (A1 (A2 0) (A1 (tOp (qv8 K) (A2 1) (tSl (ye5 K) (A2 2) qf4 (X8 (A2 3)))) A9))) (B2 5))
 (P7 (tB (D1 (V6 K) [] E0 (A1 (A2 5) (A1 (tOp (L7 K) (D1 (qe6 K) [] E0 (A1 (A2 0) (A1 (A2 4) A9))) (tC (.int 4))) A9))))
 (M3 (tC (.bl true))) M7)))
 (M3 (tC (.bl false))))
theorem xq6(h:qo2 K vs H Q E):qs2 K {nx:=fun _ H'=>Q .non H',rt:=Q} (D6 ["book","kept","put","number","name","near"] vs) H:=by
 obtain⟨v,a,b,ks,ps,rs,rfl,hR,ha,hb,hlk,hlp,hps,q⟩:=h
 show qs2 K _ [some v,some (.ref a),some (.ref b),none,none,none] H
 unfold qs2
 lk
 refine xm6 hb (fun i σ H'=>A7 H H'/\∃ (a3 a4 a5:Option V),σ=[some v,some (.ref a),some (.ref b),a3,a4,a5]/\bar rs ks ps=bar rs (ks++ps.take i) (ps.drop i)) ⟨A7.refl _,none,none,none,rfl,by simp⟩ (fun i σ H' p=>p.1.sqT hb) ?_ ?_
 ·rintro i x σ H' p hx ⟨s1,a3,a4,a5,rfl,hbr⟩ hp
  obtain⟨y,hy,rfl⟩:=ql3 hx
  have il:=(List.getElem?_eq_some_iff.mp hy).1
  have etk:ps.take (i+1)=ps.take i++[y]:=by rw[List.take_add_one,hy];rfl
  have edr:ps.drop i=y::ps.drop (i+1):=by
   obtain⟨hil,he⟩:=List.getElem?_eq_some_iff.mp hy
   rw[List.drop_eq_getElem_cons hil,he]
  rw[edr,bar] at hbr
  have s2:A7 H (upd H' p (.tup [.int (i:Int),.str y])):=A7.tr s1 (A7.new hp _)
  obtain⟨r,er,mr,nr⟩:=yf4 (hps y (List.mem_of_getElem? hy))
  have hba:we5 rs y=r.bars:=by unfold we5;rw[er]
  refine⟨p,_,rfl,SqT.of A5,rfl,_,_,rfl,M4 ⟨_,_,rfl,M4 ⟨rfl,?_⟩⟩⟩
  lk
  refine xw3 (s2.sqT hb) fun p3 H3 s3 hp3=>?_
  rw[xd9] at hp3
  have s23:=A7.tr s2 s3
  refine wk8 (s23.sqT ha) hp3 (by rw[C3,C3,List.length_take];exact D4 (by omega)) fun p4 H4 s4 hp4=>?_
  have e4:B6 ks++B6 (ps.take i)=B6 (ks++ps.take i):=by simp[B6]
  rw[e4] at hp4
  have s24:=A7.tr s23 s4
  lk
  refine⟨v,p4,ks++ps.take i,rs,rfl,hR.same s24,hp4,by rw[List.length_append,List.length_take];omega,fun p5 H5 s5 hp5=>?_⟩
  have s25:=A7.tr s24 s5
  have nl:=qw1 rs _ (ks++ps.take i) rfl
  rw[List.length_append,List.length_take] at nl
  lk
  refine⟨v,some y,rs,rfl,hR.same s25,fun e=>(by rw[er] at e;cases e),fun r2 u e hu=>?_⟩
  rw[er] at e
  injection e with e
  subst e
  obtain⟨b6,p6,p7,rfl,hb6,_,h7⟩:=xq4 hu
  lk
  refine U7 hb6 rfl ?_
  lk
  refine⟨p5,p7,qc7 rs (ks++ps.take i),r.bars,rfl,hp5,h7,by omega,fun H8 s8=>?_⟩
  have s28:=A7.tr s25 s8
  lk
  rw[hba] at hbr
  cases hc:(qc7 rs (ks++ps.take i)).any (fun z=>decide (z∈r.bars)) with
  | true =>
    x_go
    lk
    rw[hc,Bool.true_or] at hbr
    rw[hbr] at q
    exact q _ s28
  | false =>
    k_go
    lk
    rw[hc,Bool.false_or] at hbr
    exact⟨s28,_,_,_,rfl,by rw[hbr,etk,List.append_assoc]⟩
 ·rintro σ H' ⟨s1,a3,a4,a5,rfl,hbr⟩
  lk
  rw[C3,List.drop_length,bar] at hbr
  rw[hbr] at q
  exact q _ s1
def V0(K:Fg):Sp:=fun vs H Q _=>∃ v a ys x rs,vs=[v,.ref a,.str x]/\Rws K H v rs/\Boo rs/\SqT K H a (B6 ys)/\ys.length<=1000/\(∃ r∈rs,Row.name r=x)/\∀ p p2 H',A7 H H'->SqT K H' p [.int (qc1 rs ys x).1,.ref p2]->SqT K H' p2 (B6 (qc1 rs ys x).2)->Q (.ref p) H'
def W5(K:Fg):TS :=
 (C1 (E3 (D1 (V5 K) [] E0 (A1 (A2 0) (A1 (D1 (O7 K) [] E0 (A1 (A2 1) A9)) A9))) (B2 3))
 (C1 (P7 (E4 (tOp wo1 (tCB (O6 K) (A1 (A2 3) A9)) (tC (.int 0))))
 (M3 (Q3 (A1 (tCB (O6 K) (A1 (A2 1) A9)) (A1 (tOp (qv8 K) (A2 3) (Q3 (A1 (A2 2) A9))) A9)))) M7)
 (M3 (Q3 (A1 (D1 (Z2 K) [] E0 (A1 (A2 0) (A1 (A2 1) (A1 (A2 2) A9)))) (A1 (Q3 (A1 (A2 2) A9)) A9))))))
theorem wl4(h:V0 K vs H Q E):W5 K {nx:=fun _ H'=>Q .non H',rt:=Q} (D6 ["book","names","name","hosts"] vs) H:=by
 obtain⟨v,a,ys,x,rs,rfl,hR,B,hq,hl,hx,q⟩:=h
 show W5 K _ [some v,some (.ref a),some (.str x),none] H
 unfold W5
 lk
 refine⟨a,ys,rfl,.inr hq,?_⟩
 lk
 refine⟨v,_,rs,rfl,hR,B,fun p H1 s1 hp=>?_⟩
 have hlen:(L9 rs (P6 ys)).length<=12:=qj6 rs 12 _
 lk
 refine T5 (.inr hp) ?_
 rw[C3]
 lk
 by_cases h0:L9 rs (P6 ys)=[]
 ·rw[decide_eq_false (by rw[h0];simp)]
  k_go
  have eg:qc1 rs ys x=(wx3 rs ys x,[x]):=by unfold qc1;rw[if_pos h0]
  lk
  refine⟨v,a,ys,x,rs,rfl,hR.same s1,s1.sqT hq,hl,hx,fun H2 s2=>?_⟩
  lk
  refine⟨D4 (by z_go),fun p3 hp3=>?_⟩
  lk
  refine⟨D4 (by z_go),fun p4 hp4=>?_⟩
  rw[eg] at q
  exact q p4 p3 _ (A7.tr s1 (A7.tr s2 (A7.tr (A7.new hp3 _) (A7.new hp4 _)))) (SqT.of A5) ((A7.new hp4 _).sqT (SqT.of A5))
 ·rw[decide_eq_true (by have:=List.length_pos_iff.mpr h0;omega)]
  x_go
  have eg:qc1 rs ys x=(ys.length,L9 rs (P6 ys)++[x]):=by unfold qc1;rw[if_neg h0]
  lk
  refine T5 (.inr (s1.sqT hq)) ?_
  rw[C3]
  lk
  refine⟨D4 (by z_go),fun p3 hp3=>?_⟩
  refine wk8 ((A7.new hp3 _).sqT hp) (SqT.of A5) (by rw[C3];exact D4 (by simp;omega)) fun p4 H4 s4 hp4=>?_
  rw[we4] at hp4
  lk
  refine⟨D4 (by z_go),fun p5 hp5=>?_⟩
  rw[eg] at q
  exact q p5 p4 _ (A7.tr s1 (A7.tr (A7.new hp3 _) (A7.tr s4 (A7.new hp5 _)))) (SqT.of A5) ((A7.new hp5 _).sqT hp4)
def qq1(n:Nat)(K:Fg):Sp:=fun vs H Q _=>∃ v a ys x rs rk,vs=[v,.ref a,.str x]/\Rws K H v rs/\Boo rs/\wo8 rs rk/\SqT K H a (B6 ys)/\ys.length<=1000/\(∃ r∈rs,Row.name r=x)/\rk x<=n/\n<=50/\∀ p p2 H',A7 H H'->SqT K H' p [.int (L1 rs rk ys n x).1,.ref p2]->SqT K H' p2 (B6 (L1 rs rk ys n x).2)->Q (.ref p) H'
def xn1(K:Fg):Sp:=qq1 13 K
def ql4(K:Fg):Nat->Sp
 | 0=>fun _ _ _ _=>False
 | n+1=>qq1 n K
def we6(K:Fg)(spr:Sp):TS :=
 (C1 (E3 (D1 (qe7 K) [] E0 (A1 (A2 0) (A1 (A2 2) A9))) (B2 3))
 (C1 (P7 (E4 (tOp xv3 (A2 3) (tC .non)))
 (M3 (D1 (V0 K) [] E0 (A1 (A2 0) (A1 (A2 1) (A1 (A2 2) A9))))) M7)
 (C1 (E3 (D1 (qq0 K) [] E0 (A1 (A2 0) (A1 (A2 1) (A1 (A2 3) A9)))) (B2 4))
 (C1 (P7 (E4 (tOp wg6 (A2 4) (tC .non)))
 (M3 (Q3 (A1 (tOp (qv8 K) (A2 4) (tC (.int 1))) (A1 (Q3 (A1 (A2 2) A9)) A9)))) M7)
 (C1 (E3 (D1 spr [] E0 (A1 (A2 0) (A1 (A2 1) (A1 (A2 3) A9)))) (B2 5))
 (M3 (Q3 (A1 (tOp (L7 K) (A2 5) (tC (.int 0))) (A1 (tOp (qv8 K) (tOp (L7 K) (A2 5) (tC (.int 1))) (Q3 (A1 (A2 2) A9))) A9)))))))))
theorem xn2(n:Nat)(h:qq1 n K vs H Q E):we6 K (ql4 K n) {nx:=fun _ H'=>Q .non H',rt:=Q} (D6 ["book","names","name","frame","number","plan"] vs) H:=by
 obtain⟨v,a,ys,x,rs,rk,rfl,hR,B,f,hq,hl,hx,hn,hn50,q⟩:=h
 show we6 K _ _ [some v,some (.ref a),some (.str x),none,none,none] H
 unfold we6
 have ew:∃ rec,L1 rs rk ys n x=wb1 rs rk ys rec x/\∀ m,n=m+1->rec=L1 rs rk ys m:=by
  cases n with
  | zero=>exact⟨_,rfl,fun m h=>by cases h⟩
  | succ m=>exact⟨_,rfl,fun k h=>by injection h with h;rw[h]⟩
 obtain⟨rec,ew,hrec⟩:=ew
 rw[ew] at q
 unfold wb1 at q
 lk
 refine⟨v,some x,rs,rfl,hR,?_⟩
 lk
 cases ef:M6 rs (some x) with
 | none =>
   rw[ef] at q
   dsimp only at q
   rw[decide_eq_true (show oV none=V.non from rfl)]
   x_go
   lk
   exact⟨v,a,ys,x,rs,rfl,hR,B,hq,hl,hx,q⟩
 | some y =>
   rw[ef] at q
   dsimp only at q
   have hyx:=f x y ef
   obtain⟨ry,my,ny,_⟩:=xn0 ef
   rw[decide_eq_false (show ¬oV (some y)=V.non by simp[oV])]
   k_go
   lk
   refine⟨v,a,ys,y,rs,rk,rfl,hR,f,.inr hq,hl,?_⟩
   lk
   cases ec:clo rs rk ys y ys.length with
   | some k =>
     rw[ec] at q
     dsimp only at q
     rw[decide_eq_false (show ¬nV (some k)=V.non by simp[nV]),Bool.not_false]
     x_go
     lk
     refine .inl (xp6 ?_)
     lk
     refine⟨D4 (by z_go),fun p3 hp3=>?_⟩
     lk
     refine⟨D4 (by z_go),fun p4 hp4=>?_⟩
     exact q p4 p3 _ (A7.tr (A7.new hp3 _) (A7.new hp4 _)) (SqT.of A5) ((A7.new hp4 _).sqT (SqT.of A5))
   | none =>
     rw[ec] at q
     dsimp only at q
     rw[decide_eq_true (show nV none=V.non from rfl),Bool.not_true]
     k_go
     obtain⟨m,rfl⟩:∃ m,n=m+1:=⟨n-1,by omega⟩
     rw[hrec m rfl] at q
     have wk:=wh0 B f (ys:=ys) m y ⟨ry,my,ny⟩ (by omega)
     lk
     refine⟨v,a,ys,y,rs,rk,rfl,hR,B,f,hq,hl,⟨ry,my,ny⟩,by omega,by omega,fun p p2 H1 s1 hp hp2=>?_⟩
     lk
     refine U7 hp rfl ?_
     lk
     refine U7 hp rfl ?_
     lk
     refine⟨D4 (by z_go),fun p3 hp3=>?_⟩
     refine wk8 ((A7.new hp3 _).sqT hp2) (SqT.of A5) (by rw[C3];exact D4 (by have:=wk.l;simp;omega)) fun p4 H4 s4 hp4=>?_
     rw[we4] at hp4
     lk
     refine⟨D4 (by z_go),fun p5 hp5=>?_⟩
     exact q p5 p4 _ (A7.tr s1 (A7.tr (A7.new hp3 _) (A7.tr s4 (A7.new hp5 _)))) (SqT.of A5) ((A7.new hp5 _).sqT hp4)
def qz1(K:Fg):Sp:=fun vs H Q _=>∃ v a ys x rs rk,vs=[v,.ref a,.str x]/\Rws K H v rs/\Boo rs/\wo8 rs rk/\SqT K H a (B6 ys)/\ys.length<=50/\(∃ r∈rs,Row.name r=x)/\rk x<=13/\∀ p H',A7 H H'->Dv K H' (xe1 rs rk ys x) (.ref p)->Q (.ref p) H'
def wh2(K:Fg):TS :=
 (C1 (E3 (D1 (xn1 K) [] E0 (A1 (A2 0) (A1 (A2 1) (A1 (A2 2) A9)))) (B2 3))
 (C1 (E3 (tCB (qk3 K) (A1 (tSl (ye5 K) (A2 1) qf4 (X8 (tOp (L7 K) (A2 3) (tC (.int 0))))) A9)) (B2 4))
 (C1 (E3 (tOp (L7 K) (A2 3) (tC (.int 1))) (B2 5))
 (C1 (P7 (tB (D1 (qo2 K) [] E0 (A1 (A2 0) (A1 (A2 4) (A1 (A2 5) A9)))))
 (M3 (Q3 (A1 (tC (.str "drop")) (A1 (tC (.str "barred")) A9)))) M7)
 (C1 (P7 (E4 (tOp wo1 (tOp (qv8 K) (tCB (O6 K) (A1 (A2 4) A9)) (tCB (O6 K) (A1 (A2 5) A9))) (tC (.int 20))))
 (M3 (Q3 (A1 (tC (.str "drop")) (A1 (tC (.str "deep")) A9)))) M7)
 (M3 (Q3 (A1 (tC (.str "open")) (A1 (tCB (O6 K) (A1 (A2 4) A9)) (A1 (A2 5) A9))))))))))
theorem yf8(h:qz1 K vs H Q E):wh2 K {nx:=fun _ H'=>Q .non H',rt:=Q} (D6 ["book","names","name","plan","kept","put"] vs) H:=by
 obtain⟨v,a,ys,x,rs,rk,rfl,hR,B,f,hq,hl,hx,hn,q⟩:=h
 show wh2 K _ [some v,some (.ref a),some (.str x),none,none,none] H
 unfold wh2
 have wk:=wh0 B f (ys:=ys) 13 x hx hn
 lk
 refine⟨v,a,ys,x,rs,rk,rfl,hR,B,f,hq,by omega,hx,hn,by decide,fun p p2 H1 s1 hp hp2=>?_⟩
 have wkk:=wk.k
 have wkl:=wk.l
 have il:(ys.take (L1 rs rk ys 13 x).1).length=(L1 rs rk ys 13 x).1:=by rw[List.length_take];omega
 unfold xe1 at q
 generalize L1 rs rk ys 13 x=W at *
 lk
 refine U7 hp rfl ?_
 lk
 refine xw3 (s1.sqT hq) fun p3 H3 s3 hp3=>?_
 rw[xd9] at hp3
 lk
 refine⟨p3,_,rfl,.inr ⟨hp3,?_⟩⟩
 lk
 refine U7 (s3.sqT hp) rfl ?_
 lk
 refine⟨v,p3,p2,_,_,rs,rfl,hR.same (A7.tr s1 s3),hp3,s3.sqT hp2,by omega,by omega,wk.m,fun H4 s4=>?_⟩
 have s14:=A7.tr s1 (A7.tr s3 s4)
 lk
 cases hb:bar rs (ys.take W.1) W.2 with
 | true =>
   rw[hb,if_pos rfl] at q
   x_go
   lk
   refine⟨D4 (by z_go),fun p5 hp5=>?_⟩
   exact q p5 _ (A7.tr s14 (A7.new hp5 _)) (C8.mpr ⟨p5,_,rfl,SqT.of A5,B3 (D5.mpr rfl) (B3 (D5.mpr rfl) E2)⟩)
 | false =>
   rw[hb,if_neg Bool.false_ne_true] at q
   k_go
   lk
   refine T5 (.inr (s4.sqT hp3)) ?_
   rw[C3,il]
   lk
   refine T5 (.inr ((A7.tr s3 s4).sqT hp2)) ?_
   rw[C3]
   refine .inl (xp6 ?_)
   lk
   by_cases h20:20<W.1+W.2.length
   ·rw[if_pos h20] at q
    rw[decide_eq_true (by omega)]
    x_go
    lk
    refine⟨D4 (by z_go),fun p5 hp5=>?_⟩
    exact q p5 _ (A7.tr s14 (A7.new hp5 _)) (C8.mpr ⟨p5,_,rfl,SqT.of A5,B3 (D5.mpr rfl) (B3 (D5.mpr rfl) E2)⟩)
   ·rw[if_neg h20] at q
    rw[decide_eq_false (by omega)]
    k_go
    lk
    refine T5 (.inr (s4.sqT hp3)) ?_
    rw[C3,il]
    lk
    refine⟨D4 (by z_go),fun p5 hp5=>?_⟩
    have s5:=A7.new hp5 (.tup [.str "open",.int (W.1:Int),.ref p2])
    exact q p5 _ (A7.tr s14 s5) (C8.mpr ⟨p5,_,rfl,SqT.of A5,B3 (D5.mpr rfl) (B3 (O2.mpr rfl) (B3 (C8.mpr ⟨p2,_,rfl,(A7.tr (A7.tr s3 s4) s5).sqT hp2,qd3.mpr rfl⟩) E2))⟩)
namespace TX
open PySem PySem.StrLaws PySem.Builtin PySem.Builtin.Str
def rep(Y Z:List Nat):Nat->List Nat->List Nat
 | _,[]=>[]
 | k+1,_::l=>rep Y Z k l
 | 0,c::l=>if Y.isPrefixOf (c::l)=true then Z++rep Y Z (Y.length-1) l else c::rep Y Z 0 l
theorem xy2(Y Z:List Nat):∀ (k:Nat) (l:List Nat),rep Y Z k l=rep Y Z 0 (l.drop k)
 | 0,l=>by simp
 | k+1,[]=>by simp[rep]
 | k+1,_::l=>by rw[rep,xy2 Y Z k l];simp
theorem rep_yes{Y Z l:List Nat}(h0:1<=Y.length)(h:Y <+: l):rep Y Z 0 l=Z++rep Y Z 0 (l.drop Y.length):=by
 cases l with
 | nil=>rw[List.prefix_nil] at h;subst h;simp at h0
 | cons c l =>
   rw[rep,if_pos (List.isPrefixOf_iff_prefix.mpr h),xy2]
   congr 2
   cases Y with
   | nil=>simp at h0
   | cons y Y=>simp
theorem rep_no{Y Z l:List Nat}{c:Nat}(h:¬Y <+: c::l):rep Y Z 0 (c::l)=c::rep Y Z 0 l:=by
 rw[rep,if_neg (by rw[List.isPrefixOf_iff_prefix];exact h)]
theorem xy3{Y Z:List Nat}:∀ (l:List Nat),(∀ j,j<l.length->¬Y <+: l.drop j)->rep Y Z 0 l=l
 | [],_=>rfl
 | c::l,h=>by
   rw[rep_no (h 0 (by simp)),xy3 l fun j hj=>by have:=h (j+1) (by simpa using hj);simpa using this]
theorem yz7{Y Z:List Nat}(h0:1<=Y.length):∀ (d:Nat) (l:List Nat),(∀ j,j<d->¬Y <+: l.drop j)->Y <+: l.drop d->rep Y Z 0 l=l.take d++Z++rep Y Z 0 (l.drop (d+Y.length))
 | 0,l,_,h=>by simpa using rep_yes h0 (by simpa using h)
 | d+1,[],_,h=>by rw[List.drop_nil,List.prefix_nil] at h;subst h;simp at h0
 | d+1,c::l,hn,h=>by
   rw[rep_no (hn 0 (by omega)),yz7 h0 d l (fun j hj=>by have:=hn (j+1) (by omega);simpa using this) (by simpa using h)]
   have e:d+1+Y.length=(d+Y.length)+1:=by omega
   rw[e]
   simp
theorem yf9{x y:Str}(h0:1<=y.length)(k:Nat):At x y x.length k↔y.cps.toList <+: x.cps.toList.drop k:=by
 have hn:x.cps.toList.length=x.length:=by simp[Str.length]
 have hy:y.cps.toList.length=y.length:=by simp[Str.length]
 unfold At
 rw[subAt_eq,beq_iff_eq,List.prefix_iff_eq_take,hy]
 constructor
 ·rintro⟨_,h⟩;exact h.symm
 ·intro h
  refine⟨?_,h.symm⟩
  have:=congrArg List.length h
  rw[List.length_take,List.length_drop,hy,hn] at this
  omega
theorem yz8(sep a y:Str)(r:List Str):Str.join sep (a::y::r)=a++sep++Str.join sep (y::r):=by
 rfl
theorem xn3{x y z:Str}(h0:1<=y.length):∀ (cuts:List Nat) (a f:Nat),ChainG x y x.length a cuts f->(∀ k,f<=k->¬At x y x.length k) ->
 (Str.join z (partsFrom x y.length a cuts)).cps.toList=rep y.cps.toList z.cps.toList 0 (x.cps.toList.drop a)
 | [],a,f,h,hn=>by
   have e:f=a:=h
   subst e
   have hx:x.cps.toList.length=x.length:=by simp[Str.length]
   rw[xy3 _ fun j hj hp=>hn (f+j) (by omega) ((yf9 h0 _).mpr (by rw[<-List.drop_drop];exact hp))]
   show(strSub x f x.length).cps.toList=_
   rw[strSub_toList,List.take_of_length_le (by rw[List.length_drop,hx];exact Nat.le_refl _)]
 | c::r,a,f,h,hn=>by
   obtain⟨h1,h2,h3,h4⟩:=h
   have hy:y.cps.toList.length=y.length:=by simp[Str.length]
   have hp:y.cps.toList <+: (x.cps.toList.drop a).drop (c-a):=by
    rw[List.drop_drop,show a+(c-a)=c by omega]
    exact(yf9 h0 c).mp h2
   rw[yz7 (by rw[hy];exact h0) (c-a) _ (fun j hj hq=>h3 (a+j) (by omega) (by omega) ((yf9 h0 _).mpr (by rw[<-List.drop_drop];exact hq))) hp]
   rw[List.drop_drop,hy,show a+(c-a+y.length)=c+y.length by omega,<-xn3 h0 r (c+y.length) f h4 hn]
   obtain⟨p,q,e⟩:=partsFrom_ne x y.length (c+y.length) r
   show(Str.join z (strSub x a c::partsFrom x y.length (c+y.length) r)).cps.toList=_
   rw[e,yz8]
   simp only[Str.cps_append,Array.toList_append,strSub_toList]
theorem replace_rep(x y z:Str)(h0:1<=y.length):(Txt.replace x y z).cps.toList=rep y.cps.toList z.cps.toList 0 x.cps.toList:=by
 obtain⟨f,h1,h2⟩:=occ_tight x y h0
 have hy:(y.length == 0)=false:=by simp;omega
 have key:=xn3 (z:=z) h0 _ 0 f h1 h2
 rw[List.drop_zero] at key
 unfold Txt.replace
 rw[hy,Bool.false_and,Bool.or_false]
 cases ho:occurrences x y 0 x.length (x.length+1) with
 | nil =>
   rw[if_pos (by simp),<-key,ho]
   show _=(strSub x 0 x.length).cps.toList
   rw[sub_whole]
 | cons c r =>
   rw[if_neg (by simp),glued_eq_join,partsBetween_eq,<-ho,key]
abbrev El:List Nat:=[38,108,59]
abbrev Ea:List Nat:=[38,97,59]
def told:Nat->List Nat->List Nat
 | _,[]=>[]
 | k+1,_::l=>told k l
 | 0,c::l=>if El.isPrefixOf (c::l)=true then 60::told 2 l else if Ea.isPrefixOf (c::l)=true then 38::told 2 l else c::told 0 l
theorem wt7:∀ (k:Nat) (l:List Nat),told k l=told 0 (l.drop k)
 | 0,l=>by simp
 | k+1,[]=>by simp[told]
 | k+1,_::l=>by rw[told,wt7 k l];simp
theorem zs6{l:List Nat}:told 0 (38::108::59::l)=60::told 0 l:=by
 rw[told,if_pos (by simp[List.isPrefixOf]),wt7];rfl
theorem zs7{l:List Nat}:told 0 (38::97::59::l)=38::told 0 l:=by
 rw[told,if_neg (by simp[List.isPrefixOf]),if_pos (by simp[List.isPrefixOf]),wt7];rfl
theorem told_n{c:Nat}{l:List Nat}(h1:¬El <+: c::l)(h2:¬Ea <+: c::l):told 0 (c::l)=c::told 0 l:=by
 rw[told,if_neg (by rw[List.isPrefixOf_iff_prefix];exact h1),if_neg (by rw[List.isPrefixOf_iff_prefix];exact h2)]
theorem yr9{a b c:Nat}{l:List Nat}:[a,b,c] <+: l↔∃ r,l=a::b::c::r:=by
 constructor
 ·rintro⟨r,e⟩;exact⟨r,e.symm⟩
 ·rintro⟨r,rfl⟩;exact⟨r,rfl⟩
theorem ne_pre{a b c d:Nat}{l:List Nat}(h:d≠a):¬[a,b,c] <+: d::l:=by
 rw[yr9];rintro⟨r,e⟩;injection e with e _;exact h e
theorem xy4{c:Nat}{l r:List Nat}(hc:c≠60)(h:rep El [60] 0 l=c::r):∃ l',l=c::l'/\r=rep El [60] 0 l':=by
 cases l with
 | nil=>cases h
 | cons d l =>
   by_cases hp:El <+: d::l
   ·rw[rep_yes (by simp) hp] at h
    injection h with e _
    exact absurd e.symm hc
   ·rw[rep_no hp] at h
    injection h with e1 e2
    subst e1
    exact⟨l,rfl,e2.symm⟩
theorem two_reps:∀ (n:Nat) (l:List Nat),l.length<=n->rep Ea [38] 0 (rep El [60] 0 l)=told 0 l
 | _,[],_=>rfl
 | 0,_::_,h=>by simp at h
 | n + 1,c::l,h=>by
   have h:l.length<=n:=by simpa using h
   by_cases h1:El <+: c::l
   ·obtain⟨r,e⟩:=yr9.mp h1
    rw[e] at h1 ⊢
    have hr:r.length<=n:=by
     injection e with _ e
     rw[e] at h
     simp at h;omega
    rw[rep_yes (by simp) h1,zs6]
    show rep Ea [38] 0 (60::rep El [60] 0 r)=_
    rw[rep_no (ne_pre (by decide)),two_reps n r hr]
   ·rw[rep_no h1]
    by_cases h2:Ea <+: c::l
    ·obtain⟨r,e⟩:=yr9.mp h2
     have hr:r.length<=n:=by
      injection e with _ e
      rw[e] at h
      simp at h;omega
     injection e with ec e
     subst ec e
     rw[zs7,rep_no (Y:=El) (Z:=[60]) (c:=97) (l:=59::r) (ne_pre (by decide)),rep_no (Y:=El) (Z:=[60]) (c:=59) (l:=r) (ne_pre (by decide)),rep_yes (Y:=Ea) (Z:=[38]) (by simp) (yr9.mpr ⟨_,rfl⟩)]
     show 38::rep Ea [38] 0 (rep El [60] 0 r)=_
     rw[two_reps n r hr]
    ·rw[told_n h1 h2,rep_no fun hp=>?_,two_reps n l h]
     obtain⟨r,e⟩:=yr9.mp hp
     injection e with ec e
     obtain⟨l',rfl,e2⟩:=xy4 (by decide) e
     obtain⟨l'',rfl,e3⟩:=xy4 (by decide) e2.symm
     subst ec
     exact h2 (yr9.mpr ⟨l'',rfl⟩)
end TX
namespace TX
open PySem
def letter(c:Nat):Bool:=decide (97<=c) && decide (c<=122)
def nm(d:List Nat):Option Nat:=if 1<=(d.takeWhile letter).length/\(d.takeWhile letter).length<=8/\d[(d.takeWhile letter).length]?=some 62 then some (d.takeWhile letter).length else none
def nst(l:List Nat)(k:Nat):Nat:=if l[k+1]?=some 47 then k+2 else k+1
def tagAt(l:List Nat)(k:Nat):Option (Nat×Nat):=if l[k]?=some 60 then(nm (l.drop (nst l k))).map fun n=>(nst l k,nst l k+n+1) else none
theorem nst_gt(l:List Nat)(k:Nat):k<nst l k:=by unfold nst;split <;> omega
theorem yz9{p:Nat->Bool}:∀ (d:List Nat) (n:Nat),(∀ i,i<n->∃ c,d[i]?=some c/\p c=true)->(∀ c,d[n]?=some c->p c=false)->(d.takeWhile p).length=n
 | [],0,_,_=>rfl
 | [],n+1,h,_=>by obtain⟨c,e,_⟩:=h 0 (by omega);simp at e
 | c::d,0,_,h=>by rw[List.takeWhile_cons,h c rfl];rfl
 | c::d,n+1,h,h2=>by
   obtain⟨c',e,hc⟩:=h 0 (by omega)
   have:c=c':=by simpa using e
   subst this
   rw[List.takeWhile_cons,hc]
   simp only[if_true,List.length_cons]
   rw[yz9 d n (fun i hi=>by have:=h (i+1) (by omega);simpa using this) (fun c e=>h2 c (by simpa using e))]
theorem za0{p:Nat->Bool}:∀ (d:List Nat) (i:Nat),i<(d.takeWhile p).length->∃ c,d[i]?=some c/\p c=true
 | [],i,h=>by simp at h
 | c::d,0,h=>by
   rw[List.takeWhile_cons] at h
   cases hc:p c with
   | true=>exact⟨c,rfl,hc⟩
   | false=>rw[hc] at h;simp at h
 | c::d,i+1,h=>by
   rw[List.takeWhile_cons] at h
   cases hc:p c with
   | true=>rw[hc] at h;simp at h;obtain⟨c',e,h'⟩:=za0 d i h;exact⟨c',by simpa using e,h'⟩
   | false=>rw[hc] at h;simp at h
theorem yg0:letter 62=false:=by decide
theorem nm_iff{d:List Nat}{n:Nat}:nm d=some n↔1<=n/\n<=8/\(∀ i,i<n->∃ c,d[i]?=some c/\letter c=true)/\d[n]?=some 62:=by
 constructor
 ·intro h
  unfold nm at h
  split at h
  ·rename_i hc
   have e:(d.takeWhile letter).length=n:=by simpa using h
   rw[e] at hc
   exact⟨hc.1,hc.2.1,fun i hi=>za0 d i (by rw[e];exact hi),hc.2.2⟩
  ·cases h
 ·rintro⟨h1,h2,h3,h4⟩
  have e:(d.takeWhile letter).length=n:=yz9 d n h3 fun c e=>by rw[h4] at e;cases e;exact yg0
  unfold nm
  rw[e,if_pos ⟨h1,h2,h4⟩]
theorem tagAt_gt{l:List Nat}{k f e:Nat}(h:tagAt l k=some (f,e)):k<e/\e<=l.length/\f=nst l k/\f<e-1/\l[k]?=some 60/\nm (l.drop f)=some (e-1-f):=by
 unfold tagAt at h
 split at h
 ·rename_i h60
  obtain⟨n,hn,e1⟩:=Option.map_eq_some_iff.mp h
  injection e1 with ef ee
  subst ef ee
  obtain⟨h1,h2,h3,h4⟩:=nm_iff.mp hn
  have:=nst_gt l k
  rw[List.getElem?_drop] at h4
  have:=(List.getElem?_eq_some_iff.mp h4).1
  exact⟨by omega,by omega,rfl,by omega,h60,by rw[hn];congr 1;omega⟩
 ·cases h
def ofL(xs:List Nat):Str:=⟨xs.toArray⟩
def runD(l:List Nat)(a b:Nat):PyData:=.tuple [.str "run",.int a,.int b,.str (ofL (told 0 ((l.drop a).take (b-a))))]
def tagD(l:List Nat)(k f e:Nat):PyData:=.tuple [.str (if f=k+1 then "open" else "close"),.int k,.int e,.str (ofL ((l.drop f).take (e-1-f)))]
def runs(l:List Nat)(a b:Nat):List PyData:=if a<b then[runD l a b] else[]
def cutAt(l:List Nat):Nat->Nat->Nat->List PyData
 | 0,_,s=>runs l s l.length
 | n+1,k,s=>if l.length<=k then runs l s l.length else match tagAt l k with
   | none=>cutAt l n (k+1) s
   | some (f,e)=>runs l s k++tagD l k f e::cutAt l n e e
def toks(l:List Nat)(k s:Nat):List PyData:=cutAt l (l.length-k) k s
theorem qz2(l:List Nat):∀ (n m k s:Nat),l.length-k<=n->n<=m->cutAt l m k s=cutAt l n k s
 | 0,0,_,_,_,_=>rfl
 | 0,m+1,k,s,h,_=>by show(if l.length<=k then _ else _)=runs l s l.length;rw[if_pos (by omega)]
 | n+1,0,_,_,_,h=>by omega
 | n+1,m+1,k,s,h,hm=>by
   rw[cutAt,cutAt]
   split
   ·rfl
   ·cases ht:tagAt l k with
    | none=>exact qz2 l n m (k+1) s (by omega) (by omega)
    | some fe =>
      obtain⟨f,e⟩:=fe
      have:=(tagAt_gt ht).1
      show _++_::cutAt l m e e=_++_::cutAt l n e e
      rw[qz2 l n m e e (by omega) (by omega)]
theorem toks_end{l:List Nat}{k s:Nat}(h:l.length<=k):toks l k s=runs l s l.length:=by
 unfold toks
 rw[show l.length-k=0 by omega];rfl
theorem toks_none{l:List Nat}{k s:Nat}(h:k<l.length)(ht:tagAt l k=none):toks l k s=toks l (k+1) s:=by
 unfold toks
 obtain⟨n,hn⟩:∃ n,l.length-k=n+1:=⟨l.length-k-1,by omega⟩
 rw[hn,cutAt,if_neg (by omega),ht]
 exact(qz2 l _ _ _ _ (by omega) (by omega))
theorem toks_some{l:List Nat}{k s f e:Nat}(ht:tagAt l k=some (f,e)):toks l k s=runs l s k++tagD l k f e::toks l e e:=by
 obtain⟨h1,h2,_⟩:=tagAt_gt ht
 unfold toks
 obtain⟨n,hn⟩:∃ n,l.length-k=n+1:=⟨l.length-k-1,by omega⟩
 rw[hn,cutAt,if_neg (by omega),ht]
 show _++_::cutAt l n e e=_
 rw[qz2 l (l.length-e) n e e (by omega) (by omega)]
theorem toks_skip{l:List Nat}{s:Nat}:∀ (d k:Nat),k+d<=l.length->(∀ j,k<=j->j<k+d->l[j]?≠some 60)->toks l k s=toks l (k+d) s
 | 0,k,_,_=>rfl
 | d+1,k,h,hn=>by
   rw[toks_none (by omega) (by unfold tagAt;rw[if_neg (hn k (Nat.le_refl _) (by omega))]),toks_skip d (k+1) (by omega) fun j h1 h2=>hn j (by omega) (by omega)]
   congr 1;omega
end TX
theorem A7.refl(H:Hp):A7 H H:=fun _ _ e=>e
theorem W6(x y:Str):x=y↔x.cps.toList=y.cps.toList:=⟨fun e=>by rw[e],fun e=>PySem.Str.ext' (Array.toList_inj.mp e)⟩
variable{z:Str}
theorem qz3{a b:Int}{i:Nat}(ha:a=(i:Int))(hb:b=(j:Int)):(qf6 z (some a) (some b)).cps.toList=(z.cps.toList.drop i).take (j-i):=by
 subst ha hb
 unfold qf6
 rw[HT.qy5,HT.qy5]
 show(z.cps.toList.drop (min i z.cps.toList.length)).take _=_
 by_cases hi:i<=z.cps.toList.length
 ·rw[Nat.min_eq_left hi]
  by_cases hj:j<=z.cps.toList.length
  ·rw[Nat.min_eq_left hj]
  ·rw[Nat.min_eq_right (by omega),List.take_of_length_le (by rw[List.length_drop];exact Nat.le_refl _),List.take_of_length_le (by rw[List.length_drop];omega)]
 ·rw[Nat.min_eq_right (Nat.le_of_lt (Nat.lt_of_not_le hi)),List.drop_eq_nil_of_le (Nat.le_refl _),List.drop_eq_nil_of_le (Nat.le_of_lt (Nat.lt_of_not_le hi))]
  simp
theorem xa0(Y Z:List Nat):∀ (k:Nat) (l:List Nat),(TX.rep Y Z k l).length<=l.length*(Z.length+1)
 | _,[]=>by simp[TX.rep]
 | k+1,_::l=>by
   rw[TX.rep,List.length_cons,Nat.succ_mul]
   exact Nat.le_trans (xa0 Y Z k l) (Nat.le_add_right _ _)
 | 0,c::l=>by
   have h1:=xa0 Y Z (Y.length-1) l
   have h2:=xa0 Y Z 0 l
   rw[TX.rep,List.length_cons,Nat.succ_mul]
   split
   ·rw[List.length_append];omega
   ·rw[List.length_cons];omega
theorem xy5(x y z:Str)(h0:1<=y.length):(PySem.Txt.replace x y z).length<=x.length*(z.length+1):=by
 have e:=TX.replace_rep x y z h0
 have h:=xa0 y.cps.toList z.cps.toList 0 x.cps.toList
 rw[<-e,Array.length_toList,Array.length_toList,Array.length_toList] at h
 exact h
def xy6(l:List Nat)(i:Nat):Bool:=decide (l[i]?=some 60) || (decide (l[i]?=some 38) && (!decide ((l.drop (i+1)).take 2=[108,59]) && !decide ((l.drop (i+1)).take 2=[97,59])))
def qe9(l:List Nat)(i:Nat):List Nat:=(List.range i).filter (xy6 l)
theorem yg1(l:List Nat)(i:Nat):qe9 l (i+1)=if xy6 l i=true then qe9 l i++[i] else qe9 l i:=by
 unfold qe9
 rw[List.range_succ,List.filter_append]
 by_cases h:xy6 l i=true
 ·rw[if_pos h];simp[h]
 ·rw[if_neg h];simp[h]
theorem wt8(l:List Nat)(i:Nat):(qe9 l i).length<=i:=by
 unfold qe9
 exact Nat.le_trans (List.length_filter_le _ _) (Nat.le_of_eq (List.length_range))
variable{l:List Nat}
theorem wt9{i:Nat}(h:l[i]?=some c):l.drop i=c::l.drop (i+1):=by
 obtain⟨hi,e⟩:=List.getElem?_eq_some_iff.mp h
 rw[List.drop_eq_getElem_cons hi,e]
theorem zi4{i:Nat}{a b:Int}(h:z.cps.toList[i]?=some c)(ha:a=(i:Int))(hb:b=((i+3:Nat):Int)) :
 (decide ((⟨#[c]⟩:Str)∈(["<","&"]:List Str)) && !decide (qf6 z (some a) (some b)∈(["&l;","&a;"]:List Str)))=xy6 z.cps.toList i:=by
 have e:=qz3 (z:=z) ha hb
 rw[show i+3-i=3 by omega,wt9 h,List.take_succ_cons] at e
 have e1:(⟨#[c]⟩:Str) = "<"↔c=60:=by
  rw[W6];show[c]=[60]↔_;simp
 have e2:(⟨#[c]⟩:Str) = "&"↔c=38:=by
  rw[W6];show[c]=[38]↔_;simp
 have e3:qf6 z (some a) (some b) = "&l;"↔c=38/\(z.cps.toList.drop (i+1)).take 2=[108,59]:=by
  rw[W6,e];show c::_=[38,108,59]↔_;simp
 have e4:qf6 z (some a) (some b) = "&a;"↔c=38/\(z.cps.toList.drop (i+1)).take 2=[97,59]:=by
  rw[W6,e];show c::_=[38,97,59]↔_;simp
 unfold xy6
 rw[h]
 simp only[List.mem_cons,List.not_mem_nil,or_false,e1,e2,e3,e4,Option.some.injEq]
 by_cases h1:c=60
 ·subst h1;simp
 ·by_cases h2:c=38
  ·subst h2;simp
  ·simp[h1,h2]
def qz4(K:Fg):Sp:=fun vs H Q _=>∃ z:Str,vs=[.str z]/\z.length<=100000/\∀ w:Str,w.cps.toList=TX.told 0 z.cps.toList->Q (.str w) H
def wh3(K:Fg):TS :=
 (M3 (xm2 (xm2 (A2 0) ("&l;":Str) ("<":Str)) ("&a;":Str) ("&":Str)))
theorem yg2(h:qz4 K vs H Q E):wh3 K {nx:=fun _ H'=>Q .non H',rt:=Q} (D6 ["run"] vs) H:=by
 obtain⟨z,rfl,hz,q⟩:=h
 show wh3 K _ [some (.str z)] H
 unfold wh3
 lk
 refine⟨z,rfl,by omega,?_⟩
 have l1:=xy5 z "&l;" "<" (by decide)
 rw[show("<":Str).length=1 from rfl] at l1
 refine⟨_,rfl,by omega,?_⟩
 refine q _ ?_
 rw[TX.replace_rep _ _ _ (by decide),TX.replace_rep _ _ _ (by decide)]
 exact TX.two_reps _ _ (Nat.le_refl _)
def qo3(K:Fg):Sp:=fun vs H Q _=>∃ z:Str,vs=[.str z]/\z.length<=100000/\∀ (p:Addr) (H':Hp),A7 H H'->H p=none->H' p=some (.lst (xx5 (qe9 z.cps.toList z.cps.toList.length)))->Q (.ref p) H'
def qs3(K:Fg)(c_TOLD_FOR:Addr)(c_ESCAPED:Addr):TS :=
 (M3 (wa9 [some 0,none,none] (ye2 (A1 (A2 0) A9)) (yo5 K 2 (wa8 (B2 1) (wa8 (B2 2) yo4))) (wn0 (E4 (tOp (xc4 K false) (A2 2) (tC (.ref c_ESCAPED)))) (E4 (tOp (xc4 K true) (tSl (wo3 K) (A2 0) (X8 (A2 1)) (X8 (tOp (E6 K) (A2 1) (tC (.int 3))))) (tC (.ref c_TOLD_FOR))))) (A2 1)))
variable{c_ESCAPED:Addr}
theorem xq7{c_TOLD_FOR:Addr}(q_TOLD_FOR:∀ H:Hp,SqT K H c_TOLD_FOR [.str "&l;",.str "&a;"])(q_ESCAPED:∀ H:Hp,SqT K H c_ESCAPED [.str "<",.str "&"])(h:qo3 K vs H Q E):qs3 K c_TOLD_FOR c_ESCAPED {nx:=fun _ H'=>Q .non H',rt:=Q} (D6 ["run"] vs) H:=by
 obtain⟨z,rfl,hz,q⟩:=h
 show qs3 K _ _ _ [some (.str z)] H
 unfold qs3
 lk
 have hl:z.cps.toList.length=z.cps.size:=Array.length_toList
 have hz':z.cps.size<=100000:=hz
 refine ye3 (fun i ys H'=>A7 H H'/\ys=xx5 (qe9 z.cps.toList i)) ⟨A7.refl H,rfl⟩ ?_ ?_ ?_
 ·rintro i ys H' hi ⟨_,rfl⟩
  have:=wt8 z.cps.toList i
  rw[xx5,List.length_map]
  exact D4 (by omega)
 ·rintro i c p ys H' hc hp ⟨hs,rfl⟩
  refine⟨p,_,rfl,SqT.of A5,rfl,_,_,rfl,M4 ⟨_,_,rfl,M4 ⟨rfl,?_⟩⟩⟩
  have hs2:A7 H (upd H' p (.tup [.int i,.str ⟨#[c]⟩])):=A7.tr hs (A7.new hp _)
  lk
  refine .inl (xv7 (xs:=B6 ["<","&"]) (.inr (q_ESCAPED _)) rfl (qe8 _) ?_)
  rw[qf7]
  lk
  have key:=zi4 hc (a:=(i:Int)) (b:=(i:Int)+3) rfl (by omega)
  simp only[PAt]
  rw[yg1]
  by_cases h1:(⟨#[c]⟩:Str)∈(["<","&"]:List Str)
  ·rw[decide_eq_true h1];refine X9 ?_
   rw[decide_eq_true h1,Bool.true_and] at key
   lk
   refine xm3 (D4 hz) ?_
   lk
   refine .inl (yk2 (xs:=B6 ["&l;","&a;"]) (.inr (q_TOLD_FOR _)) rfl (qe8 _) ?_)
   rw[qf7,key]
   lk
   by_cases h2:xy6 z.cps.toList i=true
   ·rw[h2];refine X9 ?_
    rw[if_pos rfl]
    lk
    exact⟨hs2,by simp[xx5]⟩
   ·rw[Bool.eq_false_iff.mpr h2];refine R0 ?_
    rw[if_neg Bool.false_ne_true]
    exact⟨hs2,rfl⟩
  ·rw[decide_eq_false h1];refine R0 ?_
   rw[decide_eq_false h1,Bool.false_and] at key
   rw[<-key]
   k_go
   rw[if_neg Bool.false_ne_true]
   exact⟨hs2,rfl⟩
 ·rintro ys H' ⟨hs,rfl⟩ p hp
  refine q p _ (A7.tr hs (A7.new hp _)) ?_ ?_
  ·cases e:H p with
   | none=>rfl
   | some u=>rw[hs _ _ e] at hp;cases hp
  ·rw[hl];exact A5
section
open PySem.StrLaws PySem.Builtin.Str
theorem xa1{n:Nat}(h:i=(k:Int)):fromIndex n i=k:=by
 subst h;unfold fromIndex
 rw[if_neg (by omega)];omega
theorem yg3(x:Str)(c hi i:Nat)(hh:hi<=x.length):At x ⟨#[c]⟩ hi i↔i<hi/\x.cps.toList[i]?=some c:=by
 have h:=subAt_one x c i
 have e:(⟨#[c]⟩:Str).length=1:=rfl
 unfold At
 rw[e] at h ⊢
 constructor
 ·rintro⟨a,b⟩;exact⟨by omega,h.mp ⟨by omega,b⟩⟩
 ·rintro⟨a,b⟩;exact⟨by omega,(h.mpr b).2⟩
theorem zi5{lo n a:Nat}{pre post:List Nat}(e:List.range' lo n=pre++a::post):lo<=a/\a<lo+n/\∀ k,lo<=k->k<a->k∈pre:=by
 have h:=range'_split_from e
 have:a∈List.range' lo n:=by rw[e];simp
 have:=List.mem_range'_1.mp this
 exact⟨h.1,this.2,h.2⟩
theorem za1(x:Str)(c lo hi:Nat)(hh:hi<=x.length) :
 (occurrences x ⟨#[c]⟩ lo hi 1=[]/\∀ i,lo<=i->i<hi->x.cps.toList[i]?≠some c) \/
 ∃ i r,occurrences x ⟨#[c]⟩ lo hi 1=i::r/\lo<=i/\i<hi/\x.cps.toList[i]?=some c/\∀ k,lo<=k->k<i->x.cps.toList[k]?≠some c:=by
 have go:=occ_first x ⟨#[c]⟩ hi 1 (Nat.le_refl 1) (List.range' lo (hi+1-lo)) lo (fun i hi'=>(List.mem_range'_1.mp hi').1)
 rw[occ_eq]
 rcases go with⟨e,hn⟩|⟨pre,a,post,e,h0,ha,hn⟩
 ·refine .inl ⟨by rw[e],fun i h1 h2 hc=>?_⟩
  exact hn i (List.mem_range'_1.mpr ⟨h1,by omega⟩) ((yg3 x c hi i hh).mpr ⟨h2,hc⟩)
 ·obtain⟨s1,s2,s3⟩:=zi5 e
  obtain⟨a1,a2⟩:=(yg3 x c hi a hh).mp ha
  generalize (forIn (List.range' lo (hi+1-lo)) ((#[]:Array Nat),lo) (occBody x ⟨#[c]⟩ hi 1)).run.fst=arr at h0 ⊢
  have g0:arr.toList[0]?=some a:=by rw[<-h0];simp
  refine .inr ⟨a,arr.toList.tail,?_,s1,a1,a2,fun k k1 k2 hc=>hn k (s3 k k1 k2) ((yg3 x c hi k hh).mpr ⟨by omega,hc⟩)⟩
  cases hL:arr.toList with
  | nil=>rw[hL] at g0;cases g0
  | cons b t=>rw[hL] at g0;simp at g0;rw[g0];rfl
theorem za2{j:Int}{f g:Nat}(hi:i=(f:Int))(hj:j=(g:Int)) :
 (xm4 z ⟨#[c]⟩ i j=-1/\∀ k,f<=k->k<g->z.cps.toList[k]?≠some c) \/
 ∃ k:Nat,xm4 z ⟨#[c]⟩ i j=(k:Int)/\f<=k/\k<g/\z.cps.toList[k]?=some c/\∀ m,f<=m->m<k->z.cps.toList[m]?≠some c:=by
 have hl:z.cps.toList.length=z.length:=Array.length_toList
 unfold xm4
 rw[xa1 hi,xa1 hj]
 rcases za1 z c f (min g z.length) (Nat.min_le_right _ _) with⟨e,hn⟩|⟨k,r,e,h1,h2,h3,h4⟩
 ·rw[e]
  refine .inl ⟨rfl,fun k k1 k2 hc=>?_⟩
  have:=(List.getElem?_eq_some_iff.mp hc).1
  exact hn k k1 (by omega) hc
 ·rw[e];exact .inr ⟨k,rfl,h1,by omega,h3,h4⟩
theorem za3{f:Nat}(hi:i=(f:Int)) :
 (PySem.Txt.find3 z ⟨#[c]⟩ i=-1/\∀ k,f<=k->z.cps.toList[k]?≠some c) \/
 ∃ k:Nat,PySem.Txt.find3 z ⟨#[c]⟩ i=(k:Int)/\f<=k/\z.cps.toList[k]?=some c/\∀ m,f<=m->m<k->z.cps.toList[m]?≠some c:=by
 have hl:z.cps.toList.length=z.length:=Array.length_toList
 unfold PySem.Txt.find3
 rw[xa1 hi]
 rcases za1 z c f z.length (Nat.le_refl _) with⟨e,hn⟩|⟨k,r,e,h1,h2,h3,h4⟩
 ·rw[e]
  refine .inl ⟨rfl,fun k k1 hc=>?_⟩
  have:=(List.getElem?_eq_some_iff.mp hc).1
  exact hn k k1 (by omega) hc
 ·rw[e];exact .inr ⟨k,rfl,h1,h3,h4⟩
theorem ys0(hi:i=(k:Int))(h:z.cps.toList[k]?=some 60):PySem.Txt.startswith3 z "</" i=decide (z.cps.toList[k+1]?=some 47):=by
 have hl:z.cps.toList.length=z.length:=Array.length_toList
 unfold PySem.Txt.startswith3
 rw[xa1 hi,subAt_eq]
 show(decide (k+2<=z.length) && ((z.cps.toList.drop k).take 2 == [60,47]))=_
 rw[wt9 h]
 have hk:=(List.getElem?_eq_some_iff.mp h).1
 cases h2:z.cps.toList[k+1]? with
 | none =>
   have:z.cps.toList.length<=k+1:=List.getElem?_eq_none_iff.mp h2
   rw[decide_eq_false (by omega)];rfl
 | some c =>
   have:=(List.getElem?_eq_some_iff.mp h2).1
   rw[decide_eq_true (by omega),wt9 h2]
   by_cases e:c=47 <;> simp[e]
def Q5(K:Fg):Sp:=fun vs H Q _=>∃ z:Str,vs=[.str z]/\z.length<=100000/\∀ H',A7 H H'->Q (.bl (decide (1<=z.length) && (decide (z.length<=8) && z.cps.toList.all TX.letter))) H'
def R4(K:Fg):TS :=
 (M3 (xu3 (xb0 yd8 yd8 (tC (.int 1)) (tCB (O6 K) (A1 (A2 0) A9)) (tC (.int 8))) (tCB (yx5 K) (A1 (wa9 [none] (zg8 (A2 0)) (B2 0) tTT (xb0 yd8 yd8 (tC (.str "a")) (A2 0) (tC (.str "z")))) A9))))
theorem qz5(h:Q5 K vs H Q E):R4 K {nx:=fun _ H'=>Q .non H',rt:=Q} (D6 ["word"] vs) H:=by
 obtain⟨z,rfl,hz,q⟩:=h
 show R4 K _ [some (.str z)] H
 unfold R4
 lk
 refine wk6 (D4 hz) ?_
 lk
 by_cases h1:(1:Int)<=z.length
 ·rw [decide_eq_true h1]
  x_go
  rw[decide_eq_true (by omega:1<=z.length),Bool.true_and] at q
  lk
  by_cases h2:(z.length:Int)<=8
  ·rw[decide_eq_true h2]
   x_go
   rw[decide_eq_true (by omega:z.length<=8),Bool.true_and] at q
   lk
   have hl:z.cps.toList.length=z.cps.size:=Array.length_toList
   refine xw2 (fun i ys H'=>H'=H/\ys=((z.cps.toList.take i).map TX.letter).map V.bl) ⟨rfl,rfl⟩ ?_ ?_ ?_
   ·rintro i ys H' hi ⟨_,rfl⟩
    rw[List.length_map,List.length_map,List.length_take]
    exact D4 (by have:z.cps.size<=100000:=hz;omega)
   ·rintro i c ys H' hc ⟨rfl,rfl⟩
    have tk:z.cps.toList.take (i+1)=z.cps.toList.take i++[c]:=by rw[List.take_add_one,hc];rfl
    lk
    refine zl8 ?_
    have e1:(!decide ((⟨#[c]⟩:Str).cps.toList<("a":Str).cps.toList))=decide (97<=c):=by
     show(!decide ([c] < [97]))=_
     rw[lt_cons_cons,lt_nil_nil,Bool.and_false,Bool.or_false]
     by_cases h:97<=c
     ·rw[decide_eq_true h,decide_eq_false (by omega)];rfl
     ·rw[decide_eq_false h,decide_eq_true (by omega)];rfl
    have e2:(!decide (("z":Str).cps.toList<(⟨#[c]⟩:Str).cps.toList))=decide (c<=122):=by
     show(!decide ([122] < [c]))=_
     rw[lt_cons_cons,lt_nil_nil,Bool.and_false,Bool.or_false]
     by_cases h:c<=122
     ·rw[decide_eq_true h,decide_eq_false (by omega)];rfl
     ·rw[decide_eq_false h,decide_eq_true (by omega)];rfl
    rw[e1]
    refine⟨_,rfl,?_⟩
    by_cases hc1:97<=c
    ·rw[decide_eq_true hc1];refine X9 ?_
     lk
     refine zl8 ?_
     rw[e2]
     exact⟨rfl,by rw[tk];simp[TX.letter,hc1]⟩
    ·rw[decide_eq_false hc1];refine R0 ?_
     exact⟨rfl,by rw[tk];simp[TX.letter,hc1]⟩
   ·rintro ys H' ⟨rfl,rfl⟩ p hp
    lk
    refine zy2 (SqL.of A5) ?_
    rw[<-hl,List.take_length]
    have e:(z.cps.toList.map TX.letter).all id=z.cps.toList.all TX.letter:=by rw[List.all_map];rfl
    rw[e]
    exact q _ (A7.new hp _)
  ·rw[decide_eq_false h2]
   k_go
   rw[decide_eq_false (by omega:¬z.length<=8),Bool.false_and] at q
   exact q _ (A7.refl H)
 ·rw[decide_eq_false h1]
  k_go
  refine⟨false,rfl,R0 ?_⟩
  rw[decide_eq_false (by omega:¬1<=z.length),Bool.false_and] at q
  exact q _ (A7.refl H)
def qc9(K:Fg):Sp:=fun vs H Q _=>∃ (z:Str) (k:Nat),vs=[.str z,.int k]/\z.cps.toList[k]?=some 60/\Q (.int (TX.nst z.cps.toList k)) H
def qo4(K:Fg):TS :=
 (M3 (tIf (tB (tBM K "str" yk7 (A2 0) (A1 (tC (.str "</")) (A1 (A2 1) A9)))) (tOp (E6 K) (A2 1) (tC (.int 2))) (tOp (E6 K) (A2 1) (tC (.int 1)))))
theorem xj2(h:qc9 K vs H Q E):qo4 K {nx:=fun _ H'=>Q .non H',rt:=Q} (D6 ["text","start"] vs) H:=by
 obtain⟨z,k,rfl,h60,q⟩:=h
 show qo4 K _ [some (.str z),some (.int k)] H
 unfold qo4
 lk
 refine⟨rfl,?_⟩
 lk
 refine⟨z, "</",k,rfl,rfl,?_⟩
 rw[ys0 rfl h60]
 lk
 unfold TX.nst at q
 by_cases h:z.cps.toList[k+1]?=some 47
 ·rw[decide_eq_true h];refine X9 ?_
  rw[if_pos h] at q
  lk
  exact q
 ·rw[decide_eq_false h];refine R0 ?_
  rw[if_neg h] at q
  lk
  exact q
def qs4(K:Fg):Sp:=fun vs H Q _=>∃ (z:Str) (k:Nat),vs=[.str z,.int k]/\z.length<=100000/\z.cps.toList[k]?=some 60/\(TX.tagAt z.cps.toList k=none->∀ H',A7 H H'->Q .non H') /\
 ∀ (f e:Nat),TX.tagAt z.cps.toList k=some (f,e)->∀ H',A7 H H'->Q (.int e) H'
def qz6(K:Fg):TS :=
 (C1 (E3 (D1 (qc9 K) [] E0 (A1 (A2 0) (A1 (A2 1) A9))) (B2 2))
 (C1 (E3 (tBM K "str" yx3 (A2 0) (A1 (tC (.str ">")) (A1 (A2 2) (A1 (tOp (E6 K) (tOp (E6 K) (A2 2) (tC (.int 8))) (tC (.int 1))) A9)))) (B2 3))
 (C1 (P7 (tOr (E4 (tOp yd7 (A2 3) (tC (.int 0)))) (yo3 (tB (D1 (Q5 K) [] E0 (A1 (tSl (wo3 K) (A2 0) (X8 (A2 2)) (X8 (A2 3))) A9)))))
 (M3 (tC .non)) M7)
 (M3 (tOp (E6 K) (A2 3) (tC (.int 1)))))))
theorem xy8(h:qs4 K vs H Q E):qz6 K {nx:=fun _ H'=>Q .non H',rt:=Q} (D6 ["text","start","first","end"] vs) H:=by
 obtain⟨z,k,rfl,hz,h60,q1,q2⟩:=h
 show qz6 K _ [some (.str z),some (.int k),none,none] H
 unfold qz6
 have hl:z.cps.toList.length=z.length:=Array.length_toList
 lk
 refine⟨z,k,rfl,h60,?_⟩
 lk
 refine⟨rfl,?_⟩
 lk
 refine⟨z, ">",_,_,rfl,rfl,?_⟩
 have tg:TX.tagAt z.cps.toList k=(TX.nm (z.cps.toList.drop (TX.nst z.cps.toList k))).map fun n=>(TX.nst z.cps.toList k,TX.nst z.cps.toList k+n+1):=by unfold TX.tagAt;rw[if_pos h60]
 generalize TX.nst z.cps.toList k=f at *
 have e0:(">":Str)=⟨#[62]⟩:=rfl
 rw[e0]
 rcases za2 (z:=z) (c:=62) (i:=(f:Int)) (j:=(f:Int)+8+1) (f:=f) (g:=f+9) rfl (by omega) with⟨e,hn⟩|⟨r,e,r1,r2,r3,r4⟩
 ·rw[e]
  lk
  refine X9 (X9 ?_)
  lk
  refine q1 ?_ _ (A7.refl H)
  rw[tg]
  cases hm:TX.nm (z.cps.toList.drop f) with
  | none=>rfl
  | some n =>
    obtain⟨n1,n2,n3,n4⟩:=TX.nm_iff.mp hm
    rw[List.getElem?_drop] at n4
    exact absurd n4 (hn (f+n) (by omega) (by omega))
 ·rw [e]
  lk
  rw[decide_eq_false (by omega:¬((r:Nat):Int)<0)];refine R0 ?_
  lk
  refine xm3 (D4 hz) ?_
  have ct:=qz3 (z:=z) (a:=(f:Int)) (b:=(r:Int)) (i:=f) (j:=r) rfl rfl
  generalize qf6 z (some (f:Int)) (some (r:Int))=nmz at *
  have rl:=(List.getElem?_eq_some_iff.mp r3).1
  have ln:nmz.length=r-f:=by
   have h1:=congrArg List.length ct
   rw[Array.length_toList,List.length_take,List.length_drop] at h1
   show nmz.cps.size=_
   omega
  lk
  refine⟨nmz,rfl,by omega,fun H' s'=>?_⟩
  lk
  have get:∀ i,i<r-f->nmz.cps.toList[i]?=(z.cps.toList.drop f)[i]?:=fun i hi=>by rw[ct,List.getElem?_take_of_lt hi]
  by_cases hb:(decide (1<=nmz.length) && (decide (nmz.length<=8) && nmz.cps.toList.all TX.letter))=true
  ·rw[hb,Bool.not_true];refine R0 ?_
   lk
   simp only[Bool.and_eq_true,decide_eq_true_eq,List.all_eq_true] at hb
   have hm:TX.nm (z.cps.toList.drop f)=some (r-f):=TX.nm_iff.mpr ⟨by omega,by omega,fun i hi=>by
    have hi2:i<nmz.cps.toList.length:=by rw[Array.length_toList];show i<nmz.length;omega
    refine⟨nmz.cps.toList[i],by rw[<-get i hi,List.getElem?_eq_getElem hi2],hb.2.2 _ (List.getElem_mem hi2)⟩,by rw[List.getElem?_drop,show f+(r-f)=r by omega];exact r3⟩
   have:=q2 f (r+1) (by rw[tg,hm];show some (f,f+(r-f)+1)=_;rw[show f+(r-f)+1=r+1 by omega]) H' s'
   exact this
  ·rw [Bool.eq_false_iff.mpr hb,Bool.not_false];refine X9 ?_
   lk
   refine q1 ?_ _ s'
   rw[tg]
   cases hm:TX.nm (z.cps.toList.drop f) with
   | none=>rfl
   | some n =>
     exfalso
     apply hb
     obtain⟨n1,n2,n3,n4⟩:=TX.nm_iff.mp hm
     rw[List.getElem?_drop] at n4
     have hr:r=f+n:=by
      rcases Nat.lt_trichotomy r (f+n) with h|h|h
      ·obtain⟨c,hc,hlc⟩:=n3 (r-f) (by omega)
       rw[List.getElem?_drop,show f+(r-f)=r by omega,r3] at hc
       cases hc
       exact absurd hlc (by decide)
      ·exact h
      ·exact absurd n4 (r4 (f+n) (by omega) h)
     simp only[Bool.and_eq_true,decide_eq_true_eq,List.all_eq_true]
     refine⟨by omega,by omega,fun c hc=>?_⟩
     obtain⟨i,hi,e⟩:=List.getElem_of_mem hc
     have hi2:i<r-f:=by rw[Array.length_toList] at hi;have:i<nmz.length:=hi;omega
     obtain⟨c',hc',hl'⟩:=n3 i (by omega)
     rw[<-get i hi2,List.getElem?_eq_getElem hi,e] at hc'
     cases hc'
     exact hl'
def qg3(K:Fg):Sp:=fun vs H Q _=>∃ (z:Str) (k f e:Nat),vs=[.str z,.int k,.int e]/\z.length<=100000/\TX.tagAt z.cps.toList k=some (f,e) /\
 ∀ t,H t=none->Q (.ref t) (upd H t (.tup [.str (if f=k+1 then "open" else "close"),.int k,.int e,.str (TX.ofL ((z.cps.toList.drop f).take (e-1-f)))]))
def qk7(K:Fg):TS :=
 (C1 (E3 (D1 (qc9 K) [] E0 (A1 (A2 0) (A1 (A2 1) A9))) (B2 3))
 (C1 (E3 (tIf (E4 (tOp (Y0 K) (A2 3) (tOp (E6 K) (A2 1) (tC (.int 1))))) (tC (.str "open")) (tC (.str "close"))) (B2 4))
 (M3 (Q3 (A1 (A2 4) (A1 (A2 1) (A1 (A2 2) (A1 (tSl (wo3 K) (A2 0) (X8 (A2 3)) (X8 (tOp (rI0 fun i j=>.int (i-j)) (A2 2) (tC (.int 1))))) A9))))))))
theorem xe4(h:qg3 K vs H Q E):qk7 K {nx:=fun _ H'=>Q .non H',rt:=Q} (D6 ["text","start","stop","first","kind"] vs) H:=by
 obtain⟨z,k,f,e,rfl,hz,ht,q⟩:=h
 show qk7 K _ [some (.str z),some (.int k),some (.int e),none,none] H
 unfold qk7
 obtain⟨g1,g2,g3,g4,g5,g6⟩:=TX.tagAt_gt ht
 lk
 refine⟨z,k,rfl,g5,?_⟩
 rw[<-g3]
 lk
 have ct:=qz3 (z:=z) (a:=(f:Int)) (b:=(e:Int)-1) (i:=f) (j:=e-1) rfl (by omega)
 have ec:qf6 z (some (f:Int)) (some ((e:Int)-1))=TX.ofL ((z.cps.toList.drop f).take (e-1-f)):=(W6 _ _).mpr ct
 by_cases hf:f=k+1
 ·rw[if_pos hf] at q
  rw[decide_eq_true (by omega:(f:Int)=(k:Int)+1)];refine X9 ?_
  lk
  refine xm3 (D4 hz) ?_
  rw[ec]
  lk
  exact⟨D4 (by z_go),q⟩
 ·rw[if_neg hf] at q
  rw[decide_eq_false (by omega:¬(f:Int)=(k:Int)+1)];refine R0 ?_
  lk
  refine xm3 (D4 hz) ?_
  rw[ec]
  lk
  exact⟨D4 (by z_go),q⟩
def S2(K:Fg):Sp:=fun vs H Q _=>∃ (z:Str) (a e:Nat),vs=[.str z,.int a,.int e]/\a<=e/\e<=z.length/\z.length<=100000/\(a=e->∀ p,H p=none->Q (.ref p) (upd H p (.lst []))) /\
 (a<e->∀ (w:Str) (t p:Addr) (H':Hp),w.cps.toList=TX.told 0 ((z.cps.toList.drop a).take (e-a))->A7 H H'->H p=none->H' p=some (.lst [.ref t])->H' t=some (.tup [.str "run",.int a,.int e,.str w])->Q (.ref p) H')
def qg4(K:Fg):TS :=
 (C1 (P7 (E4 (tOp (Y0 K) (A2 1) (A2 2)))
 (M3 (X6 A9)) M7)
 (M3 (X6 (A1 (Q3 (A1 (tC (.str "run")) (A1 (A2 1) (A1 (A2 2) (A1 (D1 (qz4 K) [] E0 (A1 (tSl (wo3 K) (A2 0) (X8 (A2 1)) (X8 (A2 2))) A9)) A9))))) A9))))
theorem wy9(h:S2 K vs H Q E):qg4 K {nx:=fun _ H'=>Q .non H',rt:=Q} (D6 ["text","start","stop"] vs) H:=by
 obtain⟨z,a,e,rfl,hae,hez,hz,q1,q2⟩:=h
 show qg4 K _ [some (.str z),some (.int a),some (.int e)] H
 unfold qg4
 lk
 by_cases h:a=e
 ·rw[decide_eq_true (by rw[h])];refine X9 ?_
  lk
  exact⟨D4 (by z_go),q1 h⟩
 ·rw[decide_eq_false (by intro h';exact h (by omega))];refine R0 ?_
  lk
  refine xm3 (D4 hz) ?_
  lk
  have ct:=qz3 (z:=z) (a:=(a:Int)) (b:=(e:Int)) (i:=a) (j:=e) rfl rfl
  have hl:z.cps.toList.length=z.length:=Array.length_toList
  refine⟨_,rfl,?_,fun w hw=>?_⟩
  ·have h1:=congrArg List.length ct
   rw[Array.length_toList,List.length_take,List.length_drop] at h1
   show(qf6 z (some (a:Int)) (some (e:Int))).cps.size<=_
   omega
  ·rw[ct] at hw
   lk
   refine⟨D4 (by z_go),fun t ht=>?_⟩
   lk
   refine⟨D4 (by z_go),fun p hp=>?_⟩
   have hp0:H p=none:=by
    cases e:H p with
    | none=>rfl
    | some u=>rw[A7.new ht _ _ _ e] at hp;cases hp
   have ntp:t≠p:=fun e=>by rw[<-e,A5] at hp;cases hp
   exact q2 (by omega) w t p _ hw (A7.tr (A7.new ht _) (A7.new hp _)) hp0 A5 (by rw[B4 ntp];exact A5)
end
variable{w rule t g kind:Str}{q s P' T' W' M P T W:Nat}{l1 l2 cl:List Brn}{m1 m2:List BA}{b' bb:Brn}{x':BA}{ps:List Addr}{m:Int}{f:List Str->List Str}{st:Rst}{A B:List Str}{bv:V}{kR:Addr}
section
variable{K:Fg}{vs:List V}{H:Hp}{Q:VK}{E:XK}
theorem za4(Pv:St->Hp->Prop)(μ:St->Hp->Nat)(h0:Pv σ H)(i:Nat)(hs:∀ σ H,Pv σ H->∃ k:Int,σ[i]?=some (some (.int k))/\(0<=k->tb {D with nx:=fun σ' H'=>Pv σ' H'/\μ σ' H'<μ σ H,ct:=fun σ' H'=>Pv σ' H'/\μ σ' H'<μ σ H,bk:=D.nx} σ H)/\(¬0<=k->D.nx σ H)) :
 wc9 (E4 (tOp zf6 (A2 i) (tC (.int 0)))) tb D σ H:=by
 refine⟨fun m σ H=>m=μ σ H/\Pv σ H,⟨_,rfl,h0⟩,?_⟩
 rintro m σ H ⟨rfl,p⟩
 obtain⟨k,e,h1,h2⟩:=hs σ H p
 refine⟨_,e,zl7 (xc2 ?_)⟩
 by_cases hk:0<=k
 ·rw[decide_eq_true hk]
  exact⟨_,fun σ' H' ⟨p',l⟩=>⟨_,l,rfl,p'⟩,h1 hk⟩
 ·rw[decide_eq_false hk]
  exact h2 hk
theorem we7:∀ xs ys:List PyData,Q4 (xs++ys)=(Q4 xs && Q4 ys)
 | [],ys=>by simp[Q4]
 | x::xs,ys=>by rw[List.cons_append,Q4,Q4,we7 xs ys,Bool.and_assoc]
theorem yl3(l:List Nat)(a e:Nat):Q4 (TX.runs l a e)=true:=by
 unfold TX.runs;split
 ·simp[Q4,fix,TX.runD]
 ·simp[Q4]
theorem xq9(l:List Nat)(k f e:Nat):fix (TX.tagD l k f e)=true:=by simp[Q4,fix,TX.tagD]
theorem xy9(l:List Nat)(a e:Nat):(TX.runs l a e).length<=1:=by unfold TX.runs;split <;> simp
theorem zs8{t:Addr}{a e:Nat}(hw:w.cps.toList=TX.told 0 ((z.cps.toList.drop a).take (e-a)))(ht:H t=some (.tup [.str "run",.int a,.int e,.str w])):Dv K H (TX.runD z.cps.toList a e) (.ref t):=by
 have ew:w=TX.ofL (TX.told 0 ((z.cps.toList.drop a).take (e-a))):=(W6 _ _).mpr (by rw[hw];rfl)
 rw[<-show TX.runD z.cps.toList a e=_ from rfl]
 unfold TX.runD
 rw[<-ew]
 exact C8.mpr ⟨t,_,rfl,SqT.of ht,B3 (D5.mpr rfl) (B3 (O2.mpr rfl) (B3 (O2.mpr rfl) (B3 (D5.mpr rfl) E2)))⟩
theorem xe5{a e:Nat}(hae:a<=e)(hez:e<=z.length)(hz:z.length<=100000)(q:∀ (p:Addr) (zs:List V) (H1:Hp),A7 H H1->H p=none->H1 p=some (.lst zs)->Dvs K H1 (TX.runs z.cps.toList a e) zs->Q (.ref p) H1):S2 K [.str z,.int a,.int e] H Q E:=by
 refine⟨z,a,e,rfl,hae,hez,hz,fun h p hp=>?_,fun h w t p H' hw hs hp h1 ht=>?_⟩
 ·refine q p [] _ (A7.new hp _) hp A5 ?_
  unfold TX.runs;rw[if_neg (by omega)];exact E2
 ·refine q p [.ref t] H' hs hp h1 ?_
  unfold TX.runs;rw[if_pos h]
  exact B3 (zs8 hw ht) E2
theorem ys1(hq:q<=l.length)(hn:∀ k,q<=k->l[k]?≠some 60):TX.toks l q s=TX.runs l s l.length:=by
 rw[TX.toks_skip (l.length-q) q (by omega) (fun j h1 _=>hn j h1),TX.toks_end (by omega)]
theorem zi6(hqk:q<=k)(hk:l[k]?=some 60)(hn:∀ m,q<=m->m<k->l[m]?≠some 60):TX.toks l q s=TX.toks l k s:=by
 have:=(List.getElem?_eq_some_iff.mp hk).1
 rw[TX.toks_skip (k-q) q (by omega) (fun j h1 h2=>hn j h1 (by omega)),show q+(k-q)=k by omega]
def TX.glue(l:List Nat):Nat->List (Nat×Nat×Nat)->List PyData
 | s,[]=>TX.runs l s l.length
 | s,t::ts=>TX.runs l s t.1++TX.tagD l t.1 t.2.1 t.2.2::TX.glue l t.2.2 ts
def TX.Ch(l:List Nat):Nat->List (Nat×Nat×Nat)->Prop
 | _,[]=>True
 | q,t::ts=>q<=t.1/\t.1<t.2.2/\t.2.2<=l.length/\TX.Ch l t.2.2 ts
def TX.tg(l:List Nat)(t:Nat×Nat×Nat):PyData:=TX.tagD l t.1 t.2.1 t.2.2
theorem xr0{r:Nat}:∀ {ts:List (Nat×Nat×Nat)},q<=r->TX.Ch l r ts->TX.Ch l q ts
 | [],_,_=>trivial
 | t::ts,h,g=>⟨Nat.le_trans h g.1,g.2⟩
theorem yl4{l:List Nat}:∀ ts:List (Nat×Nat×Nat),Q4 (ts.map (TX.tg l))=true
 | []=>rfl
 | t::ts=>by rw[List.map_cons,Q4,yl4 ts];exact Bool.and_eq_true_iff.mpr ⟨xq9 _ _ _ _,rfl⟩
def zz1(z:Str)(q:Nat)(st:Int)(ts:List (Nat×Nat×Nat)):Prop :=
 (st=-1/\TX.Ch z.cps.toList q ts/\∀ s,TX.toks z.cps.toList q s=TX.glue z.cps.toList s ts) \/
 ∃ k:Nat,st=(k:Int)/\ts.length<=k/\z.cps.toList[k]?=some 60/\∀ ts',TX.Ch z.cps.toList k ts'->(∀ s,TX.toks z.cps.toList k s=TX.glue z.cps.toList s ts')->TX.Ch z.cps.toList q (ts++ts')/\∀ s,TX.toks z.cps.toList q s=TX.glue z.cps.toList s (ts++ts')
theorem wu1{r:Nat}{ts:List (Nat×Nat×Nat)}(hi:i=(r:Int))(hr:r<=z.cps.toList.length)(hl:ts.length<=r)(h:∀ ts',TX.Ch z.cps.toList r ts'->(∀ s,TX.toks z.cps.toList r s=TX.glue z.cps.toList s ts')->TX.Ch z.cps.toList q (ts++ts')/\∀ s,TX.toks z.cps.toList q s=TX.glue z.cps.toList s (ts++ts')) :
 zz1 z q (PySem.Txt.find3 z "<" i) ts/\∀ k:Nat,PySem.Txt.find3 z "<" i=(k:Int)->r<=k:=by
 have e0:("<":Str)=⟨#[60]⟩:=rfl
 rw[e0]
 rcases za3 (z:=z) (c:=60) hi with⟨e,hn⟩|⟨k,e,h1,h2,h3⟩
 ·rw[e]
  have g:=h [] trivial fun s=>ys1 hr hn
  rw[List.append_nil] at g
  exact⟨.inl ⟨rfl,g.1,g.2⟩,fun k hk=>by omega⟩
 ·rw[e]
  exact⟨.inr ⟨k,rfl,by omega,h2,fun ts' c g=>h ts' (xr0 h1 c) fun s=>by rw[zi6 h1 h2 h3];exact g s⟩,fun m hm=>by omega⟩
def qo5(K:Fg):Sp:=fun vs H Q _=>∃ (z:Str) (q:Nat),vs=[.str z,.int q]/\q<=z.length/\z.length<=100000/\∀ (p:Addr) (us:List V) (H':Hp) (ts:List (Nat×Nat×Nat)),A7 H H'->H p=none->H' p=some (.lst us)->Dvs K H' (ts.map (TX.tg z.cps.toList)) us->TX.Ch z.cps.toList q ts->(∀ s,TX.toks z.cps.toList q s=TX.glue z.cps.toList s ts)->Q (.ref p) H'
def qs5(K:Fg):TS :=
 (C1 (E3 (X6 A9) (B2 2))
 (C1 (E3 (tBM K "str" xp7 (A2 0) (A1 (tC (.str "<")) (A1 (A2 1) A9))) (B2 3))
 (C1 (wc9 (E4 (tOp zf6 (A2 3) (tC (.int 0))))
 (C1 (E3 (D1 (qs4 K) [] E0 (A1 (A2 0) (A1 (A2 3) A9))) (B2 4))
 (P7 (E4 (tOp xv3 (A2 4) (tC .non)))
 (E3 (tBM K "str" xp7 (A2 0) (A1 (tC (.str "<")) (A1 (tOp (E6 K) (A2 3) (tC (.int 1))) A9))) (B2 3)) (C1 (I9 (tBM K "list" J4 (A2 2) (A1 (D1 (qg3 K) [] E0 (A1 (A2 0) (A1 (A2 3) (A1 (A2 4) A9)))) A9)))
 (E3 (tBM K "str" xp7 (A2 0) (A1 (tC (.str "<")) (A1 (A2 4) A9))) (B2 3))))))
 (M3 (A2 2)))))
theorem xr1(h:qo5 K vs H Q E):qs5 K {nx:=fun _ H'=>Q .non H',rt:=Q} (D6 ["text","searched","tags","start","stop"] vs) H:=by
 obtain⟨z,q0,rfl,hq,hz,q⟩:=h
 show qs5 K _ [some (.str z),some (.int q0),none,none,none] H
 unfold qs5
 have hl:z.cps.toList.length=z.length:=Array.length_toList
 lk
 refine⟨D4 (by z_go),fun d hd=>?_⟩
 lk
 refine⟨rfl,?_⟩
 lk
 refine⟨z, "<",_,rfl,rfl,?_⟩
 lk
 refine za4 (fun σ H'=>∃ (st:Int) (a:Option V) (us:List V) (ts:List (Nat×Nat×Nat)),σ=[some (.str z),some (.int q0),some (.ref d),some (.int st),a]/\A7 H H'/\H' d=some (.lst us)/\Dvs K H' (ts.map (TX.tg z.cps.toList)) us/\zz1 z q0 st ts)
  (fun σ _=>match σ with | [_,_,_,some (.int st),_]=>(if st<0 then 0 else z.length+1-st.toNat)|_=>0) ?_ 3 ?_
 ·exact⟨_,none,[],[],rfl,A7.new hd _,A5,E2,(wu1 rfl (by omega) (Nat.zero_le _) fun ts' c g=>⟨c,g⟩).1⟩
 rintro σ H1 ⟨st,a,us,ts,rfl,s1,hd1,dv1,at1⟩
 have hul:us.length=ts.length:=by rw[dv1.length,List.length_map]
 refine⟨st,rfl,fun h0=>?_,fun h0=>?_⟩
 ·rcases at1 with⟨e,_⟩|⟨k,rfl,htk,h60,hts⟩
  ·omega
  have hkl:=(List.getElem?_eq_some_iff.mp h60).1
  lk
  refine⟨z,k,rfl,hz,h60,fun ht H2 s2=>?_,fun f e ht H2 s2=>?_⟩
  ·lk
   x_go
   lk
   refine⟨rfl,?_⟩
   lk
   refine⟨z, "<",_,rfl,rfl,?_⟩
   obtain⟨fa,fb⟩:=wu1 (z:=z) (q:=q0) (r:=k+1) (i:=(k:Int)+1) (ts:=ts) (by omega) (by omega) (by omega) fun ts' c g=>hts ts' (xr0 (by omega) c) fun s=>by rw[TX.toks_none (by omega) ht];exact g s
   lk
   refine⟨⟨_,_,us,ts,rfl,A7.tr s1 s2,s2 _ _ hd1,Dvs.same s2 _ _ dv1,fa⟩,?_⟩
   show(if PySem.Txt.find3 z "<" ((k:Int)+1)<0 then 0 else z.length+1-(PySem.Txt.find3 z "<" ((k:Int)+1)).toNat)<(if(k:Int)<0 then 0 else z.length+1-((k:Int)).toNat)
   rw[if_neg (by omega:¬(k:Int)<0)]
   rcases fa with⟨e,_⟩|⟨k2,e,_⟩
   ·rw[e,if_pos (by decide)];omega
   ·have:=fb k2 e
    rw[e,if_neg (by omega)];omega
  ·obtain⟨g1,g2,g3,g4,g5,g6⟩:=TX.tagAt_gt ht
   have gk:=TX.nst_gt z.cps.toList k
   lk
   have hn0:decide (V.int (e:Int)=V.non)=false:=by simp
   rw[hn0];refine R0 ?_
   lk
   have hd2:=s2 _ _ hd1
   refine⟨.inl ⟨rfl,_,SqL.of hd2⟩,?_⟩
   lk
   refine⟨z,k,f,e,rfl,hz,ht,fun t ht4=>?_⟩
   have ntd:t≠d:=fun z=>by rw[z,hd2] at ht4;cases ht4
   lk
   refine L0 (by rw[B4 ntd.symm];exact hd2) (by rw[sizeLine_eq];omega) ?_
   have hd5:(upd H2 t (.tup [.str (if f=k+1 then "open" else "close"),.int k,.int e,.str (TX.ofL ((z.cps.toList.drop f).take (e-1-f)))])) d=some (.lst us):=by rw[B4 ntd.symm];exact hd2
   have tk6:=xd2 (ys:=us++[V.ref t]) hd5
   have dvb:=Dvs.tupK tk6 _ _ (yl4 ts) (Dvs.same (A7.new ht4 _) _ _ (Dvs.same s2 _ _ dv1))
   have dvt:Dv K (upd (upd H2 t (.tup [.str (if f=k+1 then "open" else "close"),.int k,.int e,.str (TX.ofL ((z.cps.toList.drop f).take (e-1-f)))])) d (.lst (us++[V.ref t]))) (TX.tg z.cps.toList (k,f,e)) (.ref t) :=
    C8.mpr ⟨t,_,rfl,SqT.of (by rw[B4 ntd];exact A5),B3 (D5.mpr rfl) (B3 (O2.mpr rfl) (B3 (O2.mpr rfl) (B3 (D5.mpr rfl) E2)))⟩
   lk
   refine⟨rfl,?_⟩
   lk
   refine⟨z, "<",_,rfl,rfl,?_⟩
   obtain⟨fa,fb⟩:=wu1 (z:=z) (q:=q0) (r:=e) (i:=(e:Int)) (ts:=ts++[(k,f,e)]) rfl g2 (by rw[List.length_append,List.length_singleton];omega) fun ts' c g=>by
    have:=hts ((k,f,e)::ts') ⟨Nat.le_refl _,g1,g2,c⟩ fun s=>by rw[TX.toks_some ht,g e];rfl
    rw[List.append_assoc];exact this
   lk
   refine⟨⟨_,_,us++[V.ref t],ts++[(k,f,e)],rfl,fun c u eq=>?_,A5,by rw[List.map_append];exact Dvs.append dvb (B3 dvt E2),fa⟩,?_⟩
   ·have nc:c≠d:=fun z=>by rw[z,hd] at eq;cases eq
    rw[B4 nc]
    exact A7.new ht4 _ c u (s2 c u (s1 c u eq))
   ·show(if PySem.Txt.find3 z "<" (e:Int)<0 then 0 else z.length+1-(PySem.Txt.find3 z "<" (e:Int)).toNat)<(if(k:Int)<0 then 0 else z.length+1-((k:Int)).toNat)
    rw[if_neg (by omega:¬(k:Int)<0)]
    rcases fa with⟨e',_⟩|⟨k2,e',_⟩
    ·rw[e',if_pos (by decide)];omega
    ·have:=fb k2 e'
     rw[e',if_neg (by omega)];omega
 ·rcases at1 with⟨e,hc,hts⟩|⟨k,rfl,_⟩
  ·lk
   exact q d us H1 ts s1 hd hd1 dv1 hc hts
  ·omega
def W7(K:Fg):Sp:=fun vs H Q _=>∃ (z:Str) (s q:Nat),vs=[.str z,.int s,.int q]/\s<=q/\q<=z.length/\z.length<=100000/\∀ (p:Addr) (us:List V) (H':Hp) (acc:List PyData) (s':Nat),A7 H H'->H p=none->H' p=some (.lst us)->Dvs K H' acc us->Q4 acc=true->s<=s'->s'<=z.length->acc.length<=s'->acc++TX.runs z.cps.toList s' z.cps.toList.length=TX.toks z.cps.toList q s->(acc=[]/\s'=s\/∃ acc0 k f,acc=acc0++[TX.tagD z.cps.toList k f s'])->Q (.ref p) H'
def Z3(K:Fg):TS :=
 (C1 (E3 (X6 A9) (B2 3))
 (C1 (qy2 (wc3 K (D1 (qo5 K) [] E0 (A1 (A2 0) (A1 (A2 2) A9)))) (B2 4)
 (C1 (I9 (tBM K "list" wz6 (A2 3) (A1 (D1 (S2 K) [] E0 (A1 (A2 0) (A1 (A2 1) (A1 (tOp (L7 K) (A2 4) (tC (.int 1))) A9)))) A9)))
 (C1 (I9 (tBM K "list" J4 (A2 3) (A1 (A2 4) A9)))
 (E3 (tOp (L7 K) (A2 4) (tC (.int 2))) (B2 1)))))
 (M3 (A2 3))))
theorem wp7(h:W7 K vs H Q E):Z3 K {nx:=fun _ H'=>Q .non H',rt:=Q} (D6 ["text","settled","searched","tokens","tag"] vs) H:=by
 obtain⟨z,s0,q0,rfl,hsq,hq,hz,q⟩:=h
 show Z3 K _ [some (.str z),some (.int s0),some (.int q0),none,none] H
 unfold Z3
 have hl:z.cps.toList.length=z.length:=Array.length_toList
 lk
 refine⟨D4 (by z_go),fun d hd=>?_⟩
 lk
 refine⟨z,q0,rfl,hq,hz,fun p1 uts H1 ts s1 hp1 h1 dvt hch hts=>?_⟩
 have hd1:H1 d=some (.lst []):=s1 _ _ A5
 have npd:p1≠d:=fun e=>by rw[e,A5] at hp1;cases hp1
 have sH:A7 H H1:=A7.tr (A7.new hd _) s1
 have utl:uts.length=ts.length:=by rw[dvt.length,List.length_map]
 refine wd7 (xs:=uts) (SqL.of h1) (fun i σ H'=>∃ (s':Nat) (a:Option V) (us:List V) (acc:List PyData),σ=[some (.str z),some (.int s'),some (.int q0),some (.ref d),a]/\But [d] H1 H'/\T4 H1 H'/\H' d=some (.lst us)/\Dvs K H' acc us/\Q4 acc=true/\s0<=s'/\s'<=z.length/\acc.length<=s'/\TX.Ch z.cps.toList s' (ts.drop i)/\acc++TX.glue z.cps.toList s' (ts.drop i)=TX.toks z.cps.toList q0 s0/\(acc=[]/\s'=s0\/∃ acc0 k f,acc=acc0++[TX.tagD z.cps.toList k f s'])) ?_ ?_ ?_ ?_
 ·exact⟨s0,none,[],[],rfl,But.refl _ _,T4.refl _,hd1,E2,rfl,Nat.le_refl _,by omega,Nat.zero_le _,xr0 hsq hch,(hts s0).symm,.inl ⟨rfl,rfl⟩⟩
 ·rintro i σ H' hi ⟨s',a,us,acc,rfl,bt,_⟩
  exact SqL.of (bt _ _ h1 (by simpa using npd))
 ·rintro i x σ H' hx ⟨s',a,us,acc,rfl,bt,tk,hd',dva,fx,g1,g2,g3,g4,g5,g6⟩
  obtain⟨dd,e1,dvx⟩:=Dvs.get' dvt hx
  rw[List.getElem?_map] at e1
  obtain⟨⟨k,f,e⟩,hti,rfl⟩:∃ t,ts[i]?=some t/\TX.tg z.cps.toList t=dd:=by
   cases h:ts[i]? with
   | none=>rw[h] at e1;cases e1
   | some t=>rw[h] at e1;exact⟨t,rfl,by simpa using e1⟩
  have edrop:ts.drop i=(k,f,e)::ts.drop (i+1):=by
   obtain⟨hil,he⟩:=List.getElem?_eq_some_iff.mp hti
   rw[List.drop_eq_getElem_cons hil,he]
  rw[edrop] at g4 g5
  obtain⟨c1,c2,c3,c4⟩:=g4
  have c1:s'<=k:=c1
  have c2:k<e:=c2
  have c3:e<=z.cps.toList.length:=c3
  have dvx2:=dvx
  obtain⟨t,vs4,rfl,qt,dv4⟩:=C8.mp (show Dv K H1 (.tuple [.str (if f=k+1 then "open" else "close"),.int k,.int e,.str (TX.ofL ((z.cps.toList.drop f).take (e-1-f)))]) x from dvx)
  obtain⟨v1,r1,rfl,w1,dv4⟩:=(show ∃ v r,vs4=v::r/\_ from by rw[Dvs] at dv4;exact dv4)
  obtain⟨v2,r2,rfl,w2,dv4⟩:=(show ∃ v r,r1=v::r/\_ from by rw[Dvs] at dv4;exact dv4)
  obtain⟨v3,r3,rfl,w3,dv4⟩:=(show ∃ v r,r2=v::r/\_ from by rw[Dvs] at dv4;exact dv4)
  have w2:=O2.mp w2
  have w3:=O2.mp w3
  subst w2 w3
  lk
  refine⟨.inl ⟨rfl,_,SqL.of hd'⟩,?_⟩
  lk
  refine U7 (tk.sqT qt) (W3 (j:=1) rfl) ?_
  lk
  refine xe5 c1 (by omega) hz fun p zs H3 s3 hp h3 dv3=>?_
  have hd3:=s3 _ _ hd'
  have rl:=xy9 z.cps.toList s' k
  have zl:zs.length=(TX.runs z.cps.toList s' k).length:=dv3.length
  have ul:=dva.length
  lk
  refine⟨d,p,us,zs,rfl,rfl,hd3,h3,D4 (by omega),?_⟩
  have tk4:=xd2 (ys:=us++zs) hd3
  have dvb:Dvs K (upd H3 d (.lst (us++zs))) (acc++TX.runs z.cps.toList s' k) (us++zs):=Dvs.append (Dvs.tupK tk4 _ _ fx (Dvs.same s3 _ _ dva)) (Dvs.tupK tk4 _ _ (yl3 _ _ _) dv3)
  lk
  refine⟨.inl ⟨rfl,_,SqL.of A5⟩,?_⟩
  lk
  refine L0 A5 (by rw[List.length_append,sizeLine_eq];omega) ?_
  have tk5:=xd2 (H:=upd H3 d (.lst (us++zs))) (ys:=us++zs++[V.ref t]) A5
  have fx2:Q4 (acc++TX.runs z.cps.toList s' k)=true:=by rw[we7,fx,yl3];rfl
  have tkA:T4 H1 (upd (upd H3 d (.lst (us++zs))) d (.lst (us++zs++[V.ref t]))):=tk.trans (s3.tupK.trans (tk4.trans tk5))
  lk
  refine U7 (tkA.sqT qt) (W3 (j:=2) rfl) ?_
  lk
  refine⟨e,_,us++zs++[V.ref t],acc++TX.runs z.cps.toList s' k++[TX.tagD z.cps.toList k f e],rfl,?_,tkA,A5,Dvs.append (Dvs.tupK tk5 _ _ fx2 dvb) (B3 (Dv.tupK tkA _ _ (xq9 _ _ _ _) dvx2) E2),by rw[we7,fx2];simp[Q4,xq9],by omega,by omega,?_,c4,by rw[<-g5,TX.glue];simp,.inr ⟨_,_,_,rfl⟩⟩
  ·intro c u eq hc
   have nc:c≠d:=by simpa using hc
   rw[B4 nc,B4 nc]
   exact s3 _ _ (bt c u eq hc)
  ·by_cases hsk:s'<k
   ·simp only[List.length_append,List.length_singleton];omega
   ·have:(TX.runs z.cps.toList s' k).length=0:=by unfold TX.runs;rw[if_neg hsk];rfl
    simp only[List.length_append,List.length_singleton];omega
 ·rintro σ H' ⟨s',a,us,acc,rfl,bt,tk,hd',dva,fx,g1,g2,g3,g4,g5,g6⟩
  lk
  have e0:ts.drop uts.length=[]:=List.drop_eq_nil_of_le (by omega)
  rw[e0] at g5
  refine q d us H' acc s' (fun c u eq=>?_) hd hd' dva fx g1 g2 g3 g5 g6
  have nc:c≠d:=fun z=>by rw[z,hd] at eq;cases eq
  exact bt c u (sH c u eq) (by simpa using nc)
def qo6(K:Fg):Sp:=fun vs H Q _=>∃ z:Str,vs=[.str z]/\z.length<=100000/\∀ (p:Addr) (us:List V) (H':Hp),A7 H H'->H p=none->H' p=some (.lst us)->Dvs K H' (TX.toks z.cps.toList 0 0) us->Q (.ref p) H'
def qs6(K:Fg):TS :=
 (C1 (E3 (D1 (W7 K) [] E0 (A1 (A2 0) (A1 (tC (.int 0)) (A1 (tC (.int 0)) A9)))) (B2 1))
 (C1 (E3 (tIf (E4 (tOp wo1 (tCB (O6 K) (A1 (A2 1) A9)) (tC (.int 0)))) (tOp (L7 K) (tOp (L7 K) (A2 1) (tUn (rU fun i=>.int (-i)) (tC (.int 1)))) (tC (.int 2))) (tC (.int 0))) (B2 2))
 (M3 (tOp (E6 K) (A2 1) (D1 (S2 K) [] E0 (A1 (A2 0) (A1 (A2 2) (A1 (tCB (O6 K) (A1 (A2 0) A9)) A9))))))))
theorem xr2(h:qo6 K vs H Q E):qs6 K {nx:=fun _ H'=>Q .non H',rt:=Q} (D6 ["text","tokens","settled"] vs) H:=by
 obtain⟨z,rfl,hz,q⟩:=h
 show qs6 K _ [some (.str z),none,none] H
 unfold qs6
 have hl:z.cps.toList.length=z.length:=Array.length_toList
 lk
 refine⟨z,0,0,rfl,Nat.le_refl _,Nat.zero_le _,hz,fun p1 us H1 acc s' s1 hp1 h1 dva fx g1 g2 g3 g5 g6=>?_⟩
 have ul:=dva.length
 lk
 refine T5 (.inl (SqL.of h1)) ?_
 lk
 have last:∀ Q':VK,Q' (.int s') H1->(if decide ((0:Int)<us.length)=true then tOp (L7 K) (tOp (L7 K) (A2 1) (tUn (rU fun i=>.int (-i)) (tC (.int 1)))) (tC (.int 2)) [some (.str z),some (.ref p1),none] H1 Q' else tC (.int 0) [some (.str z),some (.ref p1),none] H1 Q'):=by
  intro Q' hQ
  rcases g6 with⟨rfl,rfl⟩|⟨acc0,k,f,rfl⟩
  ·have:us=[]:=List.length_eq_zero_iff.mp (by rw[ul];rfl)
   subst this
   rw[decide_eq_false (by simp)];refine R0 ?_
   lk
   exact hQ
  ·have hlen:0<us.length:=by rw[ul,List.length_append,List.length_singleton];omega
   obtain⟨us0,x,rfl⟩:∃ us0 x,us=us0++[x]:=⟨us.dropLast,us.getLast (List.ne_nil_of_length_pos hlen),(List.dropLast_concat_getLast _).symm⟩
   rw[decide_eq_true (by omega)];refine X9 ?_
   have l0:us0.length=acc0.length:=by
    rw[List.length_append,List.length_append,List.length_singleton,List.length_singleton] at ul;omega
   obtain⟨d',e1,dvx⟩:=Dvs.get' (i:=us0.length) (v:=x) dva (by simp)
   rw[l0] at e1
   have e1:TX.tagD z.cps.toList k f s'=d':=by simpa using e1
   subst e1
   obtain⟨t,vs4,rfl,qt,dv4⟩:=C8.mp (show Dv K H1 (.tuple [.str (if f=k+1 then "open" else "close"),.int k,.int s',.str (TX.ofL ((z.cps.toList.drop f).take (s'-1-f)))]) x from dvx)
   obtain⟨v1,r1,rfl,w1,dv4⟩:=(show ∃ v r,vs4=v::r/\_ from by rw[Dvs] at dv4;exact dv4)
   obtain⟨v2,r2,rfl,w2,dv4⟩:=(show ∃ v r,r1=v::r/\_ from by rw[Dvs] at dv4;exact dv4)
   obtain⟨v3,r3,rfl,w3,dv4⟩:=(show ∃ v r,r2=v::r/\_ from by rw[Dvs] at dv4;exact dv4)
   have w3:=O2.mp w3
   subst w3
   lk
   refine⟨1,rfl,?_⟩
   refine M5 (SqL.of h1) (yu5 _ _) ?_
   lk
   refine U7 qt (W3 (j:=2) rfl) ?_
   exact hQ
 refine last _ ?_
 lk
 refine wk6 (D4 hz) ?_
 lk
 refine xe5 g2 (Nat.le_refl _) hz fun p2 zs H2 s2 hp2 h2 dv2=>?_
 have rl:=xy9 z.cps.toList s' z.length
 have zl:zs.length=(TX.runs z.cps.toList s' z.length).length:=dv2.length
 lk
 refine yw5 (s2 _ _ h1) h2 (by rw[sizeLine_eq];omega) fun p hp=>?_
 have sA:A7 H2 (upd H2 p (.lst (us++zs))):=A7.new hp _
 refine q p (us++zs) _ (A7.tr s1 (A7.tr s2 sA)) (A7.free (A7.tr s1 s2) hp) A5 ?_
 rw[<-g5,hl]
 exact Dvs.same sA _ _ (Dvs.append (Dvs.same s2 _ _ dva) dv2)
def esc:List Nat->List Nat
 | []=>[]
 | c::l=>(if c=60 then TX.El else if c=38 then TX.Ea else[c])++esc l
theorem xa2(y:Nat)(Z:List Nat):∀ l:List Nat,TX.rep [y] Z 0 l=l.flatMap fun c=>if c=y then Z else[c]
 | []=>rfl
 | c::l=>by
   by_cases h:c=y
   ·subst h
    rw[TX.rep_yes (Y:=[c]) (l:=c::l) (by simp) ⟨l,rfl⟩]
    show Z++TX.rep [c] Z 0 l=_
    rw[xa2 c Z l]
    simp
   ·rw[TX.rep_no (by rintro⟨r,e⟩;injection e with e _;exact h e.symm),xa2 y Z l]
    simp[h]
theorem zi7(l:List Nat):TX.rep [60] TX.El 0 (TX.rep [38] TX.Ea 0 l)=esc l:=by
 rw[xa2,xa2]
 induction l with
 | nil=>rfl
 | cons c l ih =>
   rw[List.flatMap_cons,List.flatMap_append,ih,esc]
   congr 1
   by_cases h1:c=38
   ·subst h1;rfl
   ·by_cases h2:c=60
    ·subst h2;rfl
    ·simp[h1,h2]
def ys2(z:Str):Str:=⟨(esc z.cps.toList).toArray⟩
theorem zi8(h:w.cps.toList=esc z.cps.toList):w=ys2 z:=by rw[W6,h];unfold ys2;simp
def opn(n:Str):Str := "<"++n ++ ">"
def cls(n:Str):Str := "</"++n ++ ">"
def qk8(K:Fg):Sp:=fun vs H Q _=>∃ n:Str,vs=[.str n]/\n.length<=4000/\Q (.str (opn n)) H
def qo7(K:Fg):TS :=
 (M3 (tFs ("<":Str) (">":Str) (A2 0)))
theorem xj5(h:qk8 K vs H Q E):qo7 K {nx:=fun _ H'=>Q .non H',rt:=Q} (D6 ["name"] vs) H:=by
 obtain⟨n,rfl,hn,q⟩:=h
 show qo7 K _ [some (.str n)] H
 unfold qo7
 lk
 exact⟨.str n,rfl,n,rfl,by omega,q⟩
def qk9(K:Fg):Sp:=fun vs H Q _=>∃ n:Str,vs=[.str n]/\n.length<=4000/\Q (.str (cls n)) H
def qo8(K:Fg):TS :=
 (M3 (tFs ("</":Str) (">":Str) (A2 0)))
theorem xj6(h:qk9 K vs H Q E):qo8 K {nx:=fun _ H'=>Q .non H',rt:=Q} (D6 ["name"] vs) H:=by
 obtain⟨n,rfl,hn,q⟩:=h
 show qo8 K _ [some (.str n)] H
 unfold qo8
 lk
 exact⟨.str n,rfl,n,rfl,by omega,q⟩
def qz7(K:Fg):Sp:=fun vs H Q _=>∃ z:Str,vs=[.str z]/\z.length<=30000/\Q (.str (ys2 z)) H
def wh4(K:Fg):TS :=
 (M3 (xm2 (xm2 (A2 0) ("&":Str) ("&a;":Str)) ("<":Str) ("&l;":Str)))
theorem yg4(h:qz7 K vs H Q E):wh4 K {nx:=fun _ H'=>Q .non H',rt:=Q} (D6 ["text"] vs) H:=by
 obtain⟨z,rfl,hz,q⟩:=h
 show wh4 K _ [some (.str z)] H
 unfold wh4
 lk
 refine⟨z,rfl,by omega,?_⟩
 have l1:=xy5 z "&" "&a;" (by decide)
 rw[show("&a;":Str).length=3 from rfl] at l1
 refine⟨_,rfl,by omega,?_⟩
 rw[zi8 (z:=z) (w:=PySem.Txt.replace (PySem.Txt.replace z "&" "&a;") "<" "&l;") (by rw[TX.replace_rep _ _ _ (by decide),TX.replace_rep _ _ _ (by decide)];exact zi7 _)]
 exact q
section
variable{kR kB r:Addr}{bv:V}{a:RAd}{st:Rst}{H':Hp}
theorem P9(x:BA)(as:List BA):fpA (x::as)=x.fp++fpA as:=by unfold fpA;rw[List.flatMap_cons]
theorem qj5.split{x:BA}(h:qj5 K H kB (m1++x::m2) (l1++b::l2))(hl:m1.length=l1.length):qj5 K H kB m1 l1/\BrO K H kB x b/\qj5 K H kB m2 l2:=by
 induction m1 generalizing l1 with
 | nil =>
   cases l1 with
   | nil=>cases h with|cons h1 h2=>exact⟨.nil,h1,h2⟩
   | cons=>simp at hl
 | cons y m1 ih =>
   cases l1 with
   | nil=>simp at hl
   | cons c l1 =>
     cases h with
     | cons h1 h2 =>
       obtain⟨h3,h4,h5⟩:=ih h2 (by simpa using hl)
       exact⟨.cons h1 h3,h4,h5⟩
theorem RdO.swap{x:BA}{b:Brn}(h:RdO K H kR kB r bv a st)(ea:a.as=m1++x::m2)(eb:st.bs=l1++b::l2)(hl:m1.length=l1.length)(bt:But x.fp H H')(hB:BrO K H' kB x' b')(hf:∀ z∈x'.fp,z∈x.fp\/H z=none)(hd:x'.fp.Nodup)(ho:x'.o=x.o) :
 RdO K H' kR kB r bv {a with as:=m1++x'::m2} {st with bs:=l1++b'::l2}:=by
 have hb:=h.b
 rw[ea,eb] at hb
 obtain⟨k1,k2,k3⟩:=hb.split hl
 have tk:T4 H H':=wo9 bt fun p hp=>h.mut p (by
  simp only[RAd.fp,List.mem_cons,ea,R3,P9,List.mem_append];exact .inr (.inr (.inr (.inr (.inr (.inl hp))))))
 obtain⟨a1,a2,a3,b1,b2,c1,d1,d2,d3,d4,e1⟩:=h.apart
 obtain⟨us,u1,u2⟩:=h.m
 obtain⟨vs,v1,v2⟩:=h.d
 rw[ea,R3,P9] at d1 d2 d3 d4 e1
 have nf:∀ z,z∉fpA m1++(x.fp++fpA m2)->z∉x.fp:=fun z h1 h2=>h1 (List.mem_append_right _ (List.mem_append_left _ h2))
 rw[List.nodup_append,List.nodup_append] at e1
 obtain⟨e2,⟨e3,e4,e5⟩,e6⟩:=e1
 have f1:∀ z∈fpA m1,z∉x.fp:=fun z hz hx=>e6 z hz z (List.mem_append_left _ hx) rfl
 have f2:∀ z∈fpA m2,z∉x.fp:=fun z hz hx=>e5 z hx z hz rfl
 have old:∀ z∈RAd.fp r a,H z≠none:=h.dom
 have ins:∀ z,z∈r::a.L::a.M::a.A::(fpA m1++(x.fp++fpA m2))->H z≠none:=fun z hz=>old z (by unfold RAd.fp;rw[ea,R3,P9];exact hz)
 have nx:∀ z,z∈r::a.L::a.M::a.A::(fpA m1++(x.fp++fpA m2))->z∉x.fp->z∉x'.fp:=fun z hz h1 h2=>(hf z h2).elim h1 (ins z hz)
 refine⟨h.kr,h.kb,bt _ _ h.o (nf _ d1),?_,(k1.but bt tk f1).app (.cons hB (k3.but bt tk f2)),⟨us,bt _ _ u1 (nf _ d3),Dvs.tupK tk _ _ (P8 Mnd.fix _) u2⟩,⟨vs,bt _ _ v1 (nf _ d4),Dvs.tupK tk _ _ (P8 Lad.fix _) v2⟩,?_⟩
 ·have:=bt _ _ h.l (nf _ d2)
  show H' a.L=_
  rw[this,ea]
  simp[ho]
 ·show(r::a.L::a.M::a.A::fpA (m1++x'::m2)).Nodup
  rw[R3,P9]
  have g:∀ z,z∈r::a.L::a.M::a.A::(fpA m1++(x.fp++fpA m2))->z∉fpA m1++(x.fp++fpA m2)->z∉fpA m1++(x'.fp++fpA m2):=fun z hz h1 h2=>by
   rcases List.mem_append.mp h2 with h3|h3
   ·exact h1 (List.mem_append_left _ h3)
   ·rcases List.mem_append.mp h3 with h4|h4
    ·exact nx z hz (nf z h1) h4
    ·exact h1 (List.mem_append_right _ (List.mem_append_right _ h4))
  simp only[List.nodup_cons,List.mem_cons,not_or]
  refine⟨⟨a1,a2,a3,g _ (by simp) d1⟩,⟨b1,b2,g _ (by simp) d2⟩,⟨c1,g _ (by simp) d3⟩,g _ (by simp) d4,?_⟩
  rw[List.nodup_append,List.nodup_append]
  refine⟨e2,⟨hd,e4,fun p hp q hq e=>?_⟩,fun p hp q hq e=>?_⟩
  ·subst e
   exact nx p (by simp[hq]) (f2 p hq) hp
  ·subst e
   rcases List.mem_append.mp hq with h4|h4
   ·exact nx p (by simp[hp]) (f1 p hp) h4
   ·exact e6 p hp p (List.mem_append_right _ h4) rfl
theorem za5{x:BA}{z:Addr}(ea:a.as=m1++x::m2)(hz:z∈x.fp):z∈RAd.fp r a:=by
 simp only[RAd.fp,List.mem_cons,ea,R3,P9,List.mem_append];exact .inr (.inr (.inr (.inr (.inr (.inl hz)))))
theorem Rup.swap{x:BA}(h:RdO K H kR kB r bv a st)(ea:a.as=m1++x::m2)(eb:st.bs=l1++b::l2)(hl:m1.length=l1.length)(bt:But x.fp H H')(hB:BrO K H' kB x' b')(hf:∀ z∈x'.fp,z∈x.fp\/H z=none)(hd:x'.fp.Nodup)(ho:x'.o=x.o) :
 Rup K kR kB r bv H a H' {a with as:=m1++x'::m2} {st with bs:=l1++b'::l2}:=by
 refine⟨h.swap ea eb hl bt hB hf hd ho,fun c o e n=>bt c o e fun hc=>n (za5 ea hc),fun z hz=>?_⟩
 simp only[RAd.fp,R3,P9,List.mem_cons,List.mem_append] at hz
 rcases hz with h1|h1|h1|h1|h1|h1|h1
 ·exact .inl (by simp[RAd.fp,h1])
 ·exact .inl (by simp[RAd.fp,h1])
 ·exact .inl (by simp[RAd.fp,h1])
 ·exact .inl (by simp[RAd.fp,h1])
 ·exact .inl (by simp[RAd.fp,ea,R3,h1])
 ·exact(hf z h1).imp (fun h=>za5 ea h) id
 ·exact .inl (by simp[RAd.fp,ea,R3,P9,h1])
theorem RdO.pop{x:BA}{b:Brn}(h:RdO K H kR kB r bv a st)(ea:a.as=m1++[x])(eb:st.bs=l1++[b])(hl:m1.length=l1.length) :
 RdO K (upd H a.L (.lst (m1.map fun z=>V.ref z.o))) kR kB r bv {a with as:=m1} {st with bs:=l1}/\BrO K (upd H a.L (.lst (m1.map fun z=>V.ref z.o))) kB x b:=by
 have hb:=h.b
 rw[ea,eb] at hb
 obtain⟨k1,k2,_⟩:=hb.split hl
 obtain⟨a1,a2,a3,b1,b2,c1,d1,d2,d3,d4,e1⟩:=h.apart
 obtain⟨us,u1,u2⟩:=h.m
 obtain⟨vs,v1,v2⟩:=h.d
 have tk:T4 H (upd H a.L (.lst (m1.map fun z=>V.ref z.o))):=N5 (.inl ⟨_,h.l⟩)
 rw[ea,R3,P9] at d1 d2 d3 d4 e1
 have nL:∀ z∈fpA m1,z∉[a.L]:=fun z hz e=>d2 (by rw[List.mem_singleton.mp e] at hz;exact List.mem_append_left _ hz)
 have nL2:∀ z∈x.fp,z∉[a.L]:=fun z hz e=>d2 (by rw[List.mem_singleton.mp e] at hz;exact List.mem_append_right _ (List.mem_append_left _ hz))
 refine⟨⟨h.kr,h.kb,by rw[B4 a1];exact h.o,A5,k1.but But.upd1 tk nL,⟨us,by rw[B4 (Ne.symm b1)];exact u1,Dvs.tupK tk _ _ (P8 Mnd.fix _) u2⟩,⟨vs,by rw[B4 (Ne.symm b2)];exact v1,Dvs.tupK tk _ _ (P8 Lad.fix _) v2⟩,?_⟩,k2.but But.upd1 tk nL2⟩
 have:=h.nd
 unfold RAd.fp at this ⊢
 rw[ea,R3] at this
 exact this.sublist (by
  refine List.Sublist.cons_cons _ (List.Sublist.cons_cons _ (List.Sublist.cons_cons _ (List.Sublist.cons_cons _ ?_)))
  exact List.sublist_append_left _ _)
theorem RdO.as_split{b:Brn}(h:RdO K H kR kB r bv a st)(eb:st.bs=l1++b::l2):∃ m1 x m2,a.as=m1++x::m2/\m1.length=l1.length/\BrO K H kB x b:=by
 have hb:=h.b
 rw[eb] at hb
 have hn:=hb.len
 rw[List.length_append,List.length_cons] at hn
 have e:a.as=a.as.take l1.length++a.as[l1.length]'(by omega)::a.as.drop (l1.length+1):=by
  rw[List.getElem_cons_drop,List.take_append_drop]
 have hl:(a.as.take l1.length).length=l1.length:=by rw[List.length_take];omega
 rw[e] at hb
 exact⟨_,_,_,e,hl,(hb.split hl).2.1⟩
def BkO(K:Fg)(H:Hp)(v:V)(rs:List Row):Prop:=∃ p vs,v=.ref p/\SqT K H p vs/\Dvs K H (rs.map Row.da) vs
theorem BkO.rws(h:BkO K H v rs):Rws K H v rs:=by
 obtain⟨p,vs,rfl,h1,h2⟩:=h
 exact⟨p,vs,rfl,.inr h1,h2⟩
theorem BkO.tupK(h:BkO K H v rs)(tk:T4 H H'):BkO K H' v rs:=by
 obtain⟨p,vs,rfl,h1,h2⟩:=h
 exact⟨p,vs,rfl,tk.sqT h1,Dvs.tupK tk _ _ (xx7 rs) h2⟩
theorem BkO.same(h:BkO K H v rs)(s:A7 H H'):BkO K H' v rs:=h.tupK s.tupK
end
theorem zs9(v:V):ql1 ("book":Str) v []=[(("book":Str),v)]:=rfl
theorem zt0(n v:V):ql1 ("branches":Str) v [(("book":Str),n)]=[(("book":Str),n),(("branches":Str),v)]:=by
 show(if(("book":Str)) = "branches" then _ else _)=_
 rw[if_neg (by decide)];rfl
theorem zt1(n p v:V):ql1 ("mends":Str) v [(("book":Str),n),(("branches":Str),p)]=[(("book":Str),n),(("branches":Str),p),(("mends":Str),v)]:=by
 show(if(("book":Str)) = "mends" then _ else _::(if(("branches":Str)) = "mends" then _ else _))=_
 rw[if_neg (by decide),if_neg (by decide)];rfl
theorem zt2(n p q v:V):ql1 ("laid":Str) v [(("book":Str),n),(("branches":Str),p),(("mends":Str),q)]=[(("book":Str),n),(("branches":Str),p),(("mends":Str),q),(("laid":Str),v)]:=by
 show(if(("book":Str)) = "laid" then _ else _::(if(("branches":Str)) = "laid" then _ else _::(if(("mends":Str)) = "laid" then _ else _)))=_
 rw[if_neg (by decide),if_neg (by decide),if_neg (by decide)];rfl
theorem BrO.upd{p:Addr}{o:HO}{a:BA}(h:BrO K H kB a b)(hp:xi6 H p\/H p=none)(hn:p∉a.fp):BrO K (upd H p o) kB a b :=
 h.but But.upd1 (hp.elim N5 fun e=>(A7.new e o).tupK) fun z hz e=>hn (by rw[List.mem_singleton.mp e] at hz;exact hz)
theorem E7{q:Addr}(h:H q=some u)(n:q≠p):upd H p o q=some u:=by rw[B4 n];exact h
theorem W8{q:Addr}(h:H p=none)(e:H q=some u):q≠p:=fun z=>by rw[z,h] at e;cases e
theorem xe8(b:But ps H H')(hp:p∈ps\/H p=none):But ps H (upd H' p o):=fun z u e n=>by
 rw[B4 (fun y=>hp.elim (fun h=>n (by rw[y];exact h)) fun h=>by rw[y,h] at e;cases e)];exact b z u e n
abbrev qs7(K:Fg)(k_Branch:Addr):TS :=
 (C1 (wd1 K (A2 0) (X6 (A1 (xu8 k_Branch (U1 K) [] E0 (A1 (tC (.str "")) (A1 (Q3 A9) A9))) A9)) "branches")
 (C1 (wd1 K (A2 0) (X6 A9) "mends")
 (wd1 K (A2 0) (X6 A9) "laid")))
def Z4(K:Fg):Sp:=fun vs H Q _=>∃ (kR r x:Addr) (bv:V),vs=[.ref r,bv]/\PySem.W.nsIn K mainGlobals "Reader"=some (some (.ref kR))/\H r=some (.ins kR x [])/\∀ (kB:Addr) (a:RAd) (H':Hp),RdO K H' kR kB r bv a ⟨[⟨"",[],[],[]⟩],[],[]⟩->But [r] H H'->(∀ z∈RAd.fp r a,z=r\/H z=none)->C2 H H'->Q .non H'
def qd8(K:Fg)(k_Branch:Addr):TS :=
 (C1 (wd1 K (A2 0) (A2 1) "book")
 (qs7 K k_Branch))
theorem wu2(cz:Cz K k_Branch k_Reader)(h:Z4 K vs H Q E):qd8 K k_Branch {nx:=fun _ H'=>Q .non H',rt:=Q} (D6 ["self","book"] vs) H:=by
 obtain⟨kR,r,x,bv,rfl,hkR,hr,q⟩:=h
 obtain rfl:=M9 cz.ns_Reader hkR
 show qd8 K _ _ [some (.ref r),some bv] H
 unfold qd8
 have c:=cz.cl_Reader
 refine qc0 (qk4 ?_)
 lk
 refine⟨r,_,x,_,rfl,hr,c,cz.na_Reader_book,by simp,?_⟩
 rw[zs9]
 have bt1:But [r] H (upd H r (.ins k_Reader x [(("book":Str),bv)])):=But.upd1
 have g1:C2 H (upd H r (.ins k_Reader x [(("book":Str),bv)])):=C2.upd
 have e1:(upd H r (.ins k_Reader x [(("book":Str),bv)])) r=_:=A5
 generalize upd H r (.ins k_Reader x [(("book":Str),bv)])=H1 at *
 show qs7 K _ _ _ _
 refine qc0 (qk4 ?_)
 lk
 refine xp9 ?_
 lk
 refine⟨D4 (by z_go),fun p hp=>?_⟩
 have e2:=E7 (o:=.tup []) e1 (W8 hp e1)
 have bt2:But [r] H (upd H1 p (.tup [])):=xe8 bt1 (.inr (g1 _ hp))
 have g2:C2 H (upd H1 p (.tup [])):=C2.tr g1 C2.upd
 have ep:SqT K (upd H1 p (.tup [])) p []:=SqT.of A5
 generalize upd H1 p (.tup [])=H2 at *
 lk
 intro o dx ho hdx ne
 have nor:r≠o:=W8 ho e2
 have e3:(upd (upd H2 dx (.own o)) o (.ins k_Branch dx [])) r=_:=E7 (E7 e2 (W8 hdx e2)) nor
 have bt3:But [r] H (upd (upd H2 dx (.own o)) o (.ins k_Branch dx [])):=xe8 (xe8 bt2 (.inr (g2 _ hdx))) (.inr (g2 _ ho))
 have g3:C2 H (upd (upd H2 dx (.own o)) o (.ins k_Branch dx [])):=C2.tr g2 (C2.tr C2.upd C2.upd)
 have s3:A7 H2 (upd (upd H2 dx (.own o)) o (.ins k_Branch dx [])):=fun z u e=>E7 (E7 e (W8 hdx e)) (W8 ho e)
 have eo:(upd (upd H2 dx (.own o)) o (.ins k_Branch dx [])) o=some (.ins k_Branch dx []):=A5
 generalize upd (upd H2 dx (.own o)) o (.ins k_Branch dx [])=H3 at *
 refine⟨k_Branch,o,dx,p, "",[],rfl,cz.ns_Branch,eo,s3.sqT ep,fun qq ww H4 hq hw hqw bt hB g4=>⟨rfl,?_⟩⟩
 have e4:H4 r=_:=bt _ _ e3 (by simp[nor])
 have bt4:But [r] H H4:=fun z u e n=>bt z u (bt3 z u e n) (by simp;intro y;rw[y] at e;have:=g2 _ ho;rw[e] at this;cases this)
 have g4':C2 H H4:=C2.tr g3 g4
 have nrq:r≠qq:=W8 hq e3
 have nrw:r≠ww:=W8 hw e3
 have noq:o≠qq:=W8 hq eo
 have now:o≠ww:=W8 hw eo
 have fp:BA.fp ⟨o,dx,p,qq,ww⟩=[o,qq,ww]:=rfl
 lk
 refine⟨D4 (by z_go),fun L hL=>?_⟩
 lk
 have nL:L∉BA.fp ⟨o,dx,p,qq,ww⟩:=fun hz=>by
  rcases(qj5.cons hB .nil).mut L (by rw[P9];exact List.mem_append_left _ hz) with⟨xs,e⟩|⟨C,d,fs,e⟩ <;> rw[hL] at e <;> cases e
 have hB5:=hB.upd (o:=.lst [.ref o]) (.inr hL) nL
 have e5:=E7 (o:=.lst [.ref o]) e4 (W8 hL e4)
 have eL5:(upd H4 L (.lst [.ref o])) L=_:=A5
 have bt5:But [r] H (upd H4 L (.lst [.ref o])):=xe8 bt4 (.inr (g4' _ hL))
 have g5:C2 H (upd H4 L (.lst [.ref o])):=C2.tr g4' C2.upd
 have hLr:r≠L:=W8 hL e4
 have hL0:=g4' _ hL
 generalize upd H4 L (.lst [.ref o])=H5 at *
 refine⟨r,_,x,_,rfl,e5,c,cz.na_Reader_branches,by simp,?_⟩
 rw[zt0]
 have nr:r∉BA.fp ⟨o,dx,p,qq,ww⟩:=by rw[fp];simp[nor,nrq,nrw]
 have hB6:=hB5.upd (o:=.ins k_Reader x [(("book":Str),bv),(("branches":Str),.ref L)]) (.inl (.inr ⟨_,_,_,e5⟩)) nr
 have e6:(upd H5 r (.ins k_Reader x [(("book":Str),bv),(("branches":Str),.ref L)])) r=_:=A5
 have eL6:=E7 (o:=.ins k_Reader x [(("book":Str),bv),(("branches":Str),.ref L)]) eL5 (Ne.symm hLr)
 have bt6:But [r] H (upd H5 r (.ins k_Reader x [(("book":Str),bv),(("branches":Str),.ref L)])):=xe8 bt5 (.inl (by simp))
 have g6:C2 H (upd H5 r (.ins k_Reader x [(("book":Str),bv),(("branches":Str),.ref L)])):=C2.tr g5 C2.upd
 generalize upd H5 r (.ins k_Reader x [(("book":Str),bv),(("branches":Str),.ref L)])=H6 at *
 show C1 (wd1 K (A2 0) (X6 A9) "mends") _ _ _ _
 refine qc0 (qk4 ?_)
 lk
 refine⟨D4 (by z_go),fun M hM=>?_⟩
 lk
 have nM:M∉BA.fp ⟨o,dx,p,qq,ww⟩:=fun hz=>by
  rcases(qj5.cons hB6 .nil).mut M (by rw[P9];exact List.mem_append_left _ hz) with⟨xs,e⟩|⟨C,d,fs,e⟩ <;> rw[hM] at e <;> cases e
 have hB7:=hB6.upd (o:=.lst []) (.inr hM) nM
 have hMr:r≠M:=W8 hM e6
 have hML:L≠M:=W8 hM eL6
 have hM0:=g6 _ hM
 refine⟨r,_,x,_,rfl,E7 e6 hMr,c,cz.na_Reader_mends,by simp,?_⟩
 rw[zt1]
 have e8:(upd (upd H6 M (.lst [])) r (.ins k_Reader x [(("book":Str),bv),(("branches":Str),.ref L),(("mends":Str),.ref M)])) r=_:=A5
 have eL8:=E7 (o:=.ins k_Reader x [(("book":Str),bv),(("branches":Str),.ref L),(("mends":Str),.ref M)]) (E7 (o:=.lst []) eL6 hML) (Ne.symm hLr)
 have eM8:=E7 (o:=.ins k_Reader x [(("book":Str),bv),(("branches":Str),.ref L),(("mends":Str),.ref M)]) (A5 (H:=H6) (a:=M) (o:=.lst [])) (Ne.symm hMr)
 have hB8:=hB7.upd (o:=.ins k_Reader x [(("book":Str),bv),(("branches":Str),.ref L),(("mends":Str),.ref M)]) (.inl (.inr ⟨_,_,_,E7 e6 hMr⟩)) nr
 have bt8:But [r] H (upd (upd H6 M (.lst [])) r (.ins k_Reader x [(("book":Str),bv),(("branches":Str),.ref L),(("mends":Str),.ref M)])):=xe8 (xe8 bt6 (.inr hM0)) (.inl (by simp))
 have g8:C2 H (upd (upd H6 M (.lst [])) r (.ins k_Reader x [(("book":Str),bv),(("branches":Str),.ref L),(("mends":Str),.ref M)])):=C2.tr g6 (C2.tr C2.upd C2.upd)
 generalize upd (upd H6 M (.lst [])) r (.ins k_Reader x [(("book":Str),bv),(("branches":Str),.ref L),(("mends":Str),.ref M)])=H8 at *
 show wd1 K (A2 0) (X6 A9) "laid" _ _ _
 refine qk4 ?_
 lk
 refine⟨D4 (by z_go),fun A hA=>?_⟩
 lk
 have nA:A∉BA.fp ⟨o,dx,p,qq,ww⟩:=fun hz=>by
  rcases(qj5.cons hB8 .nil).mut A (by rw[P9];exact List.mem_append_left _ hz) with⟨xs,e⟩|⟨C,d,fs,e⟩ <;> rw[hA] at e <;> cases e
 have hB9:=hB8.upd (o:=.lst []) (.inr hA) nA
 have hAr:r≠A:=W8 hA e8
 have hAL:L≠A:=W8 hA eL8
 have hAM:M≠A:=W8 hA eM8
 have hA0:=g8 _ hA
 refine⟨r,_,x,_,rfl,E7 e8 hAr,c,cz.na_Reader_laid,by simp,?_⟩
 rw[zt2]
 have hB10:=hB9.upd (o:=.ins k_Reader x [(("book":Str),bv),(("branches":Str),.ref L),(("mends":Str),.ref M),(("laid":Str),.ref A)]) (.inl (.inr ⟨_,_,_,E7 e8 hAr⟩)) nr
 refine q k_Branch ⟨x,L,M,A,[⟨o,dx,p,qq,ww⟩]⟩ _ ⟨cz.ns_Reader,cz.ns_Branch,A5,E7 (E7 eL8 hAL) (Ne.symm hLr),.cons hB10 .nil,⟨[],E7 (E7 eM8 hAM) (Ne.symm hMr),E2⟩,⟨[],E7 A5 (Ne.symm hAr),E2⟩,?_⟩ (xe8 (xe8 bt8 (.inr hA0)) (.inl (by simp))) ?_ (C2.tr g8 (C2.tr C2.upd C2.upd))
 ·show(r::L::M::A::fpA [⟨o,dx,p,qq,ww⟩]).Nodup
  have ef:fpA [⟨o,dx,p,qq,ww⟩]=[o,qq,ww]:=rfl
  rw[fp] at nL nM nA
  simp only[List.mem_cons,List.not_mem_nil,or_false,not_or] at nL nM nA
  rw[ef]
  simp[hLr,hMr,hAr,nor,nrq,nrw,hML,hAL,hAM,nL.1,nL.2.1,nL.2.2,nM.1,nM.2.1,nM.2.2,nA.1,nA.2.1,nA.2.2,noq,now,hqw]
 ·intro z hz
  have hz':z∈r::L::M::A::[o,qq,ww]:=hz
  simp only[List.mem_cons,List.not_mem_nil,or_false] at hz'
  rcases hz' with h1|h1|h1|h1|h1|h1|h1
  ·exact .inl h1
  ·exact .inr (h1▸hL0)
  ·exact .inr (h1▸hM0)
  ·exact .inr (h1▸hA0)
  ·exact .inr (h1▸g2 _ ho)
  ·exact .inr (h1▸g3 _ hq)
  ·exact .inr (h1▸g3 _ hw)
theorem wu3(h:0<=m):ql8 xs (some m) none=xs.drop m.toNat:=by
 unfold ql8
 have e:HT.sIx xs.length 0 (some m)=min m.toNat xs.length:=by
  show(if m<0 then _ else min m.toNat xs.length)=_
  rw[if_neg (by omega)]
 show(xs.drop (HT.sIx xs.length 0 (some m))).take (xs.length-HT.sIx xs.length 0 (some m))=_
 rw[e]
 by_cases hl:m.toNat<=xs.length
 ·rw[Nat.min_eq_left hl,List.take_of_length_le (by rw[List.length_drop];exact Nat.le_refl _)]
 ·rw[Nat.min_eq_right (by omega),List.drop_length,List.drop_eq_nil_of_le (by omega),List.take_nil]
theorem qn1{l:List α}{i:Nat}{x:α}(h:l[i]?=some x):l.take (i+1)=l.take i++[x]:=by rw[List.take_succ,h];rfl
theorem zm8{x:α}{xs:List α}:atI (x::xs) 0=some x:=by
 have:atI (x::xs) ((0:Nat):Int)=some x:=W3 rfl
 exact this
section
variable{kB:Addr}
theorem qj5.get{bs:List Brn}{i:Nat}{x:BA}(h:qj5 K H kB as bs)(e:as[i]?=some x):∃ b,bs[i]?=some b/\BrO K H kB x b:=by
 induction h generalizing i with
 | nil=>simp at e
 | cons h1 _ ih =>
   cases i with
   | zero=>simp at e;subst e;exact⟨_,rfl,h1⟩
   | succ i=>exact ih (by simpa using e)
end
def Z5(K:Fg):Sp:=fun vs H Q _=>∃ (kR kB r:Addr) (bv:V) (a:RAd) (st:Rst) (b0:Brn) (bs:List Brn),vs=[.ref r]/\RdO K H kR kB r bv a st/\st.bs=b0::bs/\∀ (v:V) (H':Hp),A7 H H'->Dv K H' (Tr.nd "" b0.ps).da v->Q v H'
def qd9(K:Fg):TS :=
 (M3 (Q3 (A1 (tC (.str "")) (A1 (tCB (qk3 K) (A1 (S5 K (tOp (L7 K) (S5 K (A2 0) "branches") (tC (.int 0))) "parts") A9)) A9))))
theorem wu4(cz:Cz K k_Branch k_Reader)(h:Z5 K vs H Q E):qd9 K {nx:=fun _ H'=>Q .non H',rt:=Q} (D6 ["self"] vs) H:=by
 obtain⟨kR,kB,r,bv,a,st,b0,bs,rfl,h,eb,q⟩:=h
 obtain rfl:=M9 cz.ns_Reader h.kr
 obtain rfl:=M9 cz.ns_Branch h.kb
 show qd9 K _ [some (.ref r)] H
 unfold qd9
 obtain⟨m1,x,m2,ea,hm,hx⟩:=h.as_split (l1:=[]) eb
 obtain rfl:=List.eq_nil_of_length_eq_zero hm
 obtain⟨us,q1,q2⟩:=hx.q
 lk
 refine E9 ?_
 lk
 refine E9 ?_
 lk
 refine⟨r,_,a.x,_,_,rfl,h.o,cz.cl_Reader,cz.na_Reader_branches,rfl,?_⟩
 lk
 refine M5 (SqL.of h.l) (v:=.ref x.o) (by rw[ea];exact zm8) ?_
 refine⟨x.o,_,x.x,_,_,rfl,hx.o,cz.cl_Branch,cz.na_Branch_parts,rfl,?_⟩
 lk
 refine⟨_,_,rfl,.inl ⟨SqL.of q1,fun l hl=>?_⟩⟩
 lk
 refine⟨D4 (by z_go),fun p hp=>?_⟩
 have s1:=A7.new hl (.tup us)
 have s2:=A7.new hp (.tup [.str "",.ref l])
 refine q _ _ (A7.tr s1 s2) (xm9 (SqT.of A5) (s2.sqT (SqT.of A5)) (Dvs.same (A7.tr s1 s2) _ _ q2))
def D9(K:Fg):Sp:=fun vs H Q _=>∃ (kR kB r:Addr) (bv:V) (a:RAd) (st:Rst) (b0:Brn) (bs:List Brn),vs=[.ref r]/\RdO K H kR kB r bv a st/\st.bs=b0::bs/\bs.length<=1000/\∀ (p:Addr) (H':Hp),A7 H H'->SqT K H' p (B6 (bs.map Brn.n))->Q (.ref p) H'
def R5(K:Fg):TS :=
 (M3 (tCB (qk3 K) (A1 (wa9 [none] (wc3 K (tSl (wo3 K) (S5 K (A2 0) "branches") (X8 (tC (.int 1))) qf4)) (B2 0) tTT (S5 K (A2 0) "name")) A9)))
theorem qz8(cz:Cz K k_Branch k_Reader)(h:D9 K vs H Q E):R5 K {nx:=fun _ H'=>Q .non H',rt:=Q} (D6 ["self"] vs) H:=by
 obtain⟨kR,kB,r,bv,a,st,b0,bs,rfl,h,eb,hl,q⟩:=h
 obtain rfl:=M9 cz.ns_Reader h.kr
 obtain rfl:=M9 cz.ns_Branch h.kb
 show R5 K _ [some (.ref r)] H
 unfold R5
 obtain⟨m1,x,m2,ea,hm,hx⟩:=h.as_split (l1:=[]) eb
 obtain rfl:=List.eq_nil_of_length_eq_zero hm
 have hb:=h.b
 rw[ea,eb] at hb
 obtain⟨_,_,hb2⟩:=hb.split (m1:=[]) (l1:=[]) rfl
 have hbl:=hb2.len
 lk
 refine E9 ?_
 lk
 refine⟨r,_,a.x,_,_,rfl,h.o,cz.cl_Reader,cz.na_Reader_branches,rfl,?_⟩
 lk
 refine yk5 (SqL.of h.l) fun p hp=>?_
 have ecut:ql8 (a.as.map fun z=>V.ref z.o) (some 1) none=m2.map fun z=>V.ref z.o:=by
  rw[wu3 (by decide),ea];rfl
 rw[ecut]
 have s1:=A7.new hp (.lst (m2.map fun z=>V.ref z.o))
 have e1:(upd H p (.lst (m2.map fun z=>V.ref z.o))) p=_:=A5
 generalize upd H p (.lst (m2.map fun z=>V.ref z.o))=H1 at *
 refine xv5 (.inl (SqL.of e1)) (fun i ys H'=>H'=H1/\ys=B6 ((bs.take i).map Brn.n)) ⟨rfl,rfl⟩ ?_ ?_ ?_ ?_ ?_
 ·rintro i ys H' hi ⟨_,rfl⟩
  rw[C3,List.length_map,List.length_take]
  exact D4 (by omega)
 ·rintro _ i ys H' _ ⟨rfl,_⟩;exact SqL.of e1
 ·rintro hq i ys H' _ ⟨rfl,_⟩;exact hq
 ·rintro i v ys H' hi ⟨rfl,rfl⟩
  rw[List.getElem?_map] at hi
  obtain⟨z,hz,rfl⟩:=Option.map_eq_some_iff.mp hi
  obtain⟨c,hc,hB⟩:=hb2.get hz
  refine M4 ?_
  lk
  refine E9 ?_
  lk
  refine⟨z.o,_,z.x,_,_,rfl,s1 _ _ hB.o,cz.cl_Branch,cz.na_Branch_name,rfl,?_⟩
  refine⟨rfl,?_⟩
  rw[we4,qn1 hc,List.map_append];rfl
 ·rintro ys H' ⟨rfl,rfl⟩ l hl2
  have en:bs.take (m2.map fun z=>V.ref z.o).length=bs:=by rw[List.length_map,hbl];exact List.take_length
  rw[en]
  have s2:=A7.new hl2 (.lst (B6 (bs.map Brn.n)))
  lk
  refine⟨_,_,rfl,.inl ⟨SqL.of A5,fun w hw=>?_⟩⟩
  lk
  exact q _ _ (A7.tr (A7.tr s1 s2) (A7.new hw _)) (SqT.of A5)
abbrev qq2(K:Fg):TS :=
 (I9 (tBM K "list" J4 (S5 K (tOp (L7 K) (S5 K (A2 0) "branches") (tUn (rU fun i=>.int (-i)) (tC (.int 1)))) "parts") (A1 (Q3 (A1 (S5 K (A2 1) "name") (A1 (tCB (qk3 K) (A1 (S5 K (A2 1) "parts") A9)) A9))) A9)))
def O8(K:Fg):Sp:=fun vs H Q _=>∃ (kR kB r:Addr) (bv:V) (a:RAd) (st:Rst) (bs:List Brn) (b1 b2:Brn),vs=[.ref r]/\RdO K H kR kB r bv a st/\st.bs=bs++[b1,b2]/\b1.ps.length<=9000000/\∀ a' H',Rup K kR kB r bv H a H' a' {st with bs:=bs++[{b1 with ps:=b1.ps++[Tr.nd b2.n b2.ps]}]}->C2 H H'->Q .non H'
def Z6(K:Fg):TS :=
 (C1 (E3 (zf1 K "list" zf2 (S5 K (A2 0) "branches")) (B2 1))
 (qq2 K))
theorem wq0(cz:Cz K k_Branch k_Reader)(h:O8 K vs H Q E):Z6 K {nx:=fun _ H'=>Q .non H',rt:=Q} (D6 ["self","branch"] vs) H:=by
 obtain⟨kR,kB,r,bv,a,st,bs,b1,b2,rfl,h,eb,hl,q⟩:=h
 obtain rfl:=M9 cz.ns_Reader h.kr
 obtain rfl:=M9 cz.ns_Branch h.kb
 show Z6 K _ [some (.ref r),none] H
 unfold Z6
 have eb2:st.bs=(bs++[b1])++b2::[]:=by rw[eb];simp
 obtain⟨m,y,m3,ea,hm,hy⟩:=h.as_split eb2
 have hn:=h.b.len
 rw[ea,eb2] at hn
 simp only[List.length_append,List.length_cons,List.length_nil] at hn hm
 obtain rfl:m3=[]:=List.eq_nil_of_length_eq_zero (by omega)
 have hm':m.length=(bs++[b1]).length:=by simp[hm]
 obtain⟨h1,hy1⟩:=h.pop ea eb2 hm'
 have bt1:But (RAd.fp r a) H (upd H a.L (.lst (m.map fun z=>V.ref z.o))):=fun z u e n=>E7 e fun y=>n (by rw[y];simp[RAd.fp])
 have hL:=h.l
 rw[ea,List.map_append] at hL
 have g1:C2 H (upd H a.L (.lst (m.map fun z=>V.ref z.o))):=C2.upd
 have fy:∀ z∈y.fp,z∉fpA m:=fun z hz hx=>by
  have:=h.apart.2.2.2.2.2.2.2.2.2.2
  rw[ea,R3,List.nodup_append] at this
  exact this.2.2 z hx z (by rw[P9];exact List.mem_append_left _ hz) rfl
 have fr1:∀ z∈RAd.fp r {a with as:=m},z∈RAd.fp r a:=fun z hz=>by
  simp only[RAd.fp,List.mem_cons,ea,R3,List.mem_append] at hz ⊢
  rcases hz with h|h|h|h|h
  ·exact .inl h
  ·exact .inr (.inl h)
  ·exact .inr (.inr (.inl h))
  ·exact .inr (.inr (.inr (.inl h)))
  ·exact .inr (.inr (.inr (.inr (.inl h))))
 lk
 refine E9 ?_
 lk
 refine⟨r,_,a.x,_,_,rfl,h.o,cz.cl_Reader,cz.na_Reader_branches,rfl,?_⟩
 lk
 refine⟨.inl ⟨rfl,_,SqL.of hL⟩,?_⟩
 refine zm2 hL ?_
 generalize upd H a.L (.lst (m.map fun z=>V.ref z.o))=H1 at *
 lk
 show qq2 K _ _ _
 have e1:({st with bs:=bs++[b1]}:Rst).bs=bs++b1::[]:=rfl
 obtain⟨m1,x,m2,ea2,hm2,hx⟩:=h1.as_split e1
 have ea2':m=m1++x::m2:=ea2
 obtain rfl:m2=[]:=List.eq_nil_of_length_eq_zero (by have:=congrArg List.length ea2';simp at this;omega)
 obtain⟨us,q1,q2⟩:=hx.q
 obtain⟨ws,p1,p2⟩:=hy1.q
 have hul:=qy9 q2
 have h1l:H1 a.L=_:=h1.l
 have h1o:H1 r=_:=h1.o
 lk
 refine E9 ?_
 lk
 refine E9 ?_
 lk
 refine⟨r,_,a.x,_,_,rfl,h1o,cz.cl_Reader,cz.na_Reader_branches,rfl,?_⟩
 lk
 refine⟨1,rfl,?_⟩
 refine M5 (SqL.of h1l) (v:=.ref x.o) (qk5 (n:=m1.length) (by show(m.map _).length=_;rw[ea2'];simp) (by show(m.map _)[_]?=_;rw[ea2'];simp)) ?_
 refine⟨x.o,_,x.x,_,_,rfl,hx.o,cz.cl_Branch,cz.na_Branch_parts,rfl,?_⟩
 lk
 refine⟨.inl ⟨rfl,_,SqL.of q1⟩,?_⟩
 lk
 refine E9 ?_
 lk
 refine⟨y.o,_,y.x,_,_,rfl,hy1.o,cz.cl_Branch,cz.na_Branch_name,rfl,?_⟩
 lk
 refine E9 ?_
 lk
 refine⟨y.o,_,y.x,_,_,rfl,hy1.o,cz.cl_Branch,cz.na_Branch_parts,rfl,?_⟩
 lk
 refine⟨_,_,rfl,.inl ⟨SqL.of p1,fun l hl=>?_⟩⟩
 lk
 refine⟨D4 (by z_go),fun p hp=>?_⟩
 have s2:=A7.new hl (.tup ws)
 have s3:=A7.new hp (.tup [.str b2.n,.ref l])
 have s23:=A7.tr s2 s3
 have dt:Dv K _ (Tr.nd b2.n b2.ps).da (.ref p):=xm9 (SqT.of (A5 (H:=upd H1 l (.tup ws)) (a:=p) (o:=.tup [.str b2.n,.ref l]))) (s3.sqT (SqT.of A5)) (Dvs.same s23 _ _ p2)
 generalize upd (upd H1 l (.tup ws)) p (.tup [.str b2.n,.ref l])=H2 at *
 lk
 refine L0 (s23 _ _ q1) (by rw[hul,sizeLine_eq];omega) ?_
 have h2:=h1.same s23
 have xq:x.q∈x.fp:=by simp[BA.fp]
 have bt3:But x.fp H2 (upd H2 x.q (.lst (us++[.ref p]))):=fun z u e n=>E7 e fun y=>n (by rw[y];exact xq)
 have xnd:x.fp.Nodup:=by
  have:=h1.apart.2.2.2.2.2.2.2.2.2.2
  rw[show({a with as:=m}:RAd).as=m from rfl,ea2',R3,P9,List.nodup_append,List.nodup_append] at this
  exact this.2.1.1
 have hx2:=(hx.but (ps:=[]) (fun z u e _=>s23 z u e) s23.tupK fun _ _ z=>by cases z)
 have tk3:T4 H2 (upd H2 x.q (.lst (us++[.ref p]))):=N5 (.inl ⟨_,s23 _ _ q1⟩)
 have no:x.o≠x.q:=by simp[BA.fp] at xnd;exact xnd.1.1
 have nw:x.w≠x.q:=by simp[BA.fp] at xnd;exact Ne.symm xnd.2
 have hB:BrO K (upd H2 x.q (.lst (us++[.ref p]))) k_Branch x {b1 with ps:=b1.ps++[Tr.nd b2.n b2.ps]} :=
  ⟨E7 hx2.o no,tk3.sqT hx2.p,⟨_,A5,by
   show Dvs K _ (Tr.das (b1.ps++[Tr.nd b2.n b2.ps])) _
   rw[W4,List.map_append,<-W4]
   exact Dvs.append (Dvs.tupK tk3 _ _ (qf8 _) (Dvs.same s23 _ _ q2)) (Dvs.one (Dv.tupK tk3 _ _ (yy9 _) dt))⟩,E7 hx2.w nw⟩
 have u:=Rup.swap h2 ea2 e1 hm2 bt3 hB (fun z hz=>.inl hz) xnd rfl
 refine q _ _ ⟨u.ok,fun c o e n=>?_,fun z hz=>?_⟩ (C2.tr (C2.tr g1 (A7.grow s23)) C2.upd)
 ·exact bt3 c o (s23 _ _ (bt1 c o e n)) fun hc=>n (fr1 c (za5 ea2 hc))
 ·exact(u.fr z hz).imp (fr1 z) fun h=>g1 z (A7.grow s23 z h)
theorem yg5 {n:Option Str} (h:Q (.bl (decide (n=some x))) H):Y0 K (oV n) (.str x) H Q:=by
 cases n with
 | none => refine xv6 rfl ?_;have e:(decide (oV none=V.str x))=decide (none=some x):=by simp[oV]
           rw[e];exact h
 | some y => refine xv6 rfl ?_;have e:(decide (oV (some y)=V.str x))=decide (some y=some x):=by simp[oV]
             rw[e];exact h
section
variable{kR kB r:Addr}{bv:V}{a:RAd}{st:Rst}
theorem Rup.mend{e:Int}(h:RdO K H kR kB r bv a st)(s1:A7 H H1)(e1:SqT K H1 p [.int i,.int e,.str t,.str rule])(m2:Dvs K H (st.ms.map Mnd.da) us) :
 Rup K kR kB r bv H a (upd H1 a.M (.lst (us++[.ref p]))) a {st with ms:=st.ms++[⟨i,e,t,rule⟩]}:=by
 refine .keep ((h.same s1).setM ?_) fun c o e n=>?_
 ·rw[List.map_append]
  exact Dvs.append (Dvs.same s1 _ _ m2) (Dvs.one (C8.mpr ⟨p,_,rfl,e1,B3 (O2.mpr rfl) (B3 (O2.mpr rfl) (B3 (D5.mpr rfl) (B3 (D5.mpr rfl) E2)))⟩))
 ·rw[B4 (fun z=>n (by rw[z];simp[RAd.fp]))];exact s1 c o e
theorem RdO.ms_len(m2:Dvs K H (st.ms.map Mnd.da) us):us.length=st.ms.length:=by have:=m2.length;rw[List.length_map] at this;exact this
end
def N6(K:Fg):Sp:=fun vs H Q _=>∃ (kR kB r:Addr) (bv:V) (a:RAd) (st:Rst) (n:Str) (i:Int) (rule:Str) (bs:List Brn) (b0:Brn),vs=[.ref r,.str n,.int i,.str rule]/\RdO K H kR kB r bv a st/\st.bs=bs++[b0]/\bs.length<=1000/\b0.pl.length<=1000/\b0.ps.length<=9000000/\st.ms.length<=9000000/\n.length<=4000/\∀ a' H',Rup K kR kB r bv H a H' a' {st with bs:=st.bs++[⟨n,b0.pl++[(b0.ps.length:Int)],[],[]⟩],ms:=st.ms++[⟨i,i,opn n,rule⟩]}->C2 H H'->Q .non H'
def W9(K:Fg)(k_Reader:Addr):TS :=
 (C1 (I9 (tBM K "list" J4 (S5 K (A2 0) "mends") (A1 (Q3 (A1 (A2 2) (A1 (A2 2) (A1 (D1 (qk8 K) [] E0 (A1 (A2 1) A9)) (A1 (A2 3) A9))))) A9)))
 (I9 (N1 k_Reader "enter" (S8 K) [] E0 (A2 0) (A1 (A2 1) A9))))
theorem wl7(cz:Cz K k_Branch k_Reader)(h:N6 K vs H Q E):W9 K k_Reader {nx:=fun _ H'=>Q .non H',rt:=Q} (D6 ["self","name","start","rule"] vs) H:=by
 obtain⟨kR,kB,r,bv,a,st,n,i,rule,bs,b0,rfl,h,eb,h1,h2,h3,h4,h5,q⟩:=h
 obtain rfl:=M9 cz.ns_Reader h.kr
 show W9 K _ _ [some (.ref r),some (.str n),some (.int i),some (.str rule)] H
 unfold W9
 obtain⟨us,m1,m2⟩:=h.m
 have hul:=RdO.ms_len m2
 lk
 refine E9 ?_
 lk
 refine⟨r,_,a.x,_,_,rfl,h.o,cz.cl_Reader,cz.na_Reader_mends,rfl,?_⟩
 lk
 refine⟨.inl ⟨rfl,_,SqL.of m1⟩,?_⟩
 lk
 refine⟨n,rfl,h5,?_⟩
 lk
 refine⟨D4 (by z_go),fun p hp=>?_⟩
 lk
 have s1:=A7.new hp (.tup [.int i,.int i,.str (opn n),.str rule])
 refine L0 (s1 _ _ m1) (by rw[hul,sizeLine_eq];omega) ?_
 have u1:=Rup.mend h s1 (SqT.of A5) m2
 have g1:C2 H (upd (upd H p (.tup [.int i,.int i,.str (opn n),.str rule])) a.M (.lst (us++[.ref p]))):=C2.tr C2.upd C2.upd
 generalize upd (upd H p (.tup [.int i,.int i,.str (opn n),.str rule])) a.M (.lst (us++[.ref p]))=H1 at *
 lk
 refine E5 ?_
 lk
 refine⟨r,_,_,rfl,u1.ok.o,rfl,?_⟩
 lk
 refine⟨k_Reader,kB,r,bv,a,_,n,bs,b0,rfl,u1.ok,eb,h1,h2,h3,fun a' H' u2 g2=>?_⟩
 exact q a' H' (u1.tr u2 g1) (C2.tr g1 g2)
def O9(K:Fg):Sp:=fun vs H Q _=>∃ (kR kB r:Addr) (bv:V) (a:RAd) (st:Rst) (b0:Brn) (bs:List Brn) (rs:List Row),vs=[.ref r]/\RdO K H kR kB r bv a st/\BkO K H bv rs/\st.bs=b0::bs/\bs.length<=1000/\∀ H':Hp,A7 H H'->Q (.bl (decide (L3 rs (some (P6 (bs.map Brn.n)))=some ("frame":Str)))) H'
def Q6(K:Fg)(k_Reader:Addr):TS :=
 (M3 (tOp (Y0 K) (D1 (Y1 K) [] E0 (A1 (S5 K (A2 0) "book") (A1 (D1 (O7 K) [] E0 (A1 (N1 k_Reader "open_names" (D9 K) [] E0 (A2 0) A9) A9)) A9))) (tC (.str "frame"))))
theorem qw5(cz:Cz K k_Branch k_Reader)(h:O9 K vs H Q E):Q6 K k_Reader {nx:=fun _ H'=>Q .non H',rt:=Q} (D6 ["self"] vs) H:=by
 obtain⟨kR,kB,r,bv,a,st,b0,bs,rs,rfl,h,hk,eb,hl,q⟩:=h
 obtain rfl:=M9 cz.ns_Reader h.kr
 show Q6 K _ _ [some (.ref r)] H
 unfold Q6
 lk
 refine E9 ?_
 lk
 refine⟨r,_,a.x,_,_,rfl,h.o,cz.cl_Reader,cz.na_Reader_book,rfl,?_⟩
 lk
 refine E5 ?_
 lk
 refine⟨r,_,_,rfl,h.o,rfl,?_⟩
 lk
 refine⟨k_Reader,kB,r,bv,a,st,b0,bs,rfl,h,eb,hl,fun p H1 s1 hp=>?_⟩
 lk
 refine⟨p,_,rfl,.inr hp,?_⟩
 lk
 refine⟨bv,some (P6 (bs.map Brn.n)),rs,rfl,(hk.same s1).rws,?_⟩
 lk
 refine yg5 ?_
 exact q _ s1
theorem wx4{f:α->Bool}:∀ {l zs:List α} {z:α},l.filter f=zs++[z]->∃ A B,l=A++z::B/\f z=true/\∀ c∈B,f c=false:=by
 intro l
 induction l with
 | nil=>intro zs z h;simp at h
 | cons x l ih =>
   intro zs z h
   by_cases hx:f x=true
   ·rw[List.filter_cons_of_pos hx] at h
    cases zs with
    | nil =>
      simp only[List.nil_append,List.cons.injEq] at h
      obtain⟨rfl,h⟩:=h
      exact⟨[],l,rfl,hx,fun c hc=>Bool.eq_false_iff.mpr (List.filter_eq_nil_iff.mp h c hc)⟩
    | cons y zs =>
      simp only[List.cons_append,List.cons.injEq] at h
      obtain⟨A,B,e,h1,h2⟩:=ih h.2
      exact⟨x::A,B,by rw[e];rfl,h1,h2⟩
   ·rw[List.filter_cons_of_neg hx] at h
    obtain⟨A,B,e,h1,h2⟩:=ih h
    exact⟨x::A,B,by rw[e];rfl,h1,h2⟩
theorem za6{c:Bool}{p q:Prop}(hc:c=true)(h:p):if c=true then p else q:=by rw[if_pos hc];exact h
def LwP(rs:List Row)(l1:List Brn)(b:Brn)(l2:List Brn):Prop:=(S9 rs b.n=true/\∀ c∈l2,S9 rs c.n=false)\/(l1=[]/\∀ c∈b::l2,S9 rs c.n=false)
abbrev qg5(K:Fg):TS :=
 (M3 (tIf (E4 (tOp wo1 (tCB (O6 K) (A1 (A2 1) A9)) (tC (.int 0)))) (tOp (L7 K) (A2 1) (tUn (rU fun i=>.int (-i)) (tC (.int 1)))) (tOp (L7 K) (S5 K (A2 0) "branches") (tC (.int 0)))))
def M2(K:Fg):Sp:=fun vs H Q _=>∃ (kR kB r:Addr) (bv:V) (a:RAd) (st:Rst) (rs:List Row),vs=[.ref r]/\RdO K H kR kB r bv a st/\BkO K H bv rs/\st.bs≠[]/\st.bs.length<=1000/\∀ (m1 m2:List BA) (x:BA) (l1 l2:List Brn) (b:Brn) (H':Hp),A7 H H'->a.as=m1++x::m2->st.bs=l1++b::l2->m1.length=l1.length->LwP rs l1 b l2->Q (.ref x.o) H'
def T0(K:Fg):TS :=
 (C1 (E3 (wa9 [some 0,none] (wc3 K (S5 K (A2 0) "branches")) (B2 1) (tB (D1 (qe4 K) [] E0 (A1 (S5 K (A2 0) "book") (A1 (S5 K (A2 1) "name") A9)))) (A2 1)) (B2 1))
 (qg5 K))
theorem wc4(cz:Cz K k_Branch k_Reader)(h:M2 K vs H Q E):T0 K {nx:=fun _ H'=>Q .non H',rt:=Q} (D6 ["self","walls"] vs) H:=by
 obtain⟨kR,kB,r,bv,a,st,rs,rfl,h,hk,hne,hl,q⟩:=h
 obtain rfl:=M9 cz.ns_Reader h.kr
 obtain rfl:=M9 cz.ns_Branch h.kb
 show T0 K _ [some (.ref r),none] H
 unfold T0
 have hb:=h.b
 have hbl:=hb.len
 let f:BA×Brn->Bool:=fun z=>S9 rs z.2.n
 have zl:(a.as.zip st.bs).length=st.bs.length:=by rw[List.length_zip,hbl,Nat.min_self]
 have zg:∀ i x,a.as[i]?=some x->∃ c,st.bs[i]?=some c/\BrO K H k_Branch x c/\(a.as.zip st.bs)[i]?=some (x,c):=fun i x e=>by
  obtain⟨c,h1,h2⟩:=hb.get e
  exact⟨c,h1,h2,List.getElem?_zip_eq_some.mpr ⟨e,h1⟩⟩
 lk
 refine E9 ?_
 lk
 refine⟨r,_,a.x,_,_,rfl,h.o,cz.cl_Reader,cz.na_Reader_branches,rfl,?_⟩
 refine xv5 (.inl (SqL.of h.l)) (fun i ys H'=>H'=H/\ys=((((a.as.zip st.bs).take i).filter f).map fun z=>V.ref z.1.o)) ⟨rfl,rfl⟩ ?_ ?_ ?_ ?_ ?_
 ·rintro i ys H' hi ⟨_,rfl⟩
  rw[List.length_map]
  have:=List.length_filter_le f ((a.as.zip st.bs).take i)
  rw[List.length_take] at this
  exact D4 (by omega)
 ·rintro _ i ys H' _ ⟨rfl,_⟩;exact SqL.of h.l
 ·rintro hq i ys H' _ ⟨rfl,_⟩;exact hq
 ·rintro i v ys H' hi ⟨rfl,rfl⟩
  rw[List.getElem?_map] at hi
  obtain⟨z,hz,rfl⟩:=Option.map_eq_some_iff.mp hi
  obtain⟨c,hc,hB,hzz⟩:=zg i z hz
  refine M4 ?_
  lk
  refine E9 ?_
  lk
  refine⟨r,_,a.x,_,_,rfl,h.o,cz.cl_Reader,cz.na_Reader_book,rfl,?_⟩
  lk
  refine E9 ?_
  lk
  refine⟨z.o,_,z.x,_,_,rfl,hB.o,cz.cl_Branch,cz.na_Branch_name,rfl,?_⟩
  lk
  refine⟨bv,c.n,rs,rfl,hk.rws,?_⟩
  lk
  have et:((a.as.zip st.bs).take (i+1)).filter f=((a.as.zip st.bs).take i).filter f++(if S9 rs c.n=true then[(z,c)] else[]):=by
   rw[qn1 hzz,List.filter_append]
   congr 1
   by_cases hw:S9 rs c.n=true
   ·rw[if_pos hw,List.filter_cons_of_pos (by exact hw)];rfl
   ·rw[if_neg hw,List.filter_cons_of_neg (by exact hw)];rfl
  by_cases hw:S9 rs c.n=true
  ·rw[hw]
   x_go
   lk
   refine⟨rfl,?_⟩
   rw[et,if_pos hw,List.map_append];rfl
  ·rw[Bool.eq_false_iff.mpr hw]
   refine R0 ⟨rfl,?_⟩
   rw[et,if_neg hw,List.append_nil]
 ·rintro ys H' ⟨rfl,rfl⟩ l hl2
  have en:(a.as.zip st.bs).take (a.as.map fun z=>V.ref z.o).length=a.as.zip st.bs:=by rw[List.length_map,hbl,<-zl];exact List.take_length
  rw[en]
  have s1:=A7.new hl2 (.lst (((a.as.zip st.bs).filter f).map fun z=>V.ref z.1.o))
  have e1:(upd H' l (.lst (((a.as.zip st.bs).filter f).map fun z=>V.ref z.1.o))) l=_:=A5
  generalize upd H' l (.lst (((a.as.zip st.bs).filter f).map fun z=>V.ref z.1.o))=H1 at *
  have am:(a.as.zip st.bs).map Prod.fst=a.as:=List.map_fst_zip (by omega)
  have bm:(a.as.zip st.bs).map Prod.snd=st.bs:=List.map_snd_zip (by omega)
  show qg5 K _ _ _
  lk
  refine T5 (.inl (SqL.of e1)) ?_
  lk
  rcases List.eq_nil_or_concat ((a.as.zip st.bs).filter f) with hz|⟨zs,z,hz⟩
  ·rw[hz]
   k_go
   lk
   refine E9 ?_
   lk
   refine⟨r,_,a.x,_,_,rfl,s1 _ _ h.o,cz.cl_Reader,cz.na_Reader_branches,rfl,?_⟩
   lk
   obtain⟨b0,bs,eb⟩:=List.exists_cons_of_ne_nil hne
   obtain⟨m1,x,m2,ea,hm,hx⟩:=h.as_split (l1:=[]) eb
   obtain rfl:=List.eq_nil_of_length_eq_zero hm
   refine M5 (SqL.of (s1 _ _ h.l)) (v:=.ref x.o) (by rw[ea];exact zm8) ?_
   refine q [] m2 x [] bs b0 _ s1 ea eb rfl (.inr ⟨rfl,fun c hc=>?_⟩)
   rw[<-eb,<-bm] at hc
   obtain⟨w,hw,rfl⟩:=List.mem_map.mp hc
   have:=List.filter_eq_nil_iff.mp hz w hw
   exact Bool.eq_false_iff.mpr this
  ·rw[List.concat_eq_append] at hz
   rw[hz] at e1 ⊢
   refine za6 (by simp) ?_
   lk
   refine⟨1,rfl,?_⟩
   refine M5 (SqL.of e1) (v:=.ref z.1.o) (qk5 (n:=zs.length) (by simp) (by simp)) ?_
   obtain⟨A,B,e2,e3,e4⟩:=wx4 hz
   refine q (A.map Prod.fst) (B.map Prod.fst) z.1 (A.map Prod.snd) (B.map Prod.snd) z.2 _ s1 (by rw[<-am,e2];simp) (by rw[<-bm,e2];simp) (by simp) (.inl ⟨e3,fun c hc=>?_⟩)
   obtain⟨w,hw,rfl⟩:=List.mem_map.mp hc
   exact e4 w hw
abbrev wi3(K:Fg):TS :=
 (P7 (E4 (tOp (Y0 K) (D1 (Y1 K) [] E0 (A1 (A2 0) (A1 (A2 3) A9))) (tC (.str "anew"))))
 (I9 (tBM K "list" J4 (A2 2) (A1 (A2 3) A9))) M7)
abbrev qn2(K:Fg):TS :=
 (C1 (P7 (tB (D1 (qe4 K) [] E0 (A1 (A2 0) (A1 (A2 3) A9))))
 yb6 M7)
 (wi3 K))
def xj7(rs:List Row)(ns:List Str):List Str:=ns.filter fun n=>decide (L3 rs (some n)=some ("anew":Str))
def X0(rs:List Row)(ns:List Str):List Str:=xj7 rs (ns.takeWhile fun n=>!(S9 rs n))
theorem xe9(rs:List Row)(ns:List Str):(xj7 rs ns).length<=ns.length:=List.length_filter_le _ _
theorem xn4(rs:List Row)(ns:List Str)(n:Str):xj7 rs (ns++[n])=xj7 rs ns++(if L3 rs (some n)=some ("anew":Str) then[n] else[]):=by
 unfold xj7
 rw[List.filter_append]
 congr 1
 by_cases h:L3 rs (some n)=some ("anew":Str)
 ·rw[if_pos h,List.filter_cons_of_pos (by exact decide_eq_true h)];rfl
 ·rw[if_neg h,List.filter_cons_of_neg (by simpa using h)];rfl
theorem yl5{f:Str->Bool}:∀ {ns:List Str} {i:Nat} {y:Str},ns[i]?=some y->(∀ z∈ns.take i,f z=true)->f y=false->ns.takeWhile f=ns.take i
 | [],_,_,h,_,_=>by simp at h
 | x::ns,0,y,h,_,hy=>by simp at h;subst h;rw[List.takeWhile_cons,hy];rfl
 | x::ns,i+1,y,h,hz,hy=>by
   rw[List.takeWhile_cons,hz x (by simp),List.take_succ_cons]
   show x::ns.takeWhile f=_
   rw[yl5 (by simpa using h) (fun z hzz=>hz z (by simp[hzz])) hy]
theorem ys3{ns:List Str}{i:Nat}(hy:ns[i]?=some y)(hw:∀ z∈ns.take i,S9 rs z=false)(hwy:S9 rs y=true):X0 rs ns=xj7 rs (ns.take i):=by
 unfold X0
 rw[yl5 hy (fun z hz=>by rw[hw z hz];rfl) (by rw[hwy];rfl)]
theorem za7{ns:List Str}(hw:∀ z∈ns,S9 rs z=false):X0 rs ns=xj7 rs ns:=by
 unfold X0
 congr 1
 induction ns with
 | nil=>rfl
 | cons x ns ih=>rw[List.takeWhile_cons,hw x (by simp)];show x::_=_;rw[ih fun z hz=>hw z (by simp[hz])]
def V1(K:Fg):Sp:=fun vs H Q _=>∃ (v:V) (c:Addr) (ns:List Str) (rs:List Row),vs=[v,.ref c]/\BkO K H v rs/\SqT K H c (B6 ns)/\ns.length<=1000/\∀ (p:Addr) (H':Hp),A7 H H'->H p=none->H' p=some (.lst (B6 (X0 rs ns)))->Q (.ref p) H'
def X1(K:Fg):TS :=
 (C1 (E3 (X6 A9) (B2 2))
 (C1 (qy2 (wc3 K (A2 1)) (B2 3)
 (qn2 K))
 (M3 (A2 2))))
theorem wl8(h:V1 K vs H Q E):X1 K {nx:=fun _ H'=>Q .non H',rt:=Q} (D6 ["book","closed","waiting","name"] vs) H:=by
 obtain⟨v,c,ns,rs,rfl,hk,hc,hl,q⟩:=h
 show X1 K _ [some v,some (.ref c),none,none] H
 unfold X1
 lk
 refine⟨D4 (by z_go),fun p hp=>?_⟩
 have s1:=A7.new hp (.lst [])
 lk
 refine yy6 (.inr hc) s1 (fun i σ H'=>∃ x,σ=[some v,some (.ref c),some (.ref p),x]/\A7 H H'/\H' p=some (.lst (B6 (xj7 rs (ns.take i))))/\∀ y∈ns.take i,S9 rs y=false) ⟨none,rfl,s1,A5,fun y hy=>by cases hy⟩ ?_ ?_ ?_
 ·rintro i σ H' ⟨x,rfl,s,_⟩;exact s
 ·rintro i x σ H' hi ⟨x0,rfl,s,hpp,hw⟩
  obtain⟨y,hy,rfl⟩:=ql3 hi
  refine M4 ?_
  show qn2 K _ _ _
  lk
  refine⟨v,y,rs,rfl,(hk.same s).rws,?_⟩
  lk
  by_cases hwy:S9 rs y=true
  ·rw[hwy]
   x_go
   lk
   have ew:X0 rs ns=xj7 rs (ns.take i):=ys3 hy hw hwy
   rw[<-ew] at hpp
   exact q p H' s hp hpp
  ·have hwf:=Bool.eq_false_iff.mpr hwy
   rw[hwf]
   k_go
   lk
   refine⟨v,some y,rs,rfl,(hk.same s).rws,?_⟩
   lk
   refine yg5 ?_
   lk
   have hw2:∀ z∈ns.take (i+1),S9 rs z=false:=fun z hz=>by
    rw[qn1 hy] at hz
    rcases List.mem_append.mp hz with hz|hz
    ·exact hw z hz
    ·rw[List.mem_singleton.mp hz];exact hwf
   have hwl:=xe9 rs (ns.take i)
   have:(ns.take i).length<=ns.length:=by rw[List.length_take];omega
   by_cases ha:L3 rs (some y)=some ("anew":Str)
   ·rw[decide_eq_true ha]
    x_go
    lk
    refine⟨.inl ⟨rfl,_,SqL.of hpp⟩,?_⟩
    lk
    refine L0 hpp (by rw[C3,sizeLine_eq];omega) ?_
    rw[we4]
    refine⟨_,rfl,A7.put s hp _,?_,hw2⟩
    rw[A5,qn1 hy,xn4,if_pos ha]
   ·rw[decide_eq_false ha]
    k_go
    lk
    exact⟨_,rfl,s,by rw[qn1 hy,xn4,if_neg ha,List.append_nil];exact hpp,hw2⟩
 ·rintro σ H' ⟨x,rfl,s,hpp,hw⟩
  rw[C3,List.take_length] at *
  lk
  refine q p H' s hp ?_
  rw[za7 hw];exact hpp
def N7:List Brn->List Tr
 | []=>[]
 | c::cs=>[Tr.nd c.n (c.ps++N7 cs)]
def clM(i:Int)(rule:Str)(c:Brn):Mnd:=⟨i,i,cls c.n,rule⟩
def xz1(rs:List Row)(bs:List Brn):Bool:=bs.any fun c=>S9 rs c.n
def yl6(rs:List Row)(f:List Str->List Str):List Brn->List Brn
 | []=>[]
 | c::t=>if xz1 rs t=true then c::yl6 rs f t else if S9 rs c.n=true then{c with ws:=f c.ws}::t else c::t
def zz2(f:List Str->List Str):List Brn->List Brn
 | []=>[]
 | c::t=>{c with ws:=f c.ws}::t
def wUp(rs:List Row)(f:List Str->List Str)(bs:List Brn):List Brn:=if xz1 rs bs=true then yl6 rs f bs else zz2 f bs
theorem yl7{bs:List Brn}(h:∀ c∈bs,S9 rs c.n=false):xz1 rs bs=false:=by
 unfold xz1
 rw[List.any_eq_false]
 intro c hc
 rw[h c hc];decide
theorem xz2(h:S9 rs b.n=true):xz1 rs (l1++b::l2)=true:=by
 unfold xz1
 rw[List.any_eq_true]
 exact⟨b,by simp,h⟩
theorem xz3{rs:List Row}{f:List Str->List Str}{b:Brn}{l2:List Brn}(h1:S9 rs b.n=true)(h2:∀ c∈l2,S9 rs c.n=false):∀ l1:List Brn,yl6 rs f (l1++b::l2)=l1++{b with ws:=f b.ws}::l2
 | []=>by
   show(if xz1 rs l2=true then _ else if S9 rs b.n=true then _ else _)=_
   rw[yl7 h2,if_neg (by decide),if_pos h1];rfl
 | c::l1=>by
   show(if xz1 rs (l1++b::l2)=true then c::yl6 rs f (l1++b::l2) else _)=_
   rw[xz2 h1,if_pos rfl,xz3 h1 h2 l1];rfl
theorem wl9(h:LwP rs l1 b l2):wUp rs f (l1++b::l2)=l1++{b with ws:=f b.ws}::l2:=by
 unfold wUp
 rcases h with⟨h1,h2⟩|⟨rfl,h2⟩
 ·rw[xz2 h1,if_pos rfl,xz3 h1 h2]
 ·rw[List.nil_append,yl7 h2,if_neg (by decide)];rfl
section
variable{kR kB r:Addr}{bv:V}{a:RAd}{st:Rst}
theorem RdO.xnd{x:BA}(h:RdO K H kR kB r bv a st)(ea:a.as=m1++x::m2):x.fp.Nodup:=by
 have:=h.apart.2.2.2.2.2.2.2.2.2.2
 rw[ea,R3,P9,List.nodup_append,List.nodup_append] at this
 exact this.2.1.1
theorem RdO.up(h:RdO K H kR kB r bv a st)(s:A7 H H'):Rup K kR kB r bv H a H' a st:=.keep (h.same s) fun c o e _=>s c o e
theorem Rup.wait{x:BA}{ws:List Str}(h:RdO K H kR kB r bv a st)(ea:a.as=m1++x::m2)(eb:st.bs=l1++b::l2)(hl:m1.length=l1.length) :
 Rup K kR kB r bv H a (upd H x.w (.lst (B6 ws))) {a with as:=m1++x::m2} {st with bs:=l1++{b with ws:=ws}::l2}:=by
 have hb:=h.b
 rw[ea,eb] at hb
 have hx:=(hb.split hl).2.1
 have xnd:=h.xnd ea
 have no:x.o≠x.w:=by simp[BA.fp] at xnd;exact xnd.1.2
 have nq:x.q≠x.w:=by simp[BA.fp] at xnd;exact xnd.2
 have tk:T4 H (upd H x.w (.lst (B6 ws))):=N5 (.inl ⟨_,hx.w⟩)
 obtain⟨us,q1,q2⟩:=hx.q
 refine Rup.swap h ea eb hl (fun z u e n=>E7 e fun y=>n (by rw[y];simp[BA.fp])) ⟨E7 hx.o no,tk.sqT hx.p,⟨us,E7 q1 nq,Dvs.tupK tk _ _ (qf8 _) q2⟩,A5⟩ (fun z hz=>.inl hz) xnd rfl
end
abbrev Z9(K:Fg)(k_Reader:Addr):TS :=
 (C1 (I9 (tBM K "list" J4 (S5 K (A2 0) "mends") (A1 (Q3 (A1 (A2 2) (A1 (A2 2) (A1 (D1 (qk9 K) [] E0 (A1 (A2 5) A9)) (A1 (A2 3) A9))))) A9)))
 (I9 (N1 k_Reader "leave" (O8 K) [] E0 (A2 0) A9)))
abbrev qa0(K:Fg)(k_Reader:Addr):TS :=
 (I9 (tBM K "list" wz6 (S5 K (N1 k_Reader "last_wall" (M2 K) [] E0 (A2 0) A9) "waiting") (A1 (D1 (V1 K) [] E0 (A1 (S5 K (A2 0) "book") (A1 (A2 4) A9))) A9)))
abbrev qa1(K:Fg)(k_Reader:Addr):TS :=
 (C1 (qy2 (yy1 K (A1 (A2 4) A9)) (B2 5)
 (Z9 K k_Reader))
 (qa0 K k_Reader))
def J9(K:Fg):Sp:=fun vs H Q _=>∃ (kR kB r:Addr) (bv:V) (a:RAd) (st:Rst) (rs:List Row) (pre cl:List Brn) (b:Brn) (i:Int) (rule:Str),vs=[.ref r,.int pre.length,.int i,.str rule]/\RdO K H kR kB r bv a st/\BkO K H bv rs/\st.bs=pre++b::cl/\st.bs.length<=900/\(∀ c∈st.bs,c.n.length<=4000/\c.ps.length<=9000000/\c.ws.length<=9000000)/\st.ms.length+cl.length<=9000000/\∀ a' H',Rup K kR kB r bv H a H' a' {st with bs:=wUp rs (·++X0 rs (cl.map Brn.n)) (pre++[{b with ps:=b.ps++N7 cl}]),ms:=st.ms++cl.reverse.map (clM i rule)}->C2 H H'->Q .non H'
def P1(K:Fg)(k_Reader:Addr):TS :=
 (C1 (E3 (tSl (ye5 K) (N1 k_Reader "open_names" (D9 K) [] E0 (A2 0) A9) (X8 (A2 1)) qf4) (B2 4))
 (qa1 K k_Reader))
theorem qu6(cz:Cz K k_Branch k_Reader)(h:J9 K vs H Q E):P1 K k_Reader {nx:=fun _ H'=>Q .non H',rt:=Q} (D6 ["self","kept","start","rule","closed","name"] vs) H:=by
 obtain⟨kR,kB,r,bv,a,st,rs,pre,cl,b,i,rule,rfl,h,hk,eb,hl,hall,hms,q⟩:=h
 obtain rfl:=M9 cz.ns_Reader h.kr
 obtain rfl:=M9 cz.ns_Branch h.kb
 show P1 K _ _ [some (.ref r),some (.int pre.length),some (.int i),some (.str rule),none,none] H
 unfold P1
 obtain⟨b0,bs0,eb0⟩:∃ b0 bs0,st.bs=b0::bs0:=by rw[eb];cases pre <;> exact⟨_,_,rfl⟩
 have hl0:bs0.length<=1000:=by rw[eb0] at hl;simp at hl;omega
 have hdrop:bs0.drop pre.length=cl:=by
  have e:(b0::bs0).drop (pre.length+1)=cl:=by
   rw[<-eb0,eb,show pre++b::cl=(pre++[b])++cl by simp]
   rw[List.drop_left' (by simp)]
  simpa using e
 lk
 refine E5 ?_
 lk
 refine⟨r,_,_,rfl,h.o,rfl,?_⟩
 lk
 refine⟨k_Reader,k_Branch,r,bv,a,st,b0,bs0,rfl,h,eb0,hl0,fun p H1 s1 hp=>?_⟩
 lk
 refine xw3 hp fun c H2 s2 hc=>?_
 have ecut:ql8 (B6 (bs0.map Brn.n)) (some (pre.length:Int)) none=B6 (cl.map Brn.n):=by
  rw[wu3 (by omega),Int.toNat_natCast,<-hdrop]
  simp[B6,List.map_drop]
 rw[ecut] at hc
 have s12:=A7.tr s1 s2
 have h2:=h.same s12
 have hk2:=hk.same s12
 show qa1 K _ _ _ _
 lk
 refine zh7 ?_
 lk
 have hcll:cl.length<=900:=by rw[eb] at hl;simp at hl;omega
 refine yy2 hc (fun j σ H'=>∃ x a' A y C,σ=[some (.ref r),some (.int pre.length),some (.int i),some (.str rule),some (.ref c),x]/\pre++b::cl=A++y::C/\C.length=j/\j<=cl.length/\Rup K k_Reader k_Branch r bv H2 a H' a' {st with bs:=A++[{y with ps:=y.ps++N7 C}],ms:=st.ms++C.reverse.map (clM i rule)}/\C2 H2 H') ?_ ?_ ?_ ?_
 ·obtain⟨A,y,e⟩:∃ A y,pre++b::cl=A++[y]:=by
   rcases List.eq_nil_or_concat (pre++b::cl) with e|⟨A,y,e⟩
   ·simp at e
   ·exact⟨A,y,by rw[e,List.concat_eq_append]⟩
  refine⟨none,a,A,y,[],rfl,e,rfl,Nat.zero_le _,?_,fun z hz=>hz⟩
  have:({st with bs:=A++[{y with ps:=y.ps++N7 []}],ms:=st.ms++[].reverse.map (clM i rule)}:Rst)=st:=by
   cases st
   simp only[N7,List.append_nil,List.reverse_nil,List.map_nil] at *
   rw[eb,e]
  rw[this]
  exact .keep h2 fun c o e _=>e
 ·rintro j σ H' ⟨x,a',A,y,C,rfl,_,_,_,u,_⟩
  exact(u.tupK h2).sqT hc
 ·rintro j v σ H' hv hj ⟨x0,a',A,y,C,rfl,e,eC,hjc,u,g⟩
  obtain⟨nm,hnm,rfl⟩:=ql3 hv
  rw[C3,List.length_map] at hj
  rw[C3,List.length_map,List.getElem?_map] at hnm
  obtain⟨y2,hy2,rfl⟩:=Option.map_eq_some_iff.mp hnm
  have hlen:A.length=(pre++[b]).length+(cl.length-1-j):=by
   have:=congrArg List.length e
   simp only[List.length_append,List.length_cons,List.length_nil] at this ⊢
   omega
  have hyy:y2=y:=by
   have e1:(A++y::C)[A.length]?=some y:=by simp
   rw[<-e,show pre++b::cl=(pre++[b])++cl by simp,hlen,List.getElem?_append_right (by omega),Nat.add_sub_cancel_left,hy2] at e1
   exact Option.some.inj e1
  subst hyy
  obtain⟨A',x,rfl⟩:∃ A' x,A=A'++[x]:=by
   rcases List.eq_nil_or_concat A with e1|⟨A',x,e1⟩
   ·subst e1;simp at hlen;omega
   ·exact⟨A',x,by rw[e1,List.concat_eq_append]⟩
  have inst:∀ z,z∈A'++x::y2::C->z∈st.bs:=fun z hz=>by rw[eb,e];simpa using hz
  have hx:=hall x (inst x (by simp))
  have hy:=hall y2 (inst y2 (by simp))
  obtain⟨us,m1,m2⟩:=u.ok.m
  have hul:=RdO.ms_len m2
  refine M4 ?_
  show Z9 K _ _ _ _
  lk
  refine E9 ?_
  lk
  refine⟨r,_,a'.x,_,_,rfl,u.ok.o,cz.cl_Reader,cz.na_Reader_mends,rfl,?_⟩
  lk
  refine⟨.inl ⟨rfl,_,SqL.of m1⟩,?_⟩
  lk
  refine⟨y2.n,rfl,hy.1,?_⟩
  lk
  refine⟨D4 (by z_go),fun w hw=>?_⟩
  lk
  have s3:=A7.new hw (.tup [.int i,.int i,.str (cls y2.n),.str rule])
  refine L0 (s3 _ _ m1) (by rw[hul,sizeLine_eq];simp;omega) ?_
  have u1:=Rup.mend u.ok s3 (SqT.of A5) m2
  have g1:C2 H' (upd (upd H' w (.tup [.int i,.int i,.str (cls y2.n),.str rule])) a'.M (.lst (us++[.ref w]))):=C2.tr C2.upd C2.upd
  generalize upd (upd H' w (.tup [.int i,.int i,.str (cls y2.n),.str rule])) a'.M (.lst (us++[.ref w]))=H3 at *
  lk
  refine E5 ?_
  lk
  refine⟨r,_,_,rfl,u1.ok.o,rfl,?_⟩
  lk
  refine⟨k_Reader,k_Branch,r,bv,a',_,A',x,{y2 with ps:=y2.ps++N7 C},rfl,u1.ok,by simp,hx.2.1,fun a2 H4 u2 g2=>?_⟩
  refine⟨_,a2,A',x,y2::C,rfl,by rw[e];simp,by simp[eC],by omega,?_,C2.tr (C2.tr g g1) g2⟩
  have:=(u.tr u1 g).tr u2 (C2.tr g g1)
  rw[List.reverse_cons,List.map_append,<-List.append_assoc]
  exact this
 ·rintro σ H' ⟨x,a',A,y,C,rfl,e,eC,_,u,g⟩
  rw[C3,List.length_map] at eC
  obtain⟨e1,e2⟩:=List.append_inj e (by have:=congrArg List.length e;simp at this;omega)
  obtain⟨rfl,rfl⟩:=List.cons.inj e2
  subst e1
  have tk:=u.tupK h2
  have hk3:=hk2.tupK tk
  have hc3:=tk.sqT hc
  have hlen3:(pre++[{b with ps:=b.ps++N7 cl}]:List Brn).length<=900:=by rw[eb] at hl;simp at hl ⊢;omega
  show qa0 K _ _ _ _
  lk
  refine E9 ?_
  refine E5 ?_
  lk
  refine⟨r,_,_,rfl,u.ok.o,rfl,?_⟩
  lk
  refine⟨k_Reader,k_Branch,r,bv,a',_,rs,rfl,u.ok,hk3,by simp,by show(pre++[_]).length<=1000;omega,fun m1 m2 x2 l1 l2 b2 H4 s4 ea2 eb2 hm2 lw=>?_⟩
  have h4:=u.ok.same s4
  have hb4:=h4.b
  rw[ea2,eb2] at hb4
  have hx4:=(hb4.split hm2).2.1
  have hws:b2.ws.length<=9000000:=by
   have:b2∈(pre++[{b with ps:=b.ps++N7 cl}]:List Brn):=by
    have e3:(pre++[{b with ps:=b.ps++N7 cl}]:List Brn)=l1++b2::l2:=eb2
    rw[e3];simp
   rcases List.mem_append.mp this with h1|h1
   ·exact(hall b2 (by rw[eb];simp[h1])).2.2
   ·rw[List.mem_singleton.mp h1];exact(hall b (by rw[eb];simp)).2.2
  refine⟨x2.o,_,x2.x,_,_,rfl,hx4.o,cz.cl_Branch,cz.na_Branch_waiting,rfl,?_⟩
  lk
  refine⟨.inl ⟨rfl,_,SqL.of hx4.w⟩,?_⟩
  lk
  refine E9 ?_
  lk
  refine⟨r,_,a'.x,_,_,rfl,h4.o,cz.cl_Reader,cz.na_Reader_book,rfl,?_⟩
  lk
  refine⟨bv,c,cl.map Brn.n,rs,rfl,hk3.same s4,s4.sqT hc3,by rw[List.length_map];omega,fun w H5 s5 hw0 hw=>?_⟩
  lk
  have hwl:=xe9 rs ((cl.map Brn.n).takeWhile fun n=>!(S9 rs n))
  have hwl2:(X0 rs (cl.map Brn.n)).length<=900:=by
   have h1:((cl.map Brn.n).takeWhile fun n=>!(S9 rs n)).length<=(cl.map Brn.n).length:=(List.takeWhile_sublist _).length_le
   rw[List.length_map] at h1
   unfold X0;omega
  refine yy0 (s5 _ _ hx4.w) hw (by rw[C3,C3,sizeLine_eq];omega) ?_
  have h5:=h4.same s5
  have uw:=Rup.wait (ws:=b2.ws++X0 rs (cl.map Brn.n)) h5 ea2 eb2 hm2
  have es:B6 b2.ws++B6 (X0 rs (cl.map Brn.n))=B6 (b2.ws++X0 rs (cl.map Brn.n)):=by simp[B6]
  rw[es]
  have uu:=((((h.up s12).tr u (A7.grow s12)).tr (u.ok.up s4) (C2.tr (A7.grow s12) g)).tr (h4.up s5) (C2.tr (C2.tr (A7.grow s12) g) (A7.grow s4))).tr uw (C2.tr (C2.tr (C2.tr (A7.grow s12) g) (A7.grow s4)) (A7.grow s5))
  refine q {a' with as:=m1++x2::m2} _ ?_ (C2.tr (C2.tr (C2.tr (C2.tr (A7.grow s12) g) (A7.grow s4)) (A7.grow s5)) C2.upd)
  have e3:(pre++[{b with ps:=b.ps++N7 cl}]:List Brn)=l1++b2::l2:=eb2
  rw[e3,wl9 lw]
  exact uu
def V2(K:Fg):Sp:=fun vs H Q _=>∃ (kR kB r:Addr) (bv:V) (a:RAd) (st:Rst) (rs:List Row) (cl:List Brn) (b:Brn) (i:Int),vs=[.ref r,.int i]/\RdO K H kR kB r bv a st/\BkO K H bv rs/\st.bs=b::cl/\st.bs.length<=900/\(∀ c∈st.bs,c.n.length<=4000/\c.ps.length<=9000000/\c.ws.length<=9000000)/\st.ms.length+cl.length<=9000000/\∀ a' H',Rup K kR kB r bv H a H' a' {st with bs:=wUp rs (·++X0 rs (cl.map Brn.n)) [{b with ps:=b.ps++N7 cl}],ms:=st.ms++cl.reverse.map (clM i "end")}->C2 H H'->Q .non H'
def X2(K:Fg)(k_Reader:Addr):TS :=
 (I9 (N1 k_Reader "close_behind" (J9 K) [] E0 (A2 0) (A1 (tC (.int 0)) (A1 (A2 1) (A1 (tC (.str "end")) A9)))))
theorem wm0(cz:Cz K k_Branch k_Reader)(h:V2 K vs H Q E):X2 K k_Reader {nx:=fun _ H'=>Q .non H',rt:=Q} (D6 ["self","size"] vs) H:=by
 obtain⟨kR,kB,r,bv,a,st,rs,cl,b,i,rfl,h,hk,eb,hl,hall,hms,q⟩:=h
 obtain rfl:=M9 cz.ns_Reader h.kr
 show X2 K _ _ [some (.ref r),some (.int i)] H
 unfold X2
 lk
 refine E5 ?_
 lk
 refine⟨r,_,_,rfl,h.o,rfl,?_⟩
 lk
 exact⟨k_Reader,kB,r,bv,a,st,rs,[],cl,b,i, "end",rfl,h,hk,eb,hl,hall,hms,q⟩
def adP(ps:List Tr)(t:Str):List Tr:=match ps.getLast? with|some (.tx u)=>ps.dropLast++[.tx (u++t)]|_=>ps++[.tx t]
def adN(ps:List Tr):Nat:=match ps.getLast? with|some (.tx _)=>ps.length-1|_=>ps.length
def adA(ps:List Tr):Nat:=match ps.getLast? with|some (.tx u)=>u.length|_=>0
def J6(st:Rst):List Str:=st.bs.tail.map Brn.n
def xj8:Brn:=⟨"",[],[],[]⟩
def Y3(bs:List Brn):Brn:=bs.getLastD xj8
def we8(b:Brn)(n:Str):Brn:=⟨n,b.pl++[(b.ps.length:Int)],[],[]⟩
def qh9(bs:List Brn)(n:Str):List Brn:=bs++[we8 (Y3 bs) n]
def wm1(st:Rst)(n:Str)(i:Int)(rule:Str):Rst:={st with bs:=qh9 st.bs n,ms:=st.ms++[⟨i,i,opn n,rule⟩]}
def P2(st:Rst)(ns:List Str)(i:Int)(rule:Str):Rst:=ns.foldl (fun s n=>wm1 s n i rule) st
def dropS(st:Rst)(i:Int)(g rule:Str):Rst:={st with ms:=st.ms++[⟨i,i+g.length, "",rule⟩]}
def Q0(rs:List Row)(st:Rst)(kept:Nat)(i:Int)(rule:Str):Rst:={st with bs:=wUp rs (·++X0 rs ((st.bs.drop (kept+1)).map Brn.n)) (st.bs.take kept++[{(st.bs.getD kept xj8) with ps:=(st.bs.getD kept xj8).ps++N7 (st.bs.drop (kept+1))}]),ms:=st.ms++(st.bs.drop (kept+1)).reverse.map (clM i rule)}
def lvB(bs:List Brn):List Brn:=bs.dropLast.dropLast++[{(Y3 bs.dropLast) with ps:=(Y3 bs.dropLast).ps++[Tr.nd (Y3 bs).n (Y3 bs).ps]}]
def lvS(st:Rst):Rst:={st with bs:=lvB st.bs}
def lwS(rs:List Row)(bs:List Brn):List Str:=match bs.reverse.find? fun c=>S9 rs c.n with|some b=>b.ws|none=>(bs.headD xj8).ws
def wj0(rs:List Row)(ns:List Str)(n:Str):Bool:=decide (ns.length<20) && !((qc7 rs ns).any fun y=>decide (y∈n::(qo1 rs n++we5 rs n)))
def qf0(rs:List Row)(i:Int)(st:Rst)(n:Str):Rst:=if wj0 rs (J6 st) n=true then wm1 st n i "anew" else st
def qm1(rs:List Row)(i:Int)(st:Rst):Rst:=(lwS rs st.bs).foldl (qf0 rs i) {st with bs:=wUp rs (fun _=>[]) st.bs}
def zi9(i:Int)(g:Str)(k:Nat):Mnd:=⟨i+k,i+k+1,if g.cps.toList[k]?=some 60 then "&l;" else "&a;","sign"⟩
def txS(st:Rst)(i:Int)(g t:Str):Rst:={st with bs:=st.bs.dropLast++[{(Y3 st.bs) with ps:=adP (Y3 st.bs).ps t}],ls:=st.ls++[⟨i,g,(Y3 st.bs).pl++[(adN (Y3 st.bs).ps:Int)],adA (Y3 st.bs).ps⟩]}
def woL(ws:List Str)(n:Str):List Str:=(ws.reverse.erase n).reverse
def opS(rs:List Row)(rk:Str->Nat)(st:Rst)(i:Int)(g n:Str):Rst :=
 if L3 rs (some n)=none then dropS st i g "strange" else
 if bar rs ((J6 st).take (L1 rs rk (J6 st) 13 n).1) (L1 rs rk (J6 st) 13 n).2=true then dropS st i g "barred" else
 if 20<(L1 rs rk (J6 st) 13 n).1+(L1 rs rk (J6 st) 13 n).2.length then dropS st i g "deep" else
 let s2:=P2 (Q0 rs st (L1 rs rk (J6 st) 13 n).1 i "shut") (L1 rs rk (J6 st) 13 n).2.dropLast i "frame"
 if L3 rs (some n)=some ("bare":Str) then lvS {s2 with bs:=qh9 s2.bs n} else{s2 with bs:=qh9 s2.bs n}
def qw6(rs:List Row)(rk:Str->Nat)(st:Rst)(i:Int)(g n:Str):Rst:=match clo rs rk (J6 st) n (J6 st).length with
 | some k=>lvS (Q0 rs st (k+1) i "left")
 | none=>if n∈lwS rs st.bs then{(dropS st i g "late") with bs:=wUp rs (fun ws=>woL ws n) st.bs} else dropS st i g "stray"
def wa0(t:Str):Bool:=decide (PySem.Txt.stripChars t (" \n":Str)=("":Str))
def O4(rs:List Row)(st:Rst):List Str:=L9 rs (P6 (J6 st))
def wb2(st:Rst)(i:Int)(g:Str):Rst:={st with ms:=st.ms++(qe9 g.cps.toList g.cps.toList.length).map (zi9 i g)}
def U5(rs:List Row)(st:Rst)(i:Int)(g t:Str):Rst :=
 if L3 rs (some (P6 (J6 st)))=some ("frame":Str)/\wa0 t=true then dropS st i g "blank" else
 if 20<(J6 st).length+(O4 rs st).length then dropS st i g "deep" else
 txS (wb2 (qm1 rs i (P2 st (O4 rs st) i "host")) i g) i g t
def qn3(rs:List Row)(rk:Str->Nat)(st:Rst)(kind:Str)(i:Int)(g t:Str):Rst :=
 if kind=("open":Str) then opS rs rk st i g t else if kind=("close":Str) then qw6 rs rk st i g t else U5 rs st i g t
section
variable{rs:List Row}{bs l1 l2:List Brn}{b:Brn}
theorem qq3(l:List Brn)(b:Brn):Y3 (l++[b])=b:=by unfold Y3;simp
theorem xz4(rs:List Row)(h:bs≠[]):∃ l1 b l2,bs=l1++b::l2/\LwP rs l1 b l2:=by
 rcases List.eq_nil_or_concat (bs.filter fun c=>S9 rs c.n) with e|⟨zs,z,e⟩
 ·obtain⟨b,l2,rfl⟩:=List.exists_cons_of_ne_nil h
  exact⟨[],b,l2,rfl,.inr ⟨rfl,fun c hc=>Bool.eq_false_iff.mpr (List.filter_eq_nil_iff.mp e c hc)⟩⟩
 ·rw[List.concat_eq_append] at e
  obtain⟨A,B,e1,e2,e3⟩:=wx4 e
  exact⟨A,z,B,e1,.inl ⟨e2,e3⟩⟩
theorem xf0(h:LwP rs l1 b l2):lwS rs (l1++b::l2)=b.ws:=by
 unfold lwS
 rcases h with⟨h1,h2⟩|⟨rfl,h2⟩
 ·have:(l1++b::l2).reverse.find? (fun c=>S9 rs c.n)=some b:=by
   rw[List.reverse_append,List.reverse_cons,List.append_assoc,List.find?_append,List.find?_eq_none.mpr fun c hc=>by rw[h2 c (List.mem_reverse.mp hc)];decide]
   rw[Option.none_or,List.singleton_append,List.find?_cons,h1]
  rw[this]
 ·have:(([]:List Brn)++b::l2).reverse.find? (fun c=>S9 rs c.n)=none:=List.find?_eq_none.mpr fun c hc=>by
   rw[h2 c (by simpa [or_comm] using hc)];decide
  rw[this];rfl
theorem wq1{g:Brn->α}(hg:∀ b ws,g {b with ws:=ws}=g b)(bs:List Brn):(wUp rs f bs).map g=bs.map g:=by
 cases bs with
 | nil=>unfold wUp;split <;> rfl
 | cons c t =>
   obtain⟨l1,b,l2,e,h⟩:=xz4 rs (bs:=c::t) (by simp)
   rw[e,wl9 h]
   simp[hg]
theorem wq2(bs:List Brn):(wUp rs f bs).length=bs.length:=by
 have:=congrArg List.length (wq1 (rs:=rs) (f:=f) (g:=Brn.n) (fun _ _=>rfl) bs)
 simpa using this
theorem zj0(bs:List Brn):(wUp rs f bs).tail.map Brn.n=bs.tail.map Brn.n:=by
 rw[List.map_tail,List.map_tail,wq1 fun _ _=>rfl]
theorem zj1{x:Brn}(h:x∈wUp rs f bs):∃ b∈bs,x=b\/x={b with ws:=f b.ws}:=by
 cases bs with
 | nil=>unfold wUp at h;split at h <;> cases h
 | cons c t =>
   obtain⟨l1,b,l2,e,h2⟩:=xz4 rs (bs:=c::t) (by simp)
   rw[e,wl9 h2] at h
   rw[e]
   rcases List.mem_append.mp h with h|h
   ·exact⟨x,by simp[h],.inl rfl⟩
   ·rcases List.mem_cons.mp h with h|h
    ·exact⟨b,by simp,.inr h⟩
    ·exact⟨x,by simp[h],.inl rfl⟩
theorem xr3(h:bs≠[]):wUp rs f bs≠[]:=fun e=>h (by
 have:=wq2 (rs:=rs) (f:=f) bs
 rw[e] at this
 exact List.eq_nil_of_length_eq_zero this.symm)
structure BB(rs:List Row)(P W T:Nat)(c:Brn):Prop where
 n:c.n.length<=4000
 ps:c.ps.length<=P
 ws:c.ws.length<=W
 wr:∀ n∈c.ws,∃ r∈rs,Row.name r=n
 t:adA c.ps<=T
structure Bg(rs:List Row)(P W M D T:Nat)(st:Rst):Prop where
 c:∀ c∈st.bs,BB rs P W T c
 pl:st.bs.map (fun c=>c.pl.length)=List.range st.bs.length
 nr:∀ c∈st.bs.tail,∃ r∈rs,Row.name r=c.n
 ne:st.bs≠[]
 l:st.bs.length<=21
 m:st.ms.length<=M
 d:st.ls.length<=D
variable{P W M D T:Nat}{st:Rst}
theorem BB.mono{c:Brn}(h:BB rs P W T c)(h1:P<=P')(h2:W<=W')(h3:T<=T'):BB rs P' W' T' c:=⟨h.n,by have:=h.ps;omega,by have:=h.ws;omega,h.wr,by have:=h.t;omega⟩
theorem Bg.mono{M' D':Nat}(h:Bg rs P W M D T st)(h1:P<=P')(h2:W<=W')(h3:M<=M')(h4:D<=D')(h5:T<=T'):Bg rs P' W' M' D' T' st :=
 ⟨fun c hc=>(h.c c hc).mono h1 h2 h5,h.pl,h.nr,h.ne,h.l,by have:=h.m;omega,by have:=h.d;omega⟩
theorem Bg.nlen(h:Bg rs P W M D T st):(J6 st).length+1=st.bs.length:=by
 unfold J6
 rw[List.length_map,List.length_tail]
 have:0<st.bs.length:=List.length_pos_iff.mpr h.ne
 omega
theorem Bg.snoc(h:Bg rs P W M D T st):∃ l b,st.bs=l++[b]/\Y3 st.bs=b/\b.pl.length=l.length/\BB rs P W T b:=by
 rcases List.eq_nil_or_concat st.bs with e|⟨l,b,e⟩
 ·exact absurd e h.ne
 ·rw[List.concat_eq_append] at e
  have hp:=h.pl
  rw[e,List.map_append,List.length_append,List.length_singleton,List.range_succ] at hp
  have:=(List.append_inj' hp rfl).2
  exact⟨l,b,e,by rw[e,qq3],by simpa using this,h.c b (by rw[e];simp)⟩
theorem Bg.drop(h:Bg rs P W M D T st):Bg rs P W (M+1) D T (dropS st i g rule) :=
 ⟨h.c,h.pl,h.nr,h.ne,h.l,by show(st.ms++[_]).length<=_;have:=h.m;simp;omega,h.d⟩
theorem Bg.ent(h:Bg rs P W M D T st)(hl:st.bs.length<=20)(hn:n.length<=4000)(hr:∃ r∈rs,Row.name r=n):Bg rs P W M D T {st with bs:=qh9 st.bs n}:=by
 obtain⟨l,b,e,e2,hp,hb⟩:=h.snoc
 refine⟨fun c hc=>?_,?_,fun c hc=>?_,by show _++[_]≠[];simp,by show(st.bs++[_]).length<=_;rw[List.length_append,List.length_singleton];omega,h.m,h.d⟩
 ·rcases List.mem_append.mp hc with hc|hc
  ·exact h.c c hc
  ·rw[List.mem_singleton.mp hc]
   exact⟨hn,Nat.zero_le _,Nat.zero_le _,fun n hn=>(by cases hn),Nat.zero_le _⟩
 ·show(st.bs++[we8 (Y3 st.bs) n]).map _=List.range (st.bs++[_]).length
  rw[List.map_append,h.pl,List.length_append,List.length_singleton,List.range_succ,e2]
  congr 1
  show[(b.pl++[_]).length]=_
  rw[List.length_append,hp,e,List.length_append];rfl
 ·have ht:(st.bs++[we8 (Y3 st.bs) n]).tail=st.bs.tail++[we8 (Y3 st.bs) n]:=List.tail_append_of_ne_nil h.ne
  have hc':c∈(st.bs++[we8 (Y3 st.bs) n]).tail:=hc
  rw[ht] at hc'
  rcases List.mem_append.mp hc' with hc|hc
  ·exact h.nr c hc
  ·rw[List.mem_singleton.mp hc];exact hr
theorem Bg.put(h:Bg rs P W M D T st)(hl:st.bs.length<=20)(hn:n.length<=4000)(hr:∃ r∈rs,Row.name r=n):Bg rs P W (M+1) D T (wm1 st n i rule):=by
 have:=h.ent hl hn hr
 exact⟨this.c,this.pl,this.nr,this.ne,this.l,by show(st.ms++[_]).length<=_;have:=h.m;simp;omega,h.d⟩
theorem qw7(st:Rst)(n:Str)(i:Int)(rule:Str):(wm1 st n i rule).bs.length=st.bs.length+1:=by show(st.bs++[_]).length=_;simp
theorem wh5:∀ (ns:List Str) (st:Rst) (i:Int) (rule:Str),(P2 st ns i rule).bs.length=st.bs.length+ns.length
 | [],st,i,rule=>rfl
 | n::ns,st,i,rule=>by
   show(P2 (wm1 st n i rule) ns i rule).bs.length=_
   rw[wh5 ns,qw7,List.length_cons];omega
theorem Bg.puts:∀ {ns:List Str} {M:Nat} {st:Rst} {i:Int} {rule:Str},Bg rs P W M D T st->st.bs.length+ns.length<=21->(∀ n∈ns,n.length<=4000/\∃ r∈rs,Row.name r=n)->Bg rs P W (M+ns.length) D T (P2 st ns i rule)
 | [],M,st,i,rule,h,_,_=>h
 | n::ns,M,st,i,rule,h,hl,hn=>by
   rw[List.length_cons] at hl
   have:=Bg.puts (ns:=ns) (i:=i) (rule:=rule) (h.put (n:=n) (i:=i) (rule:=rule) (by omega) (hn n (by simp)).1 (hn n (by simp)).2) (by rw[qw7];omega) fun m hm=>hn m (by simp[hm])
   rw[List.length_cons,show M+(ns.length+1)=M+1+ns.length by omega]
   exact this
theorem Bg.wup(h:Bg rs P W M D T st)(hW:W<=W')(hf:∀ c∈st.bs,(f c.ws).length<=W'/\∀ n∈f c.ws,∃ r∈rs,Row.name r=n):Bg rs P W' M D T {st with bs:=wUp rs f st.bs}:=by
 refine⟨fun c hc=>?_,?_,?_,xr3 h.ne,by show(wUp rs f st.bs).length<=_;rw[wq2];exact h.l,h.m,h.d⟩
 ·obtain⟨b,hb,e⟩:=zj1 hc
  have hB:=h.c b hb
  rcases e with rfl|rfl
  ·exact hB.mono (Nat.le_refl _) hW (Nat.le_refl _)
  ·exact⟨hB.n,hB.ps,(hf b hb).1,(hf b hb).2,hB.t⟩
 ·show(wUp rs f st.bs).map _=List.range (wUp rs f st.bs).length
  rw[wq1 fun _ _=>rfl,wq2];exact h.pl
 ·intro c hc
  have h1:c.n∈(wUp rs f st.bs).tail.map Brn.n:=List.mem_map_of_mem hc
  rw[zj0] at h1
  obtain⟨b,hb,e⟩:=List.mem_map.mp h1
  rw[<-e];exact h.nr b hb
theorem za8{ns:List Str}(h:n∈X0 rs ns):n∈ns:=(List.takeWhile_sublist _).mem (List.mem_filter.mp h).1
theorem ys4(cl:List Brn):(N7 cl).length<=1:=by cases cl <;> simp[N7]
theorem za9{ps:List Tr}:adA (ps++N7 cl)<=adA ps:=by
 cases cl with
 | nil=>rw[N7,List.append_nil];exact Nat.le_refl _
 | cons c cl =>
   rw[N7]
   unfold adA
   rw[List.getLast?_concat]
   exact Nat.zero_le _
theorem zt3{ps:List Tr}{qs:List Tr}:adA (ps++[Tr.nd n qs])=0:=by
 unfold adA
 rw[List.getLast?_concat]
theorem zj2(ps:List Tr)(t:Str):(adP ps t).length<=ps.length+1:=by
 unfold adP
 split
 ·rw[List.length_append,List.length_dropLast,List.length_singleton];omega
 ·rw[List.length_append,List.length_singleton];omega
theorem zj3(ps:List Tr)(t:Str):adA (adP ps t)=adA ps+t.length:=by
 unfold adP
 cases h:ps.getLast? with
 | none =>
   have e:adA ps=0:=by unfold adA;rw[h]
   rw[e]
   unfold adA
   rw[List.getLast?_concat]
   show t.length=_
   omega
 | some x =>
   cases x with
   | tx u =>
     have e:adA ps=u.length:=by unfold adA;rw[h]
     rw[e]
     unfold adA
     rw[List.getLast?_concat]
     exact I0 u t
   | nd n qs =>
     have e:adA ps=0:=by unfold adA;rw[h]
     rw[e]
     unfold adA
     rw[List.getLast?_concat]
     show t.length=_
     omega
theorem xr4{bs:List Brn}(h:k<bs.length):bs.getD k xj8=bs[k]:=by simp[List.getD,h]
theorem wh6{kept:Nat}:(Q0 rs st kept i rule).bs.length=(st.bs.take kept).length+1:=by
 show(wUp rs _ _).length=_
 rw[wq2];simp
theorem Bg.cls{kept:Nat}(h:Bg rs P W M D T st)(hk:kept<st.bs.length):Bg rs (P+1) (W+20) (M+20) D T (Q0 rs st kept i rule):=by
 have hb:=h.c (st.bs[kept]) (List.getElem_mem hk)
 have hcl:(st.bs.drop (kept+1)).length<=20:=by rw[List.length_drop];have:=h.l;omega
 have hnl:=ys4 (st.bs.drop (kept+1))
 have e0:st.bs.getD kept xj8=st.bs[kept]:=xr4 hk
 have b1:Bg rs (P+1) W (M+20) D T {st with bs:=st.bs.take kept++[{(st.bs[kept]) with ps:=(st.bs[kept]).ps++N7 (st.bs.drop (kept+1))}],ms:=st.ms++(st.bs.drop (kept+1)).reverse.map (clM i rule)}:=by
  refine⟨fun c hc=>?_,?_,fun c hc=>?_,by show _++[_]≠[];simp,?_,?_,h.d⟩
  ·rcases List.mem_append.mp hc with hc|hc
   ·exact(h.c c (List.mem_of_mem_take hc)).mono (by omega) (by omega) (by omega)
   ·rw[List.mem_singleton.mp hc]
    refine⟨hb.n,?_,hb.ws,hb.wr,Nat.le_trans za9 hb.t⟩
    show(_++_:List Tr).length<=_
    rw[List.length_append];have:=hb.ps;omega
  ·show(st.bs.take kept++[_]).map _=List.range (st.bs.take kept++[_]).length
   rw[List.map_append,List.map_singleton]
   show List.map (fun c=>c.pl.length) (st.bs.take kept)++[(st.bs[kept]).pl.length]=_
   rw[<-List.map_singleton (f:=fun c:Brn=>c.pl.length),<-List.map_append,<-qn1 (List.getElem?_eq_getElem hk),List.map_take,h.pl,List.take_range,List.length_append,List.length_take,List.length_singleton]
   congr 1
   omega
  ·have hc':c∈(st.bs.take kept++[{(st.bs[kept]) with ps:=(st.bs[kept]).ps++N7 (st.bs.drop (kept+1))}]).tail:=hc
   have h1:c.n∈((st.bs.take kept++[{(st.bs[kept]) with ps:=(st.bs[kept]).ps++N7 (st.bs.drop (kept+1))}]).tail).map Brn.n:=List.mem_map_of_mem hc'
   rw[List.map_tail,List.map_append,List.map_singleton] at h1
   have h2:c.n∈(List.map Brn.n (st.bs.take kept)++[(st.bs[kept]).n]).tail:=h1
   rw[<-List.map_singleton (f:=Brn.n),<-List.map_append,<-qn1 (List.getElem?_eq_getElem hk),<-List.map_tail] at h2
   obtain⟨b,hb,e⟩:=List.mem_map.mp h2
   rw[<-e]
   refine h.nr b ?_
   have h3:b∈(st.bs.tail).take kept:=by
    have:(st.bs.take (kept+1)).tail=st.bs.tail.take kept:=by cases st.bs <;> simp
    rw[<-this];exact hb
   exact List.mem_of_mem_take h3
  ·show(st.bs.take kept++[_]).length<=21
   rw[List.length_append,List.length_take,List.length_singleton];have:=h.l;omega
  ·show(st.ms++_).length<=_
   rw[List.length_append,List.length_map,List.length_reverse];have:=h.m;omega
 have:=b1.wup (f:=(·++X0 rs ((st.bs.drop (kept+1)).map Brn.n))) (W':=W+20) (by omega) (fun c hc=>?_)
 ·show Bg _ _ _ _ _ _ {st with bs:=_,ms:=_}
  rw[e0]
  exact this
 ·have hB:=b1.c c hc
  have hw1:(X0 rs ((st.bs.drop (kept+1)).map Brn.n)).length<=20:=by
   have h1:=xe9 rs (((st.bs.drop (kept+1)).map Brn.n).takeWhile fun n=>!(S9 rs n))
   have h2:(((st.bs.drop (kept+1)).map Brn.n).takeWhile fun n=>!(S9 rs n)).length<=((st.bs.drop (kept+1)).map Brn.n).length:=(List.takeWhile_sublist _).length_le
   rw[List.length_map] at h2
   unfold X0;omega
  refine⟨by show(c.ws++_).length<=_;rw[List.length_append];have:=hB.ws;omega,fun n hn=>?_⟩
  rcases List.mem_append.mp hn with hn|hn
  ·exact hB.wr n hn
  ·obtain⟨b,hb,e⟩:=List.mem_map.mp (za8 hn)
   rw[<-e]
   refine h.nr b ?_
   have:st.bs.drop (kept+1)=st.bs.tail.drop kept:=by rw[<-List.drop_one,List.drop_drop];congr 1;omega
   rw[this] at hb
   exact List.mem_of_mem_drop hb
theorem xf1(l:List Brn)(b1 b2:Brn):lvB (l++[b1,b2])=l++[{b1 with ps:=b1.ps++[Tr.nd b2.n b2.ps]}]:=by
 unfold lvB
 have e:l++[b1,b2]=(l++[b1])++[b2]:=by simp
 rw[e,List.dropLast_concat,List.dropLast_concat,qq3,qq3]
theorem yg6{bs:List Brn}(h:2<=bs.length):∃ l b1 b2,bs=l++[b1,b2]:=by
 rcases List.eq_nil_or_concat bs with e|⟨l,b2,e⟩
 ·rw[e] at h;simp at h
 ·rw[List.concat_eq_append] at e
  rcases List.eq_nil_or_concat l with e1|⟨l',b1,e1⟩
  ·rw[e,e1] at h;simp at h
  ·rw[List.concat_eq_append] at e1
   exact⟨l',b1,b2,by rw[e,e1];simp⟩
theorem Bg.lv(h:Bg rs P W M D T st)(h2:2<=st.bs.length):Bg rs (P+1) W M D T (lvS st):=by
 obtain⟨l,b1,b2,e⟩:=yg6 h2
 have e1:(lvS st).bs=l++[{b1 with ps:=b1.ps++[Tr.nd b2.n b2.ps]}]:=by show lvB st.bs=_;rw[e,xf1]
 have hb:=h.c b1 (by rw[e];simp)
 have hpl:=h.pl
 rw[e] at hpl
 refine⟨fun c hc=>?_,?_,fun c hc=>?_,by rw[e1];simp,by rw[e1];have:=h.l;rw[e] at this;simp at this ⊢;omega,h.m,h.d⟩
 ·rw[e1] at hc
  rcases List.mem_append.mp hc with hc|hc
  ·exact(h.c c (by rw[e];simp[hc])).mono (by omega) (by omega) (by omega)
  ·rw[List.mem_singleton.mp hc]
   refine⟨hb.n,?_,hb.ws,hb.wr,?_⟩
   ·show(b1.ps++[_]).length<=_;rw[List.length_append,List.length_singleton];have:=hb.ps;omega
   ·show adA (b1.ps++[_])<=_
    rw[zt3];exact Nat.zero_le _
 ·rw[e1,List.map_append]
  have e2:l++[b1,b2]=(l++[b1])++[b2]:=by simp
  rw[e2,List.map_append,List.length_append,List.length_singleton,List.range_succ] at hpl
  have:=(List.append_inj' hpl rfl).1
  rw[List.map_append] at this
  rw[show(l++[({b1 with ps:=b1.ps++[Tr.nd b2.n b2.ps]}:Brn)]).length=(l++[b1]).length by simp]
  exact this
 ·rw [e1] at hc
  have h1:c.n∈(l++[({b1 with ps:=b1.ps++[Tr.nd b2.n b2.ps]}:Brn)]).tail.map Brn.n:=List.mem_map_of_mem hc
  rw[List.map_tail,List.map_append] at h1
  have h2:c.n∈(l.map Brn.n++[b1.n]).tail:=h1
  have h3:c.n∈(st.bs.map Brn.n).tail:=by
   rw[e]
   cases l with
   | nil=>cases h2
   | cons x l =>
     have h4:c.n∈l.map Brn.n++[b1.n]:=h2
     show c.n∈(l++[b1,b2]).map Brn.n
     rw[List.map_append]
     rcases List.mem_append.mp h4 with h|h
     ·exact List.mem_append_left _ h
     ·exact List.mem_append_right _ (by rw[List.mem_singleton.mp h];simp)
  rw[<-List.map_tail] at h3
  obtain⟨b,hb,e4⟩:=List.mem_map.mp h3
  rw[<-e4];exact h.nr b hb
theorem Bg.tx(h:Bg rs P W M D T st):Bg rs (P+1) W M (D+1) (T+t.length) (txS st i g t):=by
 obtain⟨l,b,e,e2,hp,hb⟩:=h.snoc
 have e1:(txS st i g t).bs=l++[{b with ps:=adP b.ps t}]:=by show st.bs.dropLast++[_]=_;rw[e2,e,List.dropLast_concat]
 have hpl:=h.pl
 rw[e] at hpl
 refine⟨fun c hc=>?_,?_,fun c hc=>?_,by rw[e1];simp,by rw[e1];have:=h.l;rw[e] at this;simp at this ⊢;omega,h.m,by show(st.ls++[_]).length<=_;have:=h.d;simp;omega⟩
 ·rw[e1] at hc
  rcases List.mem_append.mp hc with hc|hc
  ·exact(h.c c (by rw[e];simp[hc])).mono (by omega) (by omega) (by omega)
  ·rw[List.mem_singleton.mp hc]
   refine⟨hb.n,?_,hb.ws,hb.wr,?_⟩
   ·show(adP b.ps t).length<=_;have:=hb.ps;have:=zj2 b.ps t;omega
   ·show adA (adP b.ps t)<=_
    rw[zj3];have:=hb.t;omega
 ·rw[e1,List.map_append]
  rw[List.map_append] at hpl
  rw[show(l++[({b with ps:=adP b.ps t}:Brn)]).length=(l++[b]).length by simp]
  exact hpl
 ·rw[e1] at hc
  have h1:c.n∈(l++[({b with ps:=adP b.ps t}:Brn)]).tail.map Brn.n:=List.mem_map_of_mem hc
  rw[List.map_tail,List.map_append] at h1
  have h2:c.n∈(st.bs.map Brn.n).tail:=by rw[e,List.map_append];exact h1
  rw[<-List.map_tail] at h2
  obtain⟨b,hb,e4⟩:=List.mem_map.mp h2
  rw[<-e4];exact h.nr b hb
theorem Bg.sign(h:Bg rs P W M D T st):Bg rs P W (M+g.length) D T (wb2 st i g) :=
 ⟨h.c,h.pl,h.nr,h.ne,h.l,by
  show(st.ms++_).length<=_
  rw[List.length_append,List.length_map]
  have h1:=wt8 g.cps.toList g.cps.toList.length
  have h2:g.cps.toList.length=g.length:=Array.length_toList
  have:=h.m;omega,h.d⟩
theorem xr5{rs:List Row}{P W M D T:Nat}{i:Int}(hN:∀ r∈rs,(Row.name r).length<=4000):∀ (ws:List Str) (s:Rst),Bg rs P W (M+21) D T s->s.ms.length<=M+s.bs.length->(∀ n∈ws,∃ r∈rs,Row.name r=n)->Bg rs P W (M+21) D T (ws.foldl (qf0 rs i) s)/\(ws.foldl (qf0 rs i) s).ms.length<=M+(ws.foldl (qf0 rs i) s).bs.length
 | [],s,h,hm,_=>⟨h,hm⟩
 | n :: ws,s,h,hm,hw=>by
   rw[List.foldl_cons]
   have hr:=hw n (by simp)
   refine xr5 hN ws _ ?_ ?_ fun m hm=>hw m (by simp[hm])
   ·unfold qf0
    split
    ·rename_i ha
     unfold wj0 at ha
     rw[Bool.and_eq_true,decide_eq_true_eq] at ha
     have hl:=h.nlen
     have hp:=h.put (n:=n) (i:=i) (rule := "anew") (by omega) (by obtain⟨r,h1,h2⟩:=hr;rw[<-h2];exact hN r h1) hr
     refine⟨hp.c,hp.pl,hp.nr,hp.ne,hp.l,?_,hp.d⟩
     have h2:=qw7 s n i "anew"
     have h3:=hp.l
     show(s.ms++[_]).length<=_
     rw[List.length_append,List.length_singleton]
     omega
    ·exact h
   ·unfold qf0
    split
    ·rw[qw7]
     show(s.ms++[_]).length<=_
     rw[List.length_append,List.length_singleton];omega
    ·exact hm
theorem yg7(h:Bg rs P W M D T st):(lwS rs st.bs).length<=W/\∀ n∈lwS rs st.bs,∃ r∈rs,Row.name r=n:=by
 obtain⟨l1,b,l2,e,lw⟩:=xz4 rs h.ne
 have hb:=h.c b (by rw[e];simp)
 rw[e,xf0 lw]
 exact⟨hb.ws,hb.wr⟩
theorem Bg.anews(h:Bg rs P W M D T st)(hN:∀ r∈rs,(Row.name r).length<=4000):Bg rs P W (M+21) D T (qm1 rs i st):=by
 have h1:=h.wup (f:=fun _=>[]) (W':=W) (Nat.le_refl _) fun c _=>⟨Nat.zero_le _,fun n hn=>by cases hn⟩
 refine(xr5 hN _ _ (h1.mono (Nat.le_refl _) (Nat.le_refl _) (by omega) (Nat.le_refl _) (Nat.le_refl _)) ?_ (yg7 h).2).1
 show st.ms.length<=_
 have:=h.m
 omega
theorem yg8{rec:Str->Nat×List Str}:∃ ps,(wb1 rs rk ys rec x).2=ps++[x]:=by
 unfold wb1
 split
 ·unfold qc1
  split
  ·exact⟨[],rfl⟩
  ·exact⟨_,rfl⟩
 ·split
  ·exact⟨[],rfl⟩
  ·exact⟨_,rfl⟩
theorem wu5(n:Nat)(x:Str):∃ ps,(L1 rs rk ys n x).2=ps++[x]:=by
 cases n <;> (rw[L1];exact yg8)
theorem wu6(h:L3 rs (some n)≠none):∃ r∈rs,Row.name r=n:=by
 unfold L3 at h
 cases e:V4 rs (some n) with
 | none=>rw[e] at h;exact absurd rfl h
 | some r=>exact⟨r,(wp4 e).1,(wp4 e).2⟩
structure Bok(rs:List Row)(rk:Str->Nat):Prop where
 B:Boo rs
 f:wo8 rs rk
 k:∀ x,rk x<=13
 n:∀ r∈rs,(Row.name r).length<=4000
 sb:∀ r∈rs,r.shuts.length<=1000/\r.bars.length<=1000
theorem Bok.row(b:Bok rs rk){n:Str}(h:∃ r∈rs,Row.name r=n):n.length<=4000:=by obtain⟨r,h1,h2⟩:=h;rw[<-h2];exact b.n r h1
theorem Bg.op(b:Bok rs rk)(h:Bg rs P W M D T st):Bg rs (P+2) (W+20) (M+60) D T (opS rs rk st i g n):=by
 have hd:∀ rule,Bg rs (P+2) (W+20) (M+60) D T (dropS st i g rule):=fun rule=>h.drop.mono (by omega) (by omega) (by omega) (by omega) (by omega)
 unfold opS
 split
 ·exact hd _
 rename_i hs
 split
 ·exact hd _
 split
 ·exact hd _
 rename_i hlen
 have hrow:=wu6 hs
 have w:=wh0 b.B b.f (ys:=J6 st) 13 n hrow (b.k n)
 have hnl:=h.nlen
 obtain⟨ps,hps⟩:=wu5 (rs:=rs) (rk:=rk) (ys:=J6 st) 13 n
 have hw1:=w.k
 have hm:=w.m
 generalize L1 rs rk (J6 st) 13 n=wt at *
 have hk:wt.1<st.bs.length:=by omega
 have e1:wt.2.dropLast=ps:=by rw[hps,List.dropLast_concat]
 have e2:wt.2.length=ps.length+1:=by rw[hps];simp
 have hc:=h.cls (i:=i) (rule := "shut") hk
 have hcl:(Q0 rs st wt.1 i "shut").bs.length=wt.1+1:=by rw[wh6,List.length_take];omega
 have hp:=hc.puts (ns:=ps) (i:=i) (rule := "frame") (by rw[hcl];omega) fun m hmm=>by
  have:=hm m (by rw[hps];simp[hmm])
  exact⟨b.row this,this⟩
 have hpl:=wh5 ps (Q0 rs st wt.1 i "shut") i "frame"
 have hpb:ps.length<=20:=by omega
 have he:=hp.ent (n:=n) (by rw[hpl,hcl];omega) (b.row hrow) hrow
 rw[e1]
 dsimp only
 split
 ·refine(he.lv ?_).mono (by omega) (by omega) (by omega) (by omega) (by omega)
  show 2<=(qh9 _ n).length
  unfold qh9
  rw[List.length_append,hpl,hcl,List.length_singleton];omega
 ·exact he.mono (by omega) (by omega) (by omega) (by omega) (by omega)
theorem zj4(ws:List Str)(n:Str):(woL ws n).length<=ws.length:=by
 unfold woL
 rw[List.length_reverse,<-List.length_reverse (as:=ws)]
 exact List.length_erase_le
theorem zj5{ws:List Str}{m:Str}(h:m∈woL ws n):m∈ws:=by
 unfold woL at h
 exact List.mem_reverse.mp (List.mem_of_mem_erase (List.mem_reverse.mp h))
theorem Bg.clo(h:Bg rs P W M D T st):Bg rs (P+2) (W+20) (M+60) D T (qw6 rs rk st i g n):=by
 have hnl:=h.nlen
 unfold qw6
 split
 ·rename_i k hk
  have:=xe0 hk
  refine((h.cls (by omega)).lv ?_).mono (by omega) (by omega) (by omega) (by omega) (by omega)
  rw[wh6,List.length_take];omega
 ·split
  ·refine((h.drop (i:=i) (g:=g) (rule := "late")).wup (f:=fun ws=>woL ws n) (W':=W) (Nat.le_refl _) fun c hc=>⟨?_,fun m hm=>?_⟩).mono (by omega) (by omega) (by omega) (by omega) (by omega)
   ·have h1:=(h.c c hc).ws
    have h2:=zj4 c.ws n
    exact Nat.le_trans h2 h1
   ·exact(h.c c hc).wr m (zj5 hm)
  ·exact h.drop.mono (by omega) (by omega) (by omega) (by omega) (by omega)
theorem Bg.run(b:Bok rs rk)(h:Bg rs P W M D T st):Bg rs (P+2) (W+20) (M+60+g.length) (D+1) (T+t.length) (U5 rs st i g t):=by
 have hnl:=h.nlen
 unfold U5
 split
 ·exact h.drop.mono (by omega) (by omega) (by omega) (by omega) (by omega)
 split
 ·exact h.drop.mono (by omega) (by omega) (by omega) (by omega) (by omega)
 rename_i hlen
 have hh:(O4 rs st).length<=12:=qj6 rs 12 _
 have hp:=h.puts (ns:=O4 rs st) (i:=i) (rule := "host") (by omega) fun m hm=>by
  have:=qw2 b.B 12 _ m hm
  exact⟨b.row this,this⟩
 exact((hp.anews (i:=i) b.n).sign.tx).mono (by omega) (by omega) (by omega) (by omega) (by omega)
theorem Bg.step(b:Bok rs rk)(h:Bg rs P W M D T st):Bg rs (P+2) (W+20) (M+60+g.length) (D+1) (T+t.length) (qn3 rs rk st kind i g t):=by
 unfold qn3
 split
 ·exact(h.op b).mono (by omega) (by omega) (by omega) (by omega) (by omega)
 split
 ·exact h.clo.mono (by omega) (by omega) (by omega) (by omega) (by omega)
 ·exact h.run b
end
theorem zm9(n p q w v:V):ql1 ("waiting":Str) v [(("name":Str),n),(("place":Str),p),(("parts":Str),q),(("waiting":Str),w)]=[(("name":Str),n),(("place":Str),p),(("parts":Str),q),(("waiting":Str),v)]:=by
 show(if(("name":Str)) = "waiting" then _ else _::(if(("place":Str)) = "waiting" then _ else _::(if(("parts":Str)) = "waiting" then _ else _::(if(("waiting":Str)) = "waiting" then _ else _))))=_
 rw[if_neg (by decide),if_neg (by decide),if_neg (by decide),if_pos rfl]
theorem zb0{H3:Hp}(h1:T4 H1 H2)(h2:T4 H2 H3):T4 H1 H3:=⟨fun c xs e=>h2.1 c xs (h1.1 c xs e),fun c o xs e=>h2.2 c o xs (h1.2 c o xs e)⟩
section
variable{kR kB r:Addr}{bv:V}{a:RAd}{st:Rst}
theorem Rup.waitN{x:BA}{w:Addr}{ws:List Str}(h:RdO K H kR kB r bv a st)(ea:a.as=m1++x::m2)(eb:st.bs=l1++b::l2)(hl:m1.length=l1.length)(hw:H w=none) :
 Rup K kR kB r bv H a (upd (upd H w (.lst (B6 ws))) x.o (.ins kB x.x (bF {x with w:=w} b))) {a with as:=m1++{x with w:=w}::m2} {st with bs:=l1++{b with ws:=ws}::l2}:=by
 have hb:=h.b
 rw[ea,eb] at hb
 have hx:=(hb.split hl).2.1
 have xnd:=h.xnd ea
 have no:x.o≠x.q:=by simp[BA.fp] at xnd;exact xnd.1.1
 have nwo:x.o≠w:=W8 hw hx.o
 obtain⟨us,q1,q2⟩:=hx.q
 have nwq:x.q≠w:=W8 hw q1
 have s1:=A7.new hw (.lst (B6 ws))
 have tk:T4 H (upd (upd H w (.lst (B6 ws))) x.o (.ins kB x.x (bF {x with w:=w} b))):=zb0 s1.tupK (N5 (.inr ⟨_,_,_,s1 _ _ hx.o⟩))
 refine Rup.swap h ea eb hl (fun z u e n=>E7 (s1 _ _ e) fun y=>n (by rw[y];simp[BA.fp])) ⟨A5,tk.sqT hx.p,⟨us,E7 (s1 _ _ q1) (Ne.symm no),Dvs.tupK tk _ _ (qf8 _) q2⟩,E7 A5 (Ne.symm nwo)⟩ (fun z hz=>?_) ?_ rfl
 ·simp only[BA.fp,List.mem_cons,List.not_mem_nil,or_false] at hz ⊢
  rcases hz with rfl|rfl|rfl
  ·exact .inl (.inl rfl)
  ·exact .inl (.inr (.inl rfl))
  ·exact .inr hw
 ·simp[BA.fp,no,nwo,nwq]
end
theorem zb1{a c:List Str}:(ys.any fun y=>decide (y∈[n]++a++c))=ys.any fun y=>decide (y∈n::(a++c)):=rfl
abbrev qs8(K:Fg):TS :=
 (M3 (xu3 (tOp yd7 (tCB (O6 K) (A1 (A2 1) A9)) (tC (.int 20))) (yh9 (D1 (V6 K) [] E0 (A1 (D1 (qj7 K) [] E0 (A1 (A2 0) (A1 (A2 1) A9))) (A1 (A2 4) A9))))))
abbrev qs9(K:Fg):TS :=
 (C1 (E3 (tOp (qv8 K) (tOp (qv8 K) (Q3 (A1 (A2 2) A9)) (tOp (L7 K) (A2 3) (tC (.int 3)))) (tOp (L7 K) (A2 3) (tC (.int 4)))) (B2 4))
 (qs8 K))
def Z7(K:Fg):Sp:=fun vs H Q _=>∃ (v:V) (a:Addr) (ns:List Str) (n:Str) (rs:List Row),vs=[v,.ref a,.str n]/\BkO K H v rs/\SqT K H a (B6 ns)/\ns.length<=1000/\(∃ r∈rs,Row.name r=n)/\(∀ r∈rs,r.shuts.length<=1000/\r.bars.length<=1000)/\∀ H',A7 H H'->Q (.bl (wj0 rs ns n)) H'
def qe0(K:Fg):TS :=
 (C1 (E3 (D1 (qe6 K) [] E0 (A1 (A2 0) (A1 (A2 2) A9))) (B2 3))
 (qs9 K))
theorem wu7(h:Z7 K vs H Q E):qe0 K {nx:=fun _ H'=>Q .non H',rt:=Q} (D6 ["book","names","name","row","unfit"] vs) H:=by
 obtain⟨v,a,ns,n,rs,rfl,hk,ha,hl,hrow,hsb,q⟩:=h
 show qe0 K _ [some v,some (.ref a),some (.str n),none,none] H
 unfold qe0
 obtain⟨r0,er,hr0,hrn⟩:=yf4 hrow
 lk
 refine⟨v,some n,rs,rfl,hk.rws,fun e=>(by rw[er] at e;cases e),fun r u e hu=>?_⟩
 rw[er] at e
 obtain rfl:=Option.some.inj e
 obtain⟨b,ps,pb,rfl,hb,hps,hpb⟩:=xq4 hu
 obtain⟨l1,l2⟩:=hsb r0 hr0
 show qs9 K _ _ _
 lk
 refine⟨D4 (by z_go),fun p hp=>?_⟩
 have s1:=A7.new hp (.tup [.str n])
 lk
 refine U7 (s1.sqT hb) (v:=.ref ps) rfl ?_
 refine wk8 (SqT.of A5) (s1.sqT hps) (by rw[C3];exact D4 (by simp;omega)) fun p2 H2 s2 hp2=>?_
 have s12:=A7.tr s1 s2
 lk
 refine U7 (s12.sqT hb) (v:=.ref pb) rfl ?_
 refine wk8 hp2 (s12.sqT hpb) (by rw[C3,List.length_append,C3];exact D4 (by simp;omega)) fun p3 H3 s3 hp3=>?_
 have s13:=A7.tr s12 s3
 have hp3':SqT K H3 p3 (B6 ([n]++r0.shuts++r0.bars)):=by simpa [B6] using hp3
 show qs8 K _ _ _
 lk
 refine T5 (.inr (s13.sqT ha)) ?_
 rw[C3]
 lk
 have esh:qo1 rs n=r0.shuts:=by unfold qo1;rw[er]
 have ebr:we5 rs n=r0.bars:=by unfold we5;rw[er]
 by_cases hlt:ns.length<20
 ·rw[decide_eq_true (show(ns.length:Int)<20 by omega)]
  x_go
  lk
  refine⟨v,a,ns,rs,rfl,(hk.same s13).rws,s13.sqT ha,hl,fun p4 H4 s4 hp4=>?_⟩
  lk
  refine⟨p4,p3,qc7 rs ns,_,rfl,hp4,s4.sqT hp3',by have:=qw1 rs ns.length ns rfl;omega,fun H5 s5=>?_⟩
  lk
  have ea:wj0 rs ns n=!((qc7 rs ns).any fun y=>decide (y∈[n]++r0.shuts++r0.bars)):=by
   unfold wj0
   rw[decide_eq_true hlt,esh,ebr,zb1];rfl
  have:=q H5 (A7.tr (A7.tr s13 s4) s5)
  rw[ea] at this
  exact this
 ·rw[decide_eq_false (show ¬(ns.length:Int)<20 by omega)]
  k_go
  have ea:wj0 rs ns n=false:=by unfold wj0;rw[decide_eq_false hlt];rfl
  have:=q H3 s13
  rw[ea] at this
  exact this
theorem xf2{n:Str}:∀ {ws:List Str},n∈ws->∃ A B,ws=A++n::B/\n∉B
 | [],h=>by cases h
 | x::ws,h=>by
   by_cases hn:n∈ws
   ·obtain⟨A,B,e,hB⟩:=xf2 hn
    exact⟨x::A,B,by rw[e];rfl,hB⟩
   ·rcases List.mem_cons.mp h with h|h
    ·exact⟨[],ws,by rw[h];rfl,hn⟩
    ·exact absurd h hn
theorem ys5(h:n∉B):woL (A++n::B) n=A++B:=by
 unfold woL
 rw[List.reverse_append,List.reverse_cons,List.append_assoc,List.erase_append_right _ (by simpa using h)]
 simp
abbrev qw8(K:Fg):TS :=
 (M3 (tOp (E6 K) (tSl (wo3 K) (A2 0) qf4 (X8 (A2 2))) (tSl (wo3 K) (A2 0) (X8 (tOp (E6 K) (A2 2) (tC (.int 1)))) qf4)))
abbrev qw9(K:Fg):TS :=
 (C1 (wc9 (E4 (tOp (wo0 K) (tOp (L7 K) (A2 0) (A2 2)) (A2 1)))
 (E3 (tOp (rI0 fun i j=>.int (i-j)) (A2 2) (tC (.int 1))) (B2 2)))
 (qw8 K))
def qe1(K:Fg):Sp:=fun vs H Q _=>∃ (p:Addr) (ws:List Str) (n:Str),vs=[.ref p,.str n]/\H p=some (.lst (B6 ws))/\n∈ws/\ws.length<=9000000/\∀ (q:Addr) (H':Hp),A7 H H'->H q=none->H' q=some (.lst (B6 (woL ws n)))->Q (.ref q) H'
def qg6(K:Fg):TS :=
 (C1 (E3 (tOp (rI0 fun i j=>.int (i-j)) (tCB (O6 K) (A1 (A2 0) A9)) (tC (.int 1))) (B2 2))
 (qw9 K))
theorem wz0(h:qe1 K vs H Q E):qg6 K {nx:=fun _ H'=>Q .non H',rt:=Q} (D6 ["names","name","number"] vs) H:=by
 obtain⟨p,ws,n,rfl,hp,hn,hl,q⟩:=h
 show qg6 K _ [some (.ref p),some (.str n),none] H
 unfold qg6
 obtain⟨A,B,rfl,hB⟩:=xf2 hn
 have hlen:(A++n::B).length=A.length+B.length+1:=by simp;omega
 lk
 refine T5 (.inl (SqL.of hp)) ?_
 rw[C3,hlen]
 lk
 have e0:((A.length+B.length+1:Nat):Int)-1=((A.length+B.length:Nat):Int):=by omega
 rw[e0]
 show qw9 K _ _ _
 refine qc0 ?_
 refine yr7 (fun σ H'=>H'=H/\∃ m:Nat,m<=B.length/\σ=[some (.ref p),some (.str n),some (.int ((A.length+m:Nat):Int))]) (fun σ _=>match σ with | [_,_,some (.int k)]=>k.toNat-A.length|_=>0) ⟨rfl,B.length,Nat.le_refl _,rfl⟩ ?_
 rintro σ H' ⟨rfl,m,hm,rfl⟩
 lk
 cases m with
 | zero =>
   refine M5 (SqL.of hp) (v:=.str n) (W3 (by simp[B6])) ?_
   lk
   rw[decide_eq_true rfl]
   k_go
   show qw8 K _ _ _
   lk
   refine yk5 (SqL.of hp) fun p1 hp1=>?_
   have e1:ql8 (B6 (A++n::B)) none (some ((A.length+0:Nat):Int))=B6 A:=by rw[xd9];simp
   rw[e1]
   have s1:=A7.new hp1 (.lst (B6 A))
   lk
   refine yk5 (SqL.of (s1 _ _ hp)) fun p2 hp2=>?_
   have e2:ql8 (B6 (A++n::B)) (some (((A.length+0:Nat):Int)+1)) none=B6 B:=by
    rw[wu3 (by omega),show(((A.length+0:Nat):Int)+1).toNat=A.length+1 by omega]
    show((A++n::B).map V.str).drop _=B.map V.str
    rw[<-List.map_drop]
    congr 1
    rw[List.drop_append,List.drop_eq_nil_of_le (by omega),show A.length+1-A.length=1 by omega];rfl
   rw[e2]
   have s2:=A7.new hp2 (.lst (B6 B))
   lk
   refine yw5 (s2 _ _ A5) A5 (by rw[C3,C3,sizeLine_eq];omega) fun p3 hp3=>?_
   have s3:=A7.new hp3 (.lst (B6 A++B6 B))
   lk
   refine q _ _ (A7.tr (A7.tr s1 s2) s3) (A7.grow (A7.tr s1 s2) _ hp3) ?_
   rw[A5,ys5 hB]
   simp[B6]
 | succ m =>
   have hg:(A++n::B)[A.length+(m+1)]?=some B[m]:=by
    rw[List.getElem?_append_right (by omega),show A.length+(m+1)-A.length=m+1 by omega,List.getElem?_cons_succ,List.getElem?_eq_getElem (by omega)]
   refine M5 (SqL.of hp) (v:=.str B[m]) (W3 (by unfold B6;rw[List.getElem?_map,hg];rfl)) ?_
   lk
   rw[decide_eq_false fun e=>hB (by rw[<-e];exact List.getElem_mem _)]
   x_go
   refine⟨fun σ' H''=>H''=H'/\σ'=[some (.ref p),some (.str n),some (.int ((A.length+m:Nat):Int))],?_,?_⟩
   ·rintro σ' H'' ⟨rfl,rfl⟩
    refine⟨m,?_,?_,rfl,m,by omega,rfl⟩
    ·show m<(((A.length+(m+1):Nat):Int)).toNat-A.length;omega
    ·show m=(((A.length+m:Nat):Int)).toNat-A.length;omega
   ·lk
    refine⟨rfl,?_⟩
    show[some (V.ref p),some (V.str n),some (V.int (((A.length+(m+1):Nat):Int)-1))]=_
    rw[show((A.length+(m+1):Nat):Int)-1=((A.length+m:Nat):Int) by omega]
theorem RdO.old_w{a:RAd}{x:BA}{w:Addr}(h:RdO K H kR kB r bv a st)(ea:a.as=m1++x::m2)(hw:H w=none)(hx:H x.w≠none):x.w∉RAd.fp r {a with as:=m1++{x with w:=w}::m2}:=by
 have nd:=h.nd
 have e1:RAd.fp r a=(r::a.L::a.M::a.A::(fpA m1++[x.o,x.q]))++x.w::fpA m2:=by
  unfold RAd.fp;rw[ea,R3,P9];simp[BA.fp]
 have e2:RAd.fp r {a with as:=m1++{x with w:=w}::m2}=(r::a.L::a.M::a.A::(fpA m1++[x.o,x.q]))++w::fpA m2:=by
  unfold RAd.fp
  show r::a.L::a.M::a.A::fpA (m1++{x with w:=w}::m2)=_
  rw[R3,P9];simp[BA.fp]
 rw[e1,List.nodup_append] at nd
 rw[e2]
 intro hm
 rcases List.mem_append.mp hm with hm|hm
 ·exact nd.2.2 _ hm _ (by simp) rfl
 ·rcases List.mem_cons.mp hm with hm|hm
  ·exact hx (hm▸hw)
  ·exact(List.nodup_cons.mp nd.2.1).1 hm
abbrev X3(K:Fg)(k_Reader:Addr):TS :=
 (I9 (N1 k_Reader "put_in" (N6 K) [] E0 (A2 0) (A1 (A2 4) (A1 (A2 1) (A1 (tC (.str "anew")) A9)))))
abbrev X4(K:Fg)(k_Reader:Addr):TS :=
 (P7 (tB (D1 (Z7 K) [] E0 (A1 (S5 K (A2 0) "book") (A1 (N1 k_Reader "open_names" (D9 K) [] E0 (A2 0) A9) (A1 (A2 4) A9)))))
 (X3 K k_Reader) M7)
abbrev X5(K:Fg)(k_Reader:Addr):TS :=
 (C1 (wd1 K (A2 2) (X6 A9) "waiting")
 (qy2 (wc3 K (A2 3)) (B2 4)
 (X4 K k_Reader)))
def N0(K:Fg):Sp:=fun vs H Q _=>∃ (kR kB r:Addr) (bv:V) (a:RAd) (st:Rst) (rs:List Row) (rk:Str->Nat) (i:Int) (P W M D T:Nat),vs=[.ref r,.int i]/\RdO K H kR kB r bv a st/\BkO K H bv rs/\Bok rs rk/\Bg rs P W M D T st/\P<=8500000/\W<=8500000/\M<=8500000/\∀ a' H',Rup K kR kB r bv H a H' a' (qm1 rs i st)->C2 H H'->Q .non H'
def N2(K:Fg)(k_Reader:Addr):TS :=
 (C1 (E3 (N1 k_Reader "last_wall" (M2 K) [] E0 (A2 0) A9) (B2 2))
 (C1 (E3 (S5 K (A2 2) "waiting") (B2 3))
 (X5 K k_Reader)))
theorem qq4(cz:Cz K k_Branch k_Reader)(h:N0 K vs H Q E):N2 K k_Reader {nx:=fun _ H'=>Q .non H',rt:=Q} (D6 ["self","start","wall","names","name"] vs) H:=by
 obtain⟨kR,kB,r,bv,a,st,rs,rk,i,P,W,M,D,T,rfl,h,hk,bk,bg,hP,hWb,hM,q⟩:=h
 obtain rfl:=M9 cz.ns_Reader h.kr
 obtain rfl:=M9 cz.ns_Branch h.kb
 show N2 K _ _ [some (.ref r),some (.int i),none,none,none] H
 unfold N2
 lk
 refine E5 ?_
 lk
 refine⟨r,_,_,rfl,h.o,rfl,?_⟩
 lk
 refine⟨k_Reader,k_Branch,r,bv,a,st,rs,rfl,h,hk,bg.ne,by have:=bg.l;omega,fun m1 m2 x l1 l2 b H1 s1 ea eb hm lw=>?_⟩
 have h1:=h.same s1
 have hb1:=h1.b
 rw[ea,eb] at hb1
 have hx:=(hb1.split hm).2.1
 have elw:lwS rs st.bs=b.ws:=by rw[eb];exact xf0 lw
 have ewu:wUp rs (fun _=>[]) st.bs=l1++{b with ws:=[]}::l2:=by rw[eb];exact wl9 lw
 lk
 refine E9 ?_
 lk
 refine⟨x.o,_,x.x,_,_,rfl,hx.o,cz.cl_Branch,cz.na_Branch_waiting,rfl,?_⟩
 show X5 K _ _ _ _
 refine qc0 (qk4 ?_)
 lk
 refine⟨D4 (by z_go),fun w hw=>?_⟩
 lk
 have s2:=A7.new hw (.lst [])
 refine⟨x.o,_,x.x,_,rfl,s2 _ _ hx.o,cz.cl_Branch,cz.na_Branch_waiting,by unfold bF;simp,?_⟩
 unfold bF
 rw[zm9]
 have u:=Rup.waitN (ws:=[]) h1 ea eb hm hw
 have xnd:=h1.xnd ea
 have no:x.w≠x.o:=by simp[BA.fp] at xnd;exact Ne.symm xnd.1.2
 have nxw:x.w∉RAd.fp r {a with as:=m1++{x with w:=w}::m2}:=h1.old_w ea hw (by rw[hx.w];exact fun z=>by cases z)
 have hw3:(upd (upd H1 w (.lst [])) x.o (.ins k_Branch x.x [(("name":Str),.str b.n),(("place":Str),.ref x.p),(("parts":Str),.ref x.q),(("waiting":Str),.ref w)])) x.w=some (.lst (B6 b.ws)):=E7 (s2 _ _ hx.w) no
 have g:C2 H1 (upd (upd H1 w (.lst [])) x.o (.ins k_Branch x.x [(("name":Str),.str b.n),(("place":Str),.ref x.p),(("parts":Str),.ref x.q),(("waiting":Str),.ref w)])):=C2.tr C2.upd C2.upd
 have u':Rup K k_Reader k_Branch r bv H1 a (upd (upd H1 w (.lst [])) x.o (.ins k_Branch x.x [(("name":Str),.str b.n),(("place":Str),.ref x.p),(("parts":Str),.ref x.q),(("waiting":Str),.ref w)])) {a with as:=m1++{x with w:=w}::m2} {st with bs:=wUp rs (fun _=>[]) st.bs}:=by rw[ewu];exact u
 generalize upd (upd H1 w (.lst [])) x.o (.ins k_Branch x.x [(("name":Str),.str b.n),(("place":Str),.ref x.p),(("parts":Str),.ref x.q),(("waiting":Str),.ref w)])=H2 at *
 rw[<-elw] at hw3
 obtain⟨a2,ea2⟩:∃ a2,a2=({a with as:=m1++{x with w:=w}::m2}:RAd):=⟨_,rfl⟩
 rw[<-ea2] at u' nxw
 have hk2:=(hk.same s1).tupK (u'.tupK h1)
 have bg1:=bg.wup (f:=fun _=>[]) (W':=W) (Nat.le_refl _) fun c _=>⟨Nat.zero_le _,fun n hn=>by cases hn⟩
 have bgj:∀ j,Bg rs P W (M+21) D T (((lwS rs st.bs).take j).foldl (qf0 rs i) {st with bs:=wUp rs (fun _=>[]) st.bs}):=fun j =>
  (xr5 bk.n _ _ (bg1.mono (Nat.le_refl _) (Nat.le_refl _) (by omega) (Nat.le_refl _) (Nat.le_refl _)) (by show st.ms.length<=_;have:=bg.m;omega) fun n hn=>(yg7 bg).2 n (List.mem_of_mem_take hn)).1
 lk
 refine wd7 (SqL.of hw3) (fun j σ H'=>∃ a' x4,σ=[some (.ref r),some (.int i),some (.ref x.o),some (.ref x.w),x4]/\Rup K k_Reader k_Branch r bv H2 a2 H' a' (((lwS rs st.bs).take j).foldl (qf0 rs i) {st with bs:=wUp rs (fun _=>[]) st.bs})/\C2 H2 H') ?_ ?_ ?_ ?_
 ·exact⟨a2,none,rfl,.keep u'.ok fun c o e _=>e,fun z hz=>hz⟩
 ·rintro j σ H' _ ⟨a',x4,rfl,uj,gj⟩
  exact SqL.of (uj.bt _ _ hw3 nxw)
 ·rintro j v σ H' hv ⟨a',x4,rfl,uj,gj⟩
  obtain⟨n,hn,rfl⟩:=ql3 hv
  have hr:=(yg7 bg).2 n (List.mem_of_getElem? hn)
  have bj:=bgj j
  have efold:((lwS rs st.bs).take (j+1)).foldl (qf0 rs i) {st with bs:=wUp rs (fun _=>[]) st.bs}=qf0 rs i (((lwS rs st.bs).take j).foldl (qf0 rs i) {st with bs:=wUp rs (fun _=>[]) st.bs}) n:=by
   rw[qn1 hn,List.foldl_append];rfl
  generalize ((lwS rs st.bs).take j).foldl (qf0 rs i) {st with bs:=wUp rs (fun _=>[]) st.bs}=sj at *
  obtain⟨b0,bs0,eb0⟩:=List.exists_cons_of_ne_nil bj.ne
  have hl0:bs0.length<=20:=by have:=bj.l;rw[eb0] at this;simp at this;omega
  have hnm:J6 sj=bs0.map Brn.n:=by unfold J6;rw[eb0];rfl
  have hkj:=hk2.tupK (uj.tupK u'.ok)
  refine M4 ?_
  show X4 K _ _ _ _
  lk
  refine E9 ?_
  lk
  refine⟨r,_,a'.x,_,_,rfl,uj.ok.o,cz.cl_Reader,cz.na_Reader_book,rfl,?_⟩
  lk
  refine E5 ?_
  lk
  refine⟨r,_,_,rfl,uj.ok.o,rfl,?_⟩
  lk
  refine⟨k_Reader,k_Branch,r,bv,a',sj,b0,bs0,rfl,uj.ok,eb0,by omega,fun p H4 s4 hp=>?_⟩
  lk
  refine⟨bv,p,bs0.map Brn.n,n,rs,rfl,hkj.same s4,hp,by rw[List.length_map];omega,hr,bk.sb,fun H5 s5=>?_⟩
  have s45:=A7.tr s4 s5
  have h5:=uj.ok.same s45
  have u5:=uj.tr (uj.ok.up s45) gj
  have g5:=C2.tr gj (A7.grow s45)
  rw[<-hnm]
  lk
  by_cases ha:wj0 rs (J6 sj) n=true
  ·rw[ha]
   x_go
   show X3 K _ _ _ _
   lk
   refine E5 ?_
   lk
   refine⟨r,_,_,rfl,h5.o,rfl,?_⟩
   lk
   obtain⟨lb,bb,e1,e2,e3,e4⟩:=bj.snoc
   have h3:=e4.ps
   have h4:=bj.m
   have h6:=bj.l
   rw[e1,List.length_append,List.length_singleton] at h6
   refine⟨k_Reader,k_Branch,r,bv,a',sj,n,i, "anew",lb,bb,rfl,h5,e1,by omega,by omega,by omega,by omega,bk.row hr,fun a6 H6 u6 g6=>?_⟩
   refine⟨a6,_,rfl,?_,C2.tr g5 g6⟩
   rw[efold]
   have ep:qf0 rs i sj n={sj with bs:=sj.bs++[⟨n,bb.pl++[(bb.ps.length:Int)],[],[]⟩],ms:=sj.ms++[⟨i,i,opn n, "anew"⟩]}:=by
    unfold qf0
    rw[if_pos ha]
    unfold wm1 qh9 we8
    rw[e2]
   rw[ep]
   exact u5.tr u6 g5
  ·rw[Bool.eq_false_iff.mpr ha]
   k_go
   lk
   refine⟨a',_,rfl,?_,g5⟩
   rw[efold]
   unfold qf0
   rw[if_neg ha]
   exact u5
 ·rintro σ H' ⟨a',x4,rfl,uj,gj⟩
  rw[C3,List.take_length] at uj
  exact q _ _ (((h.up s1).tr u' (A7.grow s1)).tr uj (C2.tr (A7.grow s1) g)) (C2.tr (C2.tr (A7.grow s1) g) gj)
abbrev wc5(K:Fg):TS :=
 (I9 (tBM K "list" J4 (S5 K (A2 4) "parts") (A1 (tOp (qv8 K) (A2 5) (A2 3)) A9)))
def adT(K:Fg):TS :=
 (C1 (I9 (tBM K "list" J4 (S5 K (A2 0) "laid") (A1 (Q3 (A1 (A2 1) (A1 (A2 2) (A1 (tOp (qv8 K) (S5 K (A2 4) "place") (Q3 (A1 (tCB (O6 K) (A1 (S5 K (A2 4) "parts") A9)) A9))) (A1 (tCB (O6 K) (A1 (A2 5) A9)) A9))))) A9)))
 (wc5 K))
section
variable{kR kB r:Addr}{bv:V}{a:RAd}{st:Rst}
theorem Rup.parts{x:BA}{ps:List Tr}(h:RdO K H kR kB r bv a st)(ea:a.as=m1++x::m2)(eb:st.bs=l1++b::l2)(hl:m1.length=l1.length)(hd:Dvs K H (Tr.das ps) us) :
 Rup K kR kB r bv H a (upd H x.q (.lst us)) {a with as:=m1++x::m2} {st with bs:=l1++{b with ps:=ps}::l2}:=by
 have hb:=h.b
 rw[ea,eb] at hb
 have hx:=(hb.split hl).2.1
 have xnd:=h.xnd ea
 have no:x.o≠x.q:=by simp[BA.fp] at xnd;exact xnd.1.1
 have nq:x.w≠x.q:=by simp[BA.fp] at xnd;exact Ne.symm xnd.2
 obtain⟨us0,q1,q2⟩:=hx.q
 have tk:T4 H (upd H x.q (.lst us)):=N5 (.inl ⟨_,q1⟩)
 refine Rup.swap h ea eb hl (fun z u e n=>E7 e fun y=>n (by rw[y];simp[BA.fp])) ⟨E7 hx.o no,tk.sqT hx.p,⟨us,A5,Dvs.tupK tk _ _ (qf8 _) hd⟩,E7 hx.w nq⟩ (fun z hz=>.inl hz) xnd rfl
theorem Rup.laid{p2:Addr}{pl:List Int}(h:RdO K H kR kB r bv a st)(s1:A7 H H1)(e1:SqT K H1 p [.int i,.str g,.ref p2,.int m])(e2:SqT K H1 p2 (qc6 pl))(m2:Dvs K H (st.ls.map Lad.da) us) :
 Rup K kR kB r bv H a (upd H1 a.A (.lst (us++[.ref p]))) a {st with ls:=st.ls++[⟨i,g,pl,m⟩]}:=by
 refine .keep ((h.same s1).setA ?_) fun c o e n=>?_
 ·rw[List.map_append]
  exact Dvs.append (Dvs.same s1 _ _ m2) (Dvs.one (C8.mpr ⟨p,_,rfl,e1,B3 (O2.mpr rfl) (B3 (D5.mpr rfl) (B3 (C8.mpr ⟨p2,_,rfl,e2,xd3.mpr rfl⟩) (B3 (O2.mpr rfl) E2)))⟩))
 ·rw[B4 (fun z=>n (by rw[z];simp[RAd.fp]))];exact s1 c o e
theorem zt4(cz:Cz K k_Branch k_Reader){x:BA}{told u:Str}(h:RdO K H k_Reader k_Branch r bv a st)(ea:a.as=m1++x::[])(eb:st.bs=l1++b::[])(hl:m1.length=l1.length)(h1:b.ps.length<=9000000)(h2:b.pl.length<=1000)(h3:st.ls.length<=9000000)(h4:u.length+told.length<=1000000)(q:∀ a' H',Rup K k_Reader k_Branch r bv H a H' a' {st with bs:=l1++[{b with ps:=b.ps++[Tr.tx (u++told)]}],ls:=st.ls++[⟨i,g,b.pl++[(b.ps.length:Int)],u.length⟩]}->C2 H H'->D.nx [some (.ref r),some (.int i),some (.str g),some (.str told),some (.ref x.o),some (.str u)] H') :
 adT K D [some (.ref r),some (.int i),some (.str g),some (.str told),some (.ref x.o),some (.str u)] H:=by
 unfold adT
 have hb:=h.b
 rw[ea,eb] at hb
 have hx:=(hb.split hl).2.1
 obtain⟨us,q1,q2⟩:=hx.q
 obtain⟨ls,l1',l2'⟩:=h.d
 have hul:=qy9 q2
 have hll:ls.length=st.ls.length:=by have:=l2'.length;rw[List.length_map] at this;exact this
 lk
 refine E9 ?_
 lk
 refine⟨r,_,a.x,_,_,rfl,h.o,cz.cl_Reader,cz.na_Reader_laid,rfl,?_⟩
 lk
 refine⟨.inl ⟨rfl,_,SqL.of l1'⟩,?_⟩
 lk
 refine E9 ?_
 lk
 refine⟨x.o,_,x.x,_,_,rfl,hx.o,cz.cl_Branch,cz.na_Branch_place,rfl,?_⟩
 lk
 refine E9 ?_
 lk
 refine⟨x.o,_,x.x,_,_,rfl,hx.o,cz.cl_Branch,cz.na_Branch_parts,rfl,?_⟩
 lk
 refine T5 (.inl (SqL.of q1)) ?_
 rw[hul]
 lk
 refine⟨D4 (by z_go),fun p1 hp1=>?_⟩
 have s1:=A7.new hp1 (.tup [.int b.ps.length])
 refine wk8 (s1.sqT hx.p) (SqT.of A5) (by rw[ql2];exact D4 (by show _+1<=_;omega)) fun p2 H2 s2 hp2=>?_
 rw[show qc6 b.pl++[V.int b.ps.length]=qc6 (b.pl++[(b.ps.length:Int)]) by simp[qc6]] at hp2
 have s12:=A7.tr s1 s2
 lk
 refine .inr (.inl ⟨u,rfl,by rw[sizeLine_eq];omega,?_⟩)
 lk
 refine⟨D4 (by z_go),fun p3 hp3=>?_⟩
 have s3:=A7.new hp3 (.tup [.int i,.str g,.ref p2,.int u.length])
 have s13:=A7.tr s12 s3
 lk
 refine L0 (s13 _ _ l1') (by rw[hll,sizeLine_eq];omega) ?_
 have u1:=Rup.laid h s13 (SqT.of A5) (s3.sqT hp2) l2'
 have g1:C2 H (upd (upd H2 p3 (.tup [.int i,.str g,.ref p2,.int u.length])) a.A (.lst (ls++[.ref p3]))):=C2.tr (A7.grow s13) C2.upd
 generalize upd (upd H2 p3 (.tup [.int i,.str g,.ref p2,.int u.length])) a.A (.lst (ls++[.ref p3]))=H3 at *
 have hb3:=u1.ok.b
 rw[show({st with ls:=st.ls++[⟨i,g,b.pl++[(b.ps.length:Int)],u.length⟩]}:Rst).bs=st.bs from rfl,ea,eb] at hb3
 have hx3:=(hb3.split hl).2.1
 obtain⟨us3,q3,q4⟩:=hx3.q
 have hul3:=qy9 q4
 lk
 refine E9 ?_
 lk
 refine⟨x.o,_,x.x,_,_,rfl,hx3.o,cz.cl_Branch,cz.na_Branch_parts,rfl,?_⟩
 lk
 refine⟨.inl ⟨rfl,_,SqL.of q3⟩,?_⟩
 lk
 refine .inl (O3 (by rw[sizeLine_eq];omega) ?_)
 lk
 refine L0 q3 (by rw[hul3,sizeLine_eq];omega) ?_
 have u2:=Rup.parts (ps:=b.ps++[Tr.tx (u++told)]) (us:=us3++[.str (u++told)]) u1.ok ea eb hl (by
  rw[W4,List.map_append,<-W4]
  exact Dvs.append q4 (Dvs.one (D5.mpr rfl)))
 exact q _ _ (u1.tr u2 g1) (C2.tr g1 C2.upd)
end
theorem xn5(t:Str):("":Str)++t=t:=(W6 _ _).mpr (by rw[PySem.Str.cps_append,Array.toList_append];rfl)
theorem xf3:∀ {ds:List PyData} {d:PyData} {vs:List V} {v:V},Dvs K H (ds++[d]) (vs++[v])->Dvs K H ds vs
 | [],d,[],v,_=>E2
 | [],d,w::vs,v,h=>by have:=h.length;simp at this
 | e::ds,d,[],v,h=>by have:=h.length;simp at this
 | e::ds,d,w::vs,v,h=>by
   rw[List.cons_append,List.cons_append,Dvs] at h
   obtain⟨w',r,e1,h1,h2⟩:=h
   obtain⟨rfl,rfl⟩:=List.cons.inj e1
   exact B3 h1 (xf3 h2)
abbrev wc6(K:Fg):TS :=
 (C1 (P7 (wn0 (E4 (tOp wo1 (tCB (O6 K) (A1 (S5 K (A2 4) "parts") A9)) (tC (.int 0)))) (tB (D1 (qz0 K) [] E0 (A1 (tOp (L7 K) (S5 K (A2 4) "parts") (tUn (rU fun i=>.int (-i)) (tC (.int 1)))) A9))))
 (E3 (zf1 K "list" zf2 (S5 K (A2 4) "parts")) (B2 5)) M7)
 (adT K))
def T1(K:Fg):Sp:=fun vs H Q _=>∃ (kR kB r:Addr) (bv:V) (a:RAd) (st:Rst) (l1:List Brn) (b:Brn) (i:Int) (g told:Str),vs=[.ref r,.int i,.str g,.str told]/\RdO K H kR kB r bv a st/\st.bs=l1++[b]/\b.ps.length<=9000000/\b.pl.length<=1000/\st.ls.length<=9000000/\adA b.ps+told.length<=1000000/\∀ a' H',Rup K kR kB r bv H a H' a' {st with bs:=l1++[{b with ps:=adP b.ps told}],ls:=st.ls++[⟨i,g,b.pl++[(adN b.ps:Int)],adA b.ps⟩]}->C2 H H'->Q .non H'
def T8(K:Fg):TS :=
 (C1 (E3 (tOp (L7 K) (S5 K (A2 0) "branches") (tUn (rU fun i=>.int (-i)) (tC (.int 1)))) (B2 4))
 (C1 (E3 (tC (.str "")) (B2 5))
 (wc6 K)))
theorem we9(cz:Cz K k_Branch k_Reader)(h:T1 K vs H Q E):T8 K {nx:=fun _ H'=>Q .non H',rt:=Q} (D6 ["self","start","signs","told","branch","ahead"] vs) H:=by
 obtain⟨kR,kB,r,bv,a,st,l1,b,i,g,told,rfl,h,eb,h1,h2,h3,h4,q⟩:=h
 obtain rfl:=M9 cz.ns_Reader h.kr
 obtain rfl:=M9 cz.ns_Branch h.kb
 show T8 K _ [some (.ref r),some (.int i),some (.str g),some (.str told),none,none] H
 unfold T8
 obtain⟨m1,x,m2,ea,hm,hx⟩:=h.as_split eb
 have hn:=h.b.len
 rw[ea,eb] at hn
 simp only[List.length_append,List.length_cons,List.length_nil] at hn
 obtain rfl:m2=[]:=List.eq_nil_of_length_eq_zero (by omega)
 obtain⟨us,q1,q2⟩:=hx.q
 have hul:=qy9 q2
 lk
 refine E9 ?_
 lk
 refine⟨r,_,a.x,_,_,rfl,h.o,cz.cl_Reader,cz.na_Reader_branches,rfl,?_⟩
 lk
 refine⟨1,rfl,?_⟩
 refine M5 (SqL.of h.l) (v:=.ref x.o) (qk5 (n:=m1.length) (by rw[ea];simp) (by rw[ea];simp)) ?_
 lk
 refine E9 ?_
 lk
 refine⟨x.o,_,x.x,_,_,rfl,hx.o,cz.cl_Branch,cz.na_Branch_parts,rfl,?_⟩
 lk
 refine T5 (.inl (SqL.of q1)) ?_
 rw[hul]
 lk
 rcases List.eq_nil_or_concat b.ps with hps|⟨P,t,hps⟩
 ·rw[hps]
  k_go
  lk
  refine zt4 cz h ea eb hm h1 h2 h3 (by show 0+_<=_;omega) fun a' H' u g'=>q a' H' ?_ g'
  rw[xn5] at u
  have e1:adP b.ps told=b.ps++[.tx told]:=by rw[hps];rfl
  have e2:adN b.ps=b.ps.length:=by rw[hps];rfl
  have e3:adA b.ps=0:=by rw[hps];rfl
  rw[e1,e2,e3]
  exact u
 ·rw [List.concat_eq_append] at hps
  have hgl:b.ps.getLast?=some t:=by rw[hps,List.getLast?_concat]
  rw[hps] at hul
  refine za6 (by rw[hps];simp) ?_
  lk
  refine E9 ?_
  lk
  refine⟨x.o,_,x.x,_,_,rfl,hx.o,cz.cl_Branch,cz.na_Branch_parts,rfl,?_⟩
  lk
  refine⟨1,rfl,?_⟩
  obtain⟨ut,eu,du⟩:=yl1 q2 (i:=P.length) (t:=t) (by rw[hps];simp)
  refine M5 (SqL.of q1) (v:=ut) (qk5 (n:=P.length) (by rw[hul];simp) eu) ?_
  lk
  refine⟨t,ut,rfl,du,?_⟩
  lk
  cases t with
  | tx u0 =>
    x_go
    lk
    refine E9 ?_
    lk
    refine⟨x.o,_,x.x,_,_,rfl,hx.o,cz.cl_Branch,cz.na_Branch_parts,rfl,?_⟩
    lk
    refine⟨.inl ⟨rfl,_,SqL.of q1⟩,?_⟩
    obtain⟨us1,eus⟩:∃ us1,us=us1++[.str u0]:=by
     have hut:ut=.str u0:=D5.mp du
     refine⟨us.take P.length,?_⟩
     rw[<-hut]
     have:=qn1 eu
     rw[<-this,List.take_of_length_le (by rw[hul];simp)]
    rw[eus] at q1
    refine zm2 q1 ?_
    have dP:Dvs K H (Tr.das P) us1:=by
     rw[eus,hps,W4,List.map_append,<-W4] at q2
     exact xf3 q2
    have u1:=Rup.parts (ps:=P) h ea eb hm dP
    have g1:C2 H (upd H x.q (.lst us1)):=C2.upd
    generalize upd H x.q (.lst us1)=H1 at *
    lk
    have e3:adA b.ps=u0.length:=by unfold adA;rw[hgl]
    refine zt4 cz u1.ok rfl rfl hm (by show P.length<=_;rw[hps] at h1;simp at h1;omega) h2 h3 (by rw[e3] at h4;exact h4) fun a' H' u g'=>q a' H' ?_ (C2.tr g1 g')
    have e1:adP b.ps told=P++[.tx (u0++told)]:=by unfold adP;rw[hgl];rw[hps];simp
    have e2:adN b.ps=P.length:=by unfold adN;rw[hgl,hps];simp
    rw[e1,e2,e3]
    exact u1.tr u g1
  | nd nn pp =>
    k_go
    lk
    refine zt4 cz h ea eb hm h1 h2 h3 (by show 0+_<=_;omega) fun a' H' u g'=>q a' H' ?_ g'
    rw[xn5] at u
    have e1:adP b.ps told=b.ps++[.tx told]:=by unfold adP;rw[hgl]
    have e2:adN b.ps=b.ps.length:=by unfold adN;rw[hgl]
    have e3:adA b.ps=0:=by unfold adA;rw[hgl]
    rw[e1,e2,e3]
    exact u
structure Lim(P W M D T:Nat):Prop where
 P:P<=8000000
 W:W<=8000000
 M:M<=8000000
 D:D<=8000000
 T:T<=500000
theorem xz5{g:TG}(hq:SqT K H a xs)(Pv:Nat->St->Hp->Prop)(h0:Pv 0 σ H)(hk:∀ i σ H',i<=xs.length->Pv i σ H'->SqT K H' a xs)(hs:∀ i x σ H,xs[i]?=some x->Pv i σ H->g x σ H fun σ2 H2=>tb {D with nx:=PAt Pv (i+1),ct:=PAt Pv (i+1),bk:=D.nx} σ2 H2)(hd:∀ σ H,Pv xs.length σ H->D.nx σ H) :
 ∃ b,V.ref a=.ref b/\(((∃ xs,SqL K H b xs)/\wo2 g tb D σ (Itl K b) H)\/((∃ xs,SqT K H b xs)/\wo2 g tb D σ (Itt K b) H)):=⟨a,rfl,.inr ⟨⟨xs,hq⟩,xo5 Pv h0 hk hs hd⟩⟩
theorem yl8{sj:Rst}(e2:Y3 sj.bs=bb):wm1 sj n i rule={sj with bs:=sj.bs++[⟨n,bb.pl++[(bb.ps.length:Int)],[],[]⟩],ms:=sj.ms++[⟨i,i,opn n,rule⟩]}:=by
 unfold wm1 qh9 we8;rw[e2]
theorem zj6{bs:List Brn}(e2:Y3 bs=bb):qh9 bs n=bs++[⟨n,bb.pl++[(bb.ps.length:Int)],[],[]⟩]:=by
 unfold qh9 we8;rw[e2]
theorem xf4(st:Rst)(ns:List Str)(n:Str)(i:Int)(rule:Str):P2 st (ns++[n]) i rule=wm1 (P2 st ns i rule) n i rule:=by
 unfold P2;rw[List.foldl_append];rfl
theorem xr6{pre:List Brn}(e:st.bs=pre++b::cl):Q0 rs st pre.length i rule={st with bs:=wUp rs (·++X0 rs (cl.map Brn.n)) (pre++[{b with ps:=b.ps++N7 cl}]),ms:=st.ms++cl.reverse.map (clM i rule)}:=by
 have e1:st.bs.take pre.length=pre:=by rw[e,List.take_left' rfl]
 have e2:st.bs.drop (pre.length+1)=cl:=by
  rw[e,show pre++b::cl=(pre++[b])++cl by simp,List.drop_left' (by simp)]
 have e3:st.bs.getD pre.length xj8=b:=by rw[e];simp[List.getD]
 unfold Q0
 rw[e1,e2,e3]
theorem Bg.split{D:Nat}(h:Bg rs P W M D T st)(hk:k<st.bs.length):∃ pre b cl,st.bs=pre++b::cl/\pre.length=k/\cl.length<=20/\∀ (i:Int) (rule:Str),Q0 rs st k i rule={st with bs:=wUp rs (·++X0 rs (cl.map Brn.n)) (pre++[{b with ps:=b.ps++N7 cl}]),ms:=st.ms++cl.reverse.map (clM i rule)}:=by
 have e:st.bs=st.bs.take k++st.bs[k]::st.bs.drop (k+1):=by rw[List.getElem_cons_drop,List.take_append_drop]
 have hl:(st.bs.take k).length=k:=by rw[List.length_take];omega
 refine⟨_,_,_,e,hl,by rw[List.length_drop];have:=h.l;omega,fun i rule=>?_⟩
 have:=xr6 (rs:=rs) (i:=i) (rule:=rule) e
 rw[hl] at this
 exact this
theorem Bg.cond{D:Nat}(h:Bg rs P W M D T st)(hP:P<=9000000)(hW:W<=9000000):∀ c∈st.bs,c.n.length<=4000/\c.ps.length<=9000000/\c.ws.length<=9000000:=fun c hc=>by
 have:=h.c c hc
 exact⟨this.n,by have:=this.ps;omega,by have:=this.ws;omega⟩
theorem zb2{ps:List Str}:ql8 (B6 (ps++[n])) none (some (-1))=B6 ps:=by
 unfold ql8
 have e1:(B6 (ps++[n])).length=ps.length+1:=by rw[C3];simp
 have e2:HT.sIx (B6 (ps++[n])).length (B6 (ps++[n])).length (some (-1))=ps.length:=by
  rw[e1]
  show(if(-1:Int)<0 then((-1:Int)+((ps.length+1:Nat):Int)).toNat else min (-1:Int).toNat (ps.length+1))=_
  rw[if_pos (by decide)];omega
 rw[e2]
 show((B6 (ps++[n])).drop 0).take (ps.length-0)=_
 rw[List.drop_zero,Nat.sub_zero]
 unfold B6
 rw[List.map_append,List.take_left' (by simp)]
theorem zt5{o:Option Str}(h:o≠none):decide (oV o=V.non)=false:=by
 cases o with
 | none=>exact absurd rfl h
 | some x=>exact decide_eq_false fun z=>by cases z
abbrev qa2(K:Fg)(k_Reader:Addr):TS :=
 (C1 (I9 (N1 k_Reader "drop" (L8 K) [] E0 (A2 0) (A1 (A2 1) (A1 (A2 2) (A1 (tC (.str "strange")) A9)))))
 yi0)
abbrev qa3(K:Fg)(k_Reader:Addr):TS :=
 (C1 (I9 (N1 k_Reader "drop" (L8 K) [] E0 (A2 0) (A1 (A2 1) (A1 (A2 2) (A1 (tOp (L7 K) (A2 4) (tC (.int 1))) A9)))))
 yi0)
abbrev qa4(K:Fg)(k_Reader:Addr):TS :=
 (I9 (N1 k_Reader "put_in" (N6 K) [] E0 (A2 0) (A1 (A2 5) (A1 (A2 1) (A1 (tC (.str "frame")) A9)))))
abbrev qa5(K:Fg)(k_Reader:Addr):TS :=
 (P7 (E4 (tOp (Y0 K) (D1 (Y1 K) [] E0 (A1 (S5 K (A2 0) "book") (A1 (A2 3) A9))) (tC (.str "bare"))))
 (I9 (N1 k_Reader "leave" (O8 K) [] E0 (A2 0) A9)) M7)
abbrev qa6(K:Fg)(k_Reader:Addr):TS :=
 (C1 (I9 (N1 k_Reader "enter" (S8 K) [] E0 (A2 0) (A1 (A2 3) A9)))
 (qa5 K k_Reader))
abbrev qa7(K:Fg)(k_Reader:Addr):TS :=
 (C1 (qy2 (wc3 K (tSl (ye5 K) (tOp (L7 K) (A2 4) (tC (.int 2))) qf4 (X8 (tUn (rU fun i=>.int (-i)) (tC (.int 1)))))) (B2 5)
 (qa4 K k_Reader))
 (qa6 K k_Reader))
abbrev qa8(K:Fg)(k_Reader:Addr):TS :=
 (C1 (I9 (N1 k_Reader "close_behind" (J9 K) [] E0 (A2 0) (A1 (tOp (L7 K) (A2 4) (tC (.int 1))) (A1 (A2 1) (A1 (tC (.str "shut")) A9)))))
 (qa7 K k_Reader))
abbrev R9(K:Fg)(k_Reader:Addr):TS :=
 (C1 (P7 (E4 (tOp (Y0 K) (tOp (L7 K) (A2 4) (tC (.int 0))) (tC (.str "drop"))))
 (qa3 K k_Reader) M7)
 (qa8 K k_Reader))
abbrev qa9(K:Fg)(k_Reader:Addr):TS :=
 (C1 (E3 (D1 (qz1 K) [] E0 (A1 (S5 K (A2 0) "book") (A1 (N1 k_Reader "open_names" (D9 K) [] E0 (A2 0) A9) (A1 (A2 3) A9)))) (B2 4))
 (R9 K k_Reader))
def O0(K:Fg):Sp:=fun vs H Q _=>∃ (kR kB r:Addr) (bv:V) (a:RAd) (st:Rst) (rs:List Row) (rk:Str->Nat) (P W M D T:Nat) (i:Int) (g n:Str),vs=[.ref r,.int i,.str g,.str n]/\RdO K H kR kB r bv a st/\BkO K H bv rs/\Bok rs rk/\Bg rs P W M D T st/\Lim P W M D T/\g.length<=100000/\∀ a' H',Rup K kR kB r bv H a H' a' (opS rs rk st i g n)->C2 H H'->Q .non H'
def P3(K:Fg)(k_Reader:Addr):TS :=
 (C1 (P7 (E4 (tOp xv3 (D1 (Y1 K) [] E0 (A1 (S5 K (A2 0) "book") (A1 (A2 3) A9))) (tC .non)))
 (qa2 K k_Reader) M7)
 (qa9 K k_Reader))
theorem qu7(cz:Cz K k_Branch k_Reader)(h:O0 K vs H Q E):P3 K k_Reader {nx:=fun _ H'=>Q .non H',rt:=Q} (D6 ["self","start","signs","name","plan","put"] vs) H:=by
 obtain⟨kR,kB,r,bv,a,st,rs,rk,P,W,M,D,T,i,g,n,rfl,h,hk,bk,bg,lim,hg,q⟩:=h
 obtain rfl:=M9 cz.ns_Reader h.kr
 show P3 K _ _ [some (.ref r),some (.int i),some (.str g),some (.str n),none,none] H
 unfold P3
 obtain⟨b0,bs0,eb0⟩:=List.exists_cons_of_ne_nil bg.ne
 have hnm:J6 st=bs0.map Brn.n:=by unfold J6;rw[eb0];rfl
 have hbl:=bg.l
 have hl0:bs0.length<=20:=by rw[eb0] at hbl;simp at hbl;omega
 have hms:=bg.m
 have l1:=lim.P
 have l2:=lim.W
 have l3:=lim.M
 lk
 refine E9 ?_
 lk
 refine⟨r,_,a.x,_,_,rfl,h.o,cz.cl_Reader,cz.na_Reader_book,rfl,?_⟩
 lk
 refine⟨bv,some n,rs,rfl,hk.rws,?_⟩
 lk
 by_cases hs:L3 rs (some n)=none
 ·have ed:decide (oV (L3 rs (some n))=V.non)=true:=by rw[hs];rfl
  rw[ed]
  x_go
  show qa2 K _ _ _ _
  lk
  refine E5 ?_
  lk
  refine⟨r,_,_,rfl,h.o,rfl,?_⟩
  lk
  refine⟨k_Reader,kB,r,bv,a,st,i,g, "strange",rfl,h,by omega,by omega,fun H1 u1 g1=>?_⟩
  lk
  have eo:opS rs rk st i g n=dropS st i g "strange":=by unfold opS;rw[if_pos hs]
  exact q a H1 (by rw[eo];exact u1) g1
 rw[zt5 hs]
 k_go
 show qa9 K _ _ _ _
 have hrow:=wu6 hs
 lk
 refine E9 ?_
 lk
 refine⟨r,_,a.x,_,_,rfl,h.o,cz.cl_Reader,cz.na_Reader_book,rfl,?_⟩
 lk
 refine E5 ?_
 lk
 refine⟨r,_,_,rfl,h.o,rfl,?_⟩
 lk
 refine⟨k_Reader,kB,r,bv,a,st,b0,bs0,rfl,h,eb0,by omega,fun p H1 s1 hp=>?_⟩
 lk
 rw[<-hnm] at hp
 have hnl:=bg.nlen
 refine⟨bv,p,J6 st,n,rs,rk,rfl,(hk.same s1).rws,bk.B,bk.f,hp,by omega,hrow,bk.k n,fun w H2 s2 hw=>?_⟩
 have s12:=A7.tr s1 s2
 have h2:=h.same s12
 have hk2:=hk.same s12
 have drop:∀ rule:Str,xe1 rs rk (J6 st) n=.tuple [.str "drop",.str rule]->opS rs rk st i g n=dropS st i g rule->R9 K k_Reader {nx:=fun _ H'=>Q .non H',rt:=Q} [some (.ref r),some (.int i),some (.str g),some (.str n),some (.ref w),none] H2:=fun rule ep eo=>by
  rw[ep] at hw
  obtain⟨w',ws,e1,hwq,hwd⟩:=C8.mp hw
  cases e1
  rw[Dvs] at hwd;obtain⟨v0,r0,rfl,d0,hwd⟩:=hwd
  rw[Dvs] at hwd;obtain⟨v1,r1,rfl,d1,hwd⟩:=hwd
  rw[Dvs] at hwd;subst hwd
  obtain rfl:=D5.mp d0
  obtain rfl:=D5.mp d1
  lk
  refine U7 hwq (v:=.str "drop") rfl ?_
  lk
  x_go
  show qa3 K _ _ _ _
  lk
  refine E5 ?_
  lk
  refine⟨r,_,_,rfl,h2.o,rfl,?_⟩
  lk
  refine U7 hwq (v:=.str rule) rfl ?_
  lk
  refine⟨k_Reader,kB,r,bv,a,st,i,g,rule,rfl,h2,by omega,by omega,fun H3 u3 g3=>?_⟩
  lk
  exact q a H3 (by rw[eo];exact(h.up s12).tr u3 (A7.grow s12)) (C2.tr (A7.grow s12) g3)
 by_cases hbar:bar rs ((J6 st).take (L1 rs rk (J6 st) 13 n).1) (L1 rs rk (J6 st) 13 n).2=true
 ·exact drop "barred" (by unfold xe1;rw[if_pos hbar]) (by unfold opS;rw[if_neg hs,if_pos hbar])
 by_cases hdeep:20<(L1 rs rk (J6 st) 13 n).1+(L1 rs rk (J6 st) 13 n).2.length
 ·exact drop "deep" (by unfold xe1;rw[if_neg hbar,if_pos hdeep]) (by unfold opS;rw[if_neg hs,if_neg hbar,if_pos hdeep])
 have ep:xe1 rs rk (J6 st) n=.tuple [.str "open",.int (L1 rs rk (J6 st) 13 n).1,.tuple (sDa (L1 rs rk (J6 st) 13 n).2)]:=by unfold xe1;rw[if_neg hbar,if_neg hdeep]
 have eo:opS rs rk st i g n=(if L3 rs (some n)=some ("bare":Str) then lvS {(P2 (Q0 rs st (L1 rs rk (J6 st) 13 n).1 i "shut") (L1 rs rk (J6 st) 13 n).2.dropLast i "frame") with bs:=qh9 (P2 (Q0 rs st (L1 rs rk (J6 st) 13 n).1 i "shut") (L1 rs rk (J6 st) 13 n).2.dropLast i "frame").bs n} else{(P2 (Q0 rs st (L1 rs rk (J6 st) 13 n).1 i "shut") (L1 rs rk (J6 st) 13 n).2.dropLast i "frame") with bs:=qh9 (P2 (Q0 rs st (L1 rs rk (J6 st) 13 n).1 i "shut") (L1 rs rk (J6 st) 13 n).2.dropLast i "frame").bs n}):=by
  unfold opS;rw[if_neg hs,if_neg hbar,if_neg hdeep]
 have wok:=wh0 bk.B bk.f (ys:=J6 st) 13 n hrow (bk.k n)
 obtain⟨ps,hps⟩:=wu5 (rs:=rs) (rk:=rk) (ys:=J6 st) 13 n
 have hw1:=wok.k
 have hwm:=wok.m
 rw[ep] at hw
 clear drop hbar
 generalize L1 rs rk (J6 st) 13 n=wt at *
 obtain⟨w',ws,e1,hwq,hwd⟩:=C8.mp hw
 cases e1
 rw[Dvs] at hwd;obtain⟨v0,r0,rfl,d0,hwd⟩:=hwd
 rw[Dvs] at hwd;obtain⟨v1,r1,rfl,d1,hwd⟩:=hwd
 rw[Dvs] at hwd;obtain⟨v2,r2,rfl,d2,hwd⟩:=hwd
 rw[Dvs] at hwd;subst hwd
 obtain rfl:=D5.mp d0
 obtain rfl:=O2.mp d1
 obtain⟨pz,zs,rfl,hz,dz⟩:=C8.mp d2
 rw[qd3] at dz;subst dz
 have hkl:wt.1<st.bs.length:=by omega
 obtain⟨pre,bb,cl,eb,hpre,hcl,ecl⟩:=bg.split hkl
 have edl:wt.2.dropLast=ps:=by rw[hps,List.dropLast_concat]
 have ell:wt.2.length=ps.length+1:=by rw[hps];simp
 rw[edl] at eo
 have bc:=bg.cls (i:=i) (rule := "shut") hkl
 have bcl:(Q0 rs st wt.1 i "shut").bs.length=wt.1+1:=by rw[wh6,List.length_take];omega
 have hpm:∀ m∈ps,m.length<=4000/\∃ r∈rs,Row.name r=m:=fun m hm=>by
  have:=hwm m (by rw[hps];simp[hm])
  exact⟨bk.row this,this⟩
 have bp:∀ j,Bg rs (P+1) (W+20) (M+20+(ps.take j).length) D T (P2 (Q0 rs st wt.1 i "shut") (ps.take j) i "frame"):=fun j=>by
  have:(ps.take j).length<=ps.length:=by rw[List.length_take];omega
  exact bc.puts (by rw[bcl];omega) fun m hm=>hpm m (List.mem_of_mem_take hm)
 have bpl:∀ j,(P2 (Q0 rs st wt.1 i "shut") (ps.take j) i "frame").bs.length=wt.1+1+(ps.take j).length:=fun j=>by rw[wh5,bcl]
 show R9 K _ _ _ _
 lk
 refine U7 hwq (v:=.str "open") rfl ?_
 lk
 k_go
 show qa8 K _ _ _ _
 lk
 refine E5 ?_
 lk
 refine⟨r,_,_,rfl,h2.o,rfl,?_⟩
 lk
 refine U7 hwq (v:=.int wt.1) rfl ?_
 lk
 refine⟨k_Reader,kB,r,bv,a,st,rs,pre,cl,bb,i, "shut",by rw[hpre];rfl,h2,hk2,eb,by omega,bg.cond (by omega) (by omega),by omega,fun a3 H3 u3 g3=>?_⟩
 rw[<-ecl i "shut"] at u3
 have tk3:=u3.tupK h2
 have hwq3:=tk3.sqT hwq
 have hz3:=tk3.sqT hz
 show qa7 K _ _ _ _
 lk
 refine U7 hwq3 (v:=.ref pz) rfl ?_
 lk
 refine⟨1,rfl,?_⟩
 refine⟨-1,rfl,?_⟩
 refine xw3 hz3 fun c H4 s4 hc=>?_
 rw[hps,zb2] at hc
 have h4:=u3.ok.same s4
 have hk4:=(hk2.tupK tk3).same s4
 refine xz5 hc (fun j σ H'=>∃ a' x5,σ=[some (.ref r),some (.int i),some (.str g),some (.str n),some (.ref w),x5]/\Rup K k_Reader kB r bv H4 a3 H' a' (P2 (Q0 rs st wt.1 i "shut") (ps.take j) i "frame")/\C2 H4 H') ?_ ?_ ?_ ?_
 ·exact⟨a3,none,rfl,.keep h4 fun c o e _=>e,fun z hz=>hz⟩
 ·rintro j σ H' _ ⟨a',x5,rfl,uj,gj⟩
  exact(uj.tupK h4).sqT hc
 ·rintro j v σ H' hv ⟨a',x5,rfl,uj,gj⟩
  obtain⟨m,hm,rfl⟩:=ql3 hv
  refine M4 ?_
  show qa4 K _ _ _ _
  lk
  refine E5 ?_
  lk
  refine⟨r,_,_,rfl,uj.ok.o,rfl,?_⟩
  lk
  have bj:=bp j
  have bjl:=bpl j
  have hjl:(ps.take j).length<=ps.length:=by rw[List.length_take];omega
  have em:P2 (Q0 rs st wt.1 i "shut") (ps.take (j+1)) i "frame"=wm1 (P2 (Q0 rs st wt.1 i "shut") (ps.take j) i "frame") m i "frame":=by rw[qn1 hm,xf4]
  rw[PAt,em]
  generalize P2 (Q0 rs st wt.1 i "shut") (ps.take j) i "frame"=sj at *
  obtain⟨lb,b9,e1,e2,e3,e4⟩:=bj.snoc
  have h3:=e4.ps
  have h5:=bj.m
  have h6:=bj.l
  rw[e1,List.length_append,List.length_singleton] at h6
  refine⟨k_Reader,kB,r,bv,a',sj,m,i, "frame",lb,b9,rfl,uj.ok,e1,by omega,by omega,by omega,by omega,(hpm m (List.mem_of_getElem? hm)).1,fun a6 H6 u6 g6=>?_⟩
  refine⟨a6,_,rfl,?_,C2.tr gj g6⟩
  rw[yl8 e2]
  exact uj.tr u6 gj
 rintro σ H5 ⟨a5,x5,rfl,u5,g5⟩
 have bj:=bp ps.length
 have bjl:=bpl ps.length
 rw[C3] at u5
 rw[List.take_length] at u5 bj bjl
 show qa6 K _ _ _ _
 lk
 refine E5 ?_
 lk
 refine⟨r,_,_,rfl,u5.ok.o,rfl,?_⟩
 lk
 generalize P2 (Q0 rs st wt.1 i "shut") ps i "frame"=sj at *
 obtain⟨lb,b9,e1,e2,e3,e4⟩:=bj.snoc
 have h3:=e4.ps
 have h6:=bj.l
 rw[e1,List.length_append,List.length_singleton] at h6
 refine⟨k_Reader,kB,r,bv,a5,sj,n,lb,b9,rfl,u5.ok,e1,by omega,by omega,by omega,fun a6 H6 u6 g6=>?_⟩
 have g12:=A7.grow s12
 have uu:=((((h.up s12).tr u3 g12).tr (u3.ok.up s4) (C2.tr g12 g3)).tr u5 (C2.tr (C2.tr g12 g3) (A7.grow s4))).tr u6 (C2.tr (C2.tr (C2.tr g12 g3) (A7.grow s4)) g5)
 have gg:=C2.tr (C2.tr (C2.tr (C2.tr g12 g3) (A7.grow s4)) g5) g6
 have hk6:=hk.tupK (uu.tupK h)
 rw[<-zj6 e2] at u6 uu
 show qa5 K _ _ _ _
 lk
 refine E9 ?_
 lk
 refine⟨r,_,a6.x,_,_,rfl,u6.ok.o,cz.cl_Reader,cz.na_Reader_book,rfl,?_⟩
 lk
 refine⟨bv,some n,rs,rfl,hk6.rws,?_⟩
 lk
 refine yg5 ?_
 lk
 by_cases hbare:L3 rs (some n)=some ("bare":Str)
 ·rw[decide_eq_true hbare]
  x_go
  lk
  refine E5 ?_
  lk
  refine⟨r,_,_,rfl,u6.ok.o,rfl,?_⟩
  lk
  have e7:qh9 sj.bs n=lb++[b9,we8 b9 n]:=by unfold qh9;rw[e2,e1];simp
  refine⟨k_Reader,kB,r,bv,a6,_,lb,b9,we8 b9 n,rfl,u6.ok,e7,by omega,fun a7 H7 u7 g7=>?_⟩
  refine q a7 H7 ?_ (C2.tr gg g7)
  rw[eo,if_pos hbare]
  unfold lvS
  show Rup _ _ _ _ _ _ _ _ _ {sj with bs:=lvB (qh9 sj.bs n)}
  rw[e7,xf1]
  exact uu.tr u7 gg
 ·rw[decide_eq_false hbare]
  k_go
  refine q a6 H6 ?_ gg
  rw[eo,if_neg hbare]
  exact uu
section
variable{kR kB r:Addr}{bv:V}{a:RAd}{st:Rst}
theorem Rup.waitO{x:BA}{w:Addr}{ws:List Str}(h:RdO K H kR kB r bv a st)(ea:a.as=m1++x::m2)(eb:st.bs=l1++b::l2)(hl:m1.length=l1.length)(s1:A7 H H1)(hw0:H w=none)(hw:H1 w=some (.lst (B6 ws))) :
 Rup K kR kB r bv H a (upd H1 x.o (.ins kB x.x (bF {x with w:=w} b))) {a with as:=m1++{x with w:=w}::m2} {st with bs:=l1++{b with ws:=ws}::l2}:=by
 have hb:=h.b
 rw[ea,eb] at hb
 have hx:=(hb.split hl).2.1
 have xnd:=h.xnd ea
 have no:x.o≠x.q:=by simp[BA.fp] at xnd;exact xnd.1.1
 have nwo:x.o≠w:=W8 hw0 hx.o
 obtain⟨us,q1,q2⟩:=hx.q
 have nwq:x.q≠w:=W8 hw0 q1
 have tk:T4 H (upd H1 x.o (.ins kB x.x (bF {x with w:=w} b))):=zb0 s1.tupK (N5 (.inr ⟨_,_,_,s1 _ _ hx.o⟩))
 refine Rup.swap h ea eb hl (fun z u e n=>E7 (s1 _ _ e) fun y=>n (by rw[y];simp[BA.fp])) ⟨A5,tk.sqT hx.p,⟨us,E7 (s1 _ _ q1) (Ne.symm no),Dvs.tupK tk _ _ (qf8 _) q2⟩,E7 hw (Ne.symm nwo)⟩ (fun z hz=>?_) ?_ rfl
 ·simp only[BA.fp,List.mem_cons,List.not_mem_nil,or_false] at hz ⊢
  rcases hz with rfl|rfl|rfl
  ·exact .inl (.inl rfl)
  ·exact .inl (.inr (.inl rfl))
  ·exact .inr hw0
 ·simp[BA.fp,no,nwo,nwq]
end
abbrev qb0(K:Fg)(k_Reader:Addr):TS :=
 (I9 (N1 k_Reader "drop" (L8 K) [] E0 (A2 0) (A1 (A2 1) (A1 (A2 2) (A1 (tC (.str "late")) A9)))))
abbrev qb1(K:Fg)(k_Reader:Addr):TS :=
 (C1 (wd1 K (A2 5) (D1 (qe1 K) [] E0 (A1 (S5 K (A2 5) "waiting") (A1 (A2 3) A9))) "waiting")
 (qb0 K k_Reader))
abbrev qb2(K:Fg)(k_Reader:Addr):TS :=
 (I9 (N1 k_Reader "drop" (L8 K) [] E0 (A2 0) (A1 (A2 1) (A1 (A2 2) (A1 (tC (.str "stray")) A9)))))
abbrev qb3(K:Fg)(k_Reader:Addr):TS :=
 (C1 (I9 (N1 k_Reader "close_behind" (J9 K) [] E0 (A2 0) (A1 (tOp (E6 K) (A2 4) (tC (.int 1))) (A1 (A2 1) (A1 (tC (.str "left")) A9)))))
 (I9 (N1 k_Reader "leave" (O8 K) [] E0 (A2 0) A9)))
abbrev qb4(K:Fg)(k_Reader:Addr):TS :=
 (P7 (E4 (tOp (xc4 K false) (A2 3) (S5 K (A2 5) "waiting")))
 (qb1 K k_Reader) (qb2 K k_Reader))
abbrev N4(K:Fg)(k_Reader:Addr):TS :=
 (P7 (E4 (tOp wg6 (A2 4) (tC .non)))
 (qb3 K k_Reader) (qb4 K k_Reader))
abbrev qb5(K:Fg)(k_Reader:Addr):TS :=
 (C1 (E3 (N1 k_Reader "last_wall" (M2 K) [] E0 (A2 0) A9) (B2 5))
 (N4 K k_Reader))
def O1(K:Fg):Sp:=fun vs H Q _=>∃ (kR kB r:Addr) (bv:V) (a:RAd) (st:Rst) (rs:List Row) (rk:Str->Nat) (P W M D T:Nat) (i:Int) (g n:Str),vs=[.ref r,.int i,.str g,.str n]/\RdO K H kR kB r bv a st/\BkO K H bv rs/\Bok rs rk/\Bg rs P W M D T st/\Lim P W M D T/\g.length<=100000/\∀ a' H',Rup K kR kB r bv H a H' a' (qw6 rs rk st i g n)->C2 H H'->Q .non H'
def P4(K:Fg)(k_Reader:Addr):TS :=
 (C1 (E3 (D1 (qq0 K) [] E0 (A1 (S5 K (A2 0) "book") (A1 (N1 k_Reader "open_names" (D9 K) [] E0 (A2 0) A9) (A1 (A2 3) A9)))) (B2 4))
 (qb5 K k_Reader))
theorem qu8(cz:Cz K k_Branch k_Reader)(h:O1 K vs H Q E):P4 K k_Reader {nx:=fun _ H'=>Q .non H',rt:=Q} (D6 ["self","start","signs","name","number","wall"] vs) H:=by
 obtain⟨kR,kB,r,bv,a,st,rs,rk,P,W,M,D,T,i,g,n,rfl,h,hk,bk,bg,lim,hg,q⟩:=h
 obtain rfl:=M9 cz.ns_Reader h.kr
 obtain rfl:=M9 cz.ns_Branch h.kb
 show P4 K _ _ [some (.ref r),some (.int i),some (.str g),some (.str n),none,none] H
 unfold P4
 obtain⟨b0,bs0,eb0⟩:=List.exists_cons_of_ne_nil bg.ne
 have hnm:J6 st=bs0.map Brn.n:=by unfold J6;rw[eb0];rfl
 have hbl:=bg.l
 have hl0:bs0.length<=20:=by rw[eb0] at hbl;simp at hbl;omega
 have hms:=bg.m
 have hnl:=bg.nlen
 have l1:=lim.P
 have l2:=lim.W
 have l3:=lim.M
 lk
 refine E9 ?_
 lk
 refine⟨r,_,a.x,_,_,rfl,h.o,cz.cl_Reader,cz.na_Reader_book,rfl,?_⟩
 lk
 refine E5 ?_
 lk
 refine⟨r,_,_,rfl,h.o,rfl,?_⟩
 lk
 refine⟨k_Reader,k_Branch,r,bv,a,st,b0,bs0,rfl,h,eb0,by omega,fun p H1 s1 hp=>?_⟩
 lk
 rw[<-hnm] at hp
 have h1:=h.same s1
 have hk1:=hk.same s1
 refine⟨bv,p,J6 st,n,rs,rk,rfl,hk1.rws,bk.f,.inr hp,by omega,?_⟩
 show qb5 K _ _ _ _
 lk
 refine E5 ?_
 lk
 refine⟨r,_,_,rfl,h1.o,rfl,?_⟩
 lk
 refine⟨k_Reader,k_Branch,r,bv,a,st,rs,rfl,h1,hk1,bg.ne,by omega,fun m1 m2 x k1 k2 bb H2 s2 ea eb hm lw=>?_⟩
 have s12:=A7.tr s1 s2
 have h2:=h.same s12
 have hk2:=hk.same s12
 have g12:=A7.grow s12
 have hb2:=h2.b
 rw[ea,eb] at hb2
 have hx:=(hb2.split hm).2.1
 show N4 K _ _ _ _
 cases hc:clo rs rk (J6 st) n (J6 st).length with
 | some k =>
   have hkl:=xe0 hc
   have eo:qw6 rs rk st i g n=lvS (Q0 rs st (k+1) i "left"):=by unfold qw6;rw[hc]
   show N4 K _ _ [some (.ref r),some (.int i),some (.str g),some (.str n),some (.int (k:Int)),some (.ref x.o)] _
   lk
   x_go
   show qb3 K _ _ _ _
   lk
   refine E5 ?_
   lk
   refine⟨r,_,_,rfl,h2.o,rfl,?_⟩
   lk
   have hkl2:k+1<st.bs.length:=by omega
   obtain⟨pre,b3,cl,e3,hpre,hcl,ecl⟩:=bg.split hkl2
   have bc:=bg.cls (i:=i) (rule := "left") hkl2
   have bcl:(Q0 rs st (k+1) i "left").bs.length=k+2:=by rw[wh6,List.length_take];omega
   refine⟨k_Reader,k_Branch,r,bv,a,st,rs,pre,cl,b3,i, "left",by rw[hpre];rfl,h2,hk2,e3,by omega,bg.cond (by omega) (by omega),by omega,fun a3 H3 u3 g3=>?_⟩
   rw[<-ecl i "left"] at u3
   lk
   refine E5 ?_
   lk
   refine⟨r,_,_,rfl,u3.ok.o,rfl,?_⟩
   lk
   generalize Q0 rs st (k+1) i "left"=sj at *
   obtain⟨lb,b5,b6,e5⟩:=yg6 (bs:=sj.bs) (by omega)
   have hb5:=(bc.c b5 (by rw[e5];simp)).ps
   refine⟨k_Reader,k_Branch,r,bv,a3,sj,lb,b5,b6,rfl,u3.ok,e5,by omega,fun a4 H4 u4 g4=>?_⟩
   refine q a4 H4 ?_ (C2.tr (C2.tr g12 g3) g4)
   rw[eo]
   unfold lvS
   rw[e5,xf1]
   exact((h.up s12).tr u3 g12).tr u4 (C2.tr g12 g3)
 | none =>
   show N4 K _ _ [some (.ref r),some (.int i),some (.str g),some (.str n),some .non,some (.ref x.o)] _
   lk
   k_go
   show qb4 K _ _ _ _
   have elw:lwS rs st.bs=bb.ws:=by rw[eb];exact xf0 lw
   have hbb:=bg.c bb (by rw[eb];simp)
   have hbw:=hbb.ws
   lk
   refine E9 ?_
   lk
   refine⟨x.o,_,x.x,_,_,rfl,hx.o,cz.cl_Branch,cz.na_Branch_waiting,rfl,?_⟩
   refine .inl (xv7 (.inl (SqL.of hx.w)) rfl (qe8 _) ?_)
   rw[qf7]
   lk
   by_cases hin:n∈bb.ws
   ·rw[decide_eq_true hin]
    x_go
    have eo:qw6 rs rk st i g n={(dropS st i g "late") with bs:=wUp rs (fun ws=>woL ws n) st.bs}:=by unfold qw6;rw[hc,elw];exact if_pos hin
    have ewu:wUp rs (fun ws=>woL ws n) st.bs=k1++{bb with ws:=woL bb.ws n}::k2:=by rw[eb];exact wl9 lw
    show qb1 K _ _ _ _
    refine qc0 (qk4 ?_)
    lk
    refine E9 ?_
    lk
    refine⟨x.o,_,x.x,_,_,rfl,hx.o,cz.cl_Branch,cz.na_Branch_waiting,rfl,?_⟩
    lk
    refine⟨x.w,bb.ws,n,rfl,hx.w,hin,by omega,fun w H3 s3 hw0 hw=>?_⟩
    lk
    refine⟨x.o,_,x.x,_,rfl,s3 _ _ hx.o,cz.cl_Branch,cz.na_Branch_waiting,by unfold bF;simp,?_⟩
    unfold bF
    rw[zm9]
    have u3:=Rup.waitO (ws:=woL bb.ws n) h2 ea eb hm s3 hw0 hw
    rw[<-ewu] at u3
    have g3:C2 H2 (upd H3 x.o (.ins k_Branch x.x [(("name":Str),.str bb.n),(("place":Str),.ref x.p),(("parts":Str),.ref x.q),(("waiting":Str),.ref w)])):=C2.tr (A7.grow s3) C2.upd
    have u3':Rup K k_Reader k_Branch r bv H2 a (upd H3 x.o (.ins k_Branch x.x [(("name":Str),.str bb.n),(("place":Str),.ref x.p),(("parts":Str),.ref x.q),(("waiting":Str),.ref w)])) {a with as:=m1++{x with w:=w}::m2} {st with bs:=wUp rs (fun ws=>woL ws n) st.bs}:=u3
    generalize upd H3 x.o (.ins k_Branch x.x [(("name":Str),.str bb.n),(("place":Str),.ref x.p),(("parts":Str),.ref x.q),(("waiting":Str),.ref w)])=H4 at *
    show qb0 K _ _ _ _
    lk
    refine E5 ?_
    lk
    refine⟨r,_,_,rfl,u3'.ok.o,rfl,?_⟩
    lk
    refine⟨k_Reader,k_Branch,r,bv,_,_,i,g, "late",rfl,u3'.ok,by show st.ms.length<=_;omega,by omega,fun H5 u5 g5=>?_⟩
    refine q {a with as:=m1++{x with w:=w}::m2} H5 ?_ (C2.tr (C2.tr g12 g3) g5)
    rw[eo]
    exact((h.up s12).tr u3' g12).tr u5 (C2.tr g12 g3)
   ·rw[decide_eq_false hin]
    k_go
    have eo:qw6 rs rk st i g n=dropS st i g "stray":=by unfold qw6;rw[hc,elw];exact if_neg hin
    show qb2 K _ _ _ _
    lk
    refine E5 ?_
    lk
    refine⟨r,_,_,rfl,h2.o,rfl,?_⟩
    lk
    refine⟨k_Reader,k_Branch,r,bv,a,st,i,g, "stray",rfl,h2,by omega,by omega,fun H5 u5 g5=>?_⟩
    refine q a H5 ?_ (C2.tr g12 g5)
    rw[eo]
    exact(h.up s12).tr u5 g12
theorem zb3{n:Nat}(h:k∈qe9 l n):l[k]?=some 60\/l[k]?=some 38:=by
 unfold qe9 at h
 have:=(List.mem_filter.mp h).2
 unfold xy6 at this
 rw[Bool.or_eq_true,Bool.and_eq_true,decide_eq_true_eq,decide_eq_true_eq] at this
 exact this.imp id fun h=>h.1
theorem zt6:ys2 ⟨#[60]⟩ = "&l;":=by rw[W6];rfl
theorem zt7:ys2 ⟨#[38]⟩ = "&a;":=by rw[W6];rfl
theorem zb4{ns:List Nat}(h:(xx5 ns)[j]?=some v):∃ k,ns[j]?=some k/\v=.int (k:Int):=by
 unfold xx5 at h
 rw[List.getElem?_map] at h
 obtain⟨k,hk,e⟩:=Option.map_eq_some_iff.mp h
 exact⟨k,hk,e.symm⟩
abbrev qi1(K:Fg)(k_Reader:Addr):TS :=
 (I9 (N1 k_Reader "put_in" (N6 K) [] E0 (A2 0) (A1 (A2 5) (A1 (A2 1) (A1 (tC (.str "host")) A9)))))
abbrev qi2(K:Fg):TS :=
 (I9 (tBM K "list" J4 (S5 K (A2 0) "mends") (A1 (Q3 (A1 (A2 7) (A1 (tOp (E6 K) (A2 7) (tC (.int 1))) (A1 (D1 (qz7 K) [] E0 (A1 (tOp (L7 K) (A2 2) (A2 6)) A9)) (A1 (tC (.str "sign")) A9))))) A9)))
abbrev qi3(K:Fg)(k_Reader:Addr):TS :=
 (I9 (N1 k_Reader "add_text" (T1 K) [] E0 (A2 0) (A1 (A2 1) (A1 (A2 2) (A1 (A2 3) A9)))))
abbrev qi4(K:Fg)(k_Reader:Addr):TS :=
 (C1 (qy2 (wc3 K (D1 (qo3 K) [] E0 (A1 (A2 2) A9))) (B2 6)
 (C1 (E3 (tOp (E6 K) (A2 1) (A2 6)) (B2 7))
 (qi2 K)))
 (qi3 K k_Reader))
abbrev qi5(K:Fg)(k_Reader:Addr):TS :=
 (C1 (I9 (N1 k_Reader "put_in_waiting" (N0 K) [] E0 (A2 0) (A1 (A2 1) A9)))
 (qi4 K k_Reader))
abbrev qi6(K:Fg)(k_Reader:Addr):TS :=
 (I9 (N1 k_Reader "drop" (L8 K) [] E0 (A2 0) (A1 (A2 1) (A1 (A2 2) (A1 (tC (.str "deep")) A9)))))
abbrev qi7(K:Fg)(k_Reader:Addr):TS :=
 (C1 (qy2 (wc3 K (A2 4)) (B2 5)
 (qi1 K k_Reader))
 (qi5 K k_Reader))
abbrev qi8(K:Fg)(k_Reader:Addr):TS :=
 (I9 (N1 k_Reader "drop" (L8 K) [] E0 (A2 0) (A1 (A2 1) (A1 (A2 2) (A1 (tC (.str "blank")) A9)))))
abbrev qi9(K:Fg)(k_Reader:Addr):TS :=
 (P7 (E4 (tOp xv3 (A2 4) (tC .non)))
 (qi6 K k_Reader) (qi7 K k_Reader))
abbrev qj0(K:Fg)(k_Reader:Addr):TS :=
 (P7 (wn0 (tB (N1 k_Reader "is_in_frame" (O9 K) [] E0 (A2 0) A9)) (E4 (tOp (Y0 K) (tBM K "str" yk8 (A2 3) (A1 (tC (.str " \n")) A9)) (tC (.str "")))))
 (qi8 K k_Reader) (qi9 K k_Reader))
theorem RdO.nop{a:RAd}(h:RdO K H kR kB r bv a st)(hp:H p=none):p∉RAd.fp r a:=fun hz=>h.dom p hz hp
theorem zb5{a:RAd}(cz:Cz K k_Branch k_Reader){D:Nat}{c:Addr}(h:RdO K H k_Reader k_Branch r bv a st)(hk:BkO K H bv rs)(bk:Bok rs rk)(bg:Bg rs P W M D T st)(lim:Lim P W M D T)(hg:g.length<=10000)(ht:t.length<=10000)(hc:SqT K H c (B6 (O4 rs st)))(hlen:¬20<(J6 st).length+(O4 rs st).length)(q:∀ a' H',Rup K k_Reader k_Branch r bv H a H' a' (txS (wb2 (qm1 rs i (P2 st (O4 rs st) i "host")) i g) i g t)->C2 H H'->Q .non H') :
 qi7 K k_Reader {nx:=fun _ H'=>Q .non H',rt:=Q} [some (.ref r),some (.int i),some (.str g),some (.str t),some (.ref c),none,none,none] H:=by
 have hnl:=bg.nlen
 have l1:=lim.P
 have l2:=lim.W
 have l3:=lim.M
 have l4:=lim.D
 have l5:=lim.T
 have hhl:(O4 rs st).length<=12:=qj6 rs 12 _
 have hpm:∀ m∈O4 rs st,m.length<=4000/\∃ r∈rs,Row.name r=m:=fun m hm=>by
  have:=qw2 bk.B 12 _ m hm
  exact⟨bk.row this,this⟩
 have bp:∀ j,Bg rs P W (M+((O4 rs st).take j).length) D T (P2 st ((O4 rs st).take j) i "host"):=fun j=>by
  have:((O4 rs st).take j).length<=(O4 rs st).length:=by rw[List.length_take];omega
  exact bg.puts (by omega) fun m hm=>hpm m (List.mem_of_mem_take hm)
 lk
 refine xz5 hc (fun j σ H'=>∃ a' x5,σ=[some (.ref r),some (.int i),some (.str g),some (.str t),some (.ref c),x5,none,none]/\Rup K k_Reader k_Branch r bv H a H' a' (P2 st ((O4 rs st).take j) i "host")/\C2 H H') ?_ ?_ ?_ ?_
 ·exact⟨a,none,rfl,.keep h fun c o e _=>e,fun z hz=>hz⟩
 ·rintro j σ H' _ ⟨a',x5,rfl,uj,gj⟩
  exact(uj.tupK h).sqT hc
 ·rintro j v σ H' hv ⟨a',x5,rfl,uj,gj⟩
  obtain⟨m,hm,rfl⟩:=ql3 hv
  refine M4 ?_
  show qi1 K _ _ _ _
  lk
  refine E5 ?_
  lk
  refine⟨r,_,_,rfl,uj.ok.o,rfl,?_⟩
  lk
  have bj:=bp j
  have hjl:((O4 rs st).take j).length<=(O4 rs st).length:=by rw[List.length_take];omega
  have em:P2 st ((O4 rs st).take (j+1)) i "host"=wm1 (P2 st ((O4 rs st).take j) i "host") m i "host":=by rw[qn1 hm,xf4]
  rw[PAt,em]
  generalize P2 st ((O4 rs st).take j) i "host"=sj at *
  obtain⟨lb,b9,e1,e2,e3,e4⟩:=bj.snoc
  have h3:=e4.ps
  have h5:=bj.m
  have h6:=bj.l
  rw[e1,List.length_append,List.length_singleton] at h6
  refine⟨k_Reader,k_Branch,r,bv,a',sj,m,i, "host",lb,b9,rfl,uj.ok,e1,by omega,by omega,by omega,by omega,(hpm m (List.mem_of_getElem? hm)).1,fun a6 H6 u6 g6=>?_⟩
  refine⟨a6,_,rfl,?_,C2.tr gj g6⟩
  rw[yl8 e2]
  exact uj.tr u6 gj
 rintro σ H5 ⟨a5,x5,rfl,u5,g5⟩
 have bj:=bp (O4 rs st).length
 rw[C3] at u5
 rw[List.take_length] at u5 bj
 have hk5:=hk.tupK (u5.tupK h)
 show qi5 K _ _ _ _
 lk
 refine E5 ?_
 lk
 refine⟨r,_,_,rfl,u5.ok.o,rfl,?_⟩
 lk
 generalize P2 st (O4 rs st) i "host"=sj at *
 refine⟨k_Reader,k_Branch,r,bv,a5,sj,rs,rk,i,P,W,M+(O4 rs st).length,D,T,rfl,u5.ok,hk5,bk,bj,by omega,by omega,by omega,fun a6 H6 u6 g6=>?_⟩
 have b6:=bj.anews (i:=i) bk.n
 have u56:=u5.tr u6 g5
 have g56:=C2.tr g5 g6
 generalize qm1 rs i sj=s6 at *
 show qi4 K _ _ _ _
 lk
 refine⟨g,rfl,by omega,fun p7 H7 s7 hp70 hp7=>?_⟩
 have h7:=u6.ok.same s7
 have np:p7∉RAd.fp r a6:=u6.ok.nop hp70
 have gl:g.cps.toList.length=g.length:=Array.length_toList
 have lol:=wt8 g.cps.toList g.cps.toList.length
 have h6m:=b6.m
 refine wd7 (SqL.of hp7) (fun j σ H'=>∃ x6 x7,σ=[some (.ref r),some (.int i),some (.str g),some (.str t),some (.ref c),x5,x6,x7]/\Rup K k_Reader k_Branch r bv H7 a6 H' a6 {s6 with ms:=s6.ms++((qe9 g.cps.toList g.cps.toList.length).take j).map (zi9 i g)}/\C2 H7 H') ?_ ?_ ?_ ?_
 ·refine⟨none,none,rfl,?_,fun z hz=>hz⟩
  rw[List.take_zero,List.map_nil,List.append_nil]
  exact .keep h7 fun c o e _=>e
 ·rintro j σ H' _ ⟨x6,x7,rfl,uj,gj⟩
  exact SqL.of (uj.bt _ _ hp7 np)
 ·rintro j v σ H' hv ⟨x6,x7,rfl,uj,gj⟩
  obtain⟨k,hkk,rfl⟩:=zb4 hv
  have hlo:=zb3 (List.mem_of_getElem? hkk)
  obtain⟨cc,hcc⟩:∃ cc,g.cps.toList[k]?=some cc:=by rcases hlo with e|e <;> exact⟨_,e⟩
  refine M4 ?_
  lk
  show qi2 K _ _ _
  obtain⟨us,m1,m2⟩:=uj.ok.m
  have hul:=RdO.ms_len m2
  have hul2:us.length=s6.ms.length+((qe9 g.cps.toList g.cps.toList.length).take j).length:=by rw[hul];show(s6.ms++_).length=_;rw[List.length_append,List.length_map]
  have htl:((qe9 g.cps.toList g.cps.toList.length).take j).length<=(qe9 g.cps.toList g.cps.toList.length).length:=by rw[List.length_take];omega
  lk
  refine E9 ?_
  lk
  refine⟨r,_,a6.x,_,_,rfl,uj.ok.o,cz.cl_Reader,cz.na_Reader_mends,rfl,?_⟩
  lk
  refine⟨.inl ⟨rfl,_,SqL.of m1⟩,?_⟩
  lk
  refine zm0 (by rw[sizeLine_eq];omega) (W3 hcc) ?_
  lk
  refine⟨⟨#[cc]⟩,rfl,by show 1<=30000;decide,?_⟩
  have ee:ys2 ⟨#[cc]⟩=(zi9 i g k).t:=by
   show _=if g.cps.toList[k]?=some 60 then _ else _
   rcases hlo with e|e
   ·rw[if_pos e]
    rw[e] at hcc
    obtain rfl:=Option.some.inj hcc
    exact zt6
   ·rw[if_neg (by rw[e];decide)]
    rw[e] at hcc
    obtain rfl:=Option.some.inj hcc
    exact zt7
  rw[ee]
  lk
  refine⟨D4 (by z_go),fun p hp=>?_⟩
  lk
  have s8:=A7.new hp (.tup [.int (i+k),.int (i+k+1),.str (zi9 i g k).t,.str "sign"])
  refine L0 (s8 _ _ m1) (by rw[hul2,sizeLine_eq];omega) ?_
  have u8:=Rup.mend uj.ok s8 (SqT.of A5) m2
  refine⟨_,_,rfl,?_,C2.tr gj (C2.tr C2.upd C2.upd)⟩
  rw[qn1 hkk,List.map_append,<-List.append_assoc]
  exact uj.tr u8 gj
 rintro σ H8 ⟨x6,x7,rfl,u8,g8⟩
 have el:(qe9 g.cps.toList g.cps.toList.length).take (xx5 (qe9 g.cps.toList g.cps.toList.length)).length=qe9 g.cps.toList g.cps.toList.length:=by
  unfold xx5;rw[List.length_map];exact List.take_length
 rw[el] at u8
 have u8':Rup K k_Reader k_Branch r bv H7 a6 H8 a6 (wb2 s6 i g):=u8
 have b8:=b6.sign (i:=i) (g:=g)
 generalize wb2 s6 i g=s8 at *
 show qi3 K _ _ _ _
 lk
 refine E5 ?_
 lk
 refine⟨r,_,_,rfl,u8'.ok.o,rfl,?_⟩
 lk
 obtain⟨lb,b9,e1,e2,e3,e4⟩:=b8.snoc
 have h3:=e4.ps
 have h4:=e4.t
 have h5:=b8.d
 have h6:=b8.l
 rw[e1,List.length_append,List.length_singleton] at h6
 refine⟨k_Reader,k_Branch,r,bv,a6,s8,lb,b9,i,g,t,rfl,u8'.ok,e1,by omega,by omega,by omega,by omega,fun a9 H9 u9 g9=>?_⟩
 refine q a9 H9 ?_ (C2.tr (C2.tr (C2.tr g56 (A7.grow s7)) g8) g9)
 have et:txS s8 i g t={s8 with bs:=lb++[{b9 with ps:=adP b9.ps t}],ls:=s8.ls++[⟨i,g,b9.pl++[(adN b9.ps:Int)],adA b9.ps⟩]}:=by
  unfold txS
  rw[e2,e1,List.dropLast_concat]
 rw[et]
 exact(((u56.tr (u6.ok.up s7) g56).tr u8' (C2.tr g56 (A7.grow s7)))).tr u9 (C2.tr (C2.tr g56 (A7.grow s7)) g8)
def T2(K:Fg):Sp:=fun vs H Q _=>∃ (kR kB r:Addr) (bv:V) (a:RAd) (st:Rst) (rs:List Row) (rk:Str->Nat) (P W M D T:Nat) (i:Int) (g t:Str),vs=[.ref r,.int i,.str g,.str t]/\RdO K H kR kB r bv a st/\BkO K H bv rs/\Bok rs rk/\Bg rs P W M D T st/\Lim P W M D T/\g.length<=10000/\t.length<=10000/\∀ a' H',Rup K kR kB r bv H a H' a' (U5 rs st i g t)->C2 H H'->Q .non H'
def T9(K:Fg)(k_Reader:Addr):TS :=
 (C1 (E3 (D1 (qo0 K) [] E0 (A1 (S5 K (A2 0) "book") (A1 (N1 k_Reader "open_names" (D9 K) [] E0 (A2 0) A9) A9))) (B2 4))
 (qj0 K k_Reader))
theorem wf0(cz:Cz K k_Branch k_Reader)(h:T2 K vs H Q E):T9 K k_Reader {nx:=fun _ H'=>Q .non H',rt:=Q} (D6 ["self","start","signs","told","hosts","host","number","place"] vs) H:=by
 obtain⟨kR,kB,r,bv,a,st,rs,rk,P,W,M,D,T,i,g,t,rfl,h,hk,bk,bg,lim,hg,ht,q⟩:=h
 obtain rfl:=M9 cz.ns_Reader h.kr
 obtain rfl:=M9 cz.ns_Branch h.kb
 show T9 K _ _ [some (.ref r),some (.int i),some (.str g),some (.str t),none,none,none,none] H
 unfold T9
 obtain⟨b0,bs0,eb0⟩:=List.exists_cons_of_ne_nil bg.ne
 have hnm:J6 st=bs0.map Brn.n:=by unfold J6;rw[eb0];rfl
 have hbl:=bg.l
 have hl0:bs0.length<=20:=by rw[eb0] at hbl;simp at hbl;omega
 have hms:=bg.m
 have l3:=lim.M
 lk
 refine E9 ?_
 lk
 refine⟨r,_,a.x,_,_,rfl,h.o,cz.cl_Reader,cz.na_Reader_book,rfl,?_⟩
 lk
 refine E5 ?_
 lk
 refine⟨r,_,_,rfl,h.o,rfl,?_⟩
 lk
 refine⟨k_Reader,k_Branch,r,bv,a,st,b0,bs0,rfl,h,eb0,by omega,fun p H1 s1 hp=>?_⟩
 lk
 rw[<-hnm] at hp
 have rest:∀ (v:V) (H2:Hp),A7 H H2->((20<(J6 st).length+(O4 rs st).length/\v=.non)\/(¬20<(J6 st).length+(O4 rs st).length/\∃ c,v=.ref c/\SqT K H2 c (B6 (O4 rs st))))->qj0 K k_Reader {nx:=fun _ H'=>Q .non H',rt:=Q} [some (.ref r),some (.int i),some (.str g),some (.str t),some v,none,none,none] H2:=fun v H2 s2 hv=>by
  have h2:=h.same s2
  have hk2:=hk.same s2
  lk
  refine E5 ?_
  lk
  refine⟨r,_,_,rfl,h2.o,rfl,?_⟩
  lk
  refine⟨k_Reader,k_Branch,r,bv,a,st,b0,bs0,rs,rfl,h2,hk2,eb0,by omega,fun H3 s3=>?_⟩
  rw[<-hnm]
  have s23:=A7.tr s2 s3
  have h3:=h.same s23
  have hk3:=hk.same s23
  have g3:=A7.grow s23
  have stay:¬(L3 rs (some (P6 (J6 st)))=some ("frame":Str)/\wa0 t=true)->qi9 K k_Reader {nx:=fun _ H'=>Q .non H',rt:=Q} [some (.ref r),some (.int i),some (.str g),some (.str t),some v,none,none,none] H3:=fun hn=>by
   rcases hv with⟨hd,rfl⟩|⟨hd,c,rfl,hc⟩
   ·have eo:U5 rs st i g t=dropS st i g "deep":=by unfold U5;rw[if_neg hn,if_pos hd]
    lk
    x_go
    show qi6 K _ _ _ _
    lk
    refine E5 ?_
    lk
    refine⟨r,_,_,rfl,h3.o,rfl,?_⟩
    lk
    refine⟨k_Reader,k_Branch,r,bv,a,st,i,g, "deep",rfl,h3,by omega,by omega,fun H5 u5 g5=>?_⟩
    refine q a H5 ?_ (C2.tr g3 g5)
    rw[eo]
    exact(h.up s23).tr u5 g3
   ·have eo:U5 rs st i g t=txS (wb2 (qm1 rs i (P2 st (O4 rs st) i "host")) i g) i g t:=by unfold U5;rw[if_neg hn,if_neg hd]
    lk
    k_go
    refine zb5 cz h3 hk3 bk bg lim hg ht (s3.sqT hc) hd fun a' H' u' g'=>q a' H' ?_ (C2.tr g3 g')
    rw[eo]
    exact(h.up s23).tr u' g3
  lk
  by_cases hf:L3 rs (some (P6 (J6 st)))=some ("frame":Str)
  ·rw[decide_eq_true hf]
   x_go
   lk
   refine⟨rfl,?_⟩
   lk
   refine⟨t, " \n",rfl,rfl,by omega,?_⟩
   lk
   by_cases hb:wa0 t=true
   ·have e1:=of_decide_eq_true hb
    rw[decide_eq_true e1]
    x_go
    have eo:U5 rs st i g t=dropS st i g "blank":=by unfold U5;rw[if_pos ⟨hf,hb⟩]
    show qi8 K _ _ _ _
    lk
    refine E5 ?_
    lk
    refine⟨r,_,_,rfl,h3.o,rfl,?_⟩
    lk
    refine⟨k_Reader,k_Branch,r,bv,a,st,i,g, "blank",rfl,h3,by omega,by omega,fun H5 u5 g5=>?_⟩
    refine q a H5 ?_ (C2.tr g3 g5)
    rw[eo]
    exact(h.up s23).tr u5 g3
   ·have e1:=of_decide_eq_false (Bool.eq_false_iff.mpr hb)
    rw[decide_eq_false e1]
    k_go
    exact stay fun z=>hb z.2
  ·rw[decide_eq_false hf]
   k_go
   first|exact stay fun z=>hf z.1|(refine R0 ?_;exact stay fun z=>hf z.1)
 refine⟨bv,p,J6 st,rs,rfl,(hk.same s1).rws,bk.B,.inr hp,fun hd H2 s2=>?_,fun hd c H2 s2 hc=>?_⟩
 ·exact rest _ _ (A7.tr s1 s2) (.inl ⟨hd,rfl⟩)
 ·exact rest _ _ (A7.tr s1 s2) (.inr ⟨hd,c,rfl,hc⟩)
abbrev qt0(K:Fg)(k_Reader:Addr):TS :=
 (I9 (N1 k_Reader "read_closing" (O1 K) [] E0 (A2 0) (A1 (A2 2) (A1 (A2 3) (A1 (A2 4) A9)))))
abbrev qt1(K:Fg)(k_Reader:Addr):TS :=
 (I9 (N1 k_Reader "read_run" (T2 K) [] E0 (A2 0) (A1 (A2 2) (A1 (A2 3) (A1 (A2 4) A9)))))
abbrev qt2(K:Fg)(k_Reader:Addr):TS :=
 (I9 (N1 k_Reader "read_opening" (O0 K) [] E0 (A2 0) (A1 (A2 2) (A1 (A2 3) (A1 (A2 4) A9)))))
abbrev qt3(K:Fg)(k_Reader:Addr):TS :=
 (P7 (E4 (tOp (Y0 K) (A2 1) (tC (.str "close"))))
 (qt0 K k_Reader) (qt1 K k_Reader))
def Z8(K:Fg):Sp:=fun vs H Q _=>∃ (kR kB r:Addr) (bv:V) (a:RAd) (st:Rst) (rs:List Row) (rk:Str->Nat) (P W M D T:Nat) (kind:Str) (i:Int) (g t:Str),vs=[.ref r,.str kind,.int i,.str g,.str t]/\RdO K H kR kB r bv a st/\BkO K H bv rs/\Bok rs rk/\Bg rs P W M D T st/\Lim P W M D T/\g.length<=10000/\t.length<=10000/\∀ a' H',Rup K kR kB r bv H a H' a' (qn3 rs rk st kind i g t)->C2 H H'->Q .non H'
def qe2(K:Fg)(k_Reader:Addr):TS :=
 (P7 (E4 (tOp (Y0 K) (A2 1) (tC (.str "open"))))
 (qt2 K k_Reader) (qt3 K k_Reader))
theorem wu9(cz:Cz K k_Branch k_Reader)(h:Z8 K vs H Q E):qe2 K k_Reader {nx:=fun _ H'=>Q .non H',rt:=Q} (D6 ["self","kind","start","signs","told"] vs) H:=by
 obtain⟨kR,kB,r,bv,a,st,rs,rk,P,W,M,D,T,kind,i,g,t,rfl,h,hk,bk,bg,lim,hg,ht,q⟩:=h
 obtain rfl:=M9 cz.ns_Reader h.kr
 show qe2 K _ _ [some (.ref r),some (.str kind),some (.int i),some (.str g),some (.str t)] H
 unfold qe2
 lk
 by_cases ho:kind=("open":Str)
 ·rw[decide_eq_true ho]
  x_go
  show qt2 K _ _ _ _
  have eo:qn3 rs rk st kind i g t=opS rs rk st i g t:=by unfold qn3;rw[if_pos ho]
  rw[eo] at q
  lk
  refine E5 ?_
  lk
  refine⟨r,_,_,rfl,h.o,rfl,?_⟩
  lk
  exact⟨k_Reader,kB,r,bv,a,st,rs,rk,P,W,M,D,T,i,g,t,rfl,h,hk,bk,bg,lim,by omega,q⟩
 rw[decide_eq_false ho]
 k_go
 show qt3 K _ _ _ _
 lk
 by_cases hc:kind=("close":Str)
 ·rw[decide_eq_true hc]
  x_go
  show qt0 K _ _ _ _
  have eo:qn3 rs rk st kind i g t=qw6 rs rk st i g t:=by unfold qn3;rw[if_neg ho,if_pos hc]
  rw[eo] at q
  lk
  refine E5 ?_
  lk
  refine⟨r,_,_,rfl,h.o,rfl,?_⟩
  lk
  exact⟨k_Reader,kB,r,bv,a,st,rs,rk,P,W,M,D,T,i,g,t,rfl,h,hk,bk,bg,lim,by omega,q⟩
 ·rw[decide_eq_false hc]
  k_go
  show qt1 K _ _ _ _
  have eo:qn3 rs rk st kind i g t=U5 rs st i g t:=by unfold qn3;rw[if_neg ho,if_neg hc]
  rw[eo] at q
  lk
  refine E5 ?_
  lk
  refine⟨r,_,_,rfl,h.o,rfl,?_⟩
  lk
  exact⟨k_Reader,kB,r,bv,a,st,rs,rk,P,W,M,D,T,i,g,t,rfl,h,hk,bk,bg,lim,hg,ht,q⟩
inductive TkC(l:List Nat):Nat->List PyData->Prop
 | nil {p:Nat}:p=l.length->TkC l p []
 | cons {p e:Nat} {kind t:Str} {ds:List PyData}:p<e->e<=l.length->t.length<=e-p->TkC l e ds->TkC l p (.tuple [.str kind,.int (p:Int),.int (e:Int),.str t]::ds)
theorem wq5:∀ (k:Nat) (l:List Nat),(TX.told k l).length<=l.length
 | _,[]=>by simp[TX.told]
 | k+1,c::l=>by rw[TX.told];have:=wq5 k l;simp;omega
 | 0,c::l=>by
   rw[TX.told]
   have h0:=wq5 0 l
   have h2:=wq5 2 l
   split
   ·simp;omega
   ·split <;> (simp;omega)
theorem yl9(l:List Nat):(TX.ofL l).length=l.length:=by unfold TX.ofL;simp[PySem.Str.length]
theorem xf5(h:s<=k)(hk:k<=l.length)(hd:TkC l k ds):TkC l s (TX.runs l s k++ds):=by
 unfold TX.runs
 by_cases e:s<k
 ·rw[if_pos e]
  unfold TX.runD
  refine .cons e hk ?_ hd
  rw[yl9]
  have:=wq5 0 ((l.drop s).take (k-s))
  rw[List.length_take,List.length_drop] at this
  omega
 ·rw[if_neg e]
  obtain rfl:s=k:=by omega
  exact hd
theorem xr7(l:List Nat):∀ (n k s:Nat),s<=k->k<=l.length->TkC l s (TX.cutAt l n k s)
 | 0,k,s,h,hk=>by
   rw[TX.cutAt]
   have:=xf5 (l:=l) (s:=s) (k:=l.length) (by omega) (Nat.le_refl _) (.nil rfl)
   simpa using this
 | n+1,k,s,h,hk=>by
   rw[TX.cutAt]
   by_cases e:l.length<=k
   ·rw[if_pos e]
    have:=xf5 (l:=l) (s:=s) (k:=l.length) (by omega) (Nat.le_refl _) (.nil rfl)
    simpa using this
   ·rw[if_neg e]
    cases ht:TX.tagAt l k with
    | none=>exact xr7 l n (k+1) s (by omega) (by omega)
    | some fe =>
      obtain⟨f,e2⟩:=fe
      obtain⟨h1,h2,h3,h4,_⟩:=TX.tagAt_gt ht
      refine xf5 h hk ?_
      unfold TX.tagD
      refine .cons h1 h2 ?_ (xr7 l n e2 e2 (Nat.le_refl _) h2)
      rw[yl9,List.length_take,List.length_drop]
      have:k<f:=by rw[h3];unfold TX.nst;split <;> omega
      omega
theorem xz6(l:List Nat):TkC l 0 (TX.toks l 0 0):=xr7 l _ 0 0 (Nat.le_refl _) (Nat.zero_le _)
def st0:Rst:=⟨[xj8],[],[]⟩
def wz1(rs:List Row)(rk:Str->Nat)(z:Str)(st:Rst):PyData->Rst
 | .tuple [.str kind,.int i,.int e,.str t]=>qn3 rs rk st kind i (qf6 z (some i) (some e)) t
 | _=>st
def wx5(rs:List Row)(rk:Str->Nat)(z:Str):Rst:=(TX.toks z.cps.toList 0 0).foldl (wz1 rs rk z) st0
def rdS(rs:List Row)(rk:Str->Nat)(z:Str):Rst:=Q0 rs (wx5 rs rk z) 0 z.length "end"
def rtS(st:Rst):List Tr:=(st.bs.headD xj8).ps
theorem zb6(z:Str)(lo hi:Option Int):(qf6 z lo hi).length<=z.length:=by
 unfold qf6
 show(List.toArray _).size<=z.cps.size
 rw[List.size_toArray,List.length_take,List.length_drop,Array.length_toList]
 omega
theorem ys6(z:Str){p e:Nat}(h1:p<=e)(h2:e<=z.length):(qf6 z (some (p:Int)) (some (e:Int))).length=e-p:=by
 have gl:z.cps.toList.length=z.length:=Array.length_toList
 unfold qf6
 show(List.toArray _).size=_
 rw[List.size_toArray,List.length_take,List.length_drop,HT.qy5,HT.qy5]
 omega
theorem bg0(rs:List Row):Bg rs 0 0 0 0 0 st0:=by
 refine⟨fun c hc=>?_,rfl,fun c hc=>(by cases hc),by unfold st0;simp,by unfold st0;simp,Nat.le_refl _,Nat.le_refl _⟩
 rw[List.mem_singleton.mp hc]
 exact⟨by show(0:Nat)<=_;omega,Nat.le_refl _,Nat.le_refl _,fun n hn=>(by cases hn),Nat.le_refl _⟩
theorem ym0{rs:List Row}{rk:Str->Nat}{z:Str}(b:Bok rs rk):∀ (ds:List PyData) (p j:Nat) (st:Rst),TkC z.cps.toList p ds->j<=p->Bg rs (2*j) (20*j) (60*j+p) j p st->∀ i,i<=ds.length->∃ p',p<=p'/\p'<=z.length/\j+i<=p'/\TkC z.cps.toList p' (ds.drop i)/\Bg rs (2*(j+i)) (20*(j+i)) (60*(j+i)+p') (j+i) p' ((ds.take i).foldl (wz1 rs rk z) st)
 | [],p,j,st,h,hj,hb,i,hi=>by
   obtain rfl:i=0:=by simpa using hi
   cases h with
   | nil e=>exact⟨p,Nat.le_refl _,by rw[e];exact Nat.le_of_eq Array.length_toList,hj,.nil e,hb⟩
 | d :: ds,p,j,st,h,hj,hb,0,_=>by
   refine⟨p,Nat.le_refl _,?_,hj,h,hb⟩
   cases h with
   | cons h1 h2 _ _ =>
     have:z.cps.toList.length=z.length:=Array.length_toList
     omega
 | d :: ds,p,j,st,h,hj,hb,i+1,hi=>by
   cases h with
   | cons h1 h2 h3 h4 =>
     rename_i e kind t
     have gl:z.cps.toList.length=z.length:=Array.length_toList
     have hs:=hb.step (rk:=rk) (kind:=kind) (i:=(p:Int)) (g:=qf6 z (some (p:Int)) (some (e:Int))) (t:=t) b
     rw[ys6 z (by omega) (by omega)] at hs
     have hs2:=hs.mono (P':=2*(j+1)) (W':=20*(j+1)) (M':=60*(j+1)+e) (D':=j+1) (T':=e) (by omega) (by omega) (by omega) (by omega) (by omega)
     obtain⟨p',q1,q2,q3,q4,q5⟩:=ym0 b ds e (j+1) _ h4 (by omega) hs2 i (by simpa using hi)
     refine⟨p',by omega,q2,by omega,q4,?_⟩
     rw[show j+(i+1)=j+1+i by omega]
     exact q5
theorem xr8(b:Bok rs rk)(i:Nat)(hi:i<=(TX.toks z.cps.toList 0 0).length):∃ p,p<=z.length/\i<=p/\TkC z.cps.toList p ((TX.toks z.cps.toList 0 0).drop i)/\Bg rs (2*i) (20*i) (60*i+p) i p (((TX.toks z.cps.toList 0 0).take i).foldl (wz1 rs rk z) st0):=by
 obtain⟨p,_,h1,h2,h3,h4⟩:=ym0 (z:=z) b (TX.toks z.cps.toList 0 0) 0 0 st0 (xz6 _) (Nat.le_refl _) (bg0 rs) i hi
 rw[Nat.zero_add] at h2 h4
 exact⟨p,h1,h2,h3,h4⟩
abbrev wj1(K:Fg)(k_Reader:Addr):TS :=
 (I9 (N1 k_Reader "read" (Z8 K) [] E0 (A2 2) (A1 (A2 3) (A1 (A2 4) (A1 (tSl (wo3 K) (A2 1) (X8 (A2 4)) (X8 (A2 5))) (A1 (A2 6) A9))))))
abbrev wj2(K:Fg)(k_Reader:Addr):TS :=
 (C1 (I9 (N1 k_Reader "finish" (V2 K) [] E0 (A2 2) (A1 (tCB (O6 K) (A1 (A2 1) A9)) A9)))
 (M3 (A2 2)))
abbrev wj3(K:Fg)(k_Reader:Addr):TS :=
 (C1 (qy2 (wc3 K (D1 (qo6 K) [] E0 (A1 (A2 1) A9))) (yo5 K 4 (wa8 (B2 3) (wa8 (B2 4) (wa8 (B2 5) (wa8 (B2 6) yo4)))))
 (wj1 K k_Reader))
 (wj2 K k_Reader))
def qp0(K:Fg):Sp:=fun vs H Q _=>∃ (bv:V) (z:Str) (rs:List Row) (rk:Str->Nat),vs=[bv,.str z]/\BkO K H bv rs/\Bok rs rk/\z.length<=10000/\∀ (kR kB r:Addr) (a:RAd) (H':Hp),RdO K H' kR kB r bv a (rdS rs rk z)->A7 H H'->(∀ x∈RAd.fp r a,H x=none)->Q (.ref r) H'
def qt4(K:Fg)(k_Reader:Addr):TS :=
 (C1 (E3 (xu8 k_Reader (Z4 K) [] E0 (A1 (A2 0) A9)) (B2 2))
 (wj3 K k_Reader))
theorem xr9(cz:Cz K k_Branch k_Reader)(h:qp0 K vs H Q E):qt4 K k_Reader {nx:=fun _ H'=>Q .non H',rt:=Q} (D6 ["book","text","reader","kind","start","stop","told"] vs) H:=by
 obtain⟨bv,z,rs,rk,rfl,hk,bk,hz,q⟩:=h
 show qt4 K _ _ [some bv,some (.str z),none,none,none,none,none] H
 unfold qt4
 lk
 refine xp9 ?_
 lk
 intro r dx hr hdx ne
 have s0:A7 H (upd (upd H dx (.own r)) r (.ins k_Reader dx [])):=fun c u e=>E7 (E7 e (W8 hdx e)) (W8 hr e)
 have e0:(upd (upd H dx (.own r)) r (.ins k_Reader dx [])) r=some (.ins k_Reader dx []):=A5
 have g0:C2 H (upd (upd H dx (.own r)) r (.ins k_Reader dx [])):=C2.tr C2.upd C2.upd
 generalize upd (upd H dx (.own r)) r (.ins k_Reader dx [])=H0 at *
 refine⟨k_Reader,r,dx,bv,rfl,cz.ns_Reader,e0,fun kB a H1 h1 bt1 fr1 g1=>⟨rfl,?_⟩⟩
 have s1:A7 H H1:=fun c u e=>bt1 c u (s0 c u e) (by simp;exact W8 hr e)
 have hk1:=hk.same s1
 have fr2:∀ x∈RAd.fp r a,H x=none:=fun x hx=>by
  rcases fr1 x hx with h|h
  ·rw[h];exact hr
  ·exact g0 _ h
 show wj3 K _ _ _ _
 lk
 refine⟨z,rfl,by omega,fun p us H2 s2 hp0 hp hd=>?_⟩
 have h2:=h1.same s2
 have hk2:=hk1.same s2
 have np:p∉RAd.fp r a:=h1.nop hp0
 have hul:=hd.length
 refine wd7 (SqL.of hp) (fun j σ H'=>∃ a' x3 x4 x5 x6,σ=[some bv,some (.str z),some (.ref r),x3,x4,x5,x6]/\Rup K k_Reader kB r bv H2 a H' a' (((TX.toks z.cps.toList 0 0).take j).foldl (wz1 rs rk z) st0)/\C2 H2 H') ?_ ?_ ?_ ?_
 ·exact⟨a,none,none,none,none,rfl,.keep h2 fun c o e _=>e,fun z hz=>hz⟩
 ·rintro j σ H' _ ⟨a',x3,x4,x5,x6,rfl,u,g⟩
  exact SqL.of (u.bt _ _ hp np)
 ·rintro j v σ H' hv ⟨a',x3,x4,x5,x6,rfl,u,g⟩
  have hj:j<us.length:=by rcases Nat.lt_or_ge j us.length with h|h;exact h;rw[List.getElem?_eq_none_iff.mpr h] at hv;cases hv
  have hj2:j<(TX.toks z.cps.toList 0 0).length:=by omega
  obtain⟨pp,hp1,hp2,hp3,bj⟩:=xr8 (z:=z) bk j (by omega)
  have hjd:(TX.toks z.cps.toList 0 0)[j]?=some ((TX.toks z.cps.toList 0 0)[j]'hj2):=List.getElem?_eq_getElem _
  obtain⟨w,hw,dw⟩:=hd.get hjd
  rw[hv] at hw
  obtain rfl:=Option.some.inj hw
  have ef:((TX.toks z.cps.toList 0 0).take (j+1)).foldl (wz1 rs rk z) st0=wz1 rs rk z (((TX.toks z.cps.toList 0 0).take j).foldl (wz1 rs rk z) st0) ((TX.toks z.cps.toList 0 0)[j]'hj2):=by
   rw[qn1 hjd,List.foldl_append];rfl
  rw[PAt,ef]
  generalize ((TX.toks z.cps.toList 0 0).take j).foldl (wz1 rs rk z) st0=sj at *
  rw[<-List.getElem_cons_drop (h:=hj2)] at hp3
  generalize (TX.toks z.cps.toList 0 0)[j]'hj2=d at *
  cases hp3 with
  | cons c1 c2 c3 c4 =>
  rename_i e kind t
  have gl:z.cps.toList.length=z.length:=Array.length_toList
  have tk:=u.tupK h2
  obtain⟨q1,ws,rfl,hq,hwd⟩:=C8.mp dw
  rw[Dvs] at hwd;obtain⟨v0,r0,rfl,d0,hwd⟩:=hwd
  rw[Dvs] at hwd;obtain⟨v1,r1,rfl,d1,hwd⟩:=hwd
  rw[Dvs] at hwd;obtain⟨v2,r2,rfl,d2,hwd⟩:=hwd
  rw[Dvs] at hwd;obtain⟨v3,r3,rfl,d3,hwd⟩:=hwd
  rw[Dvs] at hwd;subst hwd
  obtain rfl:=D5.mp d0
  obtain rfl:=O2.mp d1
  obtain rfl:=O2.mp d2
  obtain rfl:=D5.mp d3
  refine⟨q1,_,rfl,tk.sqT hq,rfl,_,_,rfl,M4 ⟨_,_,rfl,M4 ⟨_,_,rfl,M4 ⟨_,_,rfl,M4 ⟨rfl,?_⟩⟩⟩⟩⟩
  show wj1 K _ _ _ _
  lk
  refine E5 ?_
  lk
  refine⟨r,_,_,rfl,u.ok.o,rfl,?_⟩
  lk
  refine xm3 (D4 (by omega)) ?_
  lk
  have hcl:=zb6 z (some (pp:Int)) (some (e:Int))
  refine⟨k_Reader,kB,r,bv,a',sj,rs,rk,_,_,_,_,_,kind,pp,_,t,rfl,u.ok,hk2.tupK tk,bk,bj,⟨by omega,by omega,by omega,by omega,by omega⟩,by omega,by omega,fun a2 H3 u2 g2=>?_⟩
  exact⟨a2,_,_,_,_,rfl,u.tr u2 g,C2.tr g g2⟩
 ·rintro σ H' ⟨a',x3,x4,x5,x6,rfl,u,g⟩
  obtain⟨pp,hp1,hp2,hp3,bj⟩:=xr8 (z:=z) bk (TX.toks z.cps.toList 0 0).length (Nat.le_refl _)
  rw[hul,List.take_length] at u
  rw[List.take_length] at bj
  have u':Rup K k_Reader kB r bv H2 a H' a' (wx5 rs rk z):=u
  have bj':Bg rs _ _ _ _ _ (wx5 rs rk z):=bj
  have tk:=u'.tupK h2
  show wj2 K _ _ _ _
  lk
  refine E5 ?_
  lk
  refine⟨r,_,_,rfl,u'.ok.o,rfl,?_⟩
  lk
  refine .inr (.inl ⟨z,rfl,D4 (by omega),?_⟩)
  lk
  have erd:rdS rs rk z=Q0 rs (wx5 rs rk z) 0 z.length "end":=rfl
  generalize wx5 rs rk z=sj at *
  obtain⟨b0,cl,eb⟩:=List.exists_cons_of_ne_nil bj'.ne
  have hl:=bj'.l
  have hm:=bj'.m
  have hcl:cl.length<=20:=by rw[eb] at hl;simp at hl;omega
  refine⟨k_Reader,kB,r,bv,a',sj,rs,cl,b0,z.length,rfl,u'.ok,hk2.tupK tk,eb,by omega,bj'.cond (by omega) (by omega),by omega,fun a3 H3 u3 g3=>?_⟩
  lk
  have uu:=u'.tr u3 g
  have e5:=xr6 (rs:=rs) (st:=sj) (pre:=[]) (cl:=cl) (b:=b0) (i:=z.length) (rule := "end") eb
  have e6:rdS rs rk z={sj with bs:=wUp rs (·++X0 rs (cl.map Brn.n)) [{b0 with ps:=b0.ps++N7 cl}],ms:=sj.ms++cl.reverse.map (clM z.length "end")}:=erd.trans e5
  have u4:Rup K k_Reader kB r bv H2 a H3 a3 (rdS rs rk z):=by rw[e6];exact uu
  refine q _ kB r a3 H3 u4.ok (fun c o e=>u4.bt c o (s2 c o (s1 c o e)) fun hc=>?_) fun x hx=>?_
  ·have:=fr2 c hc;rw[e] at this;cases this
  ·rcases u4.fr x hx with h|h
   ·exact fr2 x h
   ·exact(A7.grow s1) _ (A7.grow s2 _ h)
abbrev wj4(K:Fg)(k_Reader:Addr):TS :=
 (M3 (Q3 (A1 (N1 k_Reader "root" (Z5 K) [] E0 (A2 2) A9) (A1 (S5 K (A2 2) "mends") A9))))
def qp1(K:Fg):Sp:=fun vs H Q _=>∃ (bv:V) (z:Str) (rs:List Row) (rk:Str->Nat),vs=[bv,.str z]/\BkO K H bv rs/\Bok rs rk/\z.length<=10000/\∀ (v1:V) (p q:Addr) (us:List V) (H':Hp),SqT K H' p [v1,.ref q]->Dv K H' (Tr.nd "" (rtS (rdS rs rk z))).da v1->H' q=some (.lst us)->Dvs K H' ((rdS rs rk z).ms.map Mnd.da) us->A7 H H'->H q=none->Q (.ref p) H'
def qt5(K:Fg)(k_Reader:Addr):TS :=
 (C1 (E3 (D1 (qp0 K) [] E0 (A1 (A2 0) (A1 (A2 1) A9))) (B2 2))
 (wj4 K k_Reader))
theorem xs0(cz:Cz K k_Branch k_Reader)(h:qp1 K vs H Q E):qt5 K k_Reader {nx:=fun _ H'=>Q .non H',rt:=Q} (D6 ["book","text","reader"] vs) H:=by
 obtain⟨bv,z,rs,rk,rfl,hk,bk,hz,q⟩:=h
 show qt5 K _ _ [some bv,some (.str z),none] H
 unfold qt5
 lk
 refine⟨bv,z,rs,rk,rfl,hk,bk,hz,fun kR kB r a H1 h1 s1 hn=>?_⟩
 obtain rfl:=M9 cz.ns_Reader h1.kr
 show wj4 K _ _ _ _
 lk
 refine E5 ?_
 lk
 refine⟨r,_,_,rfl,h1.o,rfl,?_⟩
 lk
 have hne:(rdS rs rk z).bs≠[]:=xr3 (by simp)
 obtain⟨b',t',ebf⟩:=List.exists_cons_of_ne_nil hne
 have ert:rtS (rdS rs rk z)=b'.ps:=by unfold rtS;rw[ebf];rfl
 refine⟨k_Reader,kB,r,bv,a,_,b',t',rfl,h1,ebf,fun v H2 s2 hv=>?_⟩
 rw[<-ert] at hv
 have h2:=h1.same s2
 obtain⟨us,m1,m2⟩:=h2.m
 lk
 refine E9 ?_
 lk
 refine⟨r,_,a.x,_,_,rfl,h2.o,cz.cl_Reader,cz.na_Reader_mends,rfl,?_⟩
 lk
 refine⟨D4 (by z_go),fun p hp=>?_⟩
 have s3:=A7.new hp (.tup [v,.ref a.M])
 exact q v p a.M us _ (SqT.of A5) (Dv.same s3 _ _ hv) (s3 _ _ m1) (Dvs.same s3 _ _ m2) (A7.tr (A7.tr s1 s2) s3) (hn _ (by simp[RAd.fp]))
mutual
theorem zn0:∀ t:Tr,nd t.da=true
 | .tx s=>by rw[Tr.da,nd]
 | .nd n ps=>by rw[Tr.da,nd,nds,nd,nds,nd,nds,ym1 ps];rfl
theorem ym1:∀ ts:List Tr,nds (Tr.das ts)=true
 | []=>by rw[Tr.das,nds]
 | t::ts=>by rw[Tr.das,nds,zn0 t,ym1 ts];rfl
end
mutual
theorem xz7:∀ t:Tr,t.da.depth<=2*hgt t+4
 | .tx s=>by rw[Tr.da];simp[PyData.depth]
 | .nd n ps=>by
   have:=xn6 ps
   rw[Tr.da,hgt]
   simp[PyData.depth,PyData.depthAll] at this ⊢
   omega
theorem xn6:∀ ts:List Tr,PyData.depthAll (Tr.das ts)<=2*Y2 ts+4
 | []=>by rw[Tr.das];simp[PyData.depthAll]
 | t::ts=>by
   have h1:=xz7 t
   have h2:=xn6 ts
   rw[Tr.das,Y2]
   simp[PyData.depthAll] at h2 ⊢
   omega
end
theorem zb7:∀ ms:List Mnd,nds (ms.map Mnd.da)=true
 | []=>rfl
 | m::ms=>by rw[List.map_cons,nds,zb7 ms];rfl
theorem xz8:∀ ms:List Mnd,PyData.depthAll (ms.map Mnd.da)<=4
 | []=>by simp[PyData.depthAll]
 | m::ms=>by
   have:=xz8 ms
   rw[List.map_cons,PyData.depthAll]
   have h2:m.da.depth<=4:=by unfold Mnd.da;simp[PyData.depth,PyData.depthAll]
   omega
theorem zj7{t:Tr}{ms:List Mnd}{x y:V}(hh:hgt t<=80)(h1:Dv K H (.tuple [t.da,.list (ms.map Mnd.da)]) x)(h2:Dv K H (.tuple [t.da,.list (ms.map Mnd.da)]) y)(q:Q (.bl true) H):Y0 K x y H Q:=by
 refine zl9 h1 h2 ?_ ?_
 ·have e1:=xz7 t
  have e2:=xz8 ms
  simp only[PyData.depth,PyData.depthAll]
  omega
 ·rw[wn9 _ (by rw[nd,nds,zn0,nds,nd,zb7,nds];rfl)];exact q
def Bh(m:Nat)(bs:List Brn):Prop:=∀ (i:Nat) (c:Brn),bs[i]?=some c->Y2 c.ps+i<=m
section
variable{m:Nat}{bs:List Brn}{rs:List Row}
theorem Bh.map{bs':List Brn}(h:Bh m bs)(e:bs'.map Brn.ps=bs.map Brn.ps):Bh m bs':=fun i c hc=>by
 have h1:(bs'.map Brn.ps)[i]?=some c.ps:=by rw[List.getElem?_map,hc];rfl
 rw[e,List.getElem?_map] at h1
 obtain⟨d,hd,ed⟩:=Option.map_eq_some_iff.mp h1
 rw[<-ed];exact h i d hd
theorem Bh.take(h:Bh m bs)(k:Nat):Bh m (bs.take k):=fun i c hc=>by
 rw[List.getElem?_take] at hc
 split at hc
 ·exact h i c hc
 ·cases hc
theorem Bh.snoc(h:Bh m bs)(hb:Y2 b.ps+bs.length<=m):Bh m (bs++[b]):=fun i c hc=>by
 rcases Nat.lt_or_ge i bs.length with hi|hi
 ·rw[List.getElem?_append_left hi] at hc;exact h i c hc
 ·rw[List.getElem?_append_right hi] at hc
  rcases Nat.eq_zero_or_pos (i-bs.length) with h0|h0
  ·rw[h0] at hc
   obtain rfl:=Option.some.inj hc
   rw[show i=bs.length by omega];exact hb
  ·rw[List.getElem?_eq_none_iff.mpr (by simp;omega)] at hc;cases hc
theorem ym2:∀ (C:List Brn) (j:Nat),(∀ i e,C[i]?=some e->Y2 e.ps+(j+i)<=m)->j<=m+1->Y2 (N7 C)+j<=m+1
 | [],j,_,hj=>by rw[N7,Y2];omega
 | e::t,j,h,hj=>by
   have h0:=h 0 e rfl
   have h1:=ym2 t (j+1) (fun i e he=>by have:=h (i+1) e (by simpa using he);omega) (by omega)
   rw[N7,Y2,Y2,hgt,qp9]
   omega
theorem Bh.cls(h:Bh m st.bs)(hk:k<st.bs.length)(hl:st.bs.length<=m+1):Bh m (Q0 rs st k i rule).bs:=by
 have e:(Q0 rs st k i rule).bs.map Brn.ps=(st.bs.take k++[{(st.bs[k]) with ps:=(st.bs[k]).ps++N7 (st.bs.drop (k+1))}]).map Brn.ps:=by
  show(wUp rs _ _).map Brn.ps=_
  rw[wq1 fun _ _=>rfl,xr4 hk]
 refine Bh.map ?_ e
 refine(h.take k).snoc ?_
 have h0:=h k _ (List.getElem?_eq_getElem hk)
 have h1:=ym2 (m:=m) (st.bs.drop (k+1)) (k+1) (fun i e he=>by
  rw[List.getElem?_drop] at he
  exact h _ e he) (by omega)
 show Y2 (_++_)+_<=m
 rw[qp9,List.length_take];omega
theorem Bh.ent(h:Bh m bs)(hl:bs.length<=m):Bh m (qh9 bs n):=by
 unfold qh9
 refine h.snoc ?_
 show Y2 []+_<=m
 rw[Y2];omega
theorem Bh.puts:∀ {ns:List Str} {st:Rst} {i:Int} {rule:Str},Bh m st.bs->st.bs.length+ns.length<=m->Bh m (P2 st ns i rule).bs
 | [],st,i,rule,h,_=>h
 | n::ns,st,i,rule,h,hl=>by
   rw[List.length_cons] at hl
   exact Bh.puts (st:=wm1 st n i rule) (h.ent (by omega)) (by rw[qw7];omega)
theorem Bh.lv(h:Bh m bs)(h2:2<=bs.length):Bh m (lvB bs):=by
 obtain⟨l,b1,b2,rfl⟩:=yg6 h2
 rw[xf1]
 have h1:=h l.length b1 (by simp)
 have h3:=h (l.length+1) b2 (by simp)
 have e:l++[b1,b2]=l++([b1]++[b2]):=rfl
 have hl:Bh m l:=fun i c hc=>h i c (by rw[List.getElem?_append_left (List.getElem?_eq_some_iff.mp hc).1];exact hc)
 refine hl.snoc ?_
 show Y2 (b1.ps++[Tr.nd b2.n b2.ps])+_<=m
 rw[qp9,Y2,Y2,hgt];omega
theorem zz3(ps:List Tr)(t:Str):Y2 (adP ps t)<=max (Y2 ps) (hgt (.tx t)):=by
 unfold adP
 split
 ·rename_i u e
  have hd:Y2 ps.dropLast<=Y2 ps:=by
   have e2:ps=ps.dropLast++[.tx u]:=by
    rcases List.eq_nil_or_concat ps with h|⟨q,x,h⟩
    ·rw[h] at e;cases e
    ·rw[List.concat_eq_append] at h
     rw[h,List.getLast?_concat] at e
     rw[h,List.dropLast_concat,Option.some.inj e]
   have h1:=qp9 ps.dropLast [.tx u]
   rw[<-e2] at h1
   omega
  rw[qp9,Y2,Y2,hgt,hgt];omega
 ·rw[qp9,Y2,Y2];omega
theorem Bh.tx(h:Bh m st.bs)(hne:st.bs≠[])(hl:st.bs.length<=m):Bh m (txS st i g t).bs:=by
 rcases List.eq_nil_or_concat st.bs with e|⟨l,b,e⟩
 ·exact absurd e hne
 ·rw[List.concat_eq_append] at e
  have e1:(txS st i g t).bs=l++[{b with ps:=adP b.ps t}]:=by
   show st.bs.dropLast++[{(Y3 st.bs) with ps:=adP (Y3 st.bs).ps t}]=_
   rw[e,qq3,List.dropLast_concat]
  rw[e1]
  rw[e] at h hl
  have h1:=h l.length b (by simp)
  have hl':Bh m l:=fun i c hc=>h i c (by rw[List.getElem?_append_left (List.getElem?_eq_some_iff.mp hc).1];exact hc)
  refine hl'.snoc ?_
  have:=zz3 b.ps t
  rw[hgt] at this
  show Y2 (adP b.ps t)+_<=m
  rw[List.length_append,List.length_singleton] at hl
  omega
theorem Bh.wup(h:Bh m bs):Bh m (wUp rs f bs):=h.map (wq1 (fun _ _=>rfl) bs)
theorem xs1{i:Int}:∀ (ws:List Str) (st:Rst),Bh 21 st.bs->st.bs.length<=21->st.bs≠[]->Bh 21 (ws.foldl (qf0 rs i) st).bs
 | [],st,h,_,_=>h
 | n::ws,st,h,hl,hne=>by
   rw[List.foldl_cons]
   have hp:0<st.bs.length:=List.length_pos_iff.mpr hne
   by_cases ha:wj0 rs (J6 st) n=true
   ·have e:qf0 rs i st n=wm1 st n i "anew":=by unfold qf0;rw[if_pos ha]
    rw[e]
    unfold wj0 at ha
    rw[Bool.and_eq_true,decide_eq_true_eq] at ha
    have hnl:(J6 st).length+1=st.bs.length:=by unfold J6;rw[List.length_map,List.length_tail];omega
    exact xs1 ws _ (h.ent hl) (by rw[qw7];omega) (by show qh9 st.bs n≠[];unfold qh9;simp)
   ·have e:qf0 rs i st n=st:=by unfold qf0;rw[if_neg ha]
    rw[e]
    exact xs1 ws st h hl hne
theorem Bh.step{D:Nat}(b:Bok rs rk)(bg:Bg rs P W M D T st)(h:Bh 21 st.bs):Bh 21 (qn3 rs rk st kind i g t).bs:=by
 have hl:=bg.l
 have hnl:=bg.nlen
 unfold qn3
 split
 ·unfold opS
  split
  ·exact h
  rename_i hs
  split
  ·exact h
  split
  ·exact h
  rename_i hlen
  have hrow:=wu6 hs
  have w:=wh0 b.B b.f (ys:=J6 st) 13 t hrow (b.k t)
  obtain⟨ps,hps⟩:=wu5 (rs:=rs) (rk:=rk) (ys:=J6 st) 13 t
  have hw1:=w.k
  generalize L1 rs rk (J6 st) 13 t=wt at *
  have hk:wt.1<st.bs.length:=by omega
  have e1:wt.2.dropLast=ps:=by rw[hps,List.dropLast_concat]
  have e2:wt.2.length=ps.length+1:=by rw[hps];simp
  have hc:=h.cls (rs:=rs) (i:=i) (rule := "shut") hk (by omega)
  have hcl:(Q0 rs st wt.1 i "shut").bs.length=wt.1+1:=by rw[wh6,List.length_take];omega
  have hp:=Bh.puts (ns:=ps) (i:=i) (rule := "frame") hc (by rw[hcl];omega)
  have hpl:=wh5 ps (Q0 rs st wt.1 i "shut") i "frame"
  rw[e1]
  dsimp only
  have he:=hp.ent (n:=t) (by omega)
  split
  ·refine he.lv ?_
   show 2<=(qh9 _ t).length
   unfold qh9
   rw[List.length_append,hpl,hcl,List.length_singleton];omega
  ·exact he
 split
 ·unfold qw6
  split
  ·rename_i k hk
   have:=xe0 hk
   refine(h.cls (rs:=rs) (by omega) (by omega)).lv ?_
   rw[wh6,List.length_take];omega
  ·split
   ·exact h.wup
   ·exact h
 ·unfold U5
  split
  ·exact h
  split
  ·exact h
  rename_i hlen
  have hh:(O4 rs st).length<=12:=qj6 rs 12 _
  have hp:=Bh.puts (ns:=O4 rs st) (i:=i) (rule := "host") h (by omega)
  have hpb:=bg.puts (ns:=O4 rs st) (i:=i) (rule := "host") (by omega) fun m hm=>by
   have:=qw2 b.B 12 _ m hm
   exact⟨b.row this,this⟩
  have hA:=hpb.anews (i:=i) b.n
  refine Bh.tx ?_ hA.ne (by have:=hA.l;exact this)
  unfold wb2 qm1
  exact xs1 _ _ hp.wup (by show(wUp rs _ _).length<=21;rw[wq2];exact hpb.l) (xr3 hpb.ne)
theorem ym3{rk:Str->Nat}{z:Str}(b:Bok rs rk):∀ (ds:List PyData) (p:Nat) (st:Rst) (P W M D T:Nat),TkC z.cps.toList p ds->Bg rs P W M D T st->Bh 21 st.bs->Bh 21 (ds.foldl (wz1 rs rk z) st).bs
 | [],_,_,_,_,_,_,_,_,_,h=>h
 | d::ds,p,st,P,W,M,D,T,hd,bg,h=>by
   cases hd with
   | cons _ _ _ h4=>exact ym3 b ds _ _ _ _ _ _ _ h4 (bg.step b) (h.step b bg)
theorem zj8(b:Bok rs rk):hgt (Tr.nd "" (rtS (rdS rs rk z)))<=80:=by
 have h0:Bh 21 st0.bs:=fun i c hc=>by
  cases i with
  | zero=>simp[st0] at hc;subst hc;show Y2 []+0<=21;rw[Y2];omega
  | succ i=>simp[st0] at hc
 have h1:=ym3 (z:=z) b _ 0 st0 _ _ _ _ _ (xz6 _) (bg0 rs) h0
 obtain⟨p,_,_,_,bj⟩:=xr8 (z:=z) b (TX.toks z.cps.toList 0 0).length (Nat.le_refl _)
 rw[List.take_length] at bj
 have hp:0<(wx5 rs rk z).bs.length:=List.length_pos_iff.mpr bj.ne
 have hl:(wx5 rs rk z).bs.length<=21:=bj.l
 have h2:Bh 21 (rdS rs rk z).bs:=Bh.cls (rs:=rs) (i:=z.length) (rule := "end") h1 hp (by omega)
 have hne:(rdS rs rk z).bs≠[]:=xr3 (by simp)
 obtain⟨c,t,e⟩:=List.exists_cons_of_ne_nil hne
 have h3:=h2 0 c (by rw[e];rfl)
 rw[hgt]
 unfold rtS
 rw[e]
 show 1+Y2 c.ps<=80
 omega
end
theorem ym4:∀ {l:List Nat},(∀ c∈l,c≠38)->TX.told 0 l=l
 | [],_=>rfl
 | c::l,h=>by rw[TX.told_n (TX.ne_pre (h c (by simp))) (TX.ne_pre (h c (by simp))),ym4 fun d hd=>h d (by simp[hd])]
theorem qg7(z:Str):z.cps.toList.length=z.length:=Array.length_toList
theorem xs2(z:Str):TX.ofL z.cps.toList=z:=by unfold TX.ofL;cases z;simp
def rml(H:Hp)(ps:List Addr):Hp:=fun z=>if z∈ps then none else H z
theorem zb8{z:Addr}(h:z∈ps):rml H ps z=none:=if_pos h
theorem xs3{z:Addr}(h:z∉ps):rml H ps z=H z:=if_neg h
theorem zb9:A7 (rml H ps) H:=fun c o e=>by
 by_cases h:c∈ps
 ·rw[zb8 h] at e;cases e
 ·rw[xs3 h] at e;exact e
theorem A7.rml(s:A7 H0 H)(h:∀ z∈ps,H0 z=none):A7 H0 (rml H ps):=fun c o e=>by
 rw[xs3 fun hc=>by rw[h c hc] at e;cases e];exact s c o e
inductive HsB(K:Fg)(H:Hp):List Addr->List (List Tr)->Prop
 | nil:HsB K H [] []
 | cons {a:Addr} {w:List Tr} {us:List V} {as:List Addr} {ws:List (List Tr)}:H a=some (.lst us)->Dvs K H (Tr.das w) us->HsB K H as ws->HsB K H (a::as) (w::ws)
structure Hps(K:Fg)(H:Hp)(L:Addr)(as:List Addr)(ws:List (List Tr)):Prop where
 l:H L=some (.lst (as.map V.ref))
 b:HsB K H as ws
 nd:(L::as).Nodup
section
variable{H':Hp}{L:Addr}{as as2:List Addr}{ws ws2:List (List Tr)}{w:List Tr}{ps:List Addr}
theorem HsB.len(h:HsB K H as ws):as.length=ws.length:=by
 induction h with
 | nil=>rfl
 | cons _ _ _ ih=>simp[ih]
theorem HsB.but(h:HsB K H as ws)(bt:But ps H H')(tk:T4 H H')(hd:∀ z∈as,z∉ps):HsB K H' as ws:=by
 induction h with
 | nil=>exact .nil
 | cons h1 h2 _ ih=>exact .cons (bt _ _ h1 (hd _ (by simp))) (Dvs.tupK tk _ _ (qf8 _) h2) (ih fun z hz=>hd z (by simp[hz]))
theorem HsB.app(h:HsB K H as ws)(h2:HsB K H as2 ws2):HsB K H (as++as2) (ws++ws2):=by
 induction h with
 | nil=>exact h2
 | cons h1 h3 _ ih=>exact .cons h1 h3 ih
theorem HsB.snoc(h:HsB K H as (ws++[w])):∃ as' a us,as=as'++[a]/\HsB K H as' ws/\H a=some (.lst us)/\Dvs K H (Tr.das w) us:=by
 induction ws generalizing as with
 | nil=>cases h with|cons h1 h2 h3=>cases h3;exact⟨[],_,_,rfl,.nil,h1,h2⟩
 | cons c ws ih =>
   cases h with
   | cons h1 h2 h3 =>
     obtain⟨as',a,us,rfl,h4,h5,h6⟩:=ih h3
     exact⟨_::as',a,us,rfl,.cons h1 h2 h4,h5,h6⟩
theorem HsB.mut(h:HsB K H as ws):∀ z∈as,xi6 H z:=by
 induction h with
 | nil=>intro z hz;cases hz
 | cons h1 _ _ ih =>
   intro z hz
   rcases List.mem_cons.mp hz with rfl|hz
   ·exact .inl ⟨_,h1⟩
   ·exact ih z hz
theorem xi6.some{z:Addr}(h:xi6 H z):H z≠none:=fun e=>by
 rcases h with⟨xs,e2⟩|⟨C,dx,fs,e2⟩ <;> rw[e] at e2 <;> cases e2
theorem Hps.but(h:Hps K H L as ws)(bt:But ps H H')(tk:T4 H H')(hd:∀ z∈L::as,z∉ps):Hps K H' L as ws :=
 ⟨bt _ _ h.l (hd _ (by simp)),h.b.but bt tk fun z hz=>hd z (by simp[hz]),h.nd⟩
theorem Hps.same(h:Hps K H L as ws)(s:A7 H H'):Hps K H' L as ws:=h.but (ps:=[]) (fun c o e _=>s c o e) s.tupK fun _ _ z=>by cases z
theorem Hps.upd(h:Hps K H L as ws)(hp:xi6 H p\/H p=none)(hn:p∉L::as):Hps K (upd H p o) L as ws :=
 h.but But.upd1 (hp.elim N5 fun e=>(A7.new e o).tupK) fun z hz e=>hn (by rw[List.mem_singleton.mp e] at hz;exact hz)
theorem Hps.top(h:Hps K H L as (ws++[w])):∃ as' a us,as=as'++[a]/\H a=some (.lst us)/\Dvs K H (Tr.das w) us/\H L=some (.lst (as'.map V.ref++[.ref a]))/\∀ w' us',Dvs K H (Tr.das w') us'->Hps K (L2.upd H a (.lst us')) L as (ws++[w']):=by
 obtain⟨as',a,us,rfl,h1,h2,h3⟩:=h.b.snoc
 have nd:=h.nd
 rw[List.nodup_cons,List.nodup_append] at nd
 refine⟨as',a,us,rfl,h2,h3,by rw[h.l,List.map_append];rfl,fun w' us' hd=>?_⟩
 have tk:T4 H (L2.upd H a (.lst us')):=N5 (.inl ⟨_,h2⟩)
 refine⟨E7 h.l fun e=>nd.1 (by rw[e];simp),(h1.but But.upd1 tk fun z hz e=>nd.2.2.2 z hz a (by simp) (List.mem_singleton.mp e)).app (.cons A5 (Dvs.tupK tk _ _ (qf8 _) hd) .nil),h.nd⟩
theorem Hps.put{w':List Tr}{us':List V}(h:Hps K H L (as++[a]) (ws++[w]))(hd:Dvs K H (Tr.das w') us'):Hps K (L2.upd H a (.lst us')) L (as++[a]) (ws++[w']):=by
 obtain⟨as',a',us,e,_,_,_,q⟩:=h.top
 obtain⟨rfl,e2⟩:=List.append_inj' e rfl
 obtain rfl:=(List.cons.inj e2).1
 exact q w' us' hd
theorem Hps.push(h:Hps K H L as ws)(hp:H p=none)(hd:Dvs K H (Tr.das w) us):Hps K (L2.upd (L2.upd H p (.lst us)) L (.lst (as.map V.ref++[.ref p]))) L (as++[p]) (ws++[w]):=by
 have nd:=h.nd
 have s:=A7.new hp (.lst us)
 have nL:p≠L:=fun e=>by rw[e,h.l] at hp;cases hp
 have na:∀ z∈as,z≠p:=fun z hz e=>(h.b.mut z hz).some (e▸hp)
 have h1:=h.same s
 have e1:(L2.upd H p (.lst us)) p=some (.lst us):=A5
 have d1:=Dvs.same s _ _ hd
 generalize L2.upd H p (.lst us)=H1 at *
 have tk:T4 H1 (L2.upd H1 L (.lst (as.map V.ref++[.ref p]))):=N5 (.inl ⟨_,h1.l⟩)
 rw[List.nodup_cons] at nd
 refine⟨by rw[A5,List.map_append];rfl,(h1.b.but But.upd1 tk fun z hz e=>nd.1 (by rw[List.mem_singleton.mp e] at hz;exact hz)).app (.cons (E7 e1 nL) (Dvs.tupK tk _ _ (qf8 _) d1) .nil),?_⟩
 rw[List.nodup_cons,List.nodup_append]
 exact⟨fun e=>(List.mem_append.mp e).elim nd.1 fun e=>nL (List.mem_singleton.mp e).symm,nd.2,by simp,fun x hx y hy e=>na x hx (by rw[e];exact List.mem_singleton.mp hy)⟩
end
theorem ql5{w:List Tr}{t:Tr}(h:Dvs K H (Tr.das w) us)(hv:Dv K H t.da v):Dvs K H (Tr.das (w++[t])) (us++[v]):=by
 rw[W4,List.map_append,<-W4]
 exact Dvs.append h (Dvs.one hv)
section
variable{names:List Str}{c:Nat}{srt:Nat->Str}{rs:List Row}
theorem ym5(ys:List Str):∀ m k,kpt ys [] k m=k+m
 | 0,k=>rfl
 | m+1,k=>by rw[kpt,if_neg (by simp),ym5 ys m];omega
theorem ym6(h:∀ ws,f ws=ws)(bs:List Brn):wUp rs f bs=bs:=by
 cases bs with
 | nil=>unfold wUp;split <;> rfl
 | cons c t =>
   obtain⟨l1,b,l2,e,h2⟩:=xz4 rs (bs:=c::t) (by simp)
   rw[e,wl9 h2,h]
theorem wv0{kept:Nat}(h:kept+1=st.bs.length):Q0 rs st kept i rule=st:=by
 have e1:st.bs.drop (kept+1)=[]:=List.drop_eq_nil_of_le (by omega)
 have e2:st.bs.take kept++[st.bs[kept]'(by omega)]=st.bs:=by rw[<-qn1 (List.getElem?_eq_getElem (by omega)),h,List.take_length]
 unfold Q0
 rw[e1,xr4 (by omega)]
 have e3:X0 rs (([]:List Brn).map Brn.n)=[]:=rfl
 rw[e3,ym6 fun ws=>List.append_nil ws]
 show({bs:=st.bs.take kept++[{(st.bs[kept]'(by omega)) with ps:=(st.bs[kept]'(by omega)).ps++[]}],ms:=st.ms++[],ls:=st.ls}:Rst)=st
 rw[List.append_nil,List.append_nil]
 show({bs:=st.bs.take kept++[st.bs[kept]'(by omega)],ms:=st.ms,ls:=st.ls}:Rst)=st
 rw[e2]
end
def wb3(w:Str):Prop:=∀ c∈w.cps.toList,c≠60/\c≠38
theorem zc0(h:wb3 w):qe9 w.cps.toList w.cps.toList.length=[]:=by
 unfold qe9
 rw[List.filter_eq_nil_iff]
 intro i _ e
 unfold xy6 at e
 have n1:¬w.cps.toList[i]?=some 60:=fun z=>(h 60 (List.mem_of_getElem? z)).1 rfl
 have n2:¬w.cps.toList[i]?=some 38:=fun z=>(h 38 (List.mem_of_getElem? z)).2 rfl
 rw[decide_eq_false n1,decide_eq_false n2] at e
 cases e
theorem xs4(h:wb3 w)(st:Rst)(i:Int):wb2 st i w=st:=by
 unfold wb2
 rw[zc0 h,List.map_nil,List.append_nil]
theorem xf6{l:List Brn}(e:st.bs=l++[b]):(txS st i g t).bs=l++[{b with ps:=adP b.ps t}]:=by
 show st.bs.dropLast++[{(Y3 st.bs) with ps:=adP (Y3 st.bs).ps t}]=_
 rw[e,qq3,List.dropLast_concat]
structure xz9(n:Str):Prop where
 n1:1<=n.length
 n8:n.length<=8
 lt:∀ c∈n.cps.toList,97<=c/\c<=122
variable{R:List Nat}
theorem zt8{P:List Nat}(el:l=P++60::(n.cps.toList++62::R))(h:xz9 n):TX.tagAt l P.length=some (P.length+1,P.length+n.length+2)/\TX.tagD l P.length (P.length+1) (P.length+n.length+2)=.tuple [.str "open",.int (P.length:Int),.int ((P.length+n.length+2:Nat):Int),.str n]:=by
 have en:=qg7 n
 have h1:=h.n1
 have h8:=h.n8
 have at0:l[P.length]?=some 60:=by rw[el];simp
 have dr:l.drop (P.length+1)=n.cps.toList++62::R:=by
  rw[el,List.drop_append,List.drop_eq_nil_of_le (by omega),show P.length+1-P.length=1 by omega];rfl
 have hnm:TX.nm (l.drop (P.length+1))=some n.length:=by
  rw[TX.nm_iff,dr]
  refine⟨h1,h8,fun i hi=>?_,by rw[List.getElem?_append_right (by omega),en,Nat.sub_self];rfl⟩
  have hi2:i<n.cps.toList.length:=by omega
  refine⟨n.cps.toList[i],by rw[List.getElem?_append_left hi2,List.getElem?_eq_getElem hi2],?_⟩
  have:=h.lt _ (List.getElem_mem hi2)
  unfold TX.letter
  rw[decide_eq_true this.1,decide_eq_true this.2];rfl
 have hns:TX.nst l P.length=P.length+1:=by
  unfold TX.nst
  rw[if_neg]
  intro e
  have e2:(l.drop (P.length+1))[0]?=some 47:=by rw[List.getElem?_drop];exact e
  rw[dr,List.getElem?_append_left (by omega),List.getElem?_eq_getElem (by omega)] at e2
  have:=h.lt _ (List.getElem_mem (show 0<n.cps.toList.length by omega))
  have e3:=Option.some.inj e2
  omega
 constructor
 ·unfold TX.tagAt
  rw[if_pos at0,hns,hnm]
  show some (P.length+1,P.length+1+n.length+1)=_
  rw[show P.length+1+n.length+1=P.length+n.length+2 by omega]
 ·unfold TX.tagD
  rw[if_pos rfl,dr,show P.length+n.length+2-1-(P.length+1)=n.cps.toList.length by omega,List.take_left' rfl,xs2]
theorem zt9{P:List Nat}(el:l=P++60::47::(n.cps.toList++62::R))(h:xz9 n):TX.tagAt l P.length=some (P.length+2,P.length+n.length+3)/\TX.tagD l P.length (P.length+2) (P.length+n.length+3)=.tuple [.str "close",.int (P.length:Int),.int ((P.length+n.length+3:Nat):Int),.str n]:=by
 have en:=qg7 n
 have h1:=h.n1
 have h8:=h.n8
 have at0:l[P.length]?=some 60:=by rw[el];simp
 have at1:l[P.length+1]?=some 47:=by rw[el,List.getElem?_append_right (by omega)];simp
 have dr:l.drop (P.length+2)=n.cps.toList++62::R:=by
  rw[el,List.drop_append,List.drop_eq_nil_of_le (by omega),show P.length+2-P.length=2 by omega];rfl
 have hnm:TX.nm (l.drop (P.length+2))=some n.length:=by
  rw[TX.nm_iff,dr]
  refine⟨h1,h8,fun i hi=>?_,by rw[List.getElem?_append_right (by omega),en,Nat.sub_self];rfl⟩
  have hi2:i<n.cps.toList.length:=by omega
  refine⟨n.cps.toList[i],by rw[List.getElem?_append_left hi2,List.getElem?_eq_getElem hi2],?_⟩
  have:=h.lt _ (List.getElem_mem hi2)
  unfold TX.letter
  rw[decide_eq_true this.1,decide_eq_true this.2];rfl
 have hns:TX.nst l P.length=P.length+2:=by
  unfold TX.nst
  rw[if_pos at1]
 constructor
 ·unfold TX.tagAt
  rw[if_pos at0,hns,hnm]
  show some (P.length+2,P.length+2+n.length+1)=_
  rw[show P.length+2+n.length+1=P.length+n.length+3 by omega]
 ·unfold TX.tagD
  rw[if_neg (by omega),dr,show P.length+n.length+3-1-(P.length+2)=n.cps.toList.length by omega,List.take_left' rfl,xs2]
theorem ym7(n:Str):(opn n).cps.toList=60::(n.cps.toList++[62]):=by unfold opn;simp only[PySem.Str.cps_append,Array.toList_append];rfl
theorem zj9(n:Str):(cls n).cps.toList=60::47::(n.cps.toList++[62]):=by unfold cls;simp only[PySem.Str.cps_append,Array.toList_append];rfl
inductive Pq
 | op (n:Str)
 | cl (n:Str)
 | rn (r t:Str)
def Pq.tx:Pq->List Nat
 | .op n=>60::(n.cps.toList++[62])
 | .cl n=>60::47::(n.cps.toList++[62])
 | .rn r _=>r.cps.toList
def txQ(ps:List Pq):List Nat:=ps.flatMap Pq.tx
def zn1(r:Str):Prop:=∀ P R:List Nat,(R=[]\/∃ R',R=60::R')->∀ j,j<r.length->TX.tagAt (P++(r.cps.toList++R)) (P.length+j)=none
def Pq.ok:Pq->Prop
 | .op n=>xz9 n
 | .cl n=>xz9 n
 | .rn r t=>zn1 r/\1<=r.length/\t=TX.ofL (TX.told 0 r.cps.toList)
def Pq.isR:Pq->Bool
 | .rn _ _=>true
 | _=>false
def wj5:Bool->List Pq->Prop
 | _,[]=>True
 | b,x::ps=>(b=true->x.isR=false)/\wj5 x.isR ps
def stQ(rs:List Row)(rk:Str->Nat)(p:Nat)(st:Rst):Pq->Rst
 | .op n=>opS rs rk st p (opn n) n
 | .cl n=>qw6 rs rk st p (cls n) n
 | .rn r t=>U5 rs st p r t
def pq(rs:List Row)(rk:Str->Nat):Nat->List Pq->Rst->Rst
 | _,[],st=>st
 | p,x::ps,st=>pq rs rk (p+x.tx.length) ps (stQ rs rk p st x)
theorem Pq.len:∀ x:Pq,x.tx.length=(match x with | .op n=>n.length+2 | .cl n=>n.length+3 | .rn r _=>r.length)
 | .op n=>by simp[Pq.tx,qg7];rfl
 | .cl n=>by simp[Pq.tx,qg7];rfl
 | .rn r _=>qg7 r
theorem xf7{l:List Nat}{s:Nat}:∀ (d k:Nat),k+d<=l.length->(∀ j,j<d->TX.tagAt l (k+j)=none)->TX.toks l k s=TX.toks l (k+d) s
 | 0,k,_,_=>rfl
 | d+1,k,h,hn=>by
   rw[TX.toks_none (by omega) (show TX.tagAt l k=none from hn 0 (by omega)),xf7 d (k+1) (by omega) fun j hj=>by rw[show k+1+j=k+(j+1) by omega];exact hn (j+1) (by omega)]
   congr 1;omega
theorem zc1{ps:List Pq}(h:∀ x t,ps=x::t->x.isR=false):txQ ps=[]\/∃ R',txQ ps=60::R':=by
 cases ps with
 | nil=>exact .inl rfl
 | cons x t =>
   have:=h x t rfl
   cases x with
   | op n=>exact .inr ⟨_,rfl⟩
   | cl n=>exact .inr ⟨_,rfl⟩
   | rn r u=>cases this
theorem xs5{rs:List Row}{rk:Str->Nat}{z:Str}:∀ (ps:List Pq) (Pz:List Nat) (s:Nat) (g t:Str) (st:Rst) (b:Bool),z.cps.toList=Pz++txQ ps->(∀ x∈ps,x.ok)->wj5 b ps->(s<Pz.length->b=true)->s<=Pz.length->Pz.drop s=g.cps.toList->t=TX.ofL (TX.told 0 g.cps.toList) ->
 (TX.toks z.cps.toList Pz.length s).foldl (wz1 rs rk z) st=pq rs rk Pz.length ps (if s<Pz.length then U5 rs st s g t else st)
 | [],Pz,s,g,t,st,b,ez,_,_,_,hs,hg,ht=>by
   have ez':z.cps.toList=Pz:=by rw[ez];simp[txQ]
   have gl:=qg7 z
   rw[TX.toks_end (by rw[ez'];exact Nat.le_refl _),pq]
   unfold TX.runs
   by_cases h:s<Pz.length
   ·rw[if_pos (by rw[ez'];exact h),if_pos h]
    have e0:((z.cps.toList).drop s).take (z.cps.toList.length-s)=g.cps.toList:=by rw[List.take_of_length_le (by rw[List.length_drop];exact Nat.le_refl _),ez',hg]
    have e1:TX.runD z.cps.toList s z.cps.toList.length=.tuple [.str "run",.int (s:Int),.int (z.cps.toList.length:Int),.str t]:=by
     unfold TX.runD;rw[e0,ht]
    have e2:qf6 z (some (s:Int)) (some (z.cps.toList.length:Int))=g:=by rw[W6,qz3 rfl rfl,e0]
    rw[e1]
    show qn3 rs rk st "run" s (qf6 z (some (s:Int)) (some (z.cps.toList.length:Int))) t=_
    rw[e2];rfl
   ·rw[if_neg (by rw[ez'];exact h),if_neg h];rfl
 | x :: ps,Pz,s,g,t,st,b,ez,hok,hap,hsb,hs,hg,ht=>by
   have gl:=qg7 z
   have ez2:z.cps.toList=(Pz++x.tx)++txQ ps:=by rw[ez];simp[txQ]
   have hzl:Pz.length+x.tx.length<=z.length:=by
    have:=congrArg List.length ez2
    rw[List.length_append,List.length_append] at this;omega
   have hx:=hok x (by simp)
   have hrest:∀ y∈ps,y.ok:=fun y hy=>hok y (by simp[hy])
   obtain⟨hap1,hap2⟩:=hap
   have hrun:∀ ds:List PyData,(TX.runs z.cps.toList s Pz.length++ds).foldl (wz1 rs rk z) st=ds.foldl (wz1 rs rk z) (if s<Pz.length then U5 rs st s g t else st):=fun ds=>by
    unfold TX.runs
    by_cases h:s<Pz.length
    ·rw[if_pos h,if_pos h]
     have e0:((z.cps.toList).drop s).take (Pz.length-s)=g.cps.toList:=by
      rw[ez,List.drop_append,List.take_append,List.length_drop]
      rw[List.take_of_length_le (by rw[List.length_drop];exact Nat.le_refl _),show Pz.length-s-(Pz.length-s)=0 by omega,List.take_zero,List.append_nil,hg]
     have e1:TX.runD z.cps.toList s Pz.length=.tuple [.str "run",.int (s:Int),.int (Pz.length:Int),.str t]:=by
      unfold TX.runD;rw[e0,ht]
     have e2:qf6 z (some (s:Int)) (some (Pz.length:Int))=g:=by rw[W6,qz3 rfl rfl,e0]
     rw[e1]
     show ds.foldl _ (qn3 rs rk st "run" s (qf6 z (some (s:Int)) (some (Pz.length:Int))) t)=_
     rw[e2];rfl
    ·rw[if_neg h,if_neg h];rfl
   have cutx:∀ v:Str,v.cps.toList=x.tx->qf6 z (some (Pz.length:Int)) (some ((Pz.length+x.tx.length:Nat):Int))=v:=fun v hv=>by
    rw[W6,qz3 rfl rfl,ez2,List.append_assoc,List.drop_left' rfl,show Pz.length+x.tx.length-Pz.length=x.tx.length by omega,List.take_left' rfl,hv]
   have lenP:(Pz++x.tx).length=Pz.length+x.tx.length:=List.length_append
   cases x with
   | op n =>
     have hl:(Pq.op n).tx.length=n.length+2:=Pq.len (.op n)
     obtain⟨ht',hd⟩:=zt8 (l:=z.cps.toList) (P:=Pz) (R:=txQ ps) (n:=n) (by rw[ez];simp[txQ,Pq.tx]) hx
     rw[TX.toks_some ht',hd,hrun,List.foldl_cons]
     have ih:=xs5 (rs:=rs) (rk:=rk) (z:=z) ps (Pz++(Pq.op n).tx) (Pz++(Pq.op n).tx).length "" "" (opS rs rk (if s<Pz.length then U5 rs st s g t else st) Pz.length (opn n) n) false ez2 hrest hap2 (fun h=>absurd h (Nat.lt_irrefl _)) (Nat.le_refl _) (by rw[List.drop_length];rfl) rfl
     rw[if_neg (Nat.lt_irrefl _),lenP,hl] at ih
     have hc:=cutx (opn n) (ym7 n)
     rw[hl] at hc
     show List.foldl _ (qn3 rs rk _ "open" Pz.length (qf6 z (some (Pz.length:Int)) (some ((Pz.length+n.length+2:Nat):Int))) n) _=_
     rw[show Pz.length+n.length+2=Pz.length+(n.length+2) by omega,hc]
     rw[pq,hl]
     exact ih
   | cl n =>
     have hl:(Pq.cl n).tx.length=n.length+3:=Pq.len (.cl n)
     obtain⟨ht',hd⟩:=zt9 (l:=z.cps.toList) (P:=Pz) (R:=txQ ps) (n:=n) (by rw[ez];simp[txQ,Pq.tx]) hx
     rw[TX.toks_some ht',hd,hrun,List.foldl_cons]
     have ih:=xs5 (rs:=rs) (rk:=rk) (z:=z) ps (Pz++(Pq.cl n).tx) (Pz++(Pq.cl n).tx).length "" "" (qw6 rs rk (if s<Pz.length then U5 rs st s g t else st) Pz.length (cls n) n) false ez2 hrest hap2 (fun h=>absurd h (Nat.lt_irrefl _)) (Nat.le_refl _) (by rw[List.drop_length];rfl) rfl
     rw[if_neg (Nat.lt_irrefl _),lenP,hl] at ih
     have hc:=cutx (cls n) (zj9 n)
     rw[hl] at hc
     show List.foldl _ (qn3 rs rk _ "close" Pz.length (qf6 z (some (Pz.length:Int)) (some ((Pz.length+n.length+3:Nat):Int))) n) _=_
     rw[show Pz.length+n.length+3=Pz.length+(n.length+3) by omega,hc]
     rw[pq,hl]
     exact ih
   | rn r u =>
     have hl:(Pq.rn r u).tx.length=r.length:=qg7 r
     obtain⟨hq,hr1,hu⟩:=hx
     have hns:¬s<Pz.length:=fun h=>by have:=hap1 (hsb h);cases this
     have es:s=Pz.length:=by omega
     have hsk:TX.toks z.cps.toList Pz.length s=TX.toks z.cps.toList (Pz.length+r.length) s:=by
      refine xf7 r.length _ (by omega) fun j hj=>?_
      have:=hq Pz (txQ ps) (zc1 fun x t e=>by
       subst e
       exact hap2.1 rfl) j hj
      have e:Pz++(r.cps.toList++txQ ps)=z.cps.toList:=by rw[ez];simp[txQ,Pq.tx]
      rw[e] at this
      exact this
     have hgw:(Pz++(Pq.rn r u).tx).drop s=r.cps.toList:=by
      rw[es,List.drop_left' rfl];rfl
     have ih:=xs5 (rs:=rs) (rk:=rk) (z:=z) ps (Pz++(Pq.rn r u).tx) s r u st true ez2 hrest hap2 (fun _=>rfl) (by rw[lenP];omega) hgw hu
     rw[if_pos (by rw[lenP,hl];omega),lenP,hl] at ih
     rw[hsk,ih,pq,hl,if_neg hns,es]
     rfl
theorem zk0{ps:List Pq}(ez:z.cps.toList=txQ ps)(hok:∀ x∈ps,x.ok)(hap:wj5 false ps):wx5 rs rk z=pq rs rk 0 ps st0:=by
 have:=xs5 (rs:=rs) (rk:=rk) (z:=z) ps [] 0 "" "" st0 false ez hok hap (fun h=>by simp at h) (Nat.le_refl _) rfl rfl
 rw[if_neg (show ¬0<([]:List Nat).length by simp)] at this
 exact this
theorem ym8{rs:List Row}{rk:Str->Nat}(x:Pq):∀ (ps:List Pq) (p:Nat) (st:Rst),pq rs rk p (ps++[x]) st=stQ rs rk (p+(txQ ps).length) (pq rs rk p ps st) x
 | [],p,st=>by simp[pq,txQ]
 | y::ps,p,st=>by
   rw[List.cons_append,pq,pq,ym8 x ps]
   congr 1
   simp[txQ];omega
theorem zc2(ps:List Pq)(x:Pq):txQ (ps++[x])=txQ ps++x.tx:=by unfold txQ;rw[List.flatMap_append];simp
theorem xf8{x:Pq}:∀ {ps:List Pq} {b:Bool},wj5 b ps->((ps.getLast?.map Pq.isR).getD b=true->x.isR=false)->wj5 b (ps++[x])
 | [],b,_,h=>⟨h,trivial⟩
 | y :: ps,b,⟨h1,h2⟩,h=>by
   refine⟨h1,xf8 h2 fun e=>h ?_⟩
   cases ps with
   | nil=>exact e
   | cons w t =>
     have:(y::w::t).getLast?=(w::t).getLast?:=by simp
     rw[this]
     cases hg:(w::t).getLast? with
     | none=>simp at hg
     | some q=>rw[hg] at e;exact e
theorem ya0{r:Str}(h:∀ c∈r.cps.toList,c≠60):zn1 r:=fun P R _ j hj=>by
 unfold TX.tagAt
 rw[if_neg]
 intro e
 rw[List.getElem?_append_right (by omega),show P.length+j-P.length=j by omega,List.getElem?_append_left (by rw[qg7];exact hj)] at e
 exact h 60 (List.mem_of_getElem? e) rfl
theorem Bg.stQ{D:Nat}{p:Nat}(b:Bok rs rk)(h:Bg rs P W M D T st):∀ x:Pq,Bg rs (P+2) (W+20) (M+60+x.tx.length) (D+1) (T+(match x with | .rn _ t=>t.length|_=>0)) (stQ rs rk p st x)
 | .op n=>(h.op b).mono (by omega) (by omega) (by omega) (by omega) (by omega)
 | .cl n=>h.clo.mono (by omega) (by omega) (by omega) (by omega) (by omega)
 | .rn r t=>by have:=h.run (i:=p) (g:=r) (t:=t) b;rw[Pq.len];exact this
theorem wh7{m:Mnd}(h:H p=some (.tup [.int m.s,.int m.e,.str m.t,.str m.r])):Dv K H m.da (.ref p):=C8.mpr ⟨p,_,rfl,SqT.of h,B3 (O2.mpr rfl) (B3 (O2.mpr rfl) (B3 (D5.mpr rfl) (B3 (D5.mpr rfl) E2)))⟩
def zz4(w:List Tr):Tr->List Tr
 | .tx t=>adP w t
 | .nd n qs=>w++[.nd n qs]
theorem zk1{n:Nat}:ixN (n+1) (-1)=some n:=by
 unfold ixN
 rw[if_neg (by decide),if_pos (by omega)]
 congr 1;omega
theorem xa3{x:Addr}(hx:H x=some (.lst us))(hl:us.length<=1000000)(q:D.nx [some (.ref x),some v] (upd H x (.lst (us++[v])))):(I9 (tBM K "list" J4 (A2 0) (A1 (A2 1) A9))) D [some (.ref x),some v] H:=by
 lk
 refine⟨.inl ⟨rfl,_,SqL.of hx⟩,?_⟩
 lk
 exact L0 hx (by rw[sizeLine_eq];omega) q
abbrev wq6(K:Fg):TS :=
 (E3 (tOp (E6 K) (tOp (L7 K) (A2 0) (tUn (rU fun i=>.int (-i)) (tC (.int 1)))) (A2 1)) (yt4 (A2 0) (tUn (rU fun i=>.int (-i)) (tC (.int 1))) yk3))
def Y4(K:Fg):Sp:=fun vs H Q _=>∃ (x:Addr) (w:List Tr) (us:List V) (t:Tr) (v:V),vs=[.ref x,v]/\H x=some (.lst us)/\Dvs K H (Tr.das w) us/\Dv K H t.da v/\w.length<=1000000/\adA w<=1000000/\(∀ u,t=.tx u->u.length<=1000000)/\∀ (us':List V) (H1:Hp),A7 H H1->Dvs K H1 (Tr.das (zz4 w t)) us'->Q .non (upd H1 x (.lst us'))
def wa1(K:Fg):TS :=
 (P7 (wn0 (tB (tCB (ye0 K) (A1 (A2 1) (A1 (tC (.ty "str")) A9)))) (wn0 (E4 (tOp (wo0 K) (A2 0) (X6 A9))) (tB (tCB (ye0 K) (A1 (tOp (L7 K) (A2 0) (tUn (rU fun i=>.int (-i)) (tC (.int 1)))) (A1 (tC (.ty "str")) A9))))))
 (wq6 K) (I9 (tBM K "list" J4 (A2 0) (A1 (A2 1) A9))))
theorem ya1(h:Y4 K vs H Q E):wa1 K {nx:=fun _ H'=>Q .non H',rt:=Q} (D6 ["_law_heap","_law_thing"] vs) H:=by
 obtain⟨x,w,us,t,v,rfl,hx,hd,hv,hl,ha,htl,q⟩:=h
 show wa1 K _ [some (.ref x),some v] H
 unfold wa1
 have hul:=qy9 hd
 lk
 refine yf2 hv ?_
 lk
 cases t with
 | nd n qs =>
   k_go
   first
   | exact xa3 hx (by omega) (q _ H (A7.refl H) (ql5 hd hv))
   | (refine R0 ?_;exact xa3 hx (by omega) (q _ H (A7.refl H) (ql5 hd hv)))
 | tx u =>
   obtain rfl:v=.str u:=D5.mp hv
   have hu:=htl u rfl
   x_go
   lk
   refine⟨D4 (by z_go),fun e0 he0=>?_⟩
   have s1:=A7.new he0 (.lst [])
   have hx1:=s1 _ _ hx
   have hd1:=Dvs.same s1 _ _ hd
   lk
   refine yy8 (ds:=Tr.das w) (Y8.mpr ⟨x,us,rfl,SqL.of hx1,hd1⟩) A5 ?_
   generalize upd H e0 (.lst [])=H1 at *
   lk
   rcases List.eq_nil_or_concat w with hps|⟨P0,t0,hps⟩
   ·have eis:(Tr.das w).isEmpty=true:=by rw[hps,Tr.das];rfl
    have ea:adP w u=w++[.tx u]:=by rw[hps];rfl
    rw[eis]
    have fin:=xa3 (K:=K) (D:={nx:=fun _ H'=>Q .non H',rt:=Q}) (v:=.str u) hx1 (by omega) (q _ H1 s1 (by show Dvs K H1 (Tr.das (adP w u)) _;rw[ea];exact ql5 hd1 (D5.mpr rfl)))
    k_go
    first|exact fin|(refine R0 ?_;exact fin)|(refine R0 ?_;refine R0 ?_;exact fin)
   ·rw [List.concat_eq_append] at hps
    have eis:(Tr.das w).isEmpty=false:=by
     rw[hps,W4,List.map_append];simp
    have hgl:w.getLast?=some t0:=by rw[hps,List.getLast?_concat]
    rw[eis]
    x_go
    lk
    refine⟨1,rfl,?_⟩
    obtain⟨ut,eu,du⟩:=yl1 hd1 (i:=P0.length) (t:=t0) (by rw[hps];simp)
    have hul2:us.length=P0.length+1:=by rw[hul,hps];simp
    refine M5 (SqL.of hx1) (v:=ut) (qk5 (n:=P0.length) hul2 eu) ?_
    lk
    refine yf2 du ?_
    lk
    cases t0 with
    | nd nn pp =>
      have ea:adP w u=w++[.tx u]:=by unfold adP;rw[hgl]
      have fin:=xa3 (K:=K) (D:={nx:=fun _ H'=>Q .non H',rt:=Q}) (v:=.str u) hx1 (by omega) (q _ H1 s1 (by show Dvs K H1 (Tr.das (adP w u)) _;rw[ea];exact ql5 hd1 (D5.mpr rfl)))
      k_go
      first|exact fin|(refine R0 ?_;exact fin)|(refine R0 ?_;refine R0 ?_;exact fin)
    | tx u0 =>
      x_go
      show wq6 K _ _ _
      have hut:ut=.str u0:=D5.mp du
      subst hut
      obtain⟨us1,eus⟩:∃ us1,us=us1++[.str u0]:=by
       refine⟨us.take P0.length,?_⟩
       have:=qn1 eu
       rw[<-this,List.take_of_length_le (by omega)]
      have hu0:u0.length<=1000000:=by
       have:adA w=u0.length:=by unfold adA;rw[hgl]
       omega
      lk
      refine⟨1,rfl,?_⟩
      refine M5 (SqL.of hx1) (v:=.str u0) (qk5 (n:=P0.length) hul2 eu) ?_
      lk
      refine O3 (i:=u0) (j:=u) (by rw[sizeLine_eq];omega) ?_
      lk
      refine⟨1,rfl,?_⟩
      refine .inl (yd9 (j:=P0.length) hx1 (by rw[hul2];exact zk1) ?_)
      have hl1:us1.length=P0.length:=by rw[eus] at hul2;simp at hul2;exact hul2
      have eset:us.set P0.length (.str (u0++u))=us1++[.str (u0++u)]:=by rw[eus,<-hl1];simp
      rw[eset]
      refine q _ H1 s1 ?_
      show Dvs K H1 (Tr.das (adP w u)) _
      have ea:adP w u=P0++[.tx (u0++u)]:=by unfold adP;rw[hgl,hps,List.dropLast_concat]
      rw[ea]
      have dP:Dvs K H1 (Tr.das P0) us1:=by
       rw[hps,eus,W4,List.map_append,<-W4] at hd1
       exact xf3 hd1
      exact ql5 dP (D5.mpr rfl)
def zz5(f h:Str)(ws:List (List Tr)):Tr:=.nd "" [.nd f (ws.map fun w=>.nd h w)]
def zc3(f h:Str)(k:Nat)(ws:List (List Tr)):List Mnd:=(if ws=[] then[] else[⟨k,k,cls h, "end"⟩])++[⟨k,k,cls f, "end"⟩]
variable{ws:List (List Tr)}
theorem HsB.get{as:List Addr}{i:Nat}(h:HsB K H as ws)(e:as[i]?=some a):∃ w us,ws[i]?=some w/\H a=some (.lst us)/\Dvs K H (Tr.das w) us:=by
 induction h generalizing i with
 | nil=>simp at e
 | cons h1 h2 _ ih =>
   cases i with
   | zero=>simp at e;subst e;exact⟨_,_,rfl,h1,h2⟩
   | succ i=>exact ih (by simpa using e)
abbrev wf1(K:Fg):TS :=
 (I9 (tBM K "list" J4 (A2 3) (A1 (Q3 (A1 (tCB (O6 K) (A1 (A2 2) A9)) (A1 (tCB (O6 K) (A1 (A2 2) A9)) (A1 (tOp (E6 K) (tOp (E6 K) (tC (.str "</")) (tOp (L7 K) (A2 0) (tC (.int 1)))) (tC (.str ">"))) (A1 (tC (.str "end")) A9))))) A9)))
abbrev wf2(K:Fg):TS :=
 (M3 (Q3 (A1 (tC (.str "")) (A1 (Q3 (A1 (Q3 (A1 (tOp (L7 K) (A2 0) (tC (.int 0))) (A1 (tCB (qk3 K) (A1 (wa9 [some 0,none] (wc3 K (A2 1)) (B2 1) tTT (Q3 (A1 (tOp (L7 K) (A2 0) (tC (.int 1))) (A1 (tCB (qk3 K) (A1 (A2 1) A9)) A9)))) A9)) A9))) A9)) A9))))
abbrev qg8(K:Fg):TS :=
 (C1 (I9 (tBM K "list" J4 (A2 3) (A1 (Q3 (A1 (tCB (O6 K) (A1 (A2 2) A9)) (A1 (tCB (O6 K) (A1 (A2 2) A9)) (A1 (tOp (E6 K) (tOp (E6 K) (tC (.str "</")) (tOp (L7 K) (A2 0) (tC (.int 0)))) (tC (.str ">"))) (A1 (tC (.str "end")) A9))))) A9)))
 (wf2 K))
def ql0(K:Fg):Sp:=fun vs H Q _=>∃ (d L M:Addr) (nm:List Str) (z:Str) (as:List Addr) (ws:List (List Tr)) (us:List V) (ms:List Mnd),vs=[.ref d,.ref L,.str z,.ref M]/\H d=some (.lst (B6 nm))/\3<=nm.length/\(∀ x∈nm,x.length<=8)/\z.length<=100000/\Hps K H L as ws/\ws.length<=1000/\H M=some (.lst us)/\Dvs K H (ms.map Mnd.da) us/\ms.length<=100000/\M∉L::as/\M≠d/\∀ (v:V) (us':List V) (H':Hp),Dv K H' (zz5 (gd nm 0) (gd nm 1) ws).da v->H' M=some (.lst us')->Dvs K H' ((ms++zc3 (gd nm 0) (gd nm 1) z.length ws).map Mnd.da) us'->But [M] H H'->Q v H'
def qp2(K:Fg):TS :=
 (C1 (P7 (E4 (tOp (wo0 K) (A2 1) (X6 A9)))
 (wf1 K) M7)
 (qg8 K))
theorem xk1(h:ql0 K vs H Q E):qp2 K {nx:=fun _ H'=>Q .non H',rt:=Q} (D6 ["_law_names_here","_law_hosts","_law_text","_law_mends"] vs) H:=by
 obtain⟨d,L,M,nm,z,as,ws,us,ms,rfl,hd,h3,h8,hz,hh,hwl,hM,hmd,hml,nM,nMd,q⟩:=h
 show qp2 K _ [some (.ref d),some (.ref L),some (.str z),some (.ref M)] H
 unfold qp2
 have hul:us.length=ms.length:=by have:=hmd.length;rw[List.length_map] at this;exact this
 have hal:=hh.b.len
 have g0:=h8 _ (wt2 (l:=nm) (i:=0) (by omega))
 have g1:=h8 _ (wt2 (l:=nm) (i:=1) (by omega))
 have rest:∀ (us1:List V) (ms1:List Mnd) (H1:Hp),H1 M=some (.lst us1)->Dvs K H1 (ms1.map Mnd.da) us1->But [M] H H1->Hps K H1 L as ws->ms1.length<=200000->ms1++[⟨z.length,z.length,cls (gd nm 0), "end"⟩]=ms++zc3 (gd nm 0) (gd nm 1) z.length ws->qg8 K {nx:=fun _ H'=>Q .non H',rt:=Q} [some (.ref d),some (.ref L),some (.str z),some (.ref M)] H1:=fun us1 ms1 H1 hM1 hd1 bt1 hh1 hl1 em=>by
  have hul1:us1.length=ms1.length:=by have:=hd1.length;rw[List.length_map] at this;exact this
  have hdd:H1 d=some (.lst (B6 nm)):=bt1 _ _ hd (by simp;exact Ne.symm nMd)
  lk
  refine⟨.inl ⟨rfl,_,SqL.of hM1⟩,?_⟩
  lk
  refine wk6 (by rw[sizeLine_eq];omega) ?_
  lk
  refine wk6 (by rw[sizeLine_eq];omega) ?_
  lk
  refine M5 (SqL.of hdd) (W1 (i:=0) (by omega)) ?_
  refine O3 (by rw[sizeLine_eq];show 2+_<=_;omega) ?_
  lk
  refine O3 (by rw[sizeLine_eq,I0];show 2+_+1<=_;omega) ?_
  lk
  refine⟨D4 (by z_go),fun p hp=>?_⟩
  lk
  have s2:=A7.new hp (.tup [.int z.length,.int z.length,.str (cls (gd nm 0)),.str "end"])
  have dp:Dv K _ (Mnd.da ⟨z.length,z.length,cls (gd nm 0), "end"⟩) (.ref p):=wh7 (A5 (H:=H1) (a:=p) (o:=.tup [.int z.length,.int z.length,.str (cls (gd nm 0)),.str "end"]))
  have hM2:=s2 _ _ hM1
  have hd2:=Dvs.same s2 _ _ hd1
  have hh2:=hh1.same s2
  have hdd2:=s2 _ _ hdd
  have bt2:But [M] H (upd H1 p (.tup [.int z.length,.int z.length,.str (cls (gd nm 0)),.str "end"])):=fun c o e n=>s2 _ _ (bt1 c o e n)
  show J4 (.ref M) [.ref p] (upd H1 p (.tup [.int z.length,.int z.length,.str (cls (gd nm 0)),.str "end"])) _
  generalize upd H1 p (.tup [.int z.length,.int z.length,.str (cls (gd nm 0)),.str "end"])=H2 at *
  refine L0 hM2 (by rw[hul1,sizeLine_eq];omega) ?_
  have tk3:T4 H2 (upd H2 M (.lst (us1++[.ref p]))):=N5 (.inl ⟨_,hM2⟩)
  have hM3:(upd H2 M (.lst (us1++[.ref p]))) M=_:=A5
  have hd3:Dvs K (upd H2 M (.lst (us1++[.ref p]))) ((ms++zc3 (gd nm 0) (gd nm 1) z.length ws).map Mnd.da) (us1++[.ref p]):=by
   rw[<-em]
   refine Dvs.tupK tk3 _ _ (P8 Mnd.fix _) ?_
   rw[List.map_append]
   exact Dvs.append hd2 (Dvs.one dp)
  have hh3:=hh2.upd (p:=M) (o:=.lst (us1++[.ref p])) (.inl (.inl ⟨_,hM2⟩)) nM
  have hdd3:=E7 (o:=.lst (us1++[.ref p])) hdd2 (Ne.symm nMd)
  have bt3:But [M] H (upd H2 M (.lst (us1++[.ref p]))):=xe8 bt2 (.inl (by simp))
  generalize upd H2 M (.lst (us1++[.ref p]))=H3 at *
  show wf2 K _ _ _
  lk
  refine M5 (SqL.of hdd3) (W1 (i:=0) (by omega)) ?_
  lk
  refine ws7 (.inl (SqL.of hh3.l)) (A7.refl H3) (fun i ys H'=>A7 H3 H'/\Dvs K H' (Tr.das ((ws.take i).map fun w=>Tr.nd (gd nm 1) w)) ys) ⟨A7.refl _,by rw[List.take_zero,List.map_nil,Tr.das];exact E2⟩ ?_ ?_ ?_ ?_
  ·rintro i ys H' hi ⟨_,hd⟩
   have:=qy9 hd
   rw[List.length_map,List.length_take] at this
   rw[List.length_map,hal] at hi
   exact D4 (by omega)
  ·rintro i ys H' ⟨h,_⟩;exact h
  ·rintro i v ys H' hi ⟨s4,hd4⟩
   rw[List.getElem?_map] at hi
   obtain⟨x,hx,rfl⟩:=Option.map_eq_some_iff.mp hi
   obtain⟨w,ux,hw,hxx,hxd⟩:=hh3.b.get hx
   refine M4 ?_
   lk
   refine M5 (SqL.of (s4 _ _ hdd3)) (W1 (i:=1) (by omega)) ?_
   lk
   refine⟨_,_,rfl,.inl ⟨SqL.of (s4 _ _ hxx),fun l hl=>?_⟩⟩
   lk
   refine⟨D4 (by z_go),fun p5 hp5=>?_⟩
   have u1:=A7.new hl (.tup ux)
   have u2:=A7.new hp5 (.tup [.str (gd nm 1),.ref l])
   have u12:=A7.tr u1 u2
   refine⟨A7.tr s4 u12,?_⟩
   rw[qn1 hw,List.map_append]
   exact ql5 (Dvs.same u12 _ _ hd4) (xm9 (SqT.of A5) (u2.sqT (SqT.of A5)) (Dvs.same (A7.tr s4 u12) _ _ hxd))
  rintro ys H' ⟨s4,hd4⟩ lc hlc
  have ew:ws.take (as.map V.ref).length=ws:=by rw[List.length_map,hal];exact List.take_length
  rw[ew] at hd4
  have u1:=A7.new hlc (.lst ys)
  lk
  refine⟨_,_,rfl,.inl ⟨SqL.of A5,fun l2 hl2=>?_⟩⟩
  have u2:=A7.new hl2 (.tup ys)
  lk
  refine⟨D4 (by z_go),fun p6 hp6=>?_⟩
  have u3:=A7.new hp6 (.tup [.str (gd nm 0),.ref l2])
  lk
  refine⟨D4 (by z_go),fun p7 hp7=>?_⟩
  have u4:=A7.new hp7 (.tup [.ref p6])
  lk
  refine⟨D4 (by z_go),fun p8 hp8=>?_⟩
  have u5:=A7.new hp8 (.tup [.str "",.ref p7])
  have u15:=A7.tr (A7.tr (A7.tr (A7.tr u1 u2) u3) u4) u5
  have u45:=A7.tr u4 u5
  have u35:=A7.tr u3 u45
  have dF:Dv K _ (Tr.nd (gd nm 0) (ws.map fun w=>Tr.nd (gd nm 1) w)).da (.ref p6):=xm9 (u45.sqT (SqT.of (A5 (H:=upd (upd H' lc (.lst ys)) l2 (.tup ys)) (a:=p6) (o:=.tup [.str (gd nm 0),.ref l2])))) (u35.sqT (SqT.of A5)) (Dvs.same u15 _ _ hd4)
  have s415:=A7.tr s4 u15
  refine q _ _ _ ?_ (s415 _ _ hM3) (Dvs.same s415 _ _ hd3) (fun c o e n=>s415 _ _ (bt3 c o e n))
  refine xm9 (ps:=[_]) (SqT.of A5) (u5.sqT (SqT.of A5)) ?_
  exact ql5 (w:=[]) (us:=[]) (by rw[Tr.das];exact E2) dF
 lk
 refine⟨D4 (by z_go),fun e0 he0=>?_⟩
 have s0:=A7.new he0 (.lst [])
 have hh0:=hh.same s0
 lk
 have hlist:∃ ds:List PyData,Dv K (upd H e0 (.lst [])) (.list ds) (.ref L)/\ds.isEmpty=ws.isEmpty:=by
  have:∀ (as:List Addr) (ws:List (List Tr)),HsB K (upd H e0 (.lst [])) as ws->∃ ds,Dvs K (upd H e0 (.lst [])) ds (as.map V.ref)/\ds.isEmpty=ws.isEmpty:=fun as ws h=>by
   induction h with
   | nil=>exact⟨[],E2,rfl⟩
   | cons h1 h2 _ ih =>
     obtain⟨ds,h3,_⟩:=ih
     exact⟨_::ds,B3 (Y8.mpr ⟨_,_,rfl,SqL.of h1,h2⟩) h3,rfl⟩
  obtain⟨ds,h1,h2⟩:=this as ws hh0.b
  exact⟨ds,Y8.mpr ⟨L,_,rfl,SqL.of hh0.l,h1⟩,h2⟩
 obtain⟨ds,hds,eds⟩:=hlist
 refine yy8 hds A5 ?_
 rw[eds]
 have hM0:=s0 _ _ hM
 have hmd0:=Dvs.same s0 _ _ hmd
 have hd0:=s0 _ _ hd
 have bt0:But [M] H (upd H e0 (.lst [])):=fun c o e _=>s0 _ _ e
 generalize upd H e0 (.lst [])=H0 at *
 lk
 cases hw:ws with
 | nil =>
   k_go
   show qg8 K _ _ _
   refine rest us ms H0 hM0 hmd0 bt0 hh0 (by omega) ?_
   rw[hw];rfl
 | cons w0 wt =>
   x_go
   show wf1 K _ _ _
   lk
   refine⟨.inl ⟨rfl,_,SqL.of hM0⟩,?_⟩
   lk
   refine wk6 (by rw[sizeLine_eq];omega) ?_
   lk
   refine wk6 (by rw[sizeLine_eq];omega) ?_
   lk
   refine M5 (SqL.of hd0) (W1 (i:=1) (by omega)) ?_
   refine O3 (by rw[sizeLine_eq];show 2+_<=_;omega) ?_
   lk
   refine O3 (by rw[sizeLine_eq,I0];show 2+_+1<=_;omega) ?_
   lk
   refine⟨D4 (by z_go),fun p hp=>?_⟩
   lk
   have s2:=A7.new hp (.tup [.int z.length,.int z.length,.str (cls (gd nm 1)),.str "end"])
   have dp:Dv K _ (Mnd.da ⟨z.length,z.length,cls (gd nm 1), "end"⟩) (.ref p):=wh7 (A5 (H:=H0) (a:=p) (o:=.tup [.int z.length,.int z.length,.str (cls (gd nm 1)),.str "end"]))
   have hM2:=s2 _ _ hM0
   have hd2:=Dvs.same s2 _ _ hmd0
   have hh2:=hh0.same s2
   have bt2:But [M] H (upd H0 p (.tup [.int z.length,.int z.length,.str (cls (gd nm 1)),.str "end"])):=fun c o e n=>s2 _ _ (bt0 c o e n)
   show J4 (.ref M) [.ref p] (upd H0 p (.tup [.int z.length,.int z.length,.str (cls (gd nm 1)),.str "end"])) _
   generalize upd H0 p (.tup [.int z.length,.int z.length,.str (cls (gd nm 1)),.str "end"])=H2 at *
   refine L0 hM2 (by rw[hul,sizeLine_eq];omega) ?_
   have tk3:T4 H2 (upd H2 M (.lst (us++[.ref p]))):=N5 (.inl ⟨_,hM2⟩)
   show qg8 K _ _ _
   refine rest (us++[.ref p]) (ms++[⟨z.length,z.length,cls (gd nm 1), "end"⟩]) _ A5 ?_ (xe8 bt2 (.inl (by simp))) (hh2.upd (.inl (.inl ⟨_,hM2⟩)) nM) (by simp;omega) ?_
   ·refine Dvs.tupK tk3 _ _ (P8 Mnd.fix _) ?_
    rw[List.map_append]
    exact Dvs.append hd2 (Dvs.one dp)
   ·unfold zc3
    rw[hw,if_neg (by simp),List.append_assoc]
def rs3(f h p:Str):List Row:=[⟨h, "plain","",[],[]⟩,⟨p, "plain","",[],[]⟩,⟨f, "frame",h,[],[]⟩]
def rk3(h:Str)(x:Str):Nat:=if x=h then 1 else 0
structure N3(f h p:Str):Prop where
 fh:f≠h
 fp:f≠p
 hp:h≠p
 f0:f≠("":Str)
 h0:h≠("":Str)
 p0:p≠("":Str)
 fo:xz9 f
 ho:xz9 h
 po:xz9 p
theorem ym9:¬(("plain":Str)=("frame":Str)):=by decide
variable{b0:Brn}{hosts:List (List Tr)}
section
variable{f h p:Str}
theorem yg9(n:N3 f h p):V4 (rs3 f h p) (some h)=some ⟨h, "plain","",[],[]⟩:=by
 unfold V4 rs3;rw[List.find?_cons,decide_eq_true rfl]
theorem yh0(n:N3 f h p):V4 (rs3 f h p) (some p)=some ⟨p, "plain","",[],[]⟩:=by
 unfold V4 rs3
 rw[List.find?_cons,decide_eq_false (fun e=>n.hp (Option.some.inj e)),List.find?_cons,decide_eq_true rfl]
theorem yh1(n:N3 f h p):V4 (rs3 f h p) (some f)=some ⟨f, "frame",h,[],[]⟩:=by
 unfold V4 rs3
 rw[List.find?_cons,decide_eq_false (fun e=>n.fh (Option.some.inj e).symm),List.find?_cons,decide_eq_false (fun e=>n.fp (Option.some.inj e).symm),List.find?_cons,decide_eq_true rfl]
theorem zu0(h1:x≠h)(h2:x≠p)(h3:x≠f):V4 (rs3 f h p) (some x)=none:=by
 unfold V4 rs3
 rw[List.find?_cons,decide_eq_false (fun e=>h1 (Option.some.inj e).symm),List.find?_cons,decide_eq_false (fun e=>h2 (Option.some.inj e).symm),List.find?_cons,decide_eq_false (fun e=>h3 (Option.some.inj e).symm)];rfl
theorem xs7(n:N3 f h p):L3 (rs3 f h p) (some h)=some ("plain":Str):=by unfold L3;rw[yg9 n];rfl
theorem xs8(n:N3 f h p):L3 (rs3 f h p) (some p)=some ("plain":Str):=by unfold L3;rw[yh0 n];rfl
theorem yn0(n:N3 f h p):L3 (rs3 f h p) (some f)=some ("frame":Str):=by unfold L3;rw[yh1 n];rfl
theorem xa4(n:N3 f h p):S9 (rs3 f h p) h=false:=by
 unfold S9;rw[yg9 n];exact(by decide:decide (("plain":Str)∈[("room":Str),("frame":Str)])=false)
theorem zk2(n:N3 f h p):S9 (rs3 f h p) p=false:=by
 unfold S9;rw[yh0 n];exact(by decide:decide (("plain":Str)∈[("room":Str),("frame":Str)])=false)
theorem zk3(n:N3 f h p):S9 (rs3 f h p) f=true:=by
 unfold S9;rw[yh1 n];exact(by decide:decide (("frame":Str)∈[("room":Str),("frame":Str)])=true)
theorem xg0(n:N3 f h p)(x:Str):M6 (rs3 f h p) (some x)=if x=h then some f else none:=by
 unfold M6 rs3
 rw[List.find?_cons,show decide ((⟨h, "plain","",[],[]⟩:Row).sort=("frame":Str))=false from decide_eq_false ym9,Bool.false_and,List.find?_cons,show decide ((⟨p, "plain","",[],[]⟩:Row).sort=("frame":Str))=false from decide_eq_false ym9,Bool.false_and,List.find?_cons]
 by_cases e:x=h
 ·subst e;rw[if_pos rfl];simp
 ·rw[if_neg e]
  have:decide (some (⟨f, "frame",h,[],[]⟩:Row).host=some x)=false:=decide_eq_false fun z=>e (Option.some.inj z).symm
  rw[this];rfl
theorem zk4(n:N3 f h p):P5 (rs3 f h p) (some f)=some h:=by unfold P5;rw[yh1 n];rfl
theorem yn1(n:N3 f h p)(hx:x≠f):P5 (rs3 f h p) (some x)=none:=by
 unfold P5
 by_cases e1:x=h
 ·rw[e1,yg9 n];rfl
 by_cases e2:x=p
 ·rw[e2,yh0 n];rfl
 ·rw[zu0 e1 e2 hx];rfl
theorem ya2(n:N3 f h p):L9 (rs3 f h p) f=[h]:=by
 unfold L9
 rw[qc8,zk4 n]
 show h::qc8 _ 11 (some h)=_
 rw[qc8,yn1 n (Ne.symm n.fh)]
theorem wq7(n:N3 f h p)(hx:x≠f):L9 (rs3 f h p) x=[]:=wl2 (yn1 n hx)
theorem zc4(n:N3 f h p):Bok (rs3 f h p) (rk3 h):=by
 have nm:∀ r∈rs3 f h p,r.name=h\/r.name=p\/r.name=f:=fun r hr=>by
  simp only[rs3,List.mem_cons,List.not_mem_nil,or_false] at hr
  rcases hr with rfl|rfl|rfl
  ·exact .inl rfl
  ·exact .inr (.inl rfl)
  ·exact .inr (.inr rfl)
 have kh:rk3 h h=1:=if_pos rfl
 have kf:rk3 h f=0:=if_neg n.fh
 have fr:∀ r∈rs3 f h p,r.sort=("frame":Str)->r=⟨f, "frame",h,[],[]⟩:=fun r hr hs=>by
  simp only[rs3,List.mem_cons,List.not_mem_nil,or_false] at hr
  rcases hr with rfl|rfl|rfl
  ·exact absurd hs ym9
  ·exact absurd hs ym9
  ·rfl
 refine⟨⟨by show(1:Nat)<=3;omega,by show(3:Nat)<=12;omega,?_,fun r hr=>?_,⟨rk3 h,fun r hr=>?_,fun r hr hs=>?_⟩,fun r hr hs=>?_,fun r hr r' hr' hs hs' _=>by rw[fr r hr hs,fr r' hr' hs'],fun r hr=>?_,fun r hr x hx=>?_⟩,fun x y e=>?_,fun x=>?_,fun r hr=>?_,fun r hr=>?_⟩
 ·show[h,p,f].Nodup
  simp[n.hp,Ne.symm n.fh,Ne.symm n.fp]
 ·rcases nm r hr with e|e|e <;> rw[e]
  ·exact n.h0
  ·exact n.p0
  ·exact n.f0
 ·unfold rk3;split <;> omega
 ·rw[fr r hr hs]
  exact⟨⟨⟨h, "plain","",[],[]⟩,by simp[rs3],rfl,.inl rfl⟩,by show rk3 h f<rk3 h h;omega⟩
 ·simp only[rs3,List.mem_cons,List.not_mem_nil,or_false] at hr
  rcases hr with rfl|rfl|rfl
  ·rfl
  ·rfl
  ·exact absurd rfl hs
 ·simp only[rs3,List.mem_cons,List.not_mem_nil,or_false] at hr
  rcases hr with rfl|rfl|rfl
  ·exact .inr (.inl rfl)
  ·exact .inr (.inl rfl)
  ·exact .inr (.inr (.inr (.inr rfl)))
 ·simp only[rs3,List.mem_cons,List.not_mem_nil,or_false] at hr
  rcases hr with rfl|rfl|rfl <;> cases hx
 ·rw[xg0 n] at e
  split at e
  ·rename_i ex
   obtain rfl:=Option.some.inj e
   rw[ex];omega
  ·cases e
 ·unfold rk3;split <;> omega
 ·rcases nm r hr with e|e|e <;> rw[e]
  ·have:=n.ho.n8;omega
  ·have:=n.po.n8;omega
  ·have:=n.fo.n8;omega
 ·simp only[rs3,List.mem_cons,List.not_mem_nil,or_false] at hr
  rcases hr with rfl|rfl|rfl <;> exact⟨Nat.zero_le _,Nat.zero_le _⟩
theorem zn2(n:N3 f h p)(x:Str):we5 (rs3 f h p) x=[]/\qo1 (rs3 f h p) x=[]:=by
 unfold we5 qo1
 cases e:V4 (rs3 f h p) (some x) with
 | none=>exact⟨rfl,rfl⟩
 | some r =>
   have hr:=List.mem_of_find?_eq_some e
   simp only[rs3,List.mem_cons,List.not_mem_nil,or_false] at hr
   rcases hr with rfl|rfl|rfl <;> exact⟨rfl,rfl⟩
theorem zz6(n:N3 f h p):∀ (put there:List Str),bar (rs3 f h p) there put=false
 | [],_=>rfl
 | x::put,there=>by
   rw[bar,(zn2 n x).1,zz6 n put]
   simp
inductive S3(f h:Str):List (List Tr)->Rst->Prop
 | none {b0 b1:Brn} {st:Rst}:st.bs=[b0,b1]->b0.ps=[]->b0.ws=[]->b0.n = ""->b1.n=f->b1.ps=[]->b1.ws=[]->S3 f h [] st
 | some {b0 b1 b2:Brn} {st:Rst} {cs:List (List Tr)} {cur:List Tr}:st.bs=[b0,b1,b2]->b0.ps=[]->b0.ws=[]->b0.n = ""->b1.n=f->b1.ps=(cs.map fun w=>Tr.nd h w)->b1.ws=[]->b2.n=h->b2.ps=cur->b2.ws=[]->S3 f h (cs++[cur]) st
theorem xg1(hne:st.bs≠[])(hB:lwS rs st.bs=[]):qm1 rs i st=st:=by
 have eW:wUp rs (fun _=>[]) st.bs=st.bs:=by
  obtain⟨l1,d,l2,e,hl⟩:=xz4 rs hne
  rw[e,xf0 hl] at hB
  rw[e,wl9 hl,show({d with ws:=[]}:Brn)=d by rw[<-hB]]
 unfold qm1
 rw[hB,eW];rfl
theorem zz7(n:N3 f h p)(ns:List Str):X0 (rs3 f h p) ns=[]:=by
 unfold X0 xj7
 rw[List.filter_eq_nil_iff]
 intro x _ e
 have e2:=of_decide_eq_true e
 unfold L3 at e2
 cases er:V4 (rs3 f h p) (some x) with
 | none=>rw[er] at e2;cases e2
 | some r =>
   rw[er] at e2
   have hr:=List.mem_of_find?_eq_some er
   have e3:r.sort=("anew":Str):=Option.some.inj e2
   simp only[rs3,List.mem_cons,List.not_mem_nil,or_false] at hr
   rcases hr with rfl|rfl|rfl
   ·exact absurd e3 (by show ¬(("plain":Str)=("anew":Str));decide)
   ·exact absurd e3 (by show ¬(("plain":Str)=("anew":Str));decide)
   ·exact absurd e3 (by show ¬(("frame":Str)=("anew":Str));decide)
theorem zc5(n:N3 f h p){pre:List Brn}(e:st.bs=pre++b::cl):Q0 (rs3 f h p) st pre.length i rule={st with bs:=pre++[{b with ps:=b.ps++N7 cl}],ms:=st.ms++cl.reverse.map (clM i rule)}:=by
 rw[xr6 e,zz7 n,ym6 fun ws=>List.append_nil ws]
theorem xs9{t:List Brn}(e:st.bs=b0::t):J6 st=t.map Brn.n:=by unfold J6;rw[e];rfl
theorem yn2(n:N3 f h p)(hy:ys=[f]\/ys=[f,h]):L1 (rs3 f h p) (rk3 h) ys 13 h=(1,[h]):=by
 rw[L1,wb1,xg0 n,if_pos rfl]
 have:clo (rs3 f h p) (rk3 h) ys f ys.length=some 0:=by
  rcases hy with rfl|rfl
  ·show clo _ _ _ _ (0+1)=_
   rw[clo,if_pos (show gd [f] 0=f from rfl)]
  ·show clo _ _ _ _ (1+1)=_
   rw[clo,if_neg (show ¬gd [f,h] 1=f from Ne.symm n.fh),show gd [f,h] 1=h from rfl,xa4 n,if_neg (by simp),clo,if_pos (show gd [f,h] 0=f from rfl)]
 show(match clo (rs3 f h p) (rk3 h) ys f ys.length with|some k=>(k+1,[h])|none=>_)=_
 rw[this]
theorem zc6(n:N3 f h p):L1 (rs3 f h p) (rk3 h) [f] 13 p=(1,[h,p]):=by
 rw[L1,wb1,xg0 n,if_neg (Ne.symm n.hp)]
 show qc1 _ _ _=_
 unfold qc1
 have:P6 [f]=f:=rfl
 rw[this,ya2 n,if_neg (by simp)];rfl
theorem zc7(n:N3 f h p):L1 (rs3 f h p) (rk3 h) [f,h] 13 p=(2,[p]):=by
 rw[L1,wb1,xg0 n,if_neg (Ne.symm n.hp)]
 show qc1 _ _ _=_
 unfold qc1
 have:P6 [f,h]=h:=rfl
 rw[this,wq7 n (Ne.symm n.fh),if_pos rfl]
 have:=qw1 (rs3 f h p) 2 [f,h] rfl
 unfold wx3
 rw[(zn2 n p).2,ym5]
 congr 1
 show 2-_+_=2
 omega
theorem zk5(n:N3 f h p):L1 (rs3 f h p) (rk3 h) [] 13 f=(0,[f]):=by
 rw[L1,wb1,xg0 n,if_neg n.fh]
 show qc1 _ _ _=_
 unfold qc1
 have:P6 []=("":Str):=rfl
 rw[this,wq7 n (Ne.symm n.f0),if_pos rfl]
 rfl
theorem op3(n:N3 f h p){put:List Str}(hw:L1 (rs3 f h p) (rk3 h) (J6 st) 13 x=(k,put++[x]))(hs:L3 (rs3 f h p) (some x)=some ("plain":Str)\/L3 (rs3 f h p) (some x)=some ("frame":Str))(hl:k+put.length<20):opS (rs3 f h p) (rk3 h) st i g x={(P2 (Q0 (rs3 f h p) st k i "shut") put i "frame") with bs:=qh9 (P2 (Q0 (rs3 f h p) st k i "shut") put i "frame").bs x}:=by
 unfold opS
 rw[hw]
 have hs1:L3 (rs3 f h p) (some x)≠none:=by rcases hs with e|e <;> rw[e] <;> simp
 have hs2:¬L3 (rs3 f h p) (some x)=some ("bare":Str):=by rcases hs with e|e <;> rw[e] <;> decide
 rw[if_neg hs1,zz6 n,if_neg (by decide)]
 show(if 20<k+(put++[x]).length then _ else _)=_
 rw[if_neg (by rw[List.length_append];simp;omega)]
 show(if L3 (rs3 f h p) (some x)=some ("bare":Str) then _ else _)=_
 rw[if_neg hs2,List.dropLast_concat]
theorem zc8(n:N3 f h p):S3 f h [] (opS (rs3 f h p) (rk3 h) st0 i g f)/\(opS (rs3 f h p) (rk3 h) st0 i g f).ms=[]:=by
 have e:J6 st0=[]:=rfl
 rw[op3 n (k:=0) (put:=[]) (by rw[e,zk5 n];rfl) (.inr (yn0 n)) (by simp)]
 have e2:=zc5 n (st:=st0) (pre:=[]) (b:=xj8) (cl:=[]) (i:=i) (rule := "shut") rfl
 have e3:Q0 (rs3 f h p) st0 0 i "shut"=st0:=e2
 rw[e3]
 exact⟨.none rfl rfl rfl rfl rfl rfl rfl,rfl⟩
theorem zk6(n:N3 f h p)(s:S3 f h hosts st):S3 f h (hosts++[[]]) (opS (rs3 f h p) (rk3 h) st i g h)/\(opS (rs3 f h p) (rk3 h) st i g h).ms=st.ms++(if hosts=[] then[] else[⟨i,i,cls h, "shut"⟩]):=by
 cases s with
 | none e0 e1 e2 e3 e4 e5 e6 =>
   rename_i b0 b1
   have en:J6 st=[f]:=by rw[xs9 e0];simp[e4]
   rw[op3 n (k:=1) (put:=[]) (by rw[en,yn2 n (.inl rfl)];rfl) (.inl (xs7 n)) (by simp)]
   have e7:Q0 (rs3 f h p) st 1 i "shut"={st with bs:=[b0]++[{b1 with ps:=b1.ps++N7 []}],ms:=st.ms++[].reverse.map (clM i "shut")}:=zc5 n (pre:=[b0]) e0
   rw[e7]
   refine⟨.some (cs:=[]) (b0:=b0) (b1:={b1 with ps:=b1.ps++N7 []}) (b2:=we8 {b1 with ps:=b1.ps++N7 []} h) rfl e1 e2 e3 e4 ?_ e6 rfl rfl rfl,rfl⟩
   show b1.ps++[]=_
   rw[e5];rfl
 | some e0 e1 e2 e3 e4 e5 e6 e7 e8 e9 =>
   rename_i b0 b1 b2 cs cur
   have en:J6 st=[f,h]:=by rw[xs9 e0];simp[e4,e7]
   rw[op3 n (k:=1) (put:=[]) (by rw[en,yn2 n (.inr rfl)];rfl) (.inl (xs7 n)) (by simp)]
   have e10:Q0 (rs3 f h p) st 1 i "shut"={st with bs:=[b0]++[{b1 with ps:=b1.ps++N7 [b2]}],ms:=st.ms++[b2].reverse.map (clM i "shut")}:=zc5 n (pre:=[b0]) e0
   rw[e10]
   refine⟨.some (cs:=cs++[cur]) (b0:=b0) (b1:={b1 with ps:=b1.ps++N7 [b2]}) (b2:=we8 {b1 with ps:=b1.ps++N7 [b2]} h) rfl e1 e2 e3 e4 ?_ e6 rfl rfl rfl,?_⟩
   ·show b1.ps++[Tr.nd b2.n (b2.ps++[])]=_
    rw[e5,e7,e8,List.append_nil,List.map_append];rfl
   ·show st.ms++[clM i "shut" b2]=_
    rw[if_neg (by simp)]
    unfold clM
    rw[e7]
theorem lw3(n:N3 f h p){b1:Brn}{t:List Brn}(e:st.bs=b0::b1::t)(hf:b1.n=f)(hw:b1.ws=[])(ht:∀ c∈t,S9 (rs3 f h p) c.n=false):lwS (rs3 f h p) st.bs=[]:=by
 rw[e]
 have:LwP (rs3 f h p) [b0] b1 t:=.inl ⟨by rw[hf];exact zk3 n,ht⟩
 rw[show b0::b1::t=[b0]++b1::t from rfl,xf0 this,hw]
theorem yh2(n:N3 f h p)(s:S3 f h hosts st)(hp:wb3 t)(hb:hosts=[]->wa0 t=false):S3 f h (if hosts=[] then[adP [] t] else hosts.dropLast++[adP (hosts.getLastD []) t]) (U5 (rs3 f h p) st i t t)/\(U5 (rs3 f h p) st i t t).ms=st.ms++(if hosts=[] then[⟨i,i,opn h, "host"⟩] else[]):=by
 cases s with
 | none e0 e1 e2 e3 e4 e5 e6 =>
   rename_i b0 b1
   have en:J6 st=[f]:=by rw[xs9 e0];simp[e4]
   have eh:O4 (rs3 f h p) st=[h]:=by unfold O4;rw[en];exact ya2 n
   have er:U5 (rs3 f h p) st i t t=txS (wb2 (qm1 (rs3 f h p) i (wm1 st h i "host")) i t) i t t:=by
    unfold U5
    rw[if_neg (fun z=>by rw[hb rfl] at z;exact absurd z.2 (by decide)),eh,en,if_neg (by simp)];rfl
   have eb:(wm1 st h i "host").bs=[b0,b1,we8 b1 h]:=by
    show qh9 st.bs h=_
    rw[e0];rfl
   rw[er,xg1 (by rw[eb];simp) (lw3 n eb e4 e6 fun c hc=>by rw[List.mem_singleton.mp hc];exact xa4 n),xs4 hp]
   have et:=xf6 (i:=i) (g:=t) (t:=t) (l:=[b0,b1]) eb
   refine⟨?_,rfl⟩
   rw[if_pos rfl]
   exact .some (cs:=[]) et e1 e2 e3 e4 (by rw[e5];rfl) e6 rfl rfl rfl
 | some e0 e1 e2 e3 e4 e5 e6 e7 e8 e9 =>
   rename_i b0 b1 b2 cs cur
   have en:J6 st=[f,h]:=by rw[xs9 e0];simp[e4,e7]
   have eh:O4 (rs3 f h p) st=[]:=by unfold O4;rw[en];exact wq7 n (Ne.symm n.fh)
   have er:U5 (rs3 f h p) st i t t=txS (wb2 (qm1 (rs3 f h p) i st) i t) i t t:=by
    unfold U5
    rw[if_neg (fun z=>by rw[en] at z;have:=z.1;rw[show P6 [f,h]=h from rfl,xs7 n] at this;exact absurd this (by decide)),eh,en,if_neg (by simp)];rfl
   rw[er,xg1 (by rw[e0];simp) (lw3 n e0 e4 e6 fun c hc=>by rw[List.mem_singleton.mp hc,e7];exact xa4 n),xs4 hp]
   have et:=xf6 (i:=i) (g:=t) (t:=t) (l:=[b0,b1]) (b:=b2) e0
   have hne:cs++[cur]≠[]:=by simp
   refine⟨?_,by rw[if_neg hne,List.append_nil];rfl⟩
   rw[if_neg hne,List.dropLast_concat,List.getLastD_concat]
   exact .some et e1 e2 e3 e4 e5 e6 e7 (by show adP b2.ps t=_;rw[e8]) e9
theorem zc9(n:N3 f h p)(s:S3 f h [] st)(hb:wa0 t=true):U5 (rs3 f h p) st i t t=dropS st i t "blank":=by
 obtain⟨ws,hws⟩:∃ ws:List (List Tr),ws=[]:=⟨_,rfl⟩
 rw[<-hws] at s
 cases s with
 | none e0 e1 e2 e3 e4 e5 e6 =>
   have en:J6 st=[f]:=by rw[xs9 e0];simp[e4]
   unfold U5
   rw[if_pos ⟨by rw[en];exact yn0 n,hb⟩]
 | some=>simp at hws
theorem ya3(n:N3 f h p){j k:Int}{g2:Str}(s:S3 f h hosts st)(hp:wb3 w):S3 f h ((if hosts=[] then[[]] else hosts).dropLast++[(if hosts=[] then[] else hosts.getLastD [])++[Tr.nd p (if w=("":Str) then[] else[Tr.tx w])]]) (qw6 (rs3 f h p) (rk3 h) (if w=("":Str) then opS (rs3 f h p) (rk3 h) st i g p else U5 (rs3 f h p) (opS (rs3 f h p) (rk3 h) st i g p) j w w) k g2 p)/\(qw6 (rs3 f h p) (rk3 h) (if w=("":Str) then opS (rs3 f h p) (rk3 h) st i g p else U5 (rs3 f h p) (opS (rs3 f h p) (rk3 h) st i g p) j w w) k g2 p).ms=st.ms++(if hosts=[] then[⟨i,i,opn h, "frame"⟩] else[]):=by
 have key:∀ (X:Rst) (b0 b1 b2 b3:Brn) (cs:List (List Tr)) (cur:List Tr),X.bs=[b0,b1,b2,b3]->b0.ps=[]->b0.ws=[]->b0.n = ""->b1.n=f->b1.ps=(cs.map fun w=>Tr.nd h w)->b1.ws=[]->b2.n=h->b2.ps=cur->b2.ws=[]->b3.n=p->b3.ps=[]->b3.ws=[]->S3 f h (cs++[cur++[Tr.nd p (if w=("":Str) then[] else[Tr.tx w])]]) (qw6 (rs3 f h p) (rk3 h) (if w=("":Str) then X else U5 (rs3 f h p) X j w w) k g2 p)/\(qw6 (rs3 f h p) (rk3 h) (if w=("":Str) then X else U5 (rs3 f h p) X j w w) k g2 p).ms=X.ms:=fun X b0 b1 b2 b3 cs cur e0 e1 e2 e3 e4 e5 e6 e7 e8 e9 e10 e11 e12=>by
  have en:J6 X=[f,h,p]:=by rw[xs9 e0];simp[e4,e7,e10]
  have hY:∃ b3',(if w=("":Str) then X else U5 (rs3 f h p) X j w w).bs=[b0,b1,b2,b3']/\b3'.n=p/\b3'.ps=(if w=("":Str) then[] else[Tr.tx w])/\(if w=("":Str) then X else U5 (rs3 f h p) X j w w).ms=X.ms:=by
   by_cases hw:w=("":Str)
   ·rw[if_pos hw,if_pos hw];exact⟨b3,e0,e10,e11,rfl⟩
   ·rw[if_neg hw,if_neg hw]
    have eh:O4 (rs3 f h p) X=[]:=by unfold O4;rw[en];exact wq7 n (Ne.symm n.fp)
    have er:U5 (rs3 f h p) X j w w=txS (wb2 (qm1 (rs3 f h p) j X) j w) j w w:=by
     unfold U5
     rw[if_neg (fun z=>by rw[en] at z;have:=z.1;rw[show P6 [f,h,p]=p from rfl,xs8 n] at this;exact absurd this (by decide)),eh,en,if_neg (by simp)];rfl
    rw[er,xg1 (by rw[e0];simp) (lw3 n e0 e4 e6 fun c hc=>by
     rcases List.mem_cons.mp hc with rfl|hc
     ·rw[e7];exact xa4 n
     ·rw[List.mem_singleton.mp hc,e10];exact zk2 n),xs4 hp]
    have et:=xf6 (i:=j) (g:=w) (t:=w) (l:=[b0,b1,b2]) (b:=b3) e0
    exact⟨{b3 with ps:=adP b3.ps w},et,e10,by show adP b3.ps w=_;rw[e11];rfl,rfl⟩
  obtain⟨b3',f0,f1,f2,f3⟩:=hY
  generalize (if w=("":Str) then X else U5 (rs3 f h p) X j w w)=Y at *
  have enY:J6 Y=[f,h,p]:=by rw[xs9 f0];simp[e4,e7,f1]
  have hc:clo (rs3 f h p) (rk3 h) (J6 Y) p (J6 Y).length=some 2:=by
   rw[enY]
   show clo _ _ _ _ (2+1)=_
   rw[clo,if_pos (show gd [f,h,p] 2=p from rfl)]
  have eo:qw6 (rs3 f h p) (rk3 h) Y k g2 p=lvS (Q0 (rs3 f h p) Y 3 k "left"):=by unfold qw6;rw[hc]
  have ec:Q0 (rs3 f h p) Y 3 k "left"=Y:=wv0 (by rw[f0];rfl)
  rw[eo,ec]
  refine⟨?_,f3⟩
  have el:(lvS Y).bs=[b0,b1,{b2 with ps:=b2.ps++[Tr.nd b3'.n b3'.ps]}]:=by
   show lvB Y.bs=_
   rw[f0];exact xf1 [b0,b1] b2 b3'
  exact .some el e1 e2 e3 e4 e5 e6 e7 (by show b2.ps++[Tr.nd b3'.n b3'.ps]=_;rw[e8,f1,f2]) e9
 cases s with
 | none e0 e1 e2 e3 e4 e5 e6 =>
   rename_i b0 b1
   have en:J6 st=[f]:=by rw[xs9 e0];simp[e4]
   have eX:opS (rs3 f h p) (rk3 h) st i g p={(P2 (Q0 (rs3 f h p) st 1 i "shut") [h] i "frame") with bs:=qh9 (P2 (Q0 (rs3 f h p) st 1 i "shut") [h] i "frame").bs p}:=op3 n (put:=[h]) (by rw[en,zc6 n];rfl) (.inl (xs8 n)) (by simp)
   have ec:Q0 (rs3 f h p) st 1 i "shut"=st:=wv0 (by rw[e0];rfl)
   rw[ec] at eX
   have eXb:(opS (rs3 f h p) (rk3 h) st i g p).bs=[b0,b1,we8 b1 h,we8 (we8 b1 h) p]:=by
    rw[eX]
    show qh9 (qh9 st.bs h) p=_
    rw[e0];rfl
   have eXm:(opS (rs3 f h p) (rk3 h) st i g p).ms=st.ms++[⟨i,i,opn h, "frame"⟩]:=by rw[eX];rfl
   obtain⟨k1,k2⟩:=key _ b0 b1 _ _ [] [] eXb e1 e2 e3 e4 e5 e6 rfl rfl rfl rfl rfl rfl
   rw[if_pos rfl,if_pos rfl]
   exact⟨k1,by rw[k2,eXm,if_pos rfl]⟩
 | some e0 e1 e2 e3 e4 e5 e6 e7 e8 e9 =>
   rename_i b0 b1 b2 cs cur
   have en:J6 st=[f,h]:=by rw[xs9 e0];simp[e4,e7]
   have eX:opS (rs3 f h p) (rk3 h) st i g p={(P2 (Q0 (rs3 f h p) st 2 i "shut") [] i "frame") with bs:=qh9 (P2 (Q0 (rs3 f h p) st 2 i "shut") [] i "frame").bs p}:=op3 n (put:=[]) (by rw[en,zc7 n];rfl) (.inl (xs8 n)) (by simp)
   have ec:Q0 (rs3 f h p) st 2 i "shut"=st:=wv0 (by rw[e0];rfl)
   rw[ec] at eX
   have eXb:(opS (rs3 f h p) (rk3 h) st i g p).bs=[b0,b1,b2,we8 b2 p]:=by
    rw[eX]
    show qh9 st.bs p=_
    rw[e0];rfl
   have eXm:(opS (rs3 f h p) (rk3 h) st i g p).ms=st.ms:=by rw[eX];rfl
   obtain⟨k1,k2⟩:=key _ b0 b1 b2 _ cs cur eXb e1 e2 e3 e4 e5 e6 e7 e8 e9 rfl rfl rfl
   have hne:cs++[cur]≠[]:=by simp
   rw[if_neg hne,if_neg hne,List.dropLast_concat,List.getLastD_concat]
   exact⟨k1,by rw[k2,eXm,if_neg hne,List.append_nil]⟩
theorem zu1(n:N3 f h p)(s:S3 f h hosts st):rtS (Q0 (rs3 f h p) st 0 k "end")=[Tr.nd f (hosts.map fun w=>Tr.nd h w)]/\(Q0 (rs3 f h p) st 0 k "end").ms=st.ms++((if hosts=[] then[] else[⟨k,k,cls h, "end"⟩])++[⟨k,k,cls f, "end"⟩]):=by
 cases s with
 | none e0 e1 e2 e3 e4 e5 e6 =>
   rename_i b0 b1
   have e7:Q0 (rs3 f h p) st 0 k "end"={st with bs:=[]++[{b0 with ps:=b0.ps++N7 [b1]}],ms:=st.ms++[b1].reverse.map (clM k "end")}:=zc5 n (pre:=[]) e0
   rw[e7]
   refine⟨?_,?_⟩
   ·show b0.ps++[Tr.nd b1.n (b1.ps++[])]=_
    rw[e1,e4,e5];rfl
   ·show st.ms++[clM k "end" b1]=_
    rw[if_pos rfl]
    unfold clM
    rw[e4];rfl
 | some e0 e1 e2 e3 e4 e5 e6 e7 e8 e9 =>
   rename_i b0 b1 b2 cs cur
   have e10:Q0 (rs3 f h p) st 0 k "end"={st with bs:=[]++[{b0 with ps:=b0.ps++N7 [b1,b2]}],ms:=st.ms++[b1,b2].reverse.map (clM k "end")}:=zc5 n (pre:=[]) e0
   rw[e10]
   refine⟨?_,?_⟩
   ·show b0.ps++[Tr.nd b1.n (b1.ps++[Tr.nd b2.n (b2.ps++[])])]=_
    rw[e1,e4,e5,e7,e8,List.append_nil,List.map_append];rfl
   ·show st.ms++[clM k "end" b2,clM k "end" b1]=_
    rw[if_neg (by simp)]
    unfold clM
    rw[e4,e7];rfl
end
structure A3(K:Fg)(H0 H:Hp)(L M:Addr)(as:List Addr)(hosts:List (List Tr))(ms:List Mnd):Prop where
 s:A7 H0 H
 h:Hps K H L as hosts
 m:∃ us,H M=some (.lst us)/\Dvs K H (ms.map Mnd.da) us
 nm:M∉L::as
 nw:∀ z∈M::L::as,H0 z=none
section
variable{H0 H':Hp}{L M:Addr}{as:List Addr}{hosts:List (List Tr)}{ms:List Mnd}
theorem A3.same(a:A3 K H0 H L M as hosts ms)(s:A7 H H'):A3 K H0 H' L M as hosts ms:=by
 obtain⟨us,m1,m2⟩:=a.m
 exact⟨A7.tr a.s s,a.h.same s,⟨us,s _ _ m1,Dvs.same s _ _ m2⟩,a.nm,a.nw⟩
theorem A3.mend{m:Mnd}(a:A3 K H0 H L M as hosts ms)(hm:H M=some (.lst us))(hd:Dvs K H (ms.map Mnd.da) us)(hp:Dv K H m.da (.ref p)):A3 K H0 (upd H M (.lst (us++[.ref p]))) L M as hosts (ms++[m]):=by
 have tk:T4 H (upd H M (.lst (us++[.ref p]))):=N5 (.inl ⟨_,hm⟩)
 refine⟨A7.put a.s (a.nw M (by simp)) _,a.h.upd (.inl (.inl ⟨_,hm⟩)) a.nm,⟨_,A5,?_⟩,a.nm,a.nw⟩
 refine Dvs.tupK tk _ _ (P8 Mnd.fix _) ?_
 rw[List.map_append]
 exact Dvs.append hd (Dvs.one hp)
theorem A3.mlen(hd:Dvs K H (ms.map Mnd.da) us):us.length=ms.length:=by have:=hd.length;rw[List.length_map] at this;exact this
theorem A3.push(a:A3 K H0 H L M as hosts ms)(hp:H p=none):A3 K H0 (upd (upd H p (.lst [])) L (.lst (as.map V.ref++[.ref p]))) L M (as++[p]) (hosts++[[]]) ms:=by
 obtain⟨us,m1,m2⟩:=a.m
 have s1:=A7.new hp (.lst [])
 have nML:M≠L:=fun e=>a.nm (by rw[e];simp)
 have tk:T4 (upd H p (.lst [])) (upd (upd H p (.lst [])) L (.lst (as.map V.ref++[.ref p]))):=N5 (.inl ⟨_,s1 _ _ a.h.l⟩)
 have hp0:=A7.grow a.s _ hp
 refine⟨A7.put (A7.tr a.s s1) (a.nw L (by simp)) _,a.h.push hp (by rw[Tr.das];exact E2),⟨us,E7 (s1 _ _ m1) nML,Dvs.tupK tk _ _ (P8 Mnd.fix _) (Dvs.same s1 _ _ m2)⟩,fun z=>?_,fun z hz=>?_⟩
 ·rcases List.mem_cons.mp z with h|h
  ·exact nML h
  ·rcases List.mem_append.mp h with h|h
   ·exact a.nm (by simp[h])
   ·exact W8 hp m1 (List.mem_singleton.mp h)
 ·simp only[List.mem_cons,List.mem_append,List.not_mem_nil,or_false] at hz
  rcases hz with h|h|h|h
  ·exact a.nw z (by simp[h])
  ·exact a.nw z (by simp[h])
  ·exact a.nw z (by simp[h])
  ·rw[h];exact hp0
theorem A3.lst(a:A3 K H0 H L M as hosts ms):∃ ds:List PyData,Dv K H (.list ds) (.ref L)/\ds.isEmpty=hosts.isEmpty:=by
 have:∀ (as:List Addr) (ws:List (List Tr)),HsB K H as ws->∃ ds,Dvs K H ds (as.map V.ref)/\ds.isEmpty=ws.isEmpty:=fun as ws h=>by
  induction h with
  | nil=>exact⟨[],E2,rfl⟩
  | cons h1 h2 _ ih =>
    obtain⟨ds,h3,_⟩:=ih
    exact⟨_::ds,B3 (Y8.mpr ⟨_,_,rfl,SqL.of h1,h2⟩) h3,rfl⟩
 obtain⟨ds,h1,h2⟩:=this as hosts a.h.b
 exact⟨ds,Y8.mpr ⟨L,_,rfl,SqL.of a.h.l,h1⟩,h2⟩
theorem A3.eqE(a:A3 K H0 H L M as hosts ms)(he:H e=some (.lst []))(q:Q (.bl hosts.isEmpty) H):Y0 K (.ref L) (.ref e) H Q:=by
 obtain⟨ds,h1,h2⟩:=a.lst
 exact zy7 h1 he (by rw[h2];exact q)
theorem A3.neE(a:A3 K H0 H L M as hosts ms)(he:H e=some (.lst []))(q:Q (.bl (!hosts.isEmpty)) H):wo0 K (.ref L) (.ref e) H Q:=by
 obtain⟨ds,h1,h2⟩:=a.lst
 exact yy8 h1 he (by rw[h2];exact q)
theorem A3.lie{w:List Tr}{t:Tr}(a:A3 K H0 H L M as (ws++[w]) ms)(hv:Dv K H t.da v)(hl:w.length<=1000000)(ha:adA w<=1000000)(ht:∀ u,t=.tx u->u.length<=1000000):∃ as' x,as=as'++[x]/\H L=some (.lst (as'.map V.ref++[.ref x]))/\((∀ H',A3 K H0 H' L M as (ws++[zz4 w t]) ms->Q .non H')->Y4 K [.ref x,v] H Q E):=by
 obtain⟨as',x,us,rfl,hx,hd,hL,_⟩:=a.h.top
 obtain⟨ums,m1,m2⟩:=a.m
 refine⟨as',x,rfl,hL,fun q=>⟨x,w,us,t,v,rfl,hx,hd,hv,hl,ha,ht,fun us' H1 s1 hd1=>q _ ?_⟩⟩
 have h1:=a.h.same s1
 have nMx:M≠x:=fun e=>a.nm (by rw[e];simp)
 have tk:T4 H1 (upd H1 x (.lst us')):=N5 (.inl ⟨_,s1 _ _ hx⟩)
 exact⟨A7.put (A7.tr a.s s1) (a.nw x (by simp)) _,h1.put hd1,⟨ums,E7 (s1 _ _ m1) nMx,Dvs.tupK tk _ _ (P8 Mnd.fix _) (Dvs.same s1 _ _ m2)⟩,a.nm,a.nw⟩
end
theorem dg3(n:Nat)(h:n<100):(fun z:Str=>(decide (1<=z.length) && decide (z.length<=3) && z.cps.toList.all fun c=>decide (48<=c) && decide (c<=57)) && !(wa0 (("w":Str)++z))) (Str.ofString (toString (n:Int)))=true:=by
 revert n;decide +kernel
structure Wd3(w:Str):Prop where
 l1:1<=w.length
 l:w.length<=10
 p:wb3 w
theorem wd3(i:Int):Wd3 (("w":Str)++Str.ofString (toString (i % 100)))/\wa0 (("w":Str)++Str.ofString (toString (i % 100)))=false:=by
 have h0:0<=i % 100:=Int.emod_nonneg _ (by decide)
 have h1:i % 100<100:=Int.emod_lt_of_pos _ (by decide)
 obtain⟨n,hn⟩:=Int.eq_ofNat_of_zero_le h0
 have:=dg3 n (by omega)
 rw[hn]
 simp only[Bool.and_eq_true,decide_eq_true_eq,List.all_eq_true,Bool.not_eq_true'] at this
 obtain⟨⟨⟨h2,h3⟩,h4⟩,h5⟩:=this
 have l1:(("w":Str)++Str.ofString (toString (n:Int))).length=1+(Str.ofString (toString (n:Int))).length:=I0 _ _
 refine⟨⟨by rw[l1];omega,by rw[l1];omega,fun c hc=>?_⟩,h5⟩
 rw[PySem.Str.cps_append,Array.toList_append] at hc
 rcases List.mem_append.mp hc with hc|hc
 ·have e:(("w":Str).cps.toList:List Nat)=[119]:=rfl
  rw[e] at hc
  have:=List.mem_singleton.mp hc
  omega
 ·have:=h4 c hc
  omega
theorem yn3(hp:wb3 w)(h1:1<=w.length):(Pq.rn w w).ok:=⟨ya0 fun c hc=>(hp c hc).1,h1,by rw[ym4 fun c hc=>(hp c hc).2,xs2]⟩
theorem zd0:wb3 (" \n":Str):=fun c hc=>by
 have:c∈[32,10]:=hc
 rcases List.mem_cons.mp this with h|h
 ·rw[h];decide
 ·rw[List.mem_singleton.mp h];decide
theorem zd1:wa0 (" \n":Str)=true:=by decide +kernel
theorem ya4:wb3 ("in it":Str):=fun c hc=>by
 have:c∈[105,110,32,105,116]:=hc
 simp only[List.mem_cons,List.not_mem_nil,or_false] at this
 omega
theorem yn4{n:Nat}(h:n<100):n.log2<1920:=by
 by_cases e:n=0
 ·subst e;decide
 ·have:=(Nat.log2_lt e (k:=10)).mpr (by omega);omega
def xg2(ps:List Pq):Bool:=(ps.getLast?.map Pq.isR).getD false
structure I3(f h p:Str)(ps:List Pq)(z:Str)(hosts:List (List Tr))(ms:List Mnd)(ran:Bool):Prop where
 z:z.cps.toList=txQ ps
 ok:∀ x∈ps,x.ok/\x.tx.length<=11
 ap:wj5 false ps
 r:xg2 ps=true->ran=true
 s:S3 f h hosts (pq (rs3 f h p) (rk3 h) 0 ps st0)
 m:(pq (rs3 f h p) (rk3 h) 0 ps st0).ms=ms
 b:Bg (rs3 f h p) (2*ps.length) (20*ps.length) (71*ps.length) ps.length (11*ps.length) (pq (rs3 f h p) (rk3 h) 0 ps st0)
theorem zk7{ps:List Pq}(h:∀ x∈ps,x.tx.length<=11):(txQ ps).length<=11*ps.length:=by
 induction ps with
 | nil=>simp[txQ]
 | cons x ps ih =>
   have h1:=h x (by simp)
   have h2:=ih fun y hy=>h y (by simp[hy])
   unfold txQ at h2 ⊢
   rw[List.flatMap_cons,List.length_append,List.length_cons];omega
variable{hosts':List (List Tr)}{ms':List Mnd}{z':Str}
section
variable{f h p:Str}{ps:List Pq}{z:Str}{hosts:List (List Tr)}{ms:List Mnd}{ran:Bool}
theorem I3.zl(i:I3 f h p ps z hosts ms ran):z.length=(txQ ps).length/\z.length<=11*ps.length:=by
 have e:z.length=(txQ ps).length:=by rw[<-qg7,i.z]
 have:=zk7 fun x hx=>(i.ok x hx).2
 exact⟨e,by omega⟩
theorem yh3(ps:List Pq)(x:Pq):xg2 (ps++[x])=x.isR:=by unfold xg2;rw[List.getLast?_concat];rfl
theorem I3.snoc(i:I3 f h p ps z hosts ms ran)(n:N3 f h p)(x:Pq)(hx:x.ok)(hl:x.tx.length<=11)(ht:∀ r t,x=.rn r t->t.length<=11)(hz:z'.cps.toList=z.cps.toList++x.tx)(ha:x.isR=true->ran=false)(hs:S3 f h hosts' (stQ (rs3 f h p) (rk3 h) z.length (pq (rs3 f h p) (rk3 h) 0 ps st0) x))(hm:(stQ (rs3 f h p) (rk3 h) z.length (pq (rs3 f h p) (rk3 h) 0 ps st0) x).ms=ms'):I3 f h p (ps++[x]) z' hosts' ms' x.isR:=by
 have e:pq (rs3 f h p) (rk3 h) 0 (ps++[x]) st0=stQ (rs3 f h p) (rk3 h) z.length (pq (rs3 f h p) (rk3 h) 0 ps st0) x:=by rw[ym8,Nat.zero_add,i.zl.1]
 refine⟨by rw[hz,i.z,zc2],fun y hy=>?_,xf8 i.ap fun e=>?_,fun e=>by rw[yh3] at e;exact e,by rw[e];exact hs,by rw[e];exact hm,?_⟩
 ·rcases List.mem_append.mp hy with h|h
  ·exact i.ok y h
  ·rw[List.mem_singleton.mp h];exact⟨hx,hl⟩
 ·cases hr:x.isR with
  | false=>rfl
  | true =>
    have:=i.r e
    rw[ha hr] at this;cases this
 ·rw[e]
  refine(i.b.stQ (zc4 n) x).mono (by simp;omega) (by simp;omega) (by simp;omega) (by simp) ?_
  cases x with
  | op m=>simp;omega
  | cl m=>simp;omega
  | rn r t=>have:=ht r t rfl;simp;omega
theorem I3.top{w:List Tr}(i:I3 f h p ps z (ws++[w]) ms ran)(hp:ps.length<=1000):w.length<=1000000/\adA w<=1000000:=by
 obtain⟨hs,ehs⟩:∃ hs,hs=ws++[w]:=⟨_,rfl⟩
 have s:=i.s
 rw[<-ehs] at s
 cases s with
 | none=>simp at ehs
 | some e0 e1 e2 e3 e4 e5 e6 e7 e8 e9 =>
   rename_i b0 b1 b2 cs cur
   have hc:cur=w:=by
    have:=(List.append_inj' ehs rfl).2
    simpa using this
   have hb:=i.b.c b2 (by rw[e0];simp)
   have h1:=hb.ps
   have h2:=hb.t
   rw[e8,hc] at h1 h2
   exact⟨by omega,by omega⟩
end
abbrev yn5(K:Fg):TS :=
 (C1 (I9 (tBM K "list" J4 (A2 5) (A1 (Q3 (A1 (A2 9) (A1 (A2 9) (A1 (tOp (E6 K) (tOp (E6 K) (tC (.str "<")) (tOp (L7 K) (A2 1) (tC (.int 1)))) (tC (.str ">"))) (A1 (tOp (L7 K) (X6 (A1 (tC (.str "host")) (A1 (tC (.str "frame")) A9))) (tCB yj5 (A1 (tOp wo1 (A2 10) (tC (.int 3))) A9))) A9))))) A9)))
 (I9 (tBM K "list" J4 (A2 4) (A1 (X6 A9) A9))))
abbrev xt0(K:Fg):TS :=
 (I9 (tBM K "list" J4 (A2 5) (A1 (Q3 (A1 (A2 9) (A1 (tOp (E6 K) (A2 9) (tC (.int 2))) (A1 (tC (.str "")) (A1 (tC (.str "blank")) A9))))) A9)))
abbrev wq8(K:Fg):TS :=
 (P7 (wn0 (E4 (tOp wo1 (A2 10) (tC (.int 0)))) (wn0 (E4 (tOp (Y0 K) (A2 4) (X6 A9))) (tOr (E4 (tOp wo1 (A2 10) (tC (.int 3)))) (yo3 (tB (A2 6))))))
 (yn5 K) M7)
abbrev yn6(K:Fg):TS :=
 (I9 (tBM K "list" J4 (A2 5) (A1 (Q3 (A1 (A2 9) (A1 (A2 9) (A1 (tOp (E6 K) (tOp (E6 K) (tC (.str "</")) (tOp (L7 K) (A2 1) (tC (.int 1)))) (tC (.str ">"))) (A1 (tC (.str "shut")) A9))))) A9)))
abbrev xa5(K:Fg):TS :=
 (C1 (E3 (tOp (E6 K) (tOp (E6 K) (tOp (E6 K) (A2 3) (tC (.str "<"))) (tOp (L7 K) (A2 1) (tC (.int 1)))) (tC (.str ">"))) (B2 3))
 (I9 (tBM K "list" J4 (A2 4) (A1 (X6 A9) A9))))
abbrev yn7(K:Fg):TS :=
 (I9 (D1 (Y4 K) [] E0 (A1 (tOp (L7 K) (A2 4) (tUn (rU fun i=>.int (-i)) (tC (.int 1)))) (A1 (tC (.str " \n")) A9))))
abbrev xa6(K:Fg):TS :=
 (C1 (E3 (tOp (E6 K) (A2 3) (tC (.str " \n"))) (B2 3))
 (P7 (E4 (tOp (wo0 K) (A2 4) (X6 A9)))
 (yn7 K) M7))
abbrev zk8(K:Fg):TS :=
 (I9 (D1 (Y4 K) [] E0 (A1 (tOp (L7 K) (A2 4) (tUn (rU fun i=>.int (-i)) (tC (.int 1)))) (A1 (tOp (E6 K) (tC (.str "w")) (tCB (yy3 K) (A1 (tOp (rI (fun _ j=>0<j) fun i j=>.int (i % j)) (tOp (rI xo6 fun i j=>.int (i / j)) (A2 8) (tC (.int 8))) (tC (.int 100))) A9))) A9))))
abbrev zk9(K:Fg):TS :=
 (C1 (E3 (tOp (E6 K) (tOp (E6 K) (A2 3) (tC (.str "w"))) (tCB (yy3 K) (A1 (tOp (rI (fun _ j=>0<j) fun i j=>.int (i % j)) (tOp (rI xo6 fun i j=>.int (i / j)) (A2 8) (tC (.int 8))) (tC (.int 100))) A9))) (B2 3))
 (zk8 K))
abbrev yn8(K:Fg):TS :=
 (I9 (D1 (Y4 K) [] E0 (A1 (tOp (L7 K) (A2 4) (tUn (rU fun i=>.int (-i)) (tC (.int 1)))) (A1 (Q3 (A1 (tOp (L7 K) (A2 1) (tC (.int 2))) (A1 (tCB (qk3 K) (A1 (wa9 [none] (wc3 K (X6 (A1 (A2 12) A9))) (B2 0) (E4 (tOp (wo0 K) (A2 0) (tC (.str "")))) (A2 0)) A9)) A9))) A9))))
abbrev ya5(K:Fg):TS :=
 (C1 (E3 (tOp (E6 K) (tOp (E6 K) (tOp (E6 K) (tOp (E6 K) (tOp (E6 K) (tOp (E6 K) (tOp (E6 K) (A2 3) (tC (.str "<"))) (tOp (L7 K) (A2 1) (tC (.int 2)))) (tC (.str ">"))) (A2 12)) (tC (.str "</"))) (tOp (L7 K) (A2 1) (tC (.int 2)))) (tC (.str ">"))) (B2 3))
 (yn8 K))
abbrev ya6(K:Fg):TS :=
 (C1 (E3 (tOp (L7 K) (X6 (A1 (tC (.str "")) (A1 (tC (.str "in it")) A9))) (tOp (rI0 fun i j=>.int (i-j)) (A2 10) (tC (.int 4)))) (B2 12))
 (ya5 K))
abbrev qx0(K:Fg):TS :=
 (C1 (P7 (E4 (tOp wo1 (A2 10) (tC (.int 3))))
 (ya6 K) M7)
 (E3 (xb0 yd7 yd7 (tC (.int 0)) (A2 10) (tC (.int 4))) (B2 6)))
abbrev V7(K:Fg):TS :=
 (C1 (P7 (wn0 (E4 (tOp (xc4 K false) (A2 10) (Q3 (A1 (tC (.int 1)) (A1 (tC (.int 2)) A9))))) (yo3 (tB (A2 6))))
 (zk9 K) M7)
 (qx0 K))
abbrev Y5(K:Fg):TS :=
 (C1 (P7 (E4 (tOp (Y0 K) (A2 10) (tC (.int 0))))
 (C1 (P7 (E4 (tOp (wo0 K) (A2 4) (X6 A9)))
 (yn6 K) M7)
 (xa5 K)) M7)
 (C1 (P7 (tB (A2 11))
 (xa6 K) M7)
 (V7 K)))
section
variable{D:qb6}{sk:Int}{sc d tb L M:Addr}{z:Str}{ran bl:Bool}{x7 x12 x13:Option V}{nn w:Int}{H0:Hp}{as:List Addr}{hosts:List (List Tr)}{ms:List Mnd}{nm:List Str}
theorem zl0(hw0:0<=w)(hw:w<=3)(q:D.nx [some (.ref sc),some (.ref d),some (.ref tb),some (.str z),some (.ref L),some (.ref M),some (.bl (decide (0<w))),x7,some (.int nn),some (.int sk),some (.int w),some (.bl bl),x12,x13] H):qx0 K D [some (.ref sc),some (.ref d),some (.ref tb),some (.str z),some (.ref L),some (.ref M),some (.bl ran),x7,some (.int nn),some (.int sk),some (.int w),some (.bl bl),x12,x13] H:=by
 lk
 rw[decide_eq_false (show ¬w > 3 by omega)]
 k_go
 lk
 by_cases h0:0<w
 ·rw[decide_eq_true h0] at q ⊢
  x_go
  lk
  rw[decide_eq_true (show w<4 by omega)]
  exact q
 ·rw[decide_eq_false h0] at q ⊢
  k_go
  exact q
theorem zd2(hno:¬((w=1\/w=2)/\ran=false))(q:∀ H',A7 H H'->qx0 K D [some (.ref sc),some (.ref d),some (.ref tb),some (.str z),some (.ref L),some (.ref M),some (.bl ran),x7,some (.int nn),some (.int sk),some (.int w),some (.bl bl),x12,x13] H'):V7 K D [some (.ref sc),some (.ref d),some (.ref tb),some (.str z),some (.ref L),some (.ref M),some (.bl ran),x7,some (.int nn),some (.int sk),some (.int w),some (.bl bl),x12,x13] H:=by
 lk
 refine⟨D4 (by z_go),fun e0 he0=>?_⟩
 have s1:=A7.new he0 (.tup [.int 1,.int 2])
 lk
 refine .inl (xv7 (.inr (SqT.of A5)) rfl rfl ?_)
 have q1:=q _ s1
 generalize upd H e0 (.tup [.int 1,.int 2])=H1 at *
 have e1:inV (.int w) [.int 1,.int 2]=(decide (w=1) || decide (w=2)):=by
  unfold inV
  simp only[List.any_cons,List.any_nil,eqV,Bool.or_false]
  congr 1 <;> (apply decide_eq_decide.mpr;constructor <;> (intro h;exact h.symm))
 rw[e1]
 lk
 by_cases hw:w=1\/w=2
 ·have:(decide (w=1) || decide (w=2))=true:=by rw[Bool.or_eq_true,decide_eq_true_eq,decide_eq_true_eq];exact hw
  rw[this]
  x_go
  have hr:ran=true:=by
   cases ran with
   | true=>rfl
   | false=>exact absurd ⟨hw,rfl⟩ hno
  subst hr
  lk
  first|exact q1|(refine R0 ?_;exact q1)|(refine X9 ?_;exact q1)
 ·have:(decide (w=1) || decide (w=2))=false:=by rw[Bool.or_eq_false_iff,decide_eq_false_iff_not,decide_eq_false_iff_not];exact⟨fun h=>hw (.inl h),fun h=>hw (.inr h)⟩
  rw[this]
  k_go
  first|exact q1|(refine R0 ?_;exact q1)
theorem zz8(hw:w≠0)(q:V7 K D [some (.ref sc),some (.ref d),some (.ref tb),some (.str z),some (.ref L),some (.ref M),some (.bl ran),x7,some (.int nn),some (.int sk),some (.int w),some (.bl false),x12,x13] H):Y5 K D [some (.ref sc),some (.ref d),some (.ref tb),some (.str z),some (.ref L),some (.ref M),some (.bl ran),x7,some (.int nn),some (.int sk),some (.int w),some (.bl false),x12,x13] H:=by
 lk
 rw[decide_eq_false hw]
 k_go
 show C1 (P7 (tB (A2 11)) (xa6 K) M7) (V7 K) D _ H
 refine qc0 ?_
 refine xm0 ?_
 refine yw0 ?_
 refine' qu4 ?ev ?_
 case ev=>exact rfl
 first|exact R0 q|(refine xc2 ?_;exact R0 q)|exact⟨_,rfl,R0 q⟩
theorem t0(a:A3 K H0 H L M as hosts ms)(hd:H0 d=some (.lst (B6 nm)))(h3:3<=nm.length)(h8:∀ x∈nm,x.length<=8)(hml:ms.length<=100000)(hhl:hosts.length<=1000)(hw:0<=w)(q:∀ as' H',A3 K H0 H' L M as' (hosts++[[]]) (ms++[⟨sk,sk,opn (gd nm 1),if 3<w then "frame" else "host"⟩])->D.nx [some (.ref sc),some (.ref d),some (.ref tb),some (.str z),some (.ref L),some (.ref M),some (.bl ran),x7,some (.int nn),some (.int sk),some (.int w),some (.bl bl),x12,x13] H'):yn5 K D [some (.ref sc),some (.ref d),some (.ref tb),some (.str z),some (.ref L),some (.ref M),some (.bl ran),x7,some (.int nn),some (.int sk),some (.int w),some (.bl bl),x12,x13] H:=by
 obtain⟨us,m1,m2⟩:=a.m
 have hul:=A3.mlen m2
 have g1:=h8 _ (wt2 (l:=nm) (i:=1) (by omega))
 lk
 refine⟨.inl ⟨rfl,_,SqL.of m1⟩,?_⟩
 lk
 refine M5 (SqL.of (a.s _ _ hd)) (W1 (i:=1) (by omega)) ?_
 refine O3 (by rw[sizeLine_eq];show 1+_<=_;omega) ?_
 lk
 refine O3 (by rw[sizeLine_eq,I0];show 1+_+1<=_;omega) ?_
 lk
 refine⟨D4 (by z_go),fun e0 he0=>?_⟩
 have s1:=A7.new he0 (.lst [.str "host",.str "frame"])
 lk
 by_cases hw3:w > 3
 ·rw[decide_eq_true hw3]
  refine .inr ⟨_,rfl,?_⟩
  refine M5 (xs:=[.str "host",.str "frame"]) (SqL.of A5) (v:=.str "frame") rfl ?_
  generalize upd H e0 (.lst [.str "host",.str "frame"])=H1 at *
  have a1:=a.same s1
  have m11:=s1 _ _ m1
  have m21:=Dvs.same s1 _ _ m2
  lk
  refine⟨D4 (by z_go),fun p hp=>?_⟩
  lk
  have s2:=A7.new hp (.tup [.int sk,.int sk,.str (opn (gd nm 1)),.str "frame"])
  have dp:Dv K _ (Mnd.da ⟨sk,sk,opn (gd nm 1), "frame"⟩) (.ref p):=wh7 (A5 (H:=H1) (a:=p) (o:=.tup [.int sk,.int sk,.str (opn (gd nm 1)),.str "frame"]))
  have a2:=a1.same s2
  have m12:=s2 _ _ m11
  have m22:=Dvs.same s2 _ _ m21
  show J4 (.ref M) [.ref p] (upd H1 p (.tup [.int sk,.int sk,.str (opn (gd nm 1)),.str "frame"])) _
  generalize upd H1 p (.tup [.int sk,.int sk,.str (opn (gd nm 1)),.str "frame"])=H2 at *
  refine L0 m12 (by rw[hul,sizeLine_eq];omega) ?_
  have a3:=a2.mend m12 m22 dp
  generalize upd H2 M (.lst (us++[.ref p]))=H3 at *
  lk
  refine⟨.inl ⟨rfl,_,SqL.of a3.h.l⟩,?_⟩
  lk
  refine⟨D4 (by z_go),fun p4 hp4=>?_⟩
  lk
  refine L0 ((A7.new hp4 _) _ _ a3.h.l) (by rw[List.length_map,a3.h.b.len,sizeLine_eq];omega) ?_
  have:=a3.push hp4
  rw[if_pos hw3] at q
  exact q _ _ this
 ·rw[decide_eq_false hw3]
  refine .inr ⟨_,rfl,?_⟩
  refine M5 (xs:=[.str "host",.str "frame"]) (SqL.of A5) (v:=.str "host") rfl ?_
  generalize upd H e0 (.lst [.str "host",.str "frame"])=H1 at *
  have a1:=a.same s1
  have m11:=s1 _ _ m1
  have m21:=Dvs.same s1 _ _ m2
  lk
  refine⟨D4 (by z_go),fun p hp=>?_⟩
  lk
  have s2:=A7.new hp (.tup [.int sk,.int sk,.str (opn (gd nm 1)),.str "host"])
  have dp:Dv K _ (Mnd.da ⟨sk,sk,opn (gd nm 1), "host"⟩) (.ref p):=wh7 (A5 (H:=H1) (a:=p) (o:=.tup [.int sk,.int sk,.str (opn (gd nm 1)),.str "host"]))
  have a2:=a1.same s2
  have m12:=s2 _ _ m11
  have m22:=Dvs.same s2 _ _ m21
  show J4 (.ref M) [.ref p] (upd H1 p (.tup [.int sk,.int sk,.str (opn (gd nm 1)),.str "host"])) _
  generalize upd H1 p (.tup [.int sk,.int sk,.str (opn (gd nm 1)),.str "host"])=H2 at *
  refine L0 m12 (by rw[hul,sizeLine_eq];omega) ?_
  have a3:=a2.mend m12 m22 dp
  generalize upd H2 M (.lst (us++[.ref p]))=H3 at *
  lk
  refine⟨.inl ⟨rfl,_,SqL.of a3.h.l⟩,?_⟩
  lk
  refine⟨D4 (by z_go),fun p4 hp4=>?_⟩
  lk
  refine L0 ((A7.new hp4 _) _ _ a3.h.l) (by rw[List.length_map,a3.h.b.len,sizeLine_eq];omega) ?_
  have:=a3.push hp4
  rw[if_neg hw3] at q
  exact q _ _ this
theorem t2(a:A3 K H0 H L M as hosts ms)(hd:H0 d=some (.lst (B6 nm)))(h3:3<=nm.length)(h8:∀ x∈nm,x.length<=8)(hml:ms.length<=100000)(hhl:hosts.length<=1000)(hw:0<=w)(q1:0<w->hosts=[]->(3<w\/ran=false)->∀ as' H',A3 K H0 H' L M as' [[]] (ms++[⟨sk,sk,opn (gd nm 1),if 3<w then "frame" else "host"⟩])->D.nx [some (.ref sc),some (.ref d),some (.ref tb),some (.str z),some (.ref L),some (.ref M),some (.bl ran),x7,some (.int nn),some (.int sk),some (.int w),some (.bl bl),x12,x13] H')(q2:¬(0<w/\hosts=[]/\(3<w\/ran=false))->∀ H',A3 K H0 H' L M as hosts ms->D.nx [some (.ref sc),some (.ref d),some (.ref tb),some (.str z),some (.ref L),some (.ref M),some (.bl ran),x7,some (.int nn),some (.int sk),some (.int w),some (.bl bl),x12,x13] H'):wq8 K D [some (.ref sc),some (.ref d),some (.ref tb),some (.str z),some (.ref L),some (.ref M),some (.bl ran),x7,some (.int nn),some (.int sk),some (.int w),some (.bl bl),x12,x13] H:=by
 lk
 by_cases h0:w > 0
 ·rw [decide_eq_true h0]
  x_go
  lk
  refine⟨D4 (by z_go),fun e0 he0=>?_⟩
  have s1:=A7.new he0 (.lst [])
  have a1:=a.same s1
  lk
  refine a1.eqE A5 ?_
  generalize upd H e0 (.lst [])=H1 at *
  lk
  cases hh:hosts with
  | nil =>
    subst hh
    x_go
    lk
    by_cases hw3:w > 3
    ·rw[decide_eq_true hw3]
     x_go
     have t:=t0 (D:=D) (sk:=sk) (sc:=sc) (tb:=tb) (ran:=ran) (bl:=bl) (x7:=x7) (x12:=x12) (x13:=x13) (nn:=nn) (z:=z) (w:=w) a1 hd h3 h8 hml hhl hw fun as' H' a'=>q1 h0 rfl (.inl hw3) as' H' a'
     first|exact t|(refine X9 ?_;exact t)|(refine X9 ?_;refine X9 ?_;exact t)
    ·rw[decide_eq_false hw3]
     k_go
     lk
     cases hr:ran with
     | false =>
       subst hr
       have t:=t0 (D:=D) (sk:=sk) (sc:=sc) (tb:=tb) (ran:=false) (bl:=bl) (x7:=x7) (x12:=x12) (x13:=x13) (nn:=nn) (z:=z) (w:=w) a1 hd h3 h8 hml hhl hw fun as' H' a'=>q1 h0 rfl (.inr rfl) as' H' a'
       first|exact t|(refine X9 ?_;exact t)|(refine R0 ?_;exact t)|(refine R0 ?_;refine X9 ?_;exact t)
     | true =>
       subst hr
       have t:=q2 (fun z=>z.2.2.elim (fun h=>hw3 h) fun h=>by cases h) H1 a1
       first|exact t|(refine R0 ?_;exact t)|(refine X9 ?_;exact t)|(refine X9 ?_;refine R0 ?_;exact t)
  | cons w0 wt =>
    rw[hh] at a1 q2
    k_go
    have t:=q2 (fun z=>by have:=z.2.1;cases this) H1 a1
    first|exact t|(refine R0 ?_;exact t)|(refine R0 ?_;refine R0 ?_;exact t)
 ·rw[decide_eq_false h0]
  k_go
  have t:=q2 (fun z=>h0 z.1) H a
  first|exact t|(refine R0 ?_;exact t)
end
section
variable{D:qb6}{sk:Int}{sc d tb L M:Addr}{z:Str}{ran bl:Bool}{x7 x12 x13:Option V}{nn w:Int}{H0:Hp}{as:List Addr}{hosts ws:List (List Tr)}{w0:List Tr}{ms:List Mnd}{nm:List Str}
theorem zz9(a:A3 K H0 H L M as hosts ms)(hd:H0 d=some (.lst (B6 nm)))(h3:3<=nm.length)(h8:∀ x∈nm,x.length<=8)(hz:z.length<=100000)(hml:ms.length<=100000)(hhl:hosts.length<=1000)(hw:w=3)(ht:∀ ws w0,hosts=ws++[w0]->w0.length<=1000000/\adA w0<=1000000)(q:∀ H',A3 K H0 H' L M as (if hosts=[] then[] else hosts.dropLast++[adP (hosts.getLastD []) " \n"]) ms->D.nx [some (.ref sc),some (.ref d),some (.ref tb),some (.str (z ++ " \n")),some (.ref L),some (.ref M),some (.bl true),x7,some (.int nn),some (.int sk),some (.int w),some (.bl true),x12,x13] H'):Y5 K D [some (.ref sc),some (.ref d),some (.ref tb),some (.str z),some (.ref L),some (.ref M),some (.bl ran),x7,some (.int nn),some (.int sk),some (.int w),some (.bl true),x12,x13] H:=by
 subst hw
 have fin:∀ H',A3 K H0 H' L M as (if hosts=[] then[] else hosts.dropLast++[adP (hosts.getLastD []) " \n"]) ms->V7 K D [some (.ref sc),some (.ref d),some (.ref tb),some (.str (z ++ " \n")),some (.ref L),some (.ref M),some (.bl ran),x7,some (.int nn),some (.int sk),some (.int 3),some (.bl true),x12,x13] H':=fun H' a'=>zd2 (by omega) fun H2 s2=>zl0 (by omega) (by omega) (q H2 (a'.same s2))
 lk
 k_go
 show C1 (P7 (tB (A2 11)) (xa6 K) M7) (V7 K) D _ H
 refine qc0 ?_
 refine xm0 ?_
 refine yw0 ?_
 refine' qu4 ?ev ?_
 case ev=>exact rfl
 refine xc2 (X9 ?_)
 lk
 refine O3 (by rw[sizeLine_eq];show _+2<=_;omega) ?_
 lk
 refine⟨D4 (by z_go),fun e0 he0=>?_⟩
 have s1:=A7.new he0 (.lst [])
 have a1:=a.same s1
 lk
 refine a1.neE A5 ?_
 generalize upd H e0 (.lst [])=H1 at *
 lk
 rcases List.eq_nil_or_concat hosts with hh|⟨ws,w0,hh⟩
 ·subst hh
  k_go
  have:=fin H1 (by rw[if_pos rfl];exact a1)
  first|exact this|(lk;exact this)
 ·rw[List.concat_eq_append] at hh
  subst hh
  obtain⟨h1,h2⟩:=ht ws w0 rfl
  refine za6 (by simp) ?_
  obtain⟨as',x,eas,hL,hlie⟩:=a1.lie (Q:=fun _ H'=>V7 K D [some (.ref sc),some (.ref d),some (.ref tb),some (.str (z ++ " \n")),some (.ref L),some (.ref M),some (.bl ran),x7,some (.int nn),some (.int sk),some (.int 3),some (.bl true),x12,x13] H') (E:=E0) (t:=.tx " \n") (v:=.str " \n") (D5.mpr rfl) h1 h2 (fun u e=>by cases e;decide)
  show yn7 K _ _ _
  lk
  refine⟨1,rfl,?_⟩
  refine M5 (SqL.of hL) (v:=.ref x) (qk5 (n:=as'.length) (by simp) (by simp)) ?_
  lk
  refine hlie fun H' a'=>fin H' ?_
  rw[if_neg (by simp),List.dropLast_concat,List.getLastD_concat]
  exact a'
theorem Ab0(a:A3 K H0 H L M as hosts ms)(hd:H0 d=some (.lst (B6 nm)))(h3:3<=nm.length)(h8:∀ x∈nm,x.length<=8)(hz:z.length<=100000)(hml:ms.length<=100000)(hhl:hosts.length<=1000)(hw:w=0)(q:∀ as' H',A3 K H0 H' L M as' (hosts++[[]]) (ms++(if hosts=[] then[] else[⟨sk,sk,cls (gd nm 1), "shut"⟩]))->D.nx [some (.ref sc),some (.ref d),some (.ref tb),some (.str (z ++ "<"++gd nm 1 ++ ">")),some (.ref L),some (.ref M),some (.bl false),x7,some (.int nn),some (.int sk),some (.int w),some (.bl false),x12,x13] H'):Y5 K D [some (.ref sc),some (.ref d),some (.ref tb),some (.str z),some (.ref L),some (.ref M),some (.bl ran),x7,some (.int nn),some (.int sk),some (.int w),some (.bl false),x12,x13] H:=by
 subst hw
 have g1:=h8 _ (wt2 (l:=nm) (i:=1) (by omega))
 have fin:∀ as' H',A3 K H0 H' L M as' (hosts++[[]]) (ms++(if hosts=[] then[] else[⟨sk,sk,cls (gd nm 1), "shut"⟩]))->V7 K D [some (.ref sc),some (.ref d),some (.ref tb),some (.str (z ++ "<"++gd nm 1 ++ ">")),some (.ref L),some (.ref M),some (.bl ran),x7,some (.int nn),some (.int sk),some (.int 0),some (.bl false),x12,x13] H':=fun as' H' a'=>zd2 (by omega) fun H2 s2=>zl0 (by omega) (by omega) (q as' H2 (a'.same s2))
 have t4:∀ H2 ms2,A3 K H0 H2 L M as hosts ms2->ms2=ms++(if hosts=[] then[] else[⟨sk,sk,cls (gd nm 1), "shut"⟩])->∀ DD:qb6,(∀ H',V7 K D [some (.ref sc),some (.ref d),some (.ref tb),some (.str (z ++ "<"++gd nm 1 ++ ">")),some (.ref L),some (.ref M),some (.bl ran),x7,some (.int nn),some (.int sk),some (.int 0),some (.bl false),x12,x13] H'->DD.nx [some (.ref sc),some (.ref d),some (.ref tb),some (.str (z ++ "<"++gd nm 1 ++ ">")),some (.ref L),some (.ref M),some (.bl ran),x7,some (.int nn),some (.int sk),some (.int 0),some (.bl false),x12,x13] H')->xa5 K DD [some (.ref sc),some (.ref d),some (.ref tb),some (.str z),some (.ref L),some (.ref M),some (.bl ran),x7,some (.int nn),some (.int sk),some (.int 0),some (.bl false),x12,x13] H2:=fun H2 ms2 a2 em DD hDD=>by
  lk
  refine O3 (by rw[sizeLine_eq];show _+1<=_;omega) ?_
  lk
  refine M5 (SqL.of (a2.s _ _ hd)) (W1 (i:=1) (by omega)) ?_
  refine O3 (by rw[sizeLine_eq,I0];show _+1+_<=_;omega) ?_
  lk
  refine O3 (by rw[sizeLine_eq,I0,I0];show _+1+_+1<=_;omega) ?_
  lk
  refine⟨.inl ⟨rfl,_,SqL.of a2.h.l⟩,?_⟩
  lk
  refine⟨D4 (by z_go),fun p4 hp4=>?_⟩
  lk
  refine L0 ((A7.new hp4 _) _ _ a2.h.l) (by rw[List.length_map,a2.h.b.len,sizeLine_eq];omega) ?_
  have:=a2.push hp4
  rw[em] at this
  exact hDD _ (fin _ _ this)
 have last:∀ H',V7 K D [some (.ref sc),some (.ref d),some (.ref tb),some (.str (z ++ "<"++gd nm 1 ++ ">")),some (.ref L),some (.ref M),some (.bl ran),x7,some (.int nn),some (.int sk),some (.int 0),some (.bl false),x12,x13] H'->(C1 (P7 (tB (A2 11)) (xa6 K) M7) (V7 K)) D [some (.ref sc),some (.ref d),some (.ref tb),some (.str (z ++ "<"++gd nm 1 ++ ">")),some (.ref L),some (.ref M),some (.bl ran),x7,some (.int nn),some (.int sk),some (.int 0),some (.bl false),x12,x13] H':=fun H' h=>by
  refine qc0 ?_
  refine xm0 ?_
  refine yw0 ?_
  refine' qu4 ?ev ?_
  case ev=>exact rfl
  exact xc2 (R0 h)
 lk
 x_go
 lk
 refine⟨D4 (by z_go),fun e0 he0=>?_⟩
 have s1:=A7.new he0 (.lst [])
 have a1:=a.same s1
 lk
 refine a1.neE A5 ?_
 generalize upd H e0 (.lst [])=H1 at *
 lk
 rcases List.eq_nil_or_concat hosts with hh|⟨ws,w0,hh⟩
 ·have eis:hosts.isEmpty=true:=by rw[hh];rfl
  rw[eis]
  k_go
  show xa5 K _ _ _
  exact t4 H1 ms a1 (by rw[if_pos hh,List.append_nil]) _ last
 ·rw[List.concat_eq_append] at hh
  have hne:hosts≠[]:=by rw[hh];simp
  have eis:hosts.isEmpty=false:=by rw[hh];simp
  rw[eis]
  x_go
  show yn6 K _ _ _
  obtain⟨us,m1,m2⟩:=a1.m
  have hul:=A3.mlen m2
  lk
  refine⟨.inl ⟨rfl,_,SqL.of m1⟩,?_⟩
  lk
  refine M5 (SqL.of (a1.s _ _ hd)) (W1 (i:=1) (by omega)) ?_
  refine O3 (by rw[sizeLine_eq];show 2+_<=_;omega) ?_
  lk
  refine O3 (by rw[sizeLine_eq,I0];show 2+_+1<=_;omega) ?_
  lk
  refine⟨D4 (by z_go),fun p hp=>?_⟩
  lk
  have s2:=A7.new hp (.tup [.int sk,.int sk,.str (cls (gd nm 1)),.str "shut"])
  have dp:Dv K _ (Mnd.da ⟨sk,sk,cls (gd nm 1), "shut"⟩) (.ref p):=wh7 (A5 (H:=H1) (a:=p) (o:=.tup [.int sk,.int sk,.str (cls (gd nm 1)),.str "shut"]))
  have a2:=a1.same s2
  have m12:=s2 _ _ m1
  have m22:=Dvs.same s2 _ _ m2
  show J4 (.ref M) [.ref p] (upd H1 p (.tup [.int sk,.int sk,.str (cls (gd nm 1)),.str "shut"])) _
  generalize upd H1 p (.tup [.int sk,.int sk,.str (cls (gd nm 1)),.str "shut"])=H2 at *
  refine L0 m12 (by rw[hul,sizeLine_eq];omega) ?_
  have a3:=a2.mend m12 m22 dp
  show xa5 K _ _ _
  exact t4 _ _ a3 (by rw[if_neg hne]) _ last
theorem Aa0(a:A3 K H0 H L M as (ws++[w0]) ms)(hd:H0 d=some (.lst (B6 nm)))(h3:3<=nm.length)(h8:∀ x∈nm,x.length<=8)(hz:z.length<=100000)(hwl:w0.length<=1000000)(hwa:adA w0<=1000000)(hw:w=1\/w=2)(hr:ran=false)(hn:0<=nn)(q:∀ H',A3 K H0 H' L M as (ws++[adP w0 (("w":Str)++Str.ofString (toString (nn / 8 % 100)))]) ms->D.nx [some (.ref sc),some (.ref d),some (.ref tb),some (.str (z ++ "w"++Str.ofString (toString (nn / 8 % 100)))),some (.ref L),some (.ref M),some (.bl true),x7,some (.int nn),some (.int sk),some (.int w),some (.bl bl),x12,x13] H'):V7 K D [some (.ref sc),some (.ref d),some (.ref tb),some (.str z),some (.ref L),some (.ref M),some (.bl ran),x7,some (.int nn),some (.int sk),some (.int w),some (.bl bl),x12,x13] H:=by
 subst hr
 have hwd:=(wd3 (nn / 8)).1
 have hwl2:=hwd.l
 rw[I0] at hwl2
 have o1:(("w":Str)).length=1:=rfl
 have hm0:=Int.emod_nonneg (nn / 8) (show(100:Int)≠0 by decide)
 have hm1:=Int.emod_lt_of_pos (nn / 8) (show(0:Int)<100 by decide)
 have fin:∀ H',A3 K H0 H' L M as (ws++[adP w0 (("w":Str)++Str.ofString (toString (nn / 8 % 100)))]) ms->qx0 K D [some (.ref sc),some (.ref d),some (.ref tb),some (.str (z ++ "w"++Str.ofString (toString (nn / 8 % 100)))),some (.ref L),some (.ref M),some (.bl false),x7,some (.int nn),some (.int sk),some (.int w),some (.bl bl),x12,x13] H':=fun H' a'=>zl0 (by omega) (by omega) (by
  have:=q H' a'
  rw[show decide (0<w)=true from decide_eq_true (by omega)];exact this)
 lk
 refine⟨D4 (by z_go),fun e0 he0=>?_⟩
 have s1:=A7.new he0 (.tup [.int 1,.int 2])
 lk
 refine .inl (xv7 (.inr (SqT.of A5)) rfl rfl ?_)
 have a1:=a.same s1
 generalize upd H e0 (.tup [.int 1,.int 2])=H1 at *
 have e1:inV (.int w) [.int 1,.int 2]=true:=by
  rcases hw with rfl|rfl <;> rfl
 rw[e1]
 lk
 x_go
 lk
 refine O3 (by rw[sizeLine_eq];show _+1<=_;omega) ?_
 lk
 refine⟨_,rfl,yn4 (by omega),?_⟩
 refine O3 (by rw[sizeLine_eq,I0,o1];omega) ?_
 lk
 obtain⟨as',x,eas,hL,hlie⟩:=a1.lie (Q:=fun _ H'=>qx0 K D [some (.ref sc),some (.ref d),some (.ref tb),some (.str (z ++ "w"++Str.ofString (toString (nn / 8 % 100)))),some (.ref L),some (.ref M),some (.bl false),x7,some (.int nn),some (.int sk),some (.int w),some (.bl bl),x12,x13] H') (E:=E0) (t:=.tx (("w":Str)++Str.ofString (toString (nn / 8 % 100)))) (v:=.str (("w":Str)++Str.ofString (toString (nn / 8 % 100)))) (D5.mpr rfl) hwl hwa (fun u e=>by cases e;have:=hwd.l;omega)
 refine⟨1,rfl,?_⟩
 refine M5 (SqL.of hL) (v:=.ref x) (qk5 (n:=as'.length) (by simp) (by simp)) ?_
 lk
 refine⟨_,rfl,yn4 (by omega),?_⟩
 refine O3 (by rw[sizeLine_eq,o1];omega) ?_
 lk
 exact hlie fun H' a'=>fin H' a'
theorem Aa1(a:A3 K H0 H L M as (ws++[w0]) ms)(hd:H0 d=some (.lst (B6 nm)))(h3:3<=nm.length)(h8:∀ x∈nm,x.length<=8)(hz:z.length<=100000)(hwl:w0.length<=1000000)(hwa:adA w0<=1000000)(wd:Str)(hw:(w=4/\wd = "")\/(w=5/\wd = "in it"))(q:∀ H',A3 K H0 H' L M as (ws++[w0++[Tr.nd (gd nm 2) (if wd=("":Str) then[] else[Tr.tx wd])]]) ms->D.nx [some (.ref sc),some (.ref d),some (.ref tb),some (.str (z ++ "<"++gd nm 2 ++ ">"++wd ++ "</"++gd nm 2 ++ ">")),some (.ref L),some (.ref M),some (.bl false),x7,some (.int nn),some (.int sk),some (.int w),some (.bl bl),some (.str wd),x13] H'):qx0 K D [some (.ref sc),some (.ref d),some (.ref tb),some (.str z),some (.ref L),some (.ref M),some (.bl ran),x7,some (.int nn),some (.int sk),some (.int w),some (.bl bl),x12,x13] H:=by
 have g2:=h8 _ (wt2 (l:=nm) (i:=2) (by omega))
 have hwdl:wd.length<=5:=by rcases hw with⟨_,rfl⟩|⟨_,rfl⟩ <;> decide
 lk
 rw[decide_eq_true (show w > 3 by rcases hw with⟨h,_⟩|⟨h,_⟩ <;> omega)]
 x_go
 show ya6 K _ _ _
 lk
 refine⟨D4 (by z_go),fun e0 he0=>?_⟩
 have s1:=A7.new he0 (.lst [.str "",.str "in it"])
 have a1:=a.same s1
 lk
 refine M5 (xs:=[.str "",.str "in it"]) (SqL.of A5) (v:=.str wd) (by rcases hw with⟨rfl,rfl⟩|⟨rfl,rfl⟩ <;> rfl) ?_
 generalize upd H e0 (.lst [.str "",.str "in it"])=H1 at *
 have hd1:=a1.s _ _ hd
 show ya5 K _ _ _
 lk
 refine O3 (by rw[sizeLine_eq];show _+1<=_;omega) ?_
 lk
 refine M5 (SqL.of hd1) (W1 (i:=2) (by omega)) ?_
 refine O3 (by rw[sizeLine_eq,I0];show _+1+_<=_;omega) ?_
 lk
 refine O3 (by rw[sizeLine_eq,I0,I0];show _+1+_+1<=_;omega) ?_
 lk
 refine O3 (by rw[sizeLine_eq,I0,I0,I0];show _+1+_+1+_<=_;omega) ?_
 lk
 refine O3 (by rw[sizeLine_eq,I0,I0,I0,I0];show _+1+_+1+_+2<=_;omega) ?_
 lk
 refine M5 (SqL.of hd1) (W1 (i:=2) (by omega)) ?_
 refine O3 (by rw[sizeLine_eq,I0,I0,I0,I0,I0];show _+1+_+1+_+2+_<=_;omega) ?_
 lk
 refine O3 (by rw[sizeLine_eq,I0,I0,I0,I0,I0,I0];show _+1+_+1+_+2+_+1<=_;omega) ?_
 have hLa:=a1.h.l
 obtain⟨as',x,eas⟩:∃ as' x,as=as'++[x]:=by
  obtain⟨as',x,_,e,_⟩:=a1.h.top
  exact⟨as',x,e⟩
 rw[eas,List.map_append] at hLa
 show yn8 K _ _ _
 lk
 refine⟨1,rfl,?_⟩
 refine M5 (SqL.of hLa) (v:=.ref x) (qk5 (n:=as'.length) (by simp) (by simp)) ?_
 lk
 refine M5 (SqL.of hd1) (W1 (i:=2) (by omega)) ?_
 lk
 refine⟨D4 (by z_go),fun p1 hp1=>?_⟩
 have s2:=A7.new hp1 (.lst [.str wd])
 have a2:=a1.same s2
 have e2:(upd H1 p1 (.lst [.str wd])) p1=_:=A5
 generalize upd H1 p1 (.lst [.str wd])=H2 at *
 lk
 refine ws7 (.inl (SqL.of e2)) (A7.refl H2) (fun i ys H'=>H'=H2/\ys=(if i=0 then[] else B6 (if wd=("":Str) then[] else[wd]))) ⟨rfl,rfl⟩ ?_ ?_ ?_ ?_
 ·rintro i ys H' hi ⟨_,rfl⟩
  split
  ·exact D4 (by z_go)
  ·split <;> exact D4 (by simp[B6])
 ·rintro i ys H' ⟨rfl,_⟩;exact A7.refl _
 ·rintro i v ys H' hi ⟨rfl,rfl⟩
  have hi0:i=0/\v=.str wd:=by
   cases i with
   | zero=>simp at hi;exact⟨rfl,hi.symm⟩
   | succ i=>simp at hi
  obtain⟨rfl,rfl⟩:=hi0
  refine M4 ?_
  lk
  by_cases hwe:wd=("":Str)
  ·rw[decide_eq_true hwe]
   k_go
   exact⟨rfl,by rw[if_pos hwe];rfl⟩
  ·rw[decide_eq_false hwe]
   x_go
   lk
   exact⟨rfl,by rw[if_neg hwe];rfl⟩
 rintro ys H' ⟨rfl,rfl⟩ l hl
 have elen:(if([V.str wd]:List V).length=0 then[] else B6 (if wd=("":Str) then[] else[wd]))=B6 (if wd=("":Str) then[] else[wd]):=rfl
 rw[elen]
 have s3:=A7.new hl (.lst (B6 (if wd=("":Str) then[] else[wd])))
 lk
 refine⟨_,_,rfl,.inl ⟨SqL.of A5,fun l2 hl2=>?_⟩⟩
 have s4:=A7.new hl2 (.tup (B6 (if wd=("":Str) then[] else[wd])))
 lk
 refine⟨D4 (by z_go),fun p5 hp5=>?_⟩
 have s5:=A7.new hp5 (.tup [.str (gd nm 2),.ref l2])
 have s35:=A7.tr (A7.tr s3 s4) s5
 have dt:Dv K (upd (upd (upd H' l (.lst (B6 (if wd=("":Str) then[] else[wd])))) l2 (.tup (B6 (if wd=("":Str) then[] else[wd])))) p5 (.tup [.str (gd nm 2),.ref l2])) (Tr.nd (gd nm 2) (if wd=("":Str) then[] else[Tr.tx wd])).da (.ref p5):=by
  refine xm9 (SqT.of (A5 (H:=upd (upd H' l (.lst (B6 (if wd=("":Str) then[] else[wd])))) l2 (.tup (B6 (if wd=("":Str) then[] else[wd])))) (a:=p5) (o:=.tup [.str (gd nm 2),.ref l2]))) (s5.sqT (SqT.of A5)) ?_
  by_cases hwe:wd=("":Str)
  ·rw[if_pos hwe,if_pos hwe,Tr.das];exact E2
  ·rw[if_neg hwe,if_neg hwe]
   exact ql5 (w:=[]) (us:=[]) (by rw[Tr.das];exact E2) (D5.mpr rfl)
 have a5:=a2.same s35
 generalize upd (upd (upd H' l (.lst (B6 (if wd=("":Str) then[] else[wd])))) l2 (.tup (B6 (if wd=("":Str) then[] else[wd])))) p5 (.tup [.str (gd nm 2),.ref l2])=H5 at *
 lk
 obtain⟨as2,x2,eas2,hL2,hlie⟩:=a5.lie (Q:=fun _ H'=>D.nx [some (.ref sc),some (.ref d),some (.ref tb),some (.str (z ++ "<"++gd nm 2 ++ ">"++wd ++ "</"++gd nm 2 ++ ">")),some (.ref L),some (.ref M),some (.bl false),x7,some (.int nn),some (.int sk),some (.int w),some (.bl bl),some (.str wd),x13] H') (E:=E0) (t:=Tr.nd (gd nm 2) (if wd=("":Str) then[] else[Tr.tx wd])) (v:=.ref p5) dt hwl hwa (fun u e=>by cases e)
 have ex:x2=x:=by
  rw[eas] at eas2
  exact((List.cons.inj (List.append_inj' eas2 rfl).2).1).symm
 subst ex
 have hl2:=hlie fun H' a'=>q H' a'
 obtain⟨xx,ww,uus,tt,vv,r1,r2,r3,r4,r5,r6,r7,r8⟩:=hl2
 refine⟨xx,ww,uus,tt,vv,r1,r2,r3,r4,r5,r6,r7,fun us' H6 s6 hd6=>?_⟩
 have:=r8 us' H6 s6 hd6
 rcases hw with⟨rfl,_⟩|⟨rfl,_⟩
 ·lk
  first|exact this|(refine X9 ?_;lk;exact this)|(refine X9 ?_;exact this)
 ·lk
  first|exact this|(refine X9 ?_;lk;exact this)|(refine X9 ?_;exact this)
end
theorem ys7{f:α->V}(xs:List α)(lo hi:Option Int):∃ cs:List α,ql8 (xs.map f) lo hi=cs.map f/\cs.length<=xs.length:=by
 unfold ql8
 refine⟨(xs.drop (HT.sIx (xs.map f).length 0 lo)).take (HT.sIx (xs.map f).length (xs.map f).length hi-HT.sIx (xs.map f).length 0 lo),?_,?_⟩
 ·rw[List.map_take,List.map_drop]
 ·rw[List.length_take,List.length_drop];omega
theorem zd3{rs:List Row}{rk:Str->Nat}:∀ (ps xs:List Pq) (p:Nat) (st:Rst),pq rs rk p (ps++xs) st=pq rs rk (p+(txQ ps).length) xs (pq rs rk p ps st)
 | [],xs,p,st=>by simp[pq,txQ]
 | y::ps,xs,p,st=>by
   rw[List.cons_append,pq,pq,zd3 ps xs]
   congr 1
   simp[txQ];omega
theorem xn7{x:Pq}{xs:List Pq}(hx:x.isR=false)(h2:wj5 false xs):∀ {ps:List Pq} {b:Bool},wj5 b ps->wj5 b (ps++x::xs)
 | [],b,_=>⟨fun _=>hx,by rw[hx];exact h2⟩
 | y::ps,b,⟨h1,h3⟩=>⟨h1,xn7 hx h2 h3⟩
theorem zl1(ps xs:List Pq):txQ (ps++xs)=txQ ps++txQ xs:=by unfold txQ;rw[List.flatMap_append]
def Pq.tl:Pq->Nat
 | .rn _ t=>t.length
 | _=>0
theorem Bg.pq{rs:List Row}{rk:Str->Nat}(b:Bok rs rk):∀ (xs:List Pq) {m:Nat} {st:Rst} {p:Nat},Bg rs (2*m) (20*m) (71*m) m (11*m) st->(∀ x∈xs,x.tx.length<=11/\x.tl<=11)->Bg rs (2*(m+xs.length)) (20*(m+xs.length)) (71*(m+xs.length)) (m+xs.length) (11*(m+xs.length)) (My.pq rs rk p xs st)
 | [],m,st,p,h,_=>h
 | x::xs,m,st,p,h,hx=>by
   obtain⟨h1,h2⟩:=hx x (by simp)
   have:=Bg.pq b xs (m:=m+1) (st:=My.stQ rs rk p st x) (p:=p+x.tx.length) ((h.stQ b x).mono (by omega) (by omega) (by omega) (by omega) (by cases x <;> simp[Pq.tl] at h2 ⊢ <;> omega)) fun y hy=>hx y (by simp[hy])
   rw[List.length_cons,show m+(xs.length+1)=m+1+xs.length by omega]
   exact this
section
variable{f h p:Str}{ps:List Pq}{z:Str}{hosts:List (List Tr)}{ms:List Mnd}{ran:Bool}
theorem I3.app(i:I3 f h p ps z hosts ms ran)(n:N3 f h p)(x:Pq)(xs:List Pq)(hx:x.isR=false)(hap:wj5 false xs)(hl:xg2 (x::xs)=false)(hok:∀ y∈x::xs,y.ok/\y.tx.length<=11/\y.tl<=11)(hz:z'.cps.toList=z.cps.toList++txQ (x::xs))(hs:S3 f h hosts' (pq (rs3 f h p) (rk3 h) z.length (x::xs) (pq (rs3 f h p) (rk3 h) 0 ps st0)))(hm:(pq (rs3 f h p) (rk3 h) z.length (x::xs) (pq (rs3 f h p) (rk3 h) 0 ps st0)).ms=ms'):I3 f h p (ps++x::xs) z' hosts' ms' false:=by
 have e:pq (rs3 f h p) (rk3 h) 0 (ps++x::xs) st0=pq (rs3 f h p) (rk3 h) z.length (x::xs) (pq (rs3 f h p) (rk3 h) 0 ps st0):=by rw[zd3,Nat.zero_add,i.zl.1]
 refine⟨by rw[hz,i.z,zl1],fun y hy=>?_,xn7 hx hap i.ap,fun e2=>?_,by rw[e];exact hs,by rw[e];exact hm,?_⟩
 ·rcases List.mem_append.mp hy with h|h
  ·exact i.ok y h
  ·exact⟨(hok y h).1,(hok y h).2.1⟩
 ·have:xg2 (ps++x::xs)=xg2 (x::xs):=by
   unfold xg2
   rw[List.getLast?_append,List.getLast?_cons];rfl
  rw[this,hl] at e2;cases e2
 ·rw[e,List.length_append]
  exact Bg.pq (zc4 n) (x::xs) i.b fun y hy=>(hok y hy).2
end
theorem S3.dropS{f h:Str}{hosts:List (List Tr)}{st:Rst}{i:Int}{g r:Str}(s:S3 f h hosts st):S3 f h hosts (My.dropS st i g r):=by
 cases s with
 | none e0 e1 e2 e3 e4 e5 e6=>exact .none e0 e1 e2 e3 e4 e5 e6
 | some e0 e1 e2 e3 e4 e5 e6 e7 e8 e9=>exact .some e0 e1 e2 e3 e4 e5 e6 e7 e8 e9
abbrev xg3(K:Fg):TS :=
 (C1 (P7 (wn0 (tB (A2 11)) (E4 (tOp (Y0 K) (A2 4) (X6 A9))))
 (xt0 K) (wq8 K))
 (Y5 K))
abbrev xg4(K:Fg):TS :=
 (C1 (E3 (xu3 (tOp (Y0 K) (A2 10) (tC (.int 3))) (yh9 (A2 6))) (B2 11))
 (xg3 K))
section
variable{D:qb6}{sk:Int}{sc d tb L M:Addr}{z:Str}{ran:Bool}{x7 x11 x12 x13:Option V}{nn w:Int}{H0:Hp}{as:List Addr}{hosts:List (List Tr)}{ms:List Mnd}{nm:List Str}{ps:List Pq}
theorem xn8(n3:N3 (gd nm 0) (gd nm 1) (gd nm 2))(I:I3 (gd nm 0) (gd nm 1) (gd nm 2) ps z hosts ms ran){wd:Str}(hwd:(w=4/\wd = "")\/(w=5/\wd = "in it"))(hpw:wb3 wd)(hz:z.length<=100000)(eh:(if hosts=[] then[[]] else hosts).dropLast++[(if hosts=[] then[] else hosts.getLastD [])++[Tr.nd (gd nm 2) (if wd=("":Str) then[] else[Tr.tx wd])]]=hosts')(em:ms++(if hosts=[] then[⟨z.length,z.length,opn (gd nm 1), "frame"⟩] else[])=ms'){as':List Addr}(a:A3 K H0 H' L M as' hosts' ms'){P:Prop}(q:∀ ps',I3 (gd nm 0) (gd nm 1) (gd nm 2) ps' (z ++ "<"++gd nm 2 ++ ">"++wd ++ "</"++gd nm 2 ++ ">") hosts' ms' false->ps'.length<=ps.length+3->P):P:=by
 have g2:=n3.po.n8
 have lo:(Pq.op (gd nm 2)).tx.length=(gd nm 2).length+2:=Pq.len _
 have lc:(Pq.cl (gd nm 2)).tx.length=(gd nm 2).length+3:=Pq.len _
 by_cases hwe:wd=("":Str)
 ·have key:=ya3 n3 (i:=(z.length:Int)) (j:=0) (k:=((z.length+((gd nm 2).length+2):Nat):Int)) (g:=opn (gd nm 2)) (g2:=cls (gd nm 2)) (w:=wd) I.s hpw
  rw[eh] at key
  rw[if_pos hwe] at key
  refine q (ps++.op (gd nm 2)::[.cl (gd nm 2)]) (I.app n3 (.op (gd nm 2)) [.cl (gd nm 2)] rfl ⟨fun _=>rfl,trivial⟩ rfl (fun y hy=>?_) ?_ ?_ ?_) (by simp)
  ·simp only[List.mem_cons,List.not_mem_nil,or_false] at hy
   rcases hy with rfl|rfl
   ·exact⟨n3.po,by rw[lo];omega,Nat.zero_le _⟩
   ·exact⟨n3.po,by rw[lc];omega,Nat.zero_le _⟩
  ·rw[hwe]
   simp only[PySem.Str.cps_append,Array.toList_append,List.append_assoc]
   simp[txQ,Pq.tx];rfl
  ·show S3 _ _ _ (pq _ _ (z.length+(Pq.op (gd nm 2)).tx.length) [.cl (gd nm 2)] (opS _ _ _ _ _ _))
   rw[lo]
   exact key.1
  ·show(pq _ _ (z.length+(Pq.op (gd nm 2)).tx.length) [.cl (gd nm 2)] (opS _ _ _ _ _ _)).ms=_
   rw[lo,<-em,<-I.m]
   exact key.2
 ·have key:=ya3 n3 (i:=(z.length:Int)) (j:=((z.length+((gd nm 2).length+2):Nat):Int)) (k:=((z.length+((gd nm 2).length+2)+wd.length:Nat):Int)) (g:=opn (gd nm 2)) (g2:=cls (gd nm 2)) (w:=wd) I.s hpw
  rw[eh] at key
  rw[if_neg hwe] at key
  have hwl:1<=wd.length/\wd.length<=5:=by
   rcases hwd with⟨_,h⟩|⟨_,rfl⟩
   ·exact absurd h hwe
   ·decide
  have lr:(Pq.rn wd wd).tx.length=wd.length:=Pq.len _
  refine q (ps++.op (gd nm 2)::[.rn wd wd,.cl (gd nm 2)]) (I.app n3 (.op (gd nm 2)) [.rn wd wd,.cl (gd nm 2)] rfl ⟨fun z=>(by cases z),fun _=>rfl,trivial⟩ rfl (fun y hy=>?_) ?_ ?_ ?_) (by simp)
  ·simp only[List.mem_cons,List.not_mem_nil,or_false] at hy
   rcases hy with rfl|rfl|rfl
   ·exact⟨n3.po,by rw[lo];omega,Nat.zero_le _⟩
   ·exact⟨yn3 hpw hwl.1,by rw[lr];omega,by show wd.length<=11;omega⟩
   ·exact⟨n3.po,by rw[lc];omega,Nat.zero_le _⟩
  ·simp only[PySem.Str.cps_append,Array.toList_append,List.append_assoc]
   simp[txQ,Pq.tx];rfl
  ·show S3 _ _ _ (pq _ _ (z.length+(Pq.op (gd nm 2)).tx.length+(Pq.rn wd wd).tx.length) [.cl (gd nm 2)] (U5 _ (opS _ _ _ _ _ _) ((z.length+(Pq.op (gd nm 2)).tx.length:Nat):Int) wd wd))
   rw[lo,lr]
   exact key.1
  ·show(pq _ _ (z.length+(Pq.op (gd nm 2)).tx.length+(Pq.rn wd wd).tx.length) [.cl (gd nm 2)] (U5 _ (opS _ _ _ _ _ _) ((z.length+(Pq.op (gd nm 2)).tx.length:Nat):Int) wd wd)).ms=_
   rw[lo,lr,<-em,<-I.m]
   exact key.2
theorem zu2(n3:N3 (gd nm 0) (gd nm 1) (gd nm 2))(a:A3 K H0 H L M as hosts ms)(I:I3 (gd nm 0) (gd nm 1) (gd nm 2) ps z hosts ms ran)(hd:H0 d=some (.lst (B6 nm)))(h3:3<=nm.length)(h8:∀ x∈nm,x.length<=8)(hpl:ps.length<=200)(hhl:hosts.length<=100)(hml:ms.length<=1000)(hn:0<=nn)(hw0:0<=w)(hw6:w<6)(hsk:sk=z.length)(q:∀ (as':List Addr) (z':Str) (ran':Bool) (hosts':List (List Tr)) (ms':List Mnd) (ps':List Pq) (x11' x12':Option V) (H':Hp),A3 K H0 H' L M as' hosts' ms'->I3 (gd nm 0) (gd nm 1) (gd nm 2) ps' z' hosts' ms' ran'->ps'.length<=ps.length+3->hosts'.length<=hosts.length+1->ms'.length<=ms.length+2->D.nx [some (.ref sc),some (.ref d),some (.ref tb),some (.str z'),some (.ref L),some (.ref M),some (.bl ran'),x7,some (.int nn),some (.int sk),some (.int w),x11',x12',x13] H'):xg4 K D [some (.ref sc),some (.ref d),some (.ref tb),some (.str z),some (.ref L),some (.ref M),some (.bl ran),x7,some (.int nn),some (.int sk),some (.int w),x11,x12,x13] H:=by
 subst hsk
 obtain⟨zl,zle⟩:=I.zl
 have zle2:z.length<=100000:=by have:=Nat.mul_le_mul_left 11 hpl;omega
 have top:∀ ws w0,hosts=ws++[w0]->w0.length<=1000000/\adA w0<=1000000:=fun ws w0 e=>by subst e;exact I.top (by omega)
 have g1:=n3.ho.n8
 have g2:=n3.po.n8
 have nob:(w=3->ran=true)->xg3 K D [some (.ref sc),some (.ref d),some (.ref tb),some (.str z),some (.ref L),some (.ref M),some (.bl ran),x7,some (.int nn),some (.int (z.length:Int)),some (.int w),some (.bl false),x12,x13] H:=fun hnb=>by
  show C1 (P7 (wn0 (tB (A2 11)) (E4 (tOp (Y0 K) (A2 4) (X6 A9)))) (xt0 K) (wq8 K)) (Y5 K) D _ H
  refine qc0 ?_
  refine xm0 ?_
  refine yw1 ?_
  refine yw0 ?_
  refine' qu4 ?ev ?_
  case ev=>exact rfl
  refine xc2 ?_
  k_go
  k_go
  show wq8 K {D with nx:=Y5 K D} [some (.ref sc),some (.ref d),some (.ref tb),some (.str z),some (.ref L),some (.ref M),some (.bl ran),x7,some (.int nn),some (.int (z.length:Int)),some (.int w),some (.bl false),x12,x13] H
  refine t2 (sk:=z.length) a hd h3 h8 (by omega) (by omega) hw0 ?_ ?_
  ·
   intro h0 hh hor as' H' a'
   subst hh
   show Y5 K D [some (.ref sc),some (.ref d),some (.ref tb),some (.str z),some (.ref L),some (.ref M),some (.bl ran),x7,some (.int nn),some (.int (z.length:Int)),some (.int w),some (.bl false),x12,x13] H'
   refine zz8 (by omega) ?_
   by_cases hw3:3<w
   ·rw[if_pos hw3] at a'
    refine zd2 (by omega) fun H2 s2=>?_
    obtain⟨wd,hwd⟩:∃ wd:Str,(w=4/\wd = "")\/(w=5/\wd = "in it"):=by
     rcases(show w=4\/w=5 by omega) with h|h
     ·exact⟨"",.inl ⟨h,rfl⟩⟩
     ·exact⟨"in it",.inr ⟨h,rfl⟩⟩
    refine Aa1 (ws:=[]) (w0:=[]) (a'.same s2) hd h3 h8 zle2 (by simp) (by decide) wd hwd fun H' a''=>?_
    have hpw:wb3 wd:=by rcases hwd with⟨_,rfl⟩|⟨_,rfl⟩;exact fun c hc=>(by cases hc);exact ya4
    exact xn8 n3 I hwd hpw zle2 (by rw[if_pos rfl,if_pos rfl];rfl) (by rw[if_pos rfl]) a'' fun ps' hI hpl'=>q _ _ _ _ _ ps' _ _ _ a'' hI hpl' (by simp) (by simp)
   ·have hr:ran=false:=hor.elim (fun h=>absurd h hw3) id
    have hw12:w=1\/w=2:=by
     rcases(show w=1\/w=2\/w=3 by omega) with h|h|h
     ·exact .inl h
     ·exact .inr h
     ·rw[hnb h] at hr;cases hr
    rw[if_neg hw3] at a'
    refine Aa0 (ws:=[]) (w0:=[]) a' hd h3 h8 zle2 (by simp) (by decide) hw12 hr hn fun H2 a2=>?_
    obtain⟨hwd,hbl⟩:=wd3 (nn / 8)
    have hwdl:=hwd.l
    obtain⟨k1,k2⟩:=yh2 n3 (i:=z.length) I.s hwd.p (fun _=>hbl)
    rw[if_pos rfl] at k1 k2
    refine q _ _ _ _ _ (ps++[.rn _ _]) _ _ _ a2 (I.snoc n3 (.rn (("w":Str)++Str.ofString (toString (nn / 8 % 100))) (("w":Str)++Str.ofString (toString (nn / 8 % 100)))) (yn3 hwd.p hwd.l1) (by rw[Pq.len];show(("w":Str)++Str.ofString (toString (nn / 8 % 100))).length<=11;omega) (fun r t e=>by cases e;omega) ?_ (fun _=>hr) k1 (by rw[show stQ (rs3 (gd nm 0) (gd nm 1) (gd nm 2)) (rk3 (gd nm 1)) z.length (pq (rs3 (gd nm 0) (gd nm 1) (gd nm 2)) (rk3 (gd nm 1)) 0 ps st0) (.rn _ _)=U5 _ _ _ _ _ from rfl,k2,I.m])) (by simp) (by simp) (by simp)
    show(z ++ "w"++Str.ofString (toString (nn / 8 % 100))).cps.toList=z.cps.toList++(("w":Str)++Str.ofString (toString (nn / 8 % 100))).cps.toList
    simp only[PySem.Str.cps_append,Array.toList_append,List.append_assoc]
  ·
   intro hno H' a'
   show Y5 K D [some (.ref sc),some (.ref d),some (.ref tb),some (.str z),some (.ref L),some (.ref M),some (.bl ran),x7,some (.int nn),some (.int (z.length:Int)),some (.int w),some (.bl false),x12,x13] H'
   by_cases hwz:w=0
   ·refine Ab0 a' hd h3 h8 zle2 (by omega) (by omega) hwz fun as' H2 a2=>?_
    obtain⟨k1,k2⟩:=zk6 n3 (i:=z.length) (g:=opn (gd nm 1)) I.s
    refine q _ _ _ _ _ (ps++[.op (gd nm 1)]) _ _ _ a2 (I.snoc n3 (.op (gd nm 1)) n3.ho (by rw[Pq.len];show(gd nm 1).length+2<=11;omega) (fun r t e=>by cases e) ?_ (fun e=>by cases e) k1 (by rw[show stQ (rs3 (gd nm 0) (gd nm 1) (gd nm 2)) (rk3 (gd nm 1)) z.length (pq (rs3 (gd nm 0) (gd nm 1) (gd nm 2)) (rk3 (gd nm 1)) 0 ps st0) (.op (gd nm 1))=opS _ _ _ _ _ _ from rfl,k2,I.m])) (by simp) (by simp) ?_
    ·simp only[PySem.Str.cps_append,Array.toList_append,List.append_assoc];rfl
    ·rw[List.length_append]
     split <;> simp
   refine zz8 hwz ?_
   by_cases hw3:3<w
   ·have hne:hosts≠[]:=fun e=>hno ⟨by omega,e,.inl hw3⟩
    obtain⟨ws,w0,hh⟩:∃ ws w0,hosts=ws++[w0]:=by
     rcases List.eq_nil_or_concat hosts with e|⟨ws,w0,e⟩
     ·exact absurd e hne
     ·exact⟨ws,w0,by rw[e,List.concat_eq_append]⟩
    obtain⟨t1,t2'⟩:=top ws w0 hh
    subst hh
    refine zd2 (by omega) fun H2 s2=>?_
    obtain⟨wd,hwd⟩:∃ wd:Str,(w=4/\wd = "")\/(w=5/\wd = "in it"):=by
     rcases(show w=4\/w=5 by omega) with h|h
     ·exact⟨"",.inl ⟨h,rfl⟩⟩
     ·exact⟨"in it",.inr ⟨h,rfl⟩⟩
    refine Aa1 (ws:=ws) (w0:=w0) (a'.same s2) hd h3 h8 zle2 t1 t2' wd hwd fun H' a''=>?_
    have hpw:wb3 wd:=by rcases hwd with⟨_,rfl⟩|⟨_,rfl⟩;exact fun c hc=>(by cases hc);exact ya4
    exact xn8 n3 I hwd hpw zle2 (by rw[if_neg hne,if_neg hne,List.dropLast_concat,List.getLastD_concat]) (by rw[if_neg hne,List.append_nil]) a'' fun ps' hI hpl'=>q _ _ _ _ _ ps' _ _ _ a'' hI hpl' (by simp) (by simp)
   ·have hw123:w=1\/w=2\/w=3:=by omega
    cases hr:ran with
    | true =>
      subst hr
      refine zd2 (fun z=>by cases z.2) fun H2 s2=>zl0 hw0 (by omega) ?_
      rw[decide_eq_true (show 0<w by omega)]
      exact q _ _ _ _ _ ps _ _ _ (a'.same s2) I (by omega) (by omega) (by omega)
    | false =>
      subst hr
      have hw12:w=1\/w=2:=by
       rcases hw123 with h|h|h
       ·exact .inl h
       ·exact .inr h
       ·have:=hnb h;cases this
      have hne:hosts≠[]:=fun e=>hno ⟨by omega,e,.inr rfl⟩
      obtain⟨ws,w0,hh⟩:∃ ws w0,hosts=ws++[w0]:=by
       rcases List.eq_nil_or_concat hosts with e|⟨ws,w0,e⟩
       ·exact absurd e hne
       ·exact⟨ws,w0,by rw[e,List.concat_eq_append]⟩
      obtain⟨t1,t2'⟩:=top ws w0 hh
      subst hh
      refine Aa0 (ws:=ws) (w0:=w0) a' hd h3 h8 zle2 t1 t2' hw12 rfl hn fun H2 a2=>?_
      obtain⟨hwd,hbl⟩:=wd3 (nn / 8)
      have hwdl:=hwd.l
      obtain⟨k1,k2⟩:=yh2 n3 (i:=z.length) I.s hwd.p (fun _=>hbl)
      rw[if_neg hne] at k1 k2
      rw[List.dropLast_concat,List.getLastD_concat] at k1
      rw[List.append_nil] at k2
      refine q _ _ _ _ _ (ps++[.rn _ _]) _ _ _ a2 (I.snoc n3 (.rn (("w":Str)++Str.ofString (toString (nn / 8 % 100))) (("w":Str)++Str.ofString (toString (nn / 8 % 100)))) (yn3 hwd.p hwd.l1) (by rw[Pq.len];show(("w":Str)++Str.ofString (toString (nn / 8 % 100))).length<=11;omega) (fun r t e=>by cases e;omega) ?_ (fun _=>rfl) k1 (by rw[show stQ (rs3 (gd nm 0) (gd nm 1) (gd nm 2)) (rk3 (gd nm 1)) z.length (pq (rs3 (gd nm 0) (gd nm 1) (gd nm 2)) (rk3 (gd nm 1)) 0 ps st0) (.rn _ _)=U5 _ _ _ _ _ from rfl,k2,I.m])) (by simp) (by simp) (by simp)
      show(z ++ "w"++Str.ofString (toString (nn / 8 % 100))).cps.toList=z.cps.toList++(("w":Str)++Str.ofString (toString (nn / 8 % 100))).cps.toList
      simp only[PySem.Str.cps_append,Array.toList_append,List.append_assoc]
 lk
 by_cases hw3:w=3
 ·rw [decide_eq_true hw3]
  x_go
  refine yk0 ?_
  refine' qu4 ?ev ?_
  case ev=>exact rfl
  first|refine xc2 ?_|skip
  first|refine M4 ?_|skip
  cases hr:ran with
  | true =>
    subst hr
    exact nob fun _=>rfl
  | false =>
    subst hr
    show xg3 K D [some (.ref sc),some (.ref d),some (.ref tb),some (.str z),some (.ref L),some (.ref M),some (.bl false),x7,some (.int nn),some (.int (z.length:Int)),some (.int w),some (.bl true),x12,x13] H
    obtain⟨bl,ebl⟩:∃ bl:Str,bl = " \n":=⟨_,rfl⟩
    have bll:bl.length=2:=by rw[ebl];decide
    have blp:wb3 bl:=by rw[ebl];exact zd0
    have blb:wa0 bl=true:=by rw[ebl];exact zd1
    have fin:∀ (hosts':List (List Tr)) (ms':List Mnd),ms'.length<=ms.length+2->hosts'.length<=hosts.length+1->S3 (gd nm 0) (gd nm 1) hosts' (U5 (rs3 (gd nm 0) (gd nm 1) (gd nm 2)) (pq (rs3 (gd nm 0) (gd nm 1) (gd nm 2)) (rk3 (gd nm 1)) 0 ps st0) z.length bl bl)->(U5 (rs3 (gd nm 0) (gd nm 1) (gd nm 2)) (pq (rs3 (gd nm 0) (gd nm 1) (gd nm 2)) (rk3 (gd nm 1)) 0 ps st0) z.length bl bl).ms=ms'->∀ H',A3 K H0 H' L M as hosts' ms'->D.nx [some (.ref sc),some (.ref d),some (.ref tb),some (.str (z++bl)),some (.ref L),some (.ref M),some (.bl true),x7,some (.int nn),some (.int (z.length:Int)),some (.int w),some (.bl true),x12,x13] H':=fun hosts' ms' l1 l2 k1 k2 H' a' =>
     q _ _ _ _ _ (ps++[.rn bl bl]) _ _ _ a' (I.snoc n3 (.rn bl bl) (yn3 blp (by omega)) (by rw[Pq.len];show bl.length<=11;omega) (fun r t e=>by cases e;omega) (by rw[PySem.Str.cps_append,Array.toList_append];rfl) (fun _=>rfl) k1 k2) (by simp) l2 l1
    lk
    refine⟨D4 (by z_go),fun e0 he0=>?_⟩
    have s1:=A7.new he0 (.lst [])
    have a1:=a.same s1
    lk
    refine a1.eqE A5 ?_
    generalize upd H e0 (.lst [])=H1 at *
    lk
    cases hh:hosts with
    | nil =>
      subst hh
      x_go
      show xt0 K _ _ _
      obtain⟨us,hm,hmd⟩:=a1.m
      lk
      refine⟨.inl ⟨rfl,_,SqL.of hm⟩,?_⟩
      lk
      refine⟨D4 (by z_go),fun p hp=>?_⟩
      lk
      have s7:=A7.new hp (.tup [.int z.length,.int (z.length+2),.str "",.str "blank"])
      have dp:Dv K _ (Mnd.da ⟨z.length,z.length+2, "","blank"⟩) (.ref p):=wh7 (A5 (H:=H1) (a:=p) (o:=.tup [.int z.length,.int (z.length+2),.str "",.str "blank"]))
      have a7:=a1.same s7
      have hm7:=s7 _ _ hm
      have hmd7:=Dvs.same s7 _ _ hmd
      have eml:=A3.mlen hmd
      show J4 (.ref M) [.ref p] (upd H1 p (.tup [.int z.length,.int (z.length+2),.str "",.str "blank"])) _
      generalize upd H1 p (.tup [.int z.length,.int (z.length+2),.str "",.str "blank"])=H7 at *
      refine L0 hm7 (by rw[sizeLine_eq];omega) ?_
      have a8:=a7.mend hm7 hmd7 dp
      generalize upd H7 M (.lst (us++[.ref p]))=H8 at *
      show Y5 K D [some (.ref sc),some (.ref d),some (.ref tb),some (.str z),some (.ref L),some (.ref M),some (.bl false),x7,some (.int nn),some (.int (z.length:Int)),some (.int w),some (.bl true),x12,x13] H8
      refine zz9 a8 hd h3 h8 zle2 (by simp;omega) (by simp) hw3 (fun ws w0 e=>by simp at e) fun H' a'=>?_
      rw[if_pos rfl] at a'
      rw[<-ebl]
      have hru:=zc9 n3 (i:=z.length) I.s blb
      refine fin [] _ (by simp) (by simp) (by rw[hru];exact I.s.dropS) ?_ H' a'
      rw[hru]
      show _++[_]=_
      rw[I.m,bll];rfl
    | cons w1 wt =>
      have hne:hosts≠[]:=by rw[hh];simp
      k_go
      show wq8 K {D with nx:=Y5 K D} [some (.ref sc),some (.ref d),some (.ref tb),some (.str z),some (.ref L),some (.ref M),some (.bl false),x7,some (.int nn),some (.int (z.length:Int)),some (.int w),some (.bl true),x12,x13] H1
      refine t2 (sk:=z.length) a1 hd h3 h8 (by omega) (by omega) hw0 (fun _ e _=>absurd e hne) fun _ H' a'=>?_
      show Y5 K D [some (.ref sc),some (.ref d),some (.ref tb),some (.str z),some (.ref L),some (.ref M),some (.bl false),x7,some (.int nn),some (.int (z.length:Int)),some (.int w),some (.bl true),x12,x13] H'
      refine zz9 a' hd h3 h8 zle2 (by omega) (by omega) hw3 top fun H2 a2=>?_
      rw[if_neg hne,<-ebl] at a2
      rw[<-ebl]
      obtain⟨k1,k2⟩:=yh2 n3 (i:=z.length) I.s blp (fun e=>absurd e hne)
      rw[if_neg hne] at k1 k2
      rw[List.append_nil,I.m] at k2
      refine fin _ _ (by omega) ?_ k1 k2 H2 a2
      rw[List.length_append,List.length_dropLast];simp
 ·rw[decide_eq_false hw3]
  k_go
  exact nob fun h=>absurd h hw3
end
abbrev ya7(K:Fg):TS :=
 (C1 (E3 (tOp (rI (fun _ j=>0<j) fun i j=>.int (i % j)) (A2 8) (tC (.int 6))) (B2 10))
 (xg4 K))
abbrev ya8(K:Fg):TS :=
 (C1 (E3 (D1 (V8 K) [] E0 (A1 (A2 7) (A1 (tC (.int 4)) A9))) (B2 8))
 (C1 (E3 (tCB (O6 K) (A1 (A2 3) A9)) (B2 9))
 (ya7 K)))
abbrev zd4(K:Fg):TS :=
 (M3 (tOp (Y0 K) (D1 (qp1 K) [] E0 (A1 (A2 2) (A1 (A2 3) A9))) (Q3 (A1 (A2 13) (A1 (A2 5) A9)))))
abbrev ya9(K:Fg):TS :=
 (C1 (E3 (D1 (ql0 K) [] E0 (A1 (A2 1) (A1 (A2 4) (A1 (A2 3) (A1 (A2 5) A9))))) (B2 13))
 (zd4 K))
abbrev zd5(K:Fg):TS :=
 (C1 (qy2 (wc3 K (tSl (wo3 K) (A2 0) (X8 (tC (.int 1))) (X8 (tC (.int 61))))) (B2 7)
 (ya8 K))
 (ya9 K))
abbrev zd6(K:Fg):TS :=
 (C1 (E3 (X6 A9) (B2 4))
 (C1 (E3 (X6 A9) (B2 5))
 (C1 (E3 (tC (.bl false)) (B2 6))
 (zd5 K))))
abbrev yb0(K:Fg):TS :=
 (C1 (E3 (tOp (E6 K) (tOp (E6 K) (tC (.str "<")) (tOp (L7 K) (A2 1) (tC (.int 0)))) (tC (.str ">"))) (B2 3))
 (zd6 K))
abbrev yb1(K:Fg):TS :=
 (C1 (E3 (Q3 (A1 (Q3 (A1 (tOp (L7 K) (A2 1) (tC (.int 1))) (A1 (tC (.str "plain")) (A1 (tC (.str "")) (A1 (Q3 A9) (A1 (Q3 A9) A9)))))) (A1 (Q3 (A1 (tOp (L7 K) (A2 1) (tC (.int 2))) (A1 (tC (.str "plain")) (A1 (tC (.str "")) (A1 (Q3 A9) (A1 (Q3 A9) A9)))))) (A1 (Q3 (A1 (tOp (L7 K) (A2 1) (tC (.int 0))) (A1 (tC (.str "frame")) (A1 (tOp (L7 K) (A2 1) (tC (.int 1))) (A1 (Q3 A9) (A1 (Q3 A9) A9)))))) A9)))) (B2 2))
 (yb0 K))
def wv1(K:Fg):Sp:=fun vs H Q _=>∃ (a:Addr) (ns:List Int),vs=[.ref a]/\SqL K H a (ns.map V.int)/\ns.length<=63/\∀ H',Q (.bl true) H'
def yn9(K:Fg):TS :=
 (C1 (E3 (D1 (qk6 K) [] E0 (A1 (D1 (qd6 K) [] E0 (A1 (A2 0) (A1 (tC (.int 0)) A9))) A9)) (B2 1))
 (yb1 K))
theorem zu3(h:wv1 K vs H Q E):yn9 K {nx:=fun _ H'=>Q .non H',rt:=Q} (D6 ["_law_script","_law_names_here","_law_book","_law_text","_law_hosts","_law_mends","_law_ran","_law_cell","_law_number","_law_start","_law_way","_law_blank","_law_word","_law_tree"] vs) H:=by
 obtain⟨sc,ns,rfl,hS,hn63,q⟩:=h
 show yn9 K _ [some (.ref sc),none,none,none,none,none,none,none,none,none,none,none,none,none] H
 unfold yn9
 lk
 refine⟨sc,ns,0,rfl,hS,by decide,fun c0=>?_⟩
 lk
 refine⟨c0,rfl,fun d nm H1 s1 hd0 hd hnl hN=>?_⟩
 have h3:3<=nm.length:=by omega
 have gm:∀ i,i<3->gd nm i∈nm:=fun i hi=>wt2 (by omega)
 have ne:∀ i j,i<3->j<3->i≠j->gd nm i≠gd nm j:=fun i j hi hj hij e=>hij (zs4 hN.nd (by omega) (by omega) e)
 have nok:∀ x∈nm,xz9 x:=fun x hm=>by
  refine⟨?_,hN.le _ hm,hN.lt _ hm⟩
  have h0:=hN.ne _ hm
  have:x.length≠0:=fun e=>h0 ((W6 _ _).mpr (by
   have e2:=qg7 x
   rw[e] at e2
   rw[List.eq_nil_of_length_eq_zero e2];rfl))
  omega
 have n3:N3 (gd nm 0) (gd nm 1) (gd nm 2):=⟨ne 0 1 (by omega) (by omega) (by omega),ne 0 2 (by omega) (by omega) (by omega),ne 1 2 (by omega) (by omega) (by omega),hN.ne _ (gm 0 (by omega)),hN.ne _ (gm 1 (by omega)),hN.ne _ (gm 2 (by omega)),nok _ (gm 0 (by omega)),nok _ (gm 1 (by omega)),nok _ (gm 2 (by omega))⟩
 have g0:=n3.fo.n8
 have g1:=n3.ho.n8
 have g2:=n3.po.n8
 show yb1 K _ _ _
 lk
 refine M5 (SqL.of hd) (W1 (i:=1) (by omega)) ?_
 lk
 refine⟨D4 (by z_go),fun a1 ha1=>?_⟩
 have t1:=A7.new ha1 (.tup [])
 have e1:(upd H1 a1 (.tup [])) a1=_:=A5
 generalize upd H1 a1 (.tup [])=G1 at *
 lk
 refine⟨D4 (by z_go),fun a2 ha2=>?_⟩
 have t2:=A7.new ha2 (.tup [])
 have e2:(upd G1 a2 (.tup [])) a2=_:=A5
 generalize upd G1 a2 (.tup [])=G2 at *
 lk
 refine⟨D4 (by z_go),fun a3 ha3=>?_⟩
 have t3:=A7.new ha3 (.tup [.str (gd nm 1),.str "plain",.str "",.ref a1,.ref a2])
 have dr1:Dv K _ (Row.da ⟨gd nm 1, "plain","",[],[]⟩) (.ref a3):=C8.mpr ⟨a3,_,rfl,SqT.of (A5 (H:=G2) (a:=a3) (o:=.tup [.str (gd nm 1),.str "plain",.str "",.ref a1,.ref a2])),B3 (D5.mpr rfl) (B3 (D5.mpr rfl) (B3 (D5.mpr rfl) (B3 (C8.mpr ⟨a1,_,rfl,SqT.of (t3 _ _ (t2 _ _ e1)),qd3.mpr rfl⟩) (B3 (C8.mpr ⟨a2,_,rfl,SqT.of (t3 _ _ e2),qd3.mpr rfl⟩) E2))))⟩
 generalize upd G2 a3 (.tup [.str (gd nm 1),.str "plain",.str "",.ref a1,.ref a2])=G3 at *
 have t13:=A7.tr (A7.tr t1 t2) t3
 have hd3:=t13 _ _ hd
 lk
 refine M5 (SqL.of hd3) (W1 (i:=2) (by omega)) ?_
 lk
 refine⟨D4 (by z_go),fun b1 hb1=>?_⟩
 have u1:=A7.new hb1 (.tup [])
 have f1:(upd G3 b1 (.tup [])) b1=_:=A5
 generalize upd G3 b1 (.tup [])=G4 at *
 lk
 refine⟨D4 (by z_go),fun b2 hb2=>?_⟩
 have u2:=A7.new hb2 (.tup [])
 have f2:(upd G4 b2 (.tup [])) b2=_:=A5
 generalize upd G4 b2 (.tup [])=G5 at *
 lk
 refine⟨D4 (by z_go),fun b3 hb3=>?_⟩
 have u3:=A7.new hb3 (.tup [.str (gd nm 2),.str "plain",.str "",.ref b1,.ref b2])
 have dr2:Dv K _ (Row.da ⟨gd nm 2, "plain","",[],[]⟩) (.ref b3):=C8.mpr ⟨b3,_,rfl,SqT.of (A5 (H:=G5) (a:=b3) (o:=.tup [.str (gd nm 2),.str "plain",.str "",.ref b1,.ref b2])),B3 (D5.mpr rfl) (B3 (D5.mpr rfl) (B3 (D5.mpr rfl) (B3 (C8.mpr ⟨b1,_,rfl,SqT.of (u3 _ _ (u2 _ _ f1)),qd3.mpr rfl⟩) (B3 (C8.mpr ⟨b2,_,rfl,SqT.of (u3 _ _ f2),qd3.mpr rfl⟩) E2))))⟩
 generalize upd G5 b3 (.tup [.str (gd nm 2),.str "plain",.str "",.ref b1,.ref b2])=G6 at *
 have u13:=A7.tr (A7.tr u1 u2) u3
 have hd6:=u13 _ _ hd3
 lk
 refine M5 (SqL.of hd6) (W1 (i:=0) (by omega)) ?_
 lk
 refine M5 (SqL.of hd6) (W1 (i:=1) (by omega)) ?_
 lk
 refine⟨D4 (by z_go),fun c1 hc1=>?_⟩
 have w1:=A7.new hc1 (.tup [])
 have h1:(upd G6 c1 (.tup [])) c1=_:=A5
 generalize upd G6 c1 (.tup [])=G7 at *
 lk
 refine⟨D4 (by z_go),fun c2 hc2=>?_⟩
 have w2:=A7.new hc2 (.tup [])
 have h2:(upd G7 c2 (.tup [])) c2=_:=A5
 generalize upd G7 c2 (.tup [])=G8 at *
 lk
 refine⟨D4 (by z_go),fun c3 hc3=>?_⟩
 have w3:=A7.new hc3 (.tup [.str (gd nm 0),.str "frame",.str (gd nm 1),.ref c1,.ref c2])
 have dr3:Dv K _ (Row.da ⟨gd nm 0, "frame",gd nm 1,[],[]⟩) (.ref c3):=C8.mpr ⟨c3,_,rfl,SqT.of (A5 (H:=G8) (a:=c3) (o:=.tup [.str (gd nm 0),.str "frame",.str (gd nm 1),.ref c1,.ref c2])),B3 (D5.mpr rfl) (B3 (D5.mpr rfl) (B3 (D5.mpr rfl) (B3 (C8.mpr ⟨c1,_,rfl,SqT.of (w3 _ _ (w2 _ _ h1)),qd3.mpr rfl⟩) (B3 (C8.mpr ⟨c2,_,rfl,SqT.of (w3 _ _ h2),qd3.mpr rfl⟩) E2))))⟩
 generalize upd G8 c3 (.tup [.str (gd nm 0),.str "frame",.str (gd nm 1),.ref c1,.ref c2])=G9 at *
 have w13:=A7.tr (A7.tr w1 w2) w3
 lk
 refine⟨D4 (by z_go),fun tb htb=>?_⟩
 have w4:=A7.new htb (.tup [.ref a3,.ref b3,.ref c3])
 have hbk:BkO K (upd G9 tb (.tup [.ref a3,.ref b3,.ref c3])) (.ref tb) (rs3 (gd nm 0) (gd nm 1) (gd nm 2)):=⟨tb,_,rfl,SqT.of A5,B3 (Dv.same (A7.tr (A7.tr u13 w13) w4) _ _ dr1) (B3 (Dv.same (A7.tr w13 w4) _ _ dr2) (B3 (Dv.same w4 _ _ dr3) E2))⟩
 have hd9:=w4 _ _ (w13 _ _ hd6)
 have s9:=A7.tr (A7.tr (A7.tr (A7.tr s1 t13) u13) w13) w4
 generalize upd G9 tb (.tup [.ref a3,.ref b3,.ref c3])=H2 at *
 show yb0 K _ _ _
 lk
 refine M5 (SqL.of hd9) (W1 (i:=0) (by omega)) ?_
 refine O3 (by rw[sizeLine_eq];show 1+_<=_;omega) ?_
 lk
 refine O3 (by rw[sizeLine_eq,I0];show 1+_+1<=_;omega) ?_
 lk
 refine⟨D4 (by z_go),fun L hL=>?_⟩
 have y1:=A7.new hL (.lst [])
 lk
 refine⟨D4 (by z_go),fun M hM=>?_⟩
 have y2:=A7.new hM (.lst [])
 lk
 have eL:=y2 _ _ (A5 (H:=H2) (a:=L) (o:=.lst []))
 have eM:=A5 (H:=upd H2 L (.lst [])) (a:=M) (o:=.lst [])
 have nML:M≠L:=(R1 hM).1
 have hM2:H2 M=none:=(R1 hM).2
 have y12:=A7.tr y1 y2
 have a0:A3 K H2 (upd (upd H2 L (.lst [])) M (.lst [])) L M [] [] []:=⟨y12,⟨eL,.nil,by simp⟩,⟨[],eM,E2⟩,by simp;exact nML,fun z hz=>by
  rcases List.mem_cons.mp hz with rfl|hz
  ·exact hM2
  ·rw[List.mem_singleton.mp hz];exact hL⟩
 obtain⟨H3,eH3⟩:∃ H3,H3=upd (upd H2 L (.lst [])) M (.lst []):=⟨_,rfl⟩
 rw[<-eH3] at a0 y12 ⊢
 obtain⟨cs,ecs,hcs⟩:=ys7 (f:=V.int) ns (some 1) (some 61)
 refine yk5 ((A7.tr s9 y12).sqL hS) fun q1 hq1=>?_
 rw[ecs]
 have v1:=A7.new hq1 (.lst (cs.map V.int))
 have eq1:(upd H3 q1 (.lst (cs.map V.int))) q1=_:=A5
 have a1':=a0.same v1
 have nq1:q1∉[M,L]:=fun h=>by
  have:xi6 H3 q1:=by
   rcases List.mem_cons.mp h with h|h
   ·obtain⟨us,m1,_⟩:=a0.m;rw[h];exact .inl ⟨_,m1⟩
   ·rw[List.mem_singleton.mp h];exact .inl ⟨_,a0.h.l⟩
  exact this.some hq1
 obtain⟨H9,eH9⟩:∃ H9,H9=upd H3 q1 (.lst (cs.map V.int)):=⟨_,rfl⟩
 rw[<-eH9] at eq1 a1' ⊢
 obtain⟨Hb,eHb⟩:∃ Hb,Hb=rml H9 [M,L]:=⟨_,rfl⟩
 have sb9:A7 Hb H9:=by rw[eHb];exact zb9
 have s3b:A7 H2 Hb:=by rw[eHb];exact A7.rml a1'.s a1'.nw
 have ab:A3 K Hb H9 L M [] [] []:=⟨sb9,a1'.h,a1'.m,a1'.nm,fun y hy=>by rw[eHb];exact zb8 hy⟩
 have eqb:Hb q1=some (.lst (cs.map V.int)):=by rw[eHb,xs3 nq1];exact eq1
 have hdB:=s3b _ _ hd9
 have hbkB:=hbk.same s3b
 refine wd7 (SqL.of eq1) (fun i σ H'=>∃ as z ran hosts ms ps x7 x8 x9 x10 x11 x12 x13,σ=[some (.ref sc),some (.ref d),some (.ref tb),some (.str z),some (.ref L),some (.ref M),some (.bl ran),x7,x8,x9,x10,x11,x12,x13]/\A3 K Hb H' L M as hosts ms/\I3 (gd nm 0) (gd nm 1) (gd nm 2) ps z hosts ms ran/\ps.length<=3*i+1/\hosts.length<=i/\ms.length<=2*i) ?_ ?_ ?_ ?_
 ·refine⟨[],opn (gd nm 0),false,[],[],[.op (gd nm 0)],none,none,none,none,none,none,none,rfl,ab,?_,by simp,by simp,by simp⟩
  obtain⟨k1,k2⟩:=zc8 n3 (i:=((0:Nat):Int)) (g:=opn (gd nm 0))
  refine⟨by rw[ym7];simp[txQ,Pq.tx],fun x hx=>?_,⟨fun z=>(by cases z),trivial⟩,fun z=>(by cases z),k1,k2,?_⟩
  ·rw[List.mem_singleton.mp hx];exact⟨n3.fo,by rw[Pq.len];show(gd nm 0).length+2<=11;omega⟩
  ·exact(((bg0 (rs3 (gd nm 0) (gd nm 1) (gd nm 2))).op (zc4 n3)).mono (by simp) (by simp) (by simp) (by simp) (by simp))
 ·rintro i σ H' _ ⟨as,z,ran,hosts,ms,ps,x7,x8,x9,x10,x11,x12,x13,rfl,a,_⟩
  exact SqL.of (a.s _ _ eqb)
 ·rintro i v σ H' hi ⟨as,z,ran,hosts,ms,ps,x7,x8,x9,x10,x11,x12,x13,rfl,a,I,hpl,hhl,hml⟩
  have hi63:i<63:=by
   rcases Nat.lt_or_ge i (cs.map V.int).length with h|h
   ·rw[List.length_map] at h;omega
   ·rw[List.getElem?_eq_none_iff.mpr h] at hi;cases hi
  rw[List.getElem?_map] at hi
  obtain⟨y,hy,rfl⟩:=Option.map_eq_some_iff.mp hi
  obtain⟨zl,zle⟩:=I.zl
  have zle2:z.length<=11*200:=by have:=Nat.mul_le_mul_left 11 (show ps.length<=200 by omega);omega
  refine M4 ?_
  show ya8 K _ [some (.ref sc),some (.ref d),some (.ref tb),some (.str z),some (.ref L),some (.ref M),some (.bl ran),some (.int y),x8,x9,x10,x11,x12,x13] _
  lk
  refine⟨y,4,rfl,by decide,by decide,fun nn hn0=>?_⟩
  lk
  refine wk6 (by rw[sizeLine_eq];omega) ?_
  show ya7 K _ [some (.ref sc),some (.ref d),some (.ref tb),some (.str z),some (.ref L),some (.ref M),some (.bl ran),some (.int y),some (.int nn),some (.int z.length),x10,x11,x12,x13] _
  refine qc0 ?_
  refine yv9 ?_
  refine yj8 ?_
  refine' qu4 ?ev ?_
  case ev=>exact rfl
  refine zq0 ?_
  refine yk1 (by decide) ?_
  refine M4 ?_
  have hw0:=Int.emod_nonneg nn (show(6:Int)≠0 by decide)
  have hw6:=Int.emod_lt_of_pos nn (show(0:Int)<6 by decide)
  obtain⟨w,ew⟩:∃ w,w=nn % 6:=⟨_,rfl⟩
  rw[<-ew] at hw0 hw6 ⊢
  show xg4 K _ [some (.ref sc),some (.ref d),some (.ref tb),some (.str z),some (.ref L),some (.ref M),some (.bl ran),some (.int y),some (.int nn),some (.int z.length),some (.int w),x11,x12,x13] _
  refine zu2 n3 a I hdB h3 (fun x hx=>(nok x hx).n8) (by omega) (by omega) (by omega) hn0 hw0 hw6 rfl fun as' z' ran' hosts' ms' ps' x11' x12' H'' a' I' l1 l2 l3=>?_
  exact⟨as',z',ran',hosts',ms',ps',_,_,_,_,_,_,_,rfl,a',I',by omega,by omega,by omega⟩
 rintro σ H' ⟨as,z,ran,hosts,ms,ps,x7,x8,x9,x10,x11,x12,x13,rfl,a,I,hpl,hhl,hml⟩
 obtain⟨zl,zle⟩:=I.zl
 have hcs63:(cs.map V.int).length<=63:=by rw[List.length_map];omega
 obtain⟨us,hM6,hmd6⟩:=a.m
 have hMb:Hb M=none:=a.nw M (by simp)
 have nMd:M≠d:=fun e=>by rw[e,hdB] at hMb;cases hMb
 show ya9 K _ _ _
 lk
 refine⟨d,L,M,nm,z,as,hosts,us,ms,rfl,a.s _ _ hdB,h3,fun x hx=>(nok x hx).n8,by omega,a.h,by omega,hM6,hmd6,by omega,a.nm,nMd,fun v us7 H7 hv7 hM7 hmd7 bt7=>?_⟩
 have sb7:A7 Hb H7:=fun x o e=>bt7 x o (a.s x o e) (by
  intro hx
  rw[List.mem_singleton.mp hx,hMb] at e;cases e)
 lk
 refine⟨.ref tb,z,rs3 (gd nm 0) (gd nm 1) (gd nm 2),rk3 (gd nm 1),rfl,hbkB.same sb7,zc4 n3,by omega,fun v1 p9 q9 us9 H8 hp9 hv9 hq9 hu9 s9 _=>?_⟩
 have er:=zk0 (rs:=rs3 (gd nm 0) (gd nm 1) (gd nm 2)) (rk:=rk3 (gd nm 1)) I.z (fun x hx=>(I.ok x hx).1) I.ap
 obtain⟨e1',e2'⟩:=zu1 n3 (k:=z.length) I.s
 have ert:rtS (rdS (rs3 (gd nm 0) (gd nm 1) (gd nm 2)) (rk3 (gd nm 1)) z)=[Tr.nd (gd nm 0) (hosts.map fun w=>Tr.nd (gd nm 1) w)]:=by unfold rdS;rw[er];exact e1'
 have emd:(rdS (rs3 (gd nm 0) (gd nm 1) (gd nm 2)) (rk3 (gd nm 1)) z).ms=ms++zc3 (gd nm 0) (gd nm 1) z.length hosts:=by unfold rdS;rw[er,e2',I.m];rfl
 have hhg:=zj8 (rs:=rs3 (gd nm 0) (gd nm 1) (gd nm 2)) (rk:=rk3 (gd nm 1)) (z:=z) (zc4 n3)
 rw[ert] at hhg hv9
 rw[emd] at hu9
 lk
 refine⟨D4 (by z_go),fun p11 hp11=>?_⟩
 have y1:=A7.new hp11 (.tup [v,.ref M])
 have y2:=A7.tr s9 y1
 lk
 refine zj7 (t:=zz5 (gd nm 0) (gd nm 1) hosts) hhg (C8.mpr ⟨p9,_,rfl,y1.sqT hp9,B3 (Dv.same y1 _ _ hv9) (B3 (Y8.mpr ⟨q9,us9,rfl,SqL.of (y1 _ _ hq9),Dvs.same y1 _ _ hu9⟩) E2)⟩) (C8.mpr ⟨p11,_,rfl,SqT.of A5,B3 (Dv.same y2 _ _ hv7) (B3 (Y8.mpr ⟨M,us7,rfl,SqL.of (y2 _ _ hM7),Dvs.same y2 _ _ hmd7⟩) E2)⟩) ?_
 exact q _
end
variable{X:Cx}{pos:Pos}{mg:Str->Option Value}{h:Heap}
section
open PyProof.Rows
set_option maxHeartbeats 0
def top(i:Nat):Stmt:=PySem.Challenge.pw_tagmend_k43_lists.main.body.getD i (.Pass ⟨0,0,0,0⟩)
def qj1(s:Stmt)(j:Nat):Stmt:=match s with
 | .ClassDef _ _ _ b _ _ _ _ _ _ _=>b.getD j (.Pass ⟨0,0,0,0⟩)
 | _=>.Pass ⟨0,0,0,0⟩
abbrev R6:Stmt:=top 8
abbrev xg5:Stmt:=top 9
abbrev wv2:Stmt:=top 10
abbrev wv3:Stmt:=top 11
abbrev wv4:Stmt:=top 12
abbrev wm2:Stmt:=top 13
abbrev wv5:Stmt:=top 14
abbrev wv6:Stmt:=top 17
abbrev qj8:Stmt:=top 18
abbrev wv7:Stmt:=top 19
abbrev qg9:Stmt:=top 21
abbrev wv8:Stmt:=top 24
abbrev wv9:Stmt:=top 25
abbrev wf3:Stmt:=top 26
abbrev xg6:Stmt:=top 27
abbrev qh0:Stmt:=top 28
abbrev qm2:Stmt:=top 29
abbrev qq5:Stmt:=top 30
abbrev wf4:Stmt:=top 31
abbrev ww0:Stmt:=top 35
abbrev ww1:Stmt:=top 36
abbrev qt6:Stmt:=top 37
abbrev wf5:Stmt:=top 41
abbrev qj9:Stmt:=top 42
abbrev wf6:Stmt:=top 43
abbrev wa2:Stmt:=top 44
abbrev wm3:Stmt:=top 45
abbrev qu9:Stmt:=top 46
abbrev qq6:Stmt:=top 47
abbrev wa3:Stmt:=top 48
abbrev wa4:Stmt:=top 49
abbrev wf7:Stmt:=top 52
abbrev wf8:Stmt:=top 53
abbrev qh1:Stmt:=top 56
abbrev qq7:Stmt:=top 57
abbrev qm3:Stmt:=top 58
abbrev qq8:Stmt:=top 60
abbrev wa5:Stmt:=top 61
abbrev qq9:Stmt:=top 62
abbrev qh2:Stmt:=top 63
abbrev wm4:Stmt:=top 64
abbrev qp3:Stmt:=top 65
abbrev xg7:Stmt:=top 66
abbrev qm4:Stmt:=qj1 (top 54) 0
abbrev qm5:Stmt:=qj1 (top 55) 0
abbrev qm6:Stmt:=qj1 (top 55) 1
abbrev qm7:Stmt:=qj1 (top 55) 2
abbrev qh3:Stmt:=qj1 (top 55) 3
abbrev U2:Stmt:=qj1 (top 55) 4
abbrev U3:Stmt:=qj1 (top 55) 5
abbrev qc2:Stmt:=qj1 (top 55) 6
abbrev R7:Stmt:=qj1 (top 55) 7
abbrev V3:Stmt:=qj1 (top 55) 8
abbrev T3:Stmt:=qj1 (top 55) 9
abbrev qk0:Stmt:=qj1 (top 55) 10
abbrev qk1:Stmt:=qj1 (top 55) 11
abbrev qm8:Stmt:=qj1 (top 55) 12
abbrev qh4:Stmt:=qj1 (top 55) 13
abbrev U4:Stmt:=qj1 (top 55) 14
abbrev S0:Stmt:=qj1 (top 55) 15
abbrev qc3:Stmt:=qj1 (top 55) 16
set_option genInjectivity false in
structure Fa where
 a:Addr
 d:FuncData
structure Fok(K:Fg)(mg:Str->Option Value)(x:Str)(st:Stmt)(ps:List Str)(f:Fa):Prop where
 F:Fun K x x st f.a f.d
 b:T7 K f.d ps []
 m:mg x=some (.ref f.a)
theorem zcl{CX:CXT}{fa:Fa}{st:Stmt}{ps:List Str}{sp:Sp}{p:Pos}{e:Expr}{es:List Expr}{t:TA}(F:J7 X.prog X.w X.K X.mg X.base CX k fa.a fa.d ps sp)(hr:qj3 j X.A)(f:Fok X.K X.mg x st ps fa)(hx:wd2 CX X E)(ha:PA X (e::es) t)(hk:k<=j:=by walk_at "le")(hg:autoParam (Gl X x) zAr)(hdb:autoParam ((x == ("__debug__":Str))=false) zAd)(he:autoParam (starEach (e::es) X.env=(false,eval e X.env)::starEach es X.env) zAr)(hpl:autoParam ((backTo pos (starEach es X.env)).any (·.1)=false) zAr):PE X (.Call (.Name x p) (e::es) [] pos) (D1 sp [] E t):=ze5 F (hr.mono hk) hg f.m f.F.kp f.b .nil hx ha hdb he hpl
theorem zst{P:List Str}{sc:Scope}{i:Nat}{e:Expr}{pos':Pos}(S:B8 X.N P sc)(he:PE X e te)(hi:autoParam (X.N[i]?=some x) zAr)(hx:Loc X.env.scope x:=by exact Or.inl rfl)(hs:autoParam (swapsWith e (some (.Name x pos')) pos.line X.env=pure false) zAr)(hf:X.fn x=true\/X.env.scope.names.lookup x=some .local:=by walk_at "or"):PS X (.Assign [.Name x pos'] e pos) (E3 te (B2 i)):=qf2 S.nd hi hx he hs hf
set_option genInjectivity false in
structure Adr where
 za:Fa
 zb:Fa
 zc:Fa
 zd:Fa
 ze:Fa
 zf:Fa
 zh:Fa
 zi:Fa
 zj:Fa
 zk:Fa
 zm:Fa
 zn:Fa
 zo:Fa
 zp:Fa
 zr:Fa
 zt:Fa
 zu:Fa
 zv:Fa
 zw:Fa
 zx:Fa
 zy:Fa
 zz:Fa
 ya:Fa
 yb:Fa
 yc:Fa
 yd:Fa
 ye:Fa
 yf:Fa
 yg:Fa
 yh:Fa
 yi:Fa
 yj:Fa
 yk:Fa
 yl:Fa
 ym:Fa
 yn:Fa
 yo:Fa
 yp:Fa
 yq:Fa
 yr:Fa
 yt:Fa
 yu:Fa
 yw:Fa
 a_c_Branch_init:Addr
 d_c_Branch_init:FuncData
 a_c_Reader_init:Addr
 d_c_Reader_init:FuncData
 a_c_Reader_root:Addr
 d_c_Reader_root:FuncData
 a_c_Reader_read:Addr
 d_c_Reader_read:FuncData
 a_c_Reader_finish:Addr
 d_c_Reader_finish:FuncData
 a_c_Reader_read_opening:Addr
 d_c_Reader_read_opening:FuncData
 a_c_Reader_read_closing:Addr
 d_c_Reader_read_closing:FuncData
 a_c_Reader_read_run:Addr
 d_c_Reader_read_run:FuncData
 a_c_Reader_open_names:Addr
 d_c_Reader_open_names:FuncData
 a_c_Reader_is_in_frame:Addr
 d_c_Reader_is_in_frame:FuncData
 a_c_Reader_last_wall:Addr
 d_c_Reader_last_wall:FuncData
 a_c_Reader_enter:Addr
 d_c_Reader_enter:FuncData
 a_c_Reader_leave:Addr
 d_c_Reader_leave:FuncData
 a_c_Reader_drop:Addr
 d_c_Reader_drop:FuncData
 a_c_Reader_put_in:Addr
 d_c_Reader_put_in:FuncData
 a_c_Reader_close_behind:Addr
 d_c_Reader_close_behind:FuncData
 a_c_Reader_put_in_waiting:Addr
 d_c_Reader_put_in_waiting:FuncData
 a_c_Reader_add_text:Addr
 d_c_Reader_add_text:FuncData
 c_WALL_SORTS:Addr
 v_LONGEST_NAME:Value
 v_NAME:Value
 v_SORT:Value
 v_HOST:Value
 v_SHUTS:Value
 v_BARS:Value
 v_ROOT_NAME:Value
 v_MOST_OPEN:Value
 c_TOLD_FOR:Addr
 c_ESCAPED:Addr
 v_START:Value
 v_STOP:Value
 v_BLANKS:Value
 k_Branch:Addr
 k_Reader:Addr
structure Txt(K:Fg)(mg:Str->Option Value)(t:Adr):Prop where
 za:Fok K mg "has_letters_of_name" R6 ["word"] t.za
 zb:Fok K mg "row_of" xg5 ["rows","name"] t.zb
 zc:Fok K mg "sort_of" wv2 ["book","name"] t.zc
 zd:Fok K mg "is_wall" wv3 ["book","name"] t.zd
 ze:Fok K mg "host_of" wv4 ["book","name"] t.ze
 zf:Fok K mg "frame_of" wm2 ["book","name"] t.zf
 zh:Fok K mg "belongs" wv5 ["book","name","frame"] t.zh
 zi:Fok K mg "is_text" wv6 ["part"] t.zi
 zj:Fok K mg "straight_above" qj8 ["names"] t.zj
 zk:Fok K mg "near_of" wv7 ["book","names"] t.zk
 zm:Fok K mg "share_a_name" qg9 ["names","others"] t.zm
 zn:Fok K mg "closing" wv8 ["book","names","name"] t.zn
 zo:Fok K mg "opening" wv9 ["book","names","name"] t.zo
 zp:Fok K mg "hosts_for" wf3 ["book","names"] t.zp
 zr:Fok K mg "wanted" xg6 ["book","names","name"] t.zr
 zt:Fok K mg "wanted_by_guest" qh0 ["book","names","name"] t.zt
 zu:Fok K mg "kept_by_shuts" qm2 ["book","names","name"] t.zu
 zv:Fok K mg "hosts_within" qq5 ["book","name"] t.zv
 zw:Fok K mg "is_barred" wf4 ["book","kept","put"] t.zw
 zx:Fok K mg "escaped" ww0 ["text"] t.zx
 zy:Fok K mg "told_by" ww1 ["run"] t.zy
 zz:Fok K mg "lone_ones" qt6 ["run"] t.zz
 ya:Fok K mg "tokens_of" wf5 ["text"] t.ya
 yb:Fok K mg "settled_tokens" qj9 ["text","settled","searched"] t.yb
 yc:Fok K mg "tags_from" wf6 ["text","searched"] t.yc
 yd:Fok K mg "name_start" wa2 ["text","start"] t.yd
 ye:Fok K mg "tag_stop" wm3 ["text","start"] t.ye
 yf:Fok K mg "tag_between" qu9 ["text","start","stop"] t.yf
 yg:Fok K mg "runs_between" qq6 ["text","start","stop"] t.yg
 yh:Fok K mg "opening_of" wa3 ["name"] t.yh
 yi:Fok K mg "closing_of" wa4 ["name"] t.yi
 yj:Fok K mg "read_text" wf7 ["book","text"] t.yj
 yk:Fok K mg "reader_of" wf8 ["book","text"] t.yk
 yl:Fok K mg "those_that_wait" qh1 ["book","closed"] t.yl
 ym:Fok K mg "without_last" qq7 ["names","name"] t.ym
 yn:Fok K mg "may_come_anew" qm3 ["book","names","name"] t.yn
 yo:Fok K mg "_law_cell_at" qq8 ["_law_script","_law_k"] t.yo
 yp:Fok K mg "_law_mixed" wa5 ["_law_cell","_law_k"] t.yp
 yq:Fok K mg "_law_letters" qq9 ["_law_number"] t.yq
 yr:Fok K mg "_law_names" qh2 ["_law_cell"] t.yr
 yt:Fok K mg "_law_lie" wm4 ["_law_heap","_law_thing"] t.yt
 yu:Fok K mg "_law_ended" qp3 ["_law_names_here","_law_hosts","_law_text","_law_mends"] t.yu
 yw:Fok K mg "law" xg7 ["_law_script"] t.yw
 F_c_Branch_init:Fun K "__init__" "Branch.__init__" qm4 t.a_c_Branch_init t.d_c_Branch_init
 b_c_Branch_init:T7 K t.d_c_Branch_init ["self","name","place"] []
 m_c_Branch_init:Mk K t.k_Branch t.a_c_Branch_init
 F_c_Reader_init:Fun K "__init__" "Reader.__init__" qm5 t.a_c_Reader_init t.d_c_Reader_init
 b_c_Reader_init:T7 K t.d_c_Reader_init ["self","book"] []
 m_c_Reader_init:Mk K t.k_Reader t.a_c_Reader_init
 F_c_Reader_root:Fun K "root" "Reader.root" qm6 t.a_c_Reader_root t.d_c_Reader_root
 b_c_Reader_root:T7 K t.d_c_Reader_root ["self"] []
 m_c_Reader_root:qy4 K t.k_Reader "root" t.a_c_Reader_root
 F_c_Reader_read:Fun K "read" "Reader.read" qm7 t.a_c_Reader_read t.d_c_Reader_read
 b_c_Reader_read:T7 K t.d_c_Reader_read ["self","kind","start","signs","told"] []
 m_c_Reader_read:qy4 K t.k_Reader "read" t.a_c_Reader_read
 F_c_Reader_finish:Fun K "finish" "Reader.finish" qh3 t.a_c_Reader_finish t.d_c_Reader_finish
 b_c_Reader_finish:T7 K t.d_c_Reader_finish ["self","size"] []
 m_c_Reader_finish:qy4 K t.k_Reader "finish" t.a_c_Reader_finish
 F_c_Reader_read_opening:Fun K "read_opening" "Reader.read_opening" U2 t.a_c_Reader_read_opening t.d_c_Reader_read_opening
 b_c_Reader_read_opening:T7 K t.d_c_Reader_read_opening ["self","start","signs","name"] []
 m_c_Reader_read_opening:qy4 K t.k_Reader "read_opening" t.a_c_Reader_read_opening
 F_c_Reader_read_closing:Fun K "read_closing" "Reader.read_closing" U3 t.a_c_Reader_read_closing t.d_c_Reader_read_closing
 b_c_Reader_read_closing:T7 K t.d_c_Reader_read_closing ["self","start","signs","name"] []
 m_c_Reader_read_closing:qy4 K t.k_Reader "read_closing" t.a_c_Reader_read_closing
 F_c_Reader_read_run:Fun K "read_run" "Reader.read_run" qc2 t.a_c_Reader_read_run t.d_c_Reader_read_run
 b_c_Reader_read_run:T7 K t.d_c_Reader_read_run ["self","start","signs","told"] []
 m_c_Reader_read_run:qy4 K t.k_Reader "read_run" t.a_c_Reader_read_run
 F_c_Reader_open_names:Fun K "open_names" "Reader.open_names" R7 t.a_c_Reader_open_names t.d_c_Reader_open_names
 b_c_Reader_open_names:T7 K t.d_c_Reader_open_names ["self"] []
 m_c_Reader_open_names:qy4 K t.k_Reader "open_names" t.a_c_Reader_open_names
 F_c_Reader_is_in_frame:Fun K "is_in_frame" "Reader.is_in_frame" V3 t.a_c_Reader_is_in_frame t.d_c_Reader_is_in_frame
 b_c_Reader_is_in_frame:T7 K t.d_c_Reader_is_in_frame ["self"] []
 m_c_Reader_is_in_frame:qy4 K t.k_Reader "is_in_frame" t.a_c_Reader_is_in_frame
 F_c_Reader_last_wall:Fun K "last_wall" "Reader.last_wall" T3 t.a_c_Reader_last_wall t.d_c_Reader_last_wall
 b_c_Reader_last_wall:T7 K t.d_c_Reader_last_wall ["self"] []
 m_c_Reader_last_wall:qy4 K t.k_Reader "last_wall" t.a_c_Reader_last_wall
 F_c_Reader_enter:Fun K "enter" "Reader.enter" qk0 t.a_c_Reader_enter t.d_c_Reader_enter
 b_c_Reader_enter:T7 K t.d_c_Reader_enter ["self","name"] []
 m_c_Reader_enter:qy4 K t.k_Reader "enter" t.a_c_Reader_enter
 F_c_Reader_leave:Fun K "leave" "Reader.leave" qk1 t.a_c_Reader_leave t.d_c_Reader_leave
 b_c_Reader_leave:T7 K t.d_c_Reader_leave ["self"] []
 m_c_Reader_leave:qy4 K t.k_Reader "leave" t.a_c_Reader_leave
 F_c_Reader_drop:Fun K "drop" "Reader.drop" qm8 t.a_c_Reader_drop t.d_c_Reader_drop
 b_c_Reader_drop:T7 K t.d_c_Reader_drop ["self","start","signs","rule"] []
 m_c_Reader_drop:qy4 K t.k_Reader "drop" t.a_c_Reader_drop
 F_c_Reader_put_in:Fun K "put_in" "Reader.put_in" qh4 t.a_c_Reader_put_in t.d_c_Reader_put_in
 b_c_Reader_put_in:T7 K t.d_c_Reader_put_in ["self","name","start","rule"] []
 m_c_Reader_put_in:qy4 K t.k_Reader "put_in" t.a_c_Reader_put_in
 F_c_Reader_close_behind:Fun K "close_behind" "Reader.close_behind" U4 t.a_c_Reader_close_behind t.d_c_Reader_close_behind
 b_c_Reader_close_behind:T7 K t.d_c_Reader_close_behind ["self","kept","start","rule"] []
 m_c_Reader_close_behind:qy4 K t.k_Reader "close_behind" t.a_c_Reader_close_behind
 F_c_Reader_put_in_waiting:Fun K "put_in_waiting" "Reader.put_in_waiting" S0 t.a_c_Reader_put_in_waiting t.d_c_Reader_put_in_waiting
 b_c_Reader_put_in_waiting:T7 K t.d_c_Reader_put_in_waiting ["self","start"] []
 m_c_Reader_put_in_waiting:qy4 K t.k_Reader "put_in_waiting" t.a_c_Reader_put_in_waiting
 F_c_Reader_add_text:Fun K "add_text" "Reader.add_text" qc3 t.a_c_Reader_add_text t.d_c_Reader_add_text
 b_c_Reader_add_text:T7 K t.d_c_Reader_add_text ["self","start","signs","told"] []
 m_c_Reader_add_text:qy4 K t.k_Reader "add_text" t.a_c_Reader_add_text
 g_WALL_SORTS:mg "WALL_SORTS"=some (.ref t.c_WALL_SORTS)
 q_WALL_SORTS:∀ H:Hp,SqT K H t.c_WALL_SORTS [.str "room",.str "frame"]
 g_LONGEST_NAME:mg "LONGEST_NAME"=some t.v_LONGEST_NAME/\J8 (.int 8) t.v_LONGEST_NAME
 g_NAME:mg "NAME"=some t.v_NAME/\J8 (.int 0) t.v_NAME
 g_SORT:mg "SORT"=some t.v_SORT/\J8 (.int 1) t.v_SORT
 g_HOST:mg "HOST"=some t.v_HOST/\J8 (.int 2) t.v_HOST
 g_SHUTS:mg "SHUTS"=some t.v_SHUTS/\J8 (.int 3) t.v_SHUTS
 g_BARS:mg "BARS"=some t.v_BARS/\J8 (.int 4) t.v_BARS
 g_ROOT_NAME:mg "ROOT_NAME"=some t.v_ROOT_NAME/\J8 (.str "") t.v_ROOT_NAME
 g_MOST_OPEN:mg "MOST_OPEN"=some t.v_MOST_OPEN/\J8 (.int 20) t.v_MOST_OPEN
 g_TOLD_FOR:mg "TOLD_FOR"=some (.ref t.c_TOLD_FOR)
 q_TOLD_FOR:∀ H:Hp,SqT K H t.c_TOLD_FOR [.str "&l;",.str "&a;"]
 g_ESCAPED:mg "ESCAPED"=some (.ref t.c_ESCAPED)
 q_ESCAPED:∀ H:Hp,SqT K H t.c_ESCAPED [.str "<",.str "&"]
 g_START:mg "START"=some t.v_START/\J8 (.int 1) t.v_START
 g_STOP:mg "STOP"=some t.v_STOP/\J8 (.int 2) t.v_STOP
 g_BLANKS:mg "BLANKS"=some t.v_BLANKS/\J8 (.str " \n") t.v_BLANKS
 z_all:mg "all"=none
 z_any:mg "any"=none
 z_enumerate:mg "enumerate"=none
 z_int:mg "int"=none
 z_isinstance:mg "isinstance"=none
 z_len:mg "len"=none
 z_range:mg "range"=none
 z_reversed:mg "reversed"=none
 z_str:mg "str"=none
 z_tuple:mg "tuple"=none
 n_Branch:mg "Branch"=some (.ref t.k_Branch)
 n_Reader:mg "Reader"=some (.ref t.k_Reader)
 cz:Cz K t.k_Branch t.k_Reader
section
variable{P:Program}{w:World}{base:Heap}{t:Adr}
theorem qh5:B8 ["word"] ["word"] (B1 R6):=by walk_at "k"
theorem xn9:B8 ["rows","name","row"] ["rows","name"] (B1 xg5):=by walk_at "k"
theorem xg8:B8 ["book","name","row"] ["book","name"] (B1 wv2):=by walk_at "k"
theorem xg9:B8 ["book","name"] ["book","name"] (B1 wv3):=by walk_at "k"
theorem xh0:B8 ["book","name","row"] ["book","name"] (B1 wv4):=by walk_at "k"
theorem wx6:B8 ["book","name","row"] ["book","name"] (B1 wm2):=by walk_at "k"
theorem xh1:B8 ["book","name","frame","above"] ["book","name","frame"] (B1 wv5):=by walk_at "k"
theorem xh2:B8 ["part"] ["part"] (B1 wv6):=by walk_at "k"
theorem qt7:B8 ["names"] ["names"] (B1 qj8):=by walk_at "k"
theorem xh3:B8 ["book","names","start","number","name"] ["book","names"] (B1 wv7):=by walk_at "k"
theorem wb4:B8 ["names","others"] ["names","others"] (B1 qg9):=by walk_at "k"
theorem xh4:B8 ["book","names","name","number"] ["book","names","name"] (B1 wv8):=by walk_at "k"
theorem xh5:B8 ["book","names","name","plan","kept","put"] ["book","names","name"] (B1 wv9):=by walk_at "k"
theorem wq9:B8 ["book","names","hosts"] ["book","names"] (B1 wf3):=by walk_at "k"
theorem wh8:B8 ["book","names","name","frame","number","plan"] ["book","names","name"] (B1 xg6):=by walk_at "k"
theorem qr0:B8 ["book","names","name","hosts"] ["book","names","name"] (B1 qh0):=by walk_at "k"
theorem qx1:B8 ["book","names","name","shuts","first_near","number"] ["book","names","name"] (B1 qm2):=by walk_at "k"
theorem wb5:B8 ["book","name","hosts","host"] ["book","name"] (B1 qq5):=by walk_at "k"
theorem wr0:B8 ["book","kept","put","number","name","near"] ["book","kept","put"] (B1 wf4):=by walk_at "k"
theorem xh6:B8 ["text"] ["text"] (B1 ww0):=by walk_at "k"
theorem xh7:B8 ["run"] ["run"] (B1 ww1):=by walk_at "k"
theorem wr1:B8 ["run"] ["run"] (B1 qt6):=by walk_at "k"
theorem wr2:B8 ["text","tokens","settled"] ["text"] (B1 wf5):=by walk_at "k"
theorem qt8:B8 ["text","settled","searched","tokens","tag"] ["text","settled","searched"] (B1 qj9):=by walk_at "k"
theorem wr3:B8 ["text","searched","tags","start","stop"] ["text","searched"] (B1 wf6):=by walk_at "k"
theorem wj6:B8 ["text","start"] ["text","start"] (B1 wa2):=by walk_at "k"
theorem wx7:B8 ["text","start","first","end"] ["text","start"] (B1 wm3):=by walk_at "k"
theorem wf9:B8 ["text","start","stop","first","kind"] ["text","start","stop"] (B1 qu9):=by walk_at "k"
theorem wb6:B8 ["text","start","stop"] ["text","start","stop"] (B1 qq6):=by walk_at "k"
theorem wj7:B8 ["name"] ["name"] (B1 wa3):=by walk_at "k"
theorem wj8:B8 ["name"] ["name"] (B1 wa4):=by walk_at "k"
theorem wr4:B8 ["book","text","reader"] ["book","text"] (B1 wf7):=by walk_at "k"
theorem wr5:B8 ["book","text","reader","kind","start","stop","told"] ["book","text"] (B1 wf8):=by walk_at "k"
theorem qr1:B8 ["book","closed","waiting","name"] ["book","closed"] (B1 qh1):=by walk_at "k"
theorem wb7:B8 ["names","name","number"] ["names","name"] (B1 qq7):=by walk_at "k"
theorem qx2:B8 ["book","names","name","row","unfit"] ["book","names","name"] (B1 qm3):=by walk_at "k"
theorem wb8:B8 ["_law_script","_law_k"] ["_law_script","_law_k"] (B1 qq8):=by walk_at "k"
theorem wj9:B8 ["_law_cell","_law_k","_law_half","_law_number"] ["_law_cell","_law_k"] (B1 wa5):=by walk_at "k"
theorem wb9:B8 ["_law_number","_law_signs","_law_width","_law_j"] ["_law_number"] (B1 qq9):=by walk_at "k"
theorem wk0:B8 ["_law_cell","_law_letters_here","_law_names_here","_law_k","_law_signs","_law_name","_law_spare"] ["_law_cell"] (B1 qh2):=by walk_at "k"
theorem wx8:B8 ["_law_heap","_law_thing"] ["_law_heap","_law_thing"] (B1 wm4):=by walk_at "k"
theorem wk1:B8 ["_law_names_here","_law_hosts","_law_text","_law_mends"] ["_law_names_here","_law_hosts","_law_text","_law_mends"] (B1 qp3):=by walk_at "k"
theorem zd7:B8 ["_law_script","_law_names_here","_law_book","_law_text","_law_hosts","_law_mends","_law_ran","_law_cell","_law_number","_law_start","_law_way","_law_blank","_law_word","_law_tree"] ["_law_script"] (B1 xg7):=by walk_at "k"
theorem qx3:B8 ["self","name","place"] ["self","name","place"] (B1 qm4):=by walk_at "k"
theorem qx4:B8 ["self","book"] ["self","book"] (B1 qm5):=by walk_at "k"
theorem qx5:B8 ["self"] ["self"] (B1 qm6):=by walk_at "k"
theorem qx6:B8 ["self","kind","start","signs","told"] ["self","kind","start","signs","told"] (B1 qm7):=by walk_at "k"
theorem qr2:B8 ["self","size"] ["self","size"] (B1 qh3):=by walk_at "k"
theorem qd0:B8 ["self","start","signs","name","plan","put"] ["self","start","signs","name"] (B1 U2):=by walk_at "k"
theorem qd1:B8 ["self","start","signs","name","number","wall"] ["self","start","signs","name"] (B1 U3):=by walk_at "k"
theorem ql6:B8 ["self","start","signs","told","hosts","host","number","place"] ["self","start","signs","told"] (B1 qc2):=by walk_at "k"
theorem qh6:B8 ["self"] ["self"] (B1 R7):=by walk_at "k"
theorem qf1:B8 ["self"] ["self"] (B1 V3):=by walk_at "k"
theorem qj2:B8 ["self","walls"] ["self"] (B1 T3):=by walk_at "k"
theorem qt9:B8 ["self","name","above"] ["self","name"] (B1 qk0):=by walk_at "k"
theorem qu0:B8 ["self","branch"] ["self"] (B1 qk1):=by walk_at "k"
theorem qx7:B8 ["self","start","signs","rule"] ["self","start","signs","rule"] (B1 qm8):=by walk_at "k"
theorem qr3:B8 ["self","name","start","rule"] ["self","name","start","rule"] (B1 qh4):=by walk_at "k"
theorem qd2:B8 ["self","kept","start","rule","closed","name"] ["self","kept","start","rule"] (B1 U4):=by walk_at "k"
theorem Y6:B8 ["self","start","wall","names","name"] ["self","start"] (B1 S0):=by walk_at "k"
theorem ql7:B8 ["self","start","signs","told","branch","ahead"] ["self","start","signs","told"] (B1 qc3):=by walk_at "k"
theorem wa6(T:Txt K mg t):J7 P w K mg base CX0 1 t.za.a t.za.d ["word"] (Q5 K):=by
 refine T.za.F.ok qh5 (by walk_at "n") (fun cdv A outer s H vs Q E hr h=>⟨R4 K,?_,qz5 h⟩)
 have S:=qh5
 refine A8 ?_
 refine C6 ?_
 exact(yb5 (xb1 xp5 xp5 B0 (D3 D2 rfl T.z_len boot_len (A0 (pv 0) A4)) (M1 rfl T.g_LONGEST_NAME.1 T.g_LONGEST_NAME.2)) (yb4 (D3 (yr1 rfl) rfl T.z_all boot_all (A0 (qy7 rfl (U9 (osc:=B1 R6) (ON:=["word"]) (N:=["sign"]) (fr:=[none]) (by decide +kernel) rfl rfl) (yk4 (pv 0)) (fun _ _ _ _ _ _=>(J0 (i:=0) (show List.Nodup (["sign"]:List Str) by decide +kernel) rfl (Or.inl rfl))) qs0 (fun _ _ _ _ _ _=>wn6) (fun _ _ _ _ _ _=>(xb1 xp5 xp5 C0 (pv 0) C0))) A4))))
theorem qx8(T:Txt K mg t):J7 P w K mg base CX0 1 t.zb.a t.zb.d ["rows","name"] (qe6 K):=by
 refine T.zb.F.ok xn9 (ye8 K) (fun cdv A outer s H vs Q E hr h=>⟨wo7 K,?_,yr6 h⟩)
 have S:=xn9
 refine A6 ?_ ?_
 ·refine X7 PassesOwn.never rfl ?_ ?_ ?_
  ·exact(qb9 (pv 0))
  ·exact(J0 (i:=2) S.nd rfl (Or.inl rfl))
  ·refine A8 ?_
   refine L4 ?_ ?_ ?_
   ·exact(C4 (R8 (qf5 hr)) (D8 (B7 (C9 hr)) (pv 2) (M1 rfl T.g_NAME.1 T.g_NAME.2) (fun _ _=>rfl)) (pv 1) (D0 _))
   ·refine A8 ?_
    exact(C6 (pv 2))
   ·exact E1
 refine A8 ?_
 exact(C6 U0)
theorem qu1(T:Txt K mg t):J7 P w K mg base CX0 1 t.zf.a t.zf.d ["book","name"] (qe7 K):=by
 refine T.zf.F.ok wx6 (by walk_at "n") (fun cdv A outer s H vs Q E hr h=>⟨wk9 K,?_,xw8 h⟩)
 have S:=wx6
 refine A6 ?_ ?_
 ·refine X7 PassesOwn.never rfl ?_ ?_ ?_
  ·exact(qb9 (pv 0))
  ·exact(J0 (i:=2) S.nd rfl (Or.inl rfl))
  ·refine A8 ?_
   refine L4 ?_ ?_ ?_
   ·exact(PW.pt (qp4 (C4 (R8 (qf5 hr)) (D8 (B7 (C9 hr)) (pv 2) (M1 rfl T.g_SORT.1 T.g_SORT.2) (fun _ _=>rfl)) C0 (D0 _)) (qn4 (C4 (R8 (qf5 hr)) (D8 (B7 (C9 hr)) (pv 2) (M1 rfl T.g_HOST.1 T.g_HOST.2) (fun _ _=>rfl)) (pv 1) (D0 _)))))
   ·refine A8 ?_
    exact(C6 (D8 (B7 (C9 hr)) (pv 2) (M1 rfl T.g_NAME.1 T.g_NAME.2) (fun _ _=>rfl)))
   ·exact E1
 refine A8 ?_
 exact(C6 U0)
theorem yh4(T:Txt K mg t):J7 P w K mg base CX0 1 t.zi.a t.zi.d ["part"] (qz0 K):=by
 refine T.zi.F.ok xh2 (by walk_at "n") (fun cdv A outer s H vs Q E hr h=>⟨wg7 K,?_,yf3 h⟩)
 have S:=xh2
 refine A8 ?_
 exact(C6 (D3 qj4 rfl T.z_isinstance boot_isinstance (A0 (pv 0) (A0 (xo2 rfl T.z_str boot_str rfl) A4))))
theorem qh7(T:Txt K mg t):J7 P w K mg base CX0 1 t.zj.a t.zj.d ["names"] (O7 K):=by
 refine T.zj.F.ok qt7 (by walk_at "n") (fun cdv A outer s H vs Q E hr h=>⟨Z1 K,?_,wp5 h⟩)
 have S:=qt7
 refine A8 ?_
 exact(C6 (qp5 (C4 ql9 (D3 D2 rfl T.z_len boot_len (A0 (pv 0) A4)) B0 (D0 _)) (D8 (B7 (C9 hr)) (pv 0) (qi0 W0 B0) (fun _ _=>rfl)) (M1 rfl T.g_ROOT_NAME.1 T.g_ROOT_NAME.2)))
theorem wc0(T:Txt K mg t):J7 P w K mg base CX0 1 t.zm.a t.zm.d ["names","others"] (V6 K):=by
 refine T.zm.F.ok wb4 (by walk_at "n") (fun cdv A outer s H vs Q E hr h=>⟨qg2 K,?_,wy7 h⟩)
 have S:=wb4
 refine A8 ?_
 refine C6 ?_
 exact(D3 (yr2 rfl) rfl T.z_any boot_any (A0 (qy7 rfl (U9 (osc:=B1 qg9) (ON:=["names","others"]) (N:=["others","name"]) (fr:=[some 1,none]) (by decide +kernel) rfl rfl) (qb9 (pv 0)) (fun _ _ _ _ _ _=>(J0 (i:=1) (show List.Nodup (["others","name"]:List Str) by decide +kernel) rfl (Or.inl rfl))) qs0 (fun _ _ _ _ _ _=>wn6) (fun _ _ _ _ _ _=>(qn5 (wk7 (C9 hr)) (pv 1) (pv 0) (by with_unfolding_all rfl)))) A4))
theorem yh5(T:Txt K mg t):J7 P w K mg base CX0 1 t.zx.a t.zx.d ["text"] (qz7 K):=by
 refine T.zx.F.ok xh6 (by walk_at "n") (fun cdv A outer s H vs Q E hr h=>⟨wh4 K,?_,yg4 h⟩)
 have S:=xh6
 refine A8 ?_
 exact(C6 (wz9 (wz9 (pv 0))))
theorem yh6(T:Txt K mg t):J7 P w K mg base CX0 1 t.zy.a t.zy.d ["run"] (qz4 K):=by
 refine T.zy.F.ok xh7 (by walk_at "n") (fun cdv A outer s H vs Q E hr h=>⟨wh3 K,?_,yg2 h⟩)
 have S:=xh7
 refine A8 ?_
 exact(C6 (wz9 (wz9 (pv 0))))
theorem xt1(T:Txt K mg t):J7 P w K mg base CX0 1 t.zz.a t.zz.d ["run"] (qo3 K):=by
 refine T.zz.F.ok wr1 (by walk_at "n") (fun cdv A outer s H vs Q E hr h=>⟨qs3 K t.c_TOLD_FOR t.c_ESCAPED,?_,xq7 T.q_TOLD_FOR T.q_ESCAPED h⟩)
 have S:=wr1
 refine A8 ?_
 refine C6 ?_
 exact(qy7 rfl (U9 (osc:=B1 qt6) (ON:=["run"]) (N:=["run","number","sign"]) (fr:=[some 0,none,none]) (by decide +kernel) rfl rfl) (yx0 rfl T.z_enumerate (A0 (pv 0) A4)) (fun _ _ _ _ _ _=>(xo4 rfl (qc4 (J0 (i:=1) (show List.Nodup (["run","number","sign"]:List Str) by decide +kernel) rfl (Or.inl rfl)) (qc4 (J0 (i:=2) (show List.Nodup (["run","number","sign"]:List Str) by decide +kernel) rfl (Or.inl rfl)) wz4)))) (zp5 (yj2 rfl (yj2 rfl zp4))) (fun _ _ _ _ _ _=>(wz7 (PW.pt (qp4 (C4 (wk7 (C9 hr)) (pv 2) (M1 rfl T.g_ESCAPED rfl) (by with_unfolding_all rfl)) (qn4 (C4 (xm1 (C9 hr)) (Q8 qp6 (pv 0) (N9 (pv 1)) (N9 (B9 C5 (pv 1) B0))) (M1 rfl T.g_TOLD_FOR rfl) (by with_unfolding_all rfl))))))) (fun _ _ _ _ _ _=>(pv 1)))
theorem wk2(T:Txt K mg t):J7 P w K mg base CX0 1 t.yd.a t.yd.d ["text","start"] (qc9 K):=by
 refine T.yd.F.ok wj6 (by walk_at "n") (fun cdv A outer s H vs Q E hr h=>⟨qo4 K,?_,xj2 h⟩)
 have S:=wj6
 refine A8 ?_
 exact(C6 (qp5 (V9 (Q9 PySem.F.plainAttrs_str PySem.F.slot_str_startswith PySem.F.type_str_startswith yq8 (pv 0) (A0 C0 (A0 (pv 1) A4)))) (B9 C5 (pv 1) B0) (B9 C5 (pv 1) B0)))
theorem xk2(T:Txt K mg t):J7 P w K mg base CX0 1 t.yh.a t.yh.d ["name"] (qk8 K):=by
 refine T.yh.F.ok wj7 (by walk_at "n") (fun cdv A outer s H vs Q E hr h=>⟨qo7 K,?_,xj5 h⟩)
 have S:=wj7
 refine A8 ?_
 exact(C6 (zm6 (pv 0)))
theorem xk3(T:Txt K mg t):J7 P w K mg base CX0 1 t.yi.a t.yi.d ["name"] (qk9 K):=by
 refine T.yi.F.ok wj8 (by walk_at "n") (fun cdv A outer s H vs Q E hr h=>⟨qo8 K,?_,xj6 h⟩)
 have S:=wj8
 refine A8 ?_
 exact(C6 (zm6 (pv 0)))
theorem wz2(T:Txt K mg t):J7 P w K mg base CX0 1 t.ym.a t.ym.d ["names","name"] (qe1 K):=by
 refine T.ym.F.ok wb7 (by walk_at "n") (fun cdv A outer s H vs Q E hr h=>⟨qg6 K,?_,wz0 h⟩)
 have S:=wb7
 refine A6 ?_ ?_
 ·refine zst (i:=2) S ?_
  exact(B9 wr7 (D3 D2 rfl T.z_len boot_len (A0 (pv 0) A4)) B0)
 refine A6 ?_ ?_
 ·refine wn1 PassesOwn.never ?_ ?_
  ·exact(C4 (wk4 (qf5 hr)) (D8 (B7 (C9 hr)) (pv 0) (pv 2) (fun _ _=>rfl)) (pv 1) (D0 _))
  ·refine A8 ?_
   refine zst (i:=2) S ?_
   exact(B9 wr7 (pv 2) B0)
 refine A8 ?_
 exact(C6 (B9 C5 (Q8 qp6 (pv 0) qn6 (N9 (pv 2))) (Q8 qp6 (pv 0) (N9 (B9 C5 (pv 2) B0)) qn6)))
theorem wz3(T:Txt K mg t):J7 P w K mg base CX0 1 t.yo.a t.yo.d ["_law_script","_law_k"] (qd6 K):=by
 refine T.yo.F.ok wb8 (by walk_at "n") (fun cdv A outer s H vs Q E hr h=>⟨qf9 K,?_,wy4 h⟩)
 have S:=wb8
 refine A6 ?_ ?_
 ·refine L4 ?_ ?_ ?_
  ·exact(C4 xc0 (pv 1) (D3 D2 rfl T.z_len boot_len (A0 (pv 0) A4)) (D0 _))
  ·refine A8 ?_
   exact(C6 (D8 (B7 (C9 hr)) (pv 0) (pv 1) (fun _ _=>rfl)))
  ·exact E1
 refine A8 ?_
 exact(C6 B0)
theorem qv0(T:Txt K mg t):J7 P w K mg base CX0 1 t.yp.a t.yp.d ["_law_cell","_law_k"] (V8 K):=by
 refine T.yp.F.ok wj9 (by walk_at "n") (fun cdv A outer s H vs Q E hr h=>⟨qn8 K,?_,xi7 h⟩)
 have S:=wj9
 refine A6 ?_ ?_
 ·refine zst (i:=2) S ?_
  exact(B9 wg3 (pv 0) B0)
 refine A6 ?_ ?_
 ·refine L4 ?_ ?_ ?_
  ·exact(C4 (R8 (qf5 hr)) (B9 qb7 (pv 0) B0) B0 (D0 _))
  ·refine A8 ?_
   exact(C6 (B9 qb7 (B9 yt9 (pv 2) (B9 qk2 B0 (pv 1))) (B9 yt8 B0 B0)))
  ·exact E1
 refine A6 ?_ ?_
 ·refine zst (i:=3) S ?_
  exact(B9 C5 (B9 qb7 (pv 2) B0) (B9 qk2 B0 (B9 C5 (pv 1) B0)))
 refine A6 ?_ ?_
 ·refine zst (i:=3) S ?_
  exact(B9 qb7 (B9 C5 (B9 qk2 (pv 3) (pv 3)) (B9 qk2 B0 (pv 1))) B0)
 refine A8 ?_
 exact(C6 (B9 qb7 (B9 C5 (B9 C5 (B9 qk2 (pv 3) (pv 3)) (B9 qk2 B0 (pv 1))) B0) B0))
theorem qm9(T:Txt K mg t):J7 P w K mg base CX0 1 t.yq.a t.yq.d ["_law_number"] (S1 K):=by
 refine T.yq.F.ok wb9 (by walk_at "n") (fun cdv A outer s H vs Q E hr h=>⟨qg0 K,?_,wy5 h⟩)
 have S:=wb9
 refine A6 ?_ ?_
 ·refine zst (i:=1) S ?_
  exact(M8 A4)
 refine A6 ?_ ?_
 ·refine zst (i:=2) S ?_
  exact(B9 C5 B0 (B9 qb7 (pv 0) B0))
 refine A6 ?_ ?_
 ·refine zst (i:=0) S ?_
  exact(B9 wg3 (pv 0) B0)
 refine A6 ?_ ?_
 ·refine X7 PassesOwn.never rfl ?_ ?_ ?_
  ·exact(xk9 rfl T.z_range (A0 (pv 2) A4))
  ·exact(J0 (i:=3) S.nd rfl (Or.inl rfl))
  ·refine A6 ?_ ?_
   ·exact(C7 (Q9 PySem.F.plainAttrs_list PySem.F.slot_list_append PySem.F.type_list_append J5 (pv 1) (A0 (B9 qb7 (pv 0) B0) A4)))
   refine A8 ?_
   refine zst (i:=0) S ?_
   exact(B9 wg3 (pv 0) B0)
 refine A8 ?_
 exact(C6 (pv 1))
theorem wg0(T:Txt K mg t):J7 P w K mg base CX0 1 t.yt.a t.yt.d ["_law_heap","_law_thing"] (Y4 K):=by
 refine T.yt.F.ok wx8 (by walk_at "n") (fun cdv A outer s H vs Q E hr h=>⟨wa1 K,?_,ya1 h⟩)
 have S:=wx8
 refine A8 ?_
 refine L4 ?_ ?_ ?_
 ·exact(PW.pt (qp4 (V9 (D3 qj4 rfl T.z_isinstance boot_isinstance (A0 (pv 1) (A0 (xo2 rfl T.z_str boot_str rfl) A4)))) (qp4 (C4 (wk4 (qf5 hr)) (pv 0) (M8 A4) (D0 _)) (qn4 (V9 (D3 qj4 rfl T.z_isinstance boot_isinstance (A0 (D8 (B7 (C9 hr)) (pv 0) (qi0 W0 B0) (fun _ _=>rfl)) (A0 (xo2 rfl T.z_str boot_str rfl) A4))))))))
 ·refine A8 ?_
  exact(yb8 (B9 C5 (D8 (B7 (C9 hr)) (pv 0) (qi0 W0 B0) (fun _ _=>rfl)) (pv 1)) (yb7 (pv 0) (qi0 W0 B0) (xc3 (C9 hr))))
 ·refine A8 ?_
  exact(C7 (Q9 PySem.F.plainAttrs_list PySem.F.slot_list_append PySem.F.type_list_append J5 (pv 0) (A0 (pv 1) A4)))
theorem xk4(T:Txt K mg t):J7 P w K mg base CX0 1 t.yu.a t.yu.d ["_law_names_here","_law_hosts","_law_text","_law_mends"] (ql0 K):=by
 refine T.yu.F.ok wk1 (by walk_at "n") (fun cdv A outer s H vs Q E hr h=>⟨qp2 K,?_,xk1 h⟩)
 have S:=wk1
 refine A6 ?_ ?_
 ·refine L4 ?_ ?_ ?_
  ·exact(C4 (wk4 (qf5 hr)) (pv 1) (M8 A4) (D0 _))
  ·refine A8 ?_
   exact(C7 (Q9 PySem.F.plainAttrs_list PySem.F.slot_list_append PySem.F.type_list_append J5 (pv 3) (A0 (D7 (A0 (D3 D2 rfl T.z_len boot_len (A0 (pv 2) A4)) (A0 (D3 D2 rfl T.z_len boot_len (A0 (pv 2) A4)) (A0 (B9 C5 (B9 C5 C0 (D8 (B7 (C9 hr)) (pv 0) B0 (fun _ _=>rfl))) C0) (A0 C0 A4))))) A4)))
  ·exact E1
 refine A6 ?_ ?_
 ·exact(C7 (Q9 PySem.F.plainAttrs_list PySem.F.slot_list_append PySem.F.type_list_append J5 (pv 3) (A0 (D7 (A0 (D3 D2 rfl T.z_len boot_len (A0 (pv 2) A4)) (A0 (D3 D2 rfl T.z_len boot_len (A0 (pv 2) A4)) (A0 (B9 C5 (B9 C5 C0 (D8 (B7 (C9 hr)) (pv 0) B0 (fun _ _=>rfl))) C0) (A0 C0 A4))))) A4)))
 refine A8 ?_
 refine C6 ?_
 refine D7 ?_
 refine A0 ?_ ?_
 ·exact C0
 refine A0 ?_ ?_
 ·refine D7 ?_
  refine A0 ?_ ?_
  ·refine D7 ?_
   refine A0 ?_ ?_
   ·exact(D8 (B7 (C9 hr)) (pv 0) B0 (fun _ _=>rfl))
   refine A0 ?_ ?_
   ·exact(O5 S7 rfl T.z_tuple boot_tuple (A0 (qy7 rfl (U9 (osc:=B1 qp3) (ON:=["_law_names_here","_law_hosts","_law_text","_law_mends"]) (N:=["_law_names_here","_law_host"]) (fr:=[some 0,none]) (by decide +kernel) rfl rfl) (qb9 (pv 1)) (fun _ _ _ _ _ _=>(J0 (i:=1) (show List.Nodup (["_law_names_here","_law_host"]:List Str) by decide +kernel) rfl (Or.inl rfl))) qs0 (fun _ _ _ _ _ _=>wn6) (fun _ _ _ _ _ _=>(D7 (A0 (D8 (B7 (C9 hr)) (pv 0) B0 (fun _ _=>rfl)) (A0 (O5 S7 rfl T.z_tuple boot_tuple (A0 (pv 1) A4)) A4))))) A4))
   exact A4
  exact A4
 exact A4
theorem qx9(T:Txt K mg t):J7 P w K mg base CX0 1 t.a_c_Branch_init t.d_c_Branch_init ["self","name","place"] (U1 K):=by
 refine T.F_c_Branch_init.ok qx3 (by walk_at "n") (fun cdv A outer s H vs Q E hr h=>⟨qd4 K,?_,ws8 T.cz h⟩)
 have S:=qx3
 refine A6 ?_ ?_
 ·exact(qu3 (pv 0) (pv 1) rfl)
 refine A6 ?_ ?_
 ·exact(qu3 (pv 0) (pv 2) rfl)
 refine A6 ?_ ?_
 ·exact(qu3 (pv 0) (M8 A4) rfl)
 refine A8 ?_
 exact(qu3 (pv 0) (M8 A4) rfl)
theorem ww2(T:Txt K mg t):J7 P w K mg base CX0 1 t.a_c_Reader_root t.d_c_Reader_root ["self"] (Z5 K):=by
 refine T.F_c_Reader_root.ok qx5 (by walk_at "n") (fun cdv A outer s H vs Q E hr h=>⟨qd9 K,?_,wu4 T.cz h⟩)
 have S:=qx5
 refine A8 ?_
 exact(C6 (D7 (A0 (M1 rfl T.g_ROOT_NAME.1 T.g_ROOT_NAME.2) (A0 (O5 S7 rfl T.z_tuple boot_tuple (A0 (E8 (D8 (B7 (C9 hr)) (E8 (pv 0) rfl) B0 (fun _ _=>rfl)) rfl) A4)) A4))))
theorem M0(T:Txt K mg t):J7 P w K mg base CX0 1 t.a_c_Reader_open_names t.d_c_Reader_open_names ["self"] (D9 K):=by
 refine T.F_c_Reader_open_names.ok qh6 (by walk_at "n") (fun cdv A outer s H vs Q E hr h=>⟨R5 K,?_,qz8 T.cz h⟩)
 have S:=qh6
 refine A8 ?_
 exact(C6 (O5 S7 rfl T.z_tuple boot_tuple (A0 (qy7 rfl (U9 (osc:=B1 R7) (ON:=["self"]) (N:=["branch"]) (fr:=[none]) (by decide +kernel) rfl rfl) (qb9 (Q8 qp6 (E8 (pv 0) rfl) (N9 B0) qn6)) (fun _ _ _ _ _ _=>(J0 (i:=0) (show List.Nodup (["branch"]:List Str) by decide +kernel) rfl (Or.inl rfl))) qs0 (fun _ _ _ _ _ _=>wn6) (fun _ _ _ _ _ _=>(E8 (pv 0) rfl))) A4)))
theorem qh8(T:Txt K mg t):J7 P w K mg base CX0 1 t.a_c_Reader_leave t.d_c_Reader_leave ["self"] (O8 K):=by
 refine T.F_c_Reader_leave.ok qu0 (by walk_at "n") (fun cdv A outer s H vs Q E hr h=>⟨Z6 K,?_,wq0 T.cz h⟩)
 have S:=qu0
 refine A6 ?_ ?_
 ·refine zst (i:=1) S ?_
  exact(yu9 PySem.F.plainAttrs_list PySem.F.slot_list_pop PySem.F.type_list_pop yv0 (E8 (pv 0) rfl))
 refine A8 ?_
 exact(C7 (Q9 PySem.F.plainAttrs_list PySem.F.slot_list_append PySem.F.type_list_append J5 (E8 (D8 (B7 (C9 hr)) (E8 (pv 0) rfl) (qi0 W0 B0) (fun _ _=>rfl)) rfl) (A0 (D7 (A0 (E8 (pv 1) rfl) (A0 (O5 S7 rfl T.z_tuple boot_tuple (A0 (E8 (pv 1) rfl) A4)) A4))) A4)))
theorem Q7(T:Txt K mg t):J7 P w K mg base CX0 1 t.a_c_Reader_drop t.d_c_Reader_drop ["self","start","signs","rule"] (L8 K):=by
 refine T.F_c_Reader_drop.ok qx7 (by walk_at "n") (fun cdv A outer s H vs Q E hr h=>⟨qd5 K,?_,ws9 T.cz h⟩)
 have S:=qx7
 refine A8 ?_
 exact(C7 (Q9 PySem.F.plainAttrs_list PySem.F.slot_list_append PySem.F.type_list_append J5 (E8 (pv 0) rfl) (A0 (D7 (A0 (pv 1) (A0 (B9 C5 (pv 1) (D3 D2 rfl T.z_len boot_len (A0 (pv 2) A4))) (A0 C0 (A0 (pv 3) A4))))) A4)))
theorem qr4(T:Txt K mg t):J7 P w K mg base CX0 2 t.zc.a t.zc.d ["book","name"] (Y1 K):=by
 refine T.zc.F.ok xg8 (by walk_at "n") (fun cdv A outer s H vs Q E hr h=>⟨ws4 K,?_,ye9 h⟩)
 have S:=xg8
 refine A6 ?_ ?_
 ·refine zst (i:=2) S ?_
  exact(zcl (qx8 T) hr T.zb B5 (A0 (pv 0) (A0 (pv 1) A4)))
 refine A8 ?_
 exact(C6 (qp5 (C4 wk5 (pv 2) U0 (D0 _)) U0 (D8 (B7 (C9 hr)) (pv 2) (M1 rfl T.g_SORT.1 T.g_SORT.2) (fun _ _=>rfl))))
theorem xh8(T:Txt K mg t):J7 P w K mg base CX0 2 t.ze.a t.ze.d ["book","name"] (qp8 K):=by
 refine T.ze.F.ok xh0 (by walk_at "n") (fun cdv A outer s H vs Q E hr h=>⟨ws5 K,?_,yf0 h⟩)
 have S:=xh0
 refine A6 ?_ ?_
 ·refine zst (i:=2) S ?_
  exact(zcl (qx8 T) hr T.zb B5 (A0 (pv 0) (A0 (pv 1) A4)))
 refine A6 ?_ ?_
 ·refine L4 ?_ ?_ ?_
  ·exact(PW.pt (yt0 (C4 wk5 (pv 2) U0 (D0 _)) (yb3 (C4 (wk4 (qf5 hr)) (D8 (B7 (C9 hr)) (pv 2) (M1 rfl T.g_SORT.1 T.g_SORT.2) (fun _ _=>rfl)) C0 (D0 _)))))
  ·refine A8 ?_
   exact(C6 U0)
  ·exact E1
 refine A8 ?_
 exact(C6 (D8 (B7 (C9 hr)) (pv 2) (M1 rfl T.g_HOST.1 T.g_HOST.2) (fun _ _=>rfl)))
theorem yh7(T:Txt K mg t):J7 P w K mg base CX0 2 t.zh.a t.zh.d ["book","name","frame"] (qy8 K):=by
 refine T.zh.F.ok xh1 (by walk_at "n") (fun cdv A outer s H vs Q E hr h=>⟨ws6 K,?_,yf1 h⟩)
 have S:=xh1
 refine A6 ?_ ?_
 ·refine zst (i:=3) S ?_
  exact(zcl (qu1 T) hr T.zf B5 (A0 (pv 0) (A0 (pv 1) A4)))
 refine A6 ?_ ?_
 ·refine wn1 PassesOwn.never ?_ ?_
  ·exact(C4 qv7 (pv 3) U0 (D0 _))
  ·refine A6 ?_ ?_
   ·refine L4 ?_ ?_ ?_
    ·exact(C4 (R8 (qf5 hr)) (pv 3) (pv 2) (D0 _))
    ·refine A8 ?_
     exact(C6 xu2)
    ·exact E1
   refine A8 ?_
   refine zst (i:=3) S ?_
   exact(zcl (qu1 T) hr T.zf B5 (A0 (pv 0) (A0 (pv 3) A4)))
 refine A8 ?_
 exact(C6 xu2)
theorem yb2(T:Txt K mg t):J7 P w K mg base CX0 2 t.ye.a t.ye.d ["text","start"] (qs4 K):=by
 refine T.ye.F.ok wx7 (by walk_at "n") (fun cdv A outer s H vs Q E hr h=>⟨qz6 K,?_,xy8 h⟩)
 have S:=wx7
 refine A6 ?_ ?_
 ·refine zst (i:=2) S ?_
  exact(zcl (wk2 T) hr T.yd B5 (A0 (pv 0) (A0 (pv 1) A4)))
 refine A6 ?_ ?_
 ·refine zst (i:=3) S ?_
  exact(Q9 PySem.F.plainAttrs_str PySem.F.slot_str_find PySem.F.type_str_find yx4 (pv 0) (A0 C0 (A0 (pv 2) (A0 (B9 C5 (B9 C5 (pv 2) (M1 rfl T.g_LONGEST_NAME.1 T.g_LONGEST_NAME.2)) B0) A4))))
 refine A6 ?_ ?_
 ·refine L4 ?_ ?_ ?_
  ·exact(PW.pt (yt0 (C4 xc0 (pv 3) B0 (D0 _)) (yb3 (xo3 (V9 (zcl (wa6 T) hr T.za B5 (A0 (Q8 qp6 (pv 0) (N9 (pv 2)) (N9 (pv 3))) A4)))))))
  ·refine A8 ?_
   exact(C6 U0)
  ·exact E1
 refine A8 ?_
 exact(C6 (B9 C5 (pv 3) B0))
theorem xh9(T:Txt K mg t):J7 P w K mg base CX0 2 t.yf.a t.yf.d ["text","start","stop"] (qg3 K):=by
 refine T.yf.F.ok wf9 (by walk_at "n") (fun cdv A outer s H vs Q E hr h=>⟨qk7 K,?_,xe4 h⟩)
 have S:=wf9
 refine A6 ?_ ?_
 ·refine zst (i:=3) S ?_
  exact(zcl (wk2 T) hr T.yd B5 (A0 (pv 0) (A0 (pv 1) A4)))
 refine A6 ?_ ?_
 ·refine zst (i:=4) S ?_
  exact(qp5 (C4 (R8 (qf5 hr)) (pv 3) (B9 C5 (pv 1) B0) (D0 _)) C0 C0)
 refine A8 ?_
 exact(C6 (D7 (A0 (pv 4) (A0 (pv 1) (A0 (pv 2) (A0 (Q8 qp6 (pv 0) (N9 (pv 3)) (N9 (B9 wr7 (pv 2) B0))) A4))))))
theorem wc1(T:Txt K mg t):J7 P w K mg base CX0 2 t.yg.a t.yg.d ["text","start","stop"] (S2 K):=by
 refine T.yg.F.ok wb6 (by walk_at "n") (fun cdv A outer s H vs Q E hr h=>⟨qg4 K,?_,wy9 h⟩)
 have S:=wb6
 refine A6 ?_ ?_
 ·refine L4 ?_ ?_ ?_
  ·exact(C4 (R8 (qf5 hr)) (pv 1) (pv 2) (D0 _))
  ·refine A8 ?_
   exact(C6 (M8 A4))
  ·exact E1
 refine A8 ?_
 exact(C6 (M8 (A0 (D7 (A0 C0 (A0 (pv 1) (A0 (pv 2) (A0 (zcl (yh6 T) hr T.zy B5 (A0 (Q8 qp6 (pv 0) (N9 (pv 1)) (N9 (pv 2))) A4)) A4))))) A4)))
theorem xk5(T:Txt K mg t):J7 P w K mg base CX0 2 t.yr.a t.yr.d ["_law_cell"] (qk6 K):=by
 refine T.yr.F.ok wk0 (by walk_at "n") (fun cdv A outer s H vs Q E hr h=>⟨qn9 K,?_,xi8 h⟩)
 have S:=wk0
 refine A6 ?_ ?_
 ·refine qf2 (i:=1) S.nd rfl (Or.inr rfl) ?_ rfl ?_
  ·exact C0
  ·walk_at "or"
 refine A6 ?_ ?_
 ·refine qf2 (i:=2) S.nd rfl (Or.inr rfl) ?_ rfl ?_
  ·exact(M8 A4)
  ·walk_at "or"
 refine A6 ?_ ?_
 ·refine X7 PassesOwn.never rfl ?_ ?_ ?_
  ·exact(xk9 rfl T.z_range (A0 B0 A4))
  ·exact(J0 (i:=3) S.nd rfl (Or.inl rfl))
  ·refine A6 ?_ ?_
   ·refine qf2 (i:=4) S.nd rfl (Or.inl rfl) ?_ rfl ?_
    ·refine zcl (qm9 T) hr T.yq B5 ?_
     refine A0 ?_ ?_
     ·exact(B9 qb7 (B9 yt9 (B9 wg3 (pv 0) B0) (B9 qk2 B0 (pv 3))) (B9 yt8 B0 B0))
     exact A4
    ·walk_at "or"
   refine A6 ?_ ?_
   ·refine L4 ?_ ?_ ?_
    ·exact(C4 (R8 (qf5 hr)) (B9 qb7 (pv 0) B0) B0 (D0 _))
    ·refine A6 ?_ ?_
     ·refine qf2 (i:=4) S.nd rfl (Or.inl rfl) ?_ rfl ?_
      ·refine zcl (qm9 T) hr T.yq B5 ?_
       refine A0 ?_ ?_
       ·exact(zcl (qv0 T) hr T.yp B5 (A0 (pv 0) (A0 B0 A4)))
       exact A4
      ·walk_at "or"
     refine A8 ?_
     exact(yb8 (B9 qb7 (B9 C5 (D8 (B7 (C9 hr)) (pv 4) (qi0 W0 B0) (fun _ _=>rfl)) (pv 3)) B0) (yb7 (pv 4) (qi0 W0 B0) (xc3 (C9 hr))))
    ·exact E1
   refine A6 ?_ ?_
   ·refine L4 ?_ ?_ ?_
    ·exact(C4 (R8 (qf5 hr)) (B9 qb7 (pv 0) B0) B0 (D0 _))
    ·refine A6 ?_ ?_
     ·refine zst (i:=4) S ?_
      exact(Q8 qp6 (zcl (qm9 T) hr T.yq B5 (A0 (B9 C5 B0 (B9 qk2 B0 (zcl (qv0 T) hr T.yp B5 (A0 (pv 0) (A0 B0 A4))))) A4)) qn6 (N9 (B9 C5 (B9 qb7 (pv 3) B0) B0)))
     refine A8 ?_
     exact(yb8 (B9 qb7 (B9 C5 (D8 (B7 (C9 hr)) (pv 4) B0 (fun _ _=>rfl)) (O5 ws3 rfl T.z_int boot_int (A0 (qn5 ql9 (pv 3) B0 (D0 _)) A4))) B0) (yb7 (pv 4) B0 (xc3 (C9 hr))))
    ·exact E1
   refine A6 ?_ ?_
   ·refine zst (i:=5) S ?_
    exact(Q9 PySem.F.plainAttrs_str PySem.F.slot_str_join PySem.F.type_str_join zf7 C0 (A0 (qy7 rfl (U9 (osc:=B1 qh2) (ON:=["_law_cell","_law_letters_here","_law_names_here","_law_k","_law_signs","_law_name","_law_spare"]) (N:=["_law_letters_here","_law_j"]) (fr:=[some 1,none]) (by decide +kernel) rfl rfl) (qb9 (pv 4)) (fun _ _ _ _ _ _=>(J0 (i:=1) (show List.Nodup (["_law_letters_here","_law_j"]:List Str) by decide +kernel) rfl (Or.inl rfl))) qs0 (fun _ _ _ _ _ _=>wn6) (fun _ _ _ _ _ _=>(D8 (B7 (C9 hr)) (pv 0) (pv 1) (fun _ _=>rfl)))) A4))
   refine A6 ?_ ?_
   ·exact(yj4 (i:=6) S.nd rfl rfl rfl (U9 (osc:=B1 qh2) (ON:=["_law_cell","_law_letters_here","_law_names_here","_law_k","_law_signs","_law_name","_law_spare"]) (N:=["_law_names_here","_law_letter"]) (fr:=[some 2,none]) (by decide +kernel) rfl rfl) (yk4 (pv 1)) (fun _ _ _ _ _ _=>(J0 (i:=1) (show List.Nodup (["_law_names_here","_law_letter"]:List Str) by decide +kernel) rfl (Or.inl rfl))) qs0 (fun _ _ _ _ _ _=>(wz7 (C4 (xm1 (C9 hr)) (B9 qk2 (pv 1) B0) (pv 0) (by with_unfolding_all rfl)))) (fun _ _ _ _ _ _=>(B9 qk2 (pv 1) B0)))
   refine A8 ?_
   exact(C7 (Q9 PySem.F.plainAttrs_list PySem.F.slot_list_append PySem.F.type_list_append J5 (pv 2) (A0 (D8 (B7 (C9 hr)) (M8 (A0 (pv 5) (A0 (D8 (B7 (C9 hr)) (pv 6) B0 (fun _ _=>rfl)) A4))) (O5 ws3 rfl T.z_int boot_int (A0 (qn5 (wk7 (C9 hr)) (pv 5) (B9 C5 (pv 2) (M8 (A0 C0 (A0 C0 A4)))) (by with_unfolding_all rfl)) A4)) (fun _ _=>rfl)) A4)))
 refine A8 ?_
 exact(C6 (pv 2))
theorem wg1(T:Txt K mg t):J7 P w K mg base CX0 2 t.a_c_Reader_add_text t.d_c_Reader_add_text ["self","start","signs","told"] (T1 K):=by
 refine T.F_c_Reader_add_text.ok ql7 (by walk_at "n") (fun cdv A outer s H vs Q E hr h=>⟨T8 K,?_,we9 T.cz h⟩)
 have S:=ql7
 refine A6 ?_ ?_
 ·refine zst (i:=4) S ?_
  exact(D8 (B7 (C9 hr)) (E8 (pv 0) rfl) (qi0 W0 B0) (fun _ _=>rfl))
 refine A6 ?_ ?_
 ·refine zst (i:=5) S ?_
  exact C0
 refine A6 ?_ ?_
 ·refine L4 ?_ ?_ ?_
  ·exact(PW.pt (qp4 (C4 ql9 (D3 D2 rfl T.z_len boot_len (A0 (E8 (pv 4) rfl) A4)) B0 (D0 _)) (qn4 (V9 (zcl (yh4 T) hr T.zi B5 (A0 (D8 (B7 (C9 hr)) (E8 (pv 4) rfl) (qi0 W0 B0) (fun _ _=>rfl)) A4))))))
  ·refine A8 ?_
   refine zst (i:=5) S ?_
   exact(yu9 PySem.F.plainAttrs_list PySem.F.slot_list_pop PySem.F.type_list_pop yv0 (E8 (pv 4) rfl))
  ·exact E1
 refine A6 ?_ ?_
 ·exact(C7 (Q9 PySem.F.plainAttrs_list PySem.F.slot_list_append PySem.F.type_list_append J5 (E8 (pv 0) rfl) (A0 (D7 (A0 (pv 1) (A0 (pv 2) (A0 (B9 Y9 (E8 (pv 4) rfl) (D7 (A0 (D3 D2 rfl T.z_len boot_len (A0 (E8 (pv 4) rfl) A4)) A4))) (A0 (D3 D2 rfl T.z_len boot_len (A0 (pv 5) A4)) A4))))) A4)))
 refine A8 ?_
 exact(C7 (Q9 PySem.F.plainAttrs_list PySem.F.slot_list_append PySem.F.type_list_append J5 (E8 (pv 4) rfl) (A0 (B9 Y9 (pv 5) (pv 3)) A4)))
theorem wa7(T:Txt K mg t):J7 P w K mg base CX0 3 t.zd.a t.zd.d ["book","name"] (qe4 K):=by
 refine T.zd.F.ok xg9 (by walk_at "n") (fun cdv A outer s H vs Q E hr h=>⟨wg8 K t.c_WALL_SORTS,?_,yf5 T.q_WALL_SORTS h⟩)
 have S:=xg9
 refine A8 ?_
 exact(C6 (qn5 (wk7 (C9 hr)) (zcl (qr4 T) hr T.zc B5 (A0 (pv 0) (A0 (pv 1) A4))) (M1 rfl T.g_WALL_SORTS rfl) (by with_unfolding_all rfl)))
theorem wc2(T:Txt K mg t):J7 P w K mg base CX0 3 t.zv.a t.zv.d ["book","name"] (V5 K):=by
 refine T.zv.F.ok wb5 (by walk_at "n") (fun cdv A outer s H vs Q E hr h=>⟨qg1 K,?_,wy6 h⟩)
 have S:=wb5
 refine A6 ?_ ?_
 ·refine zst (i:=2) S ?_
  exact(M8 A4)
 refine A6 ?_ ?_
 ·refine zst (i:=3) S ?_
  exact(zcl (xh8 T) hr T.ze B5 (A0 (pv 0) (A0 (pv 1) A4)))
 refine A6 ?_ ?_
 ·refine wn1 PassesOwn.never ?_ ?_
  ·exact(C4 qv7 (pv 3) U0 (D0 _))
  ·refine A6 ?_ ?_
   ·exact(C7 (Q9 PySem.F.plainAttrs_list PySem.F.slot_list_append PySem.F.type_list_append J5 (pv 2) (A0 (pv 3) A4)))
   refine A8 ?_
   refine zst (i:=3) S ?_
   exact(zcl (xh8 T) hr T.ze B5 (A0 (pv 0) (A0 (pv 3) A4)))
 refine A8 ?_
 exact(C6 (O5 S7 rfl T.z_tuple boot_tuple (A0 (pv 2) A4)))
theorem xt2(T:Txt K mg t):J7 P w K mg base CX0 3 t.yc.a t.yc.d ["text","searched"] (qo5 K):=by
 refine T.yc.F.ok wr3 (by walk_at "n") (fun cdv A outer s H vs Q E hr h=>⟨qs5 K,?_,xr1 h⟩)
 have S:=wr3
 refine A6 ?_ ?_
 ·refine zst (i:=2) S ?_
  exact(M8 A4)
 refine A6 ?_ ?_
 ·refine zst (i:=3) S ?_
  exact(Q9 PySem.F.plainAttrs_str PySem.F.slot_str_find PySem.F.type_str_find xc5 (pv 0) (A0 C0 (A0 (pv 1) A4)))
 refine A6 ?_ ?_
 ·refine wn1 PassesOwn.never ?_ ?_
  ·exact(C4 zp8 (pv 3) B0 (D0 _))
  ·refine A6 ?_ ?_
   ·refine zst (i:=4) S ?_
    exact(zcl (yb2 T) hr T.ye B5 (A0 (pv 0) (A0 (pv 3) A4)))
   refine A8 ?_
   refine L4 ?_ ?_ ?_
   ·exact(C4 wk5 (pv 4) U0 (D0 _))
   ·refine A8 ?_
    refine zst (i:=3) S ?_
    exact(Q9 PySem.F.plainAttrs_str PySem.F.slot_str_find PySem.F.type_str_find xc5 (pv 0) (A0 C0 (A0 (B9 C5 (pv 3) B0) A4)))
   ·refine A6 ?_ ?_
    ·exact(C7 (Q9 PySem.F.plainAttrs_list PySem.F.slot_list_append PySem.F.type_list_append J5 (pv 2) (A0 (zcl (xh9 T) hr T.yf B5 (A0 (pv 0) (A0 (pv 3) (A0 (pv 4) A4)))) A4)))
    refine A8 ?_
    refine zst (i:=3) S ?_
    exact(Q9 PySem.F.plainAttrs_str PySem.F.slot_str_find PySem.F.type_str_find xc5 (pv 0) (A0 C0 (A0 (pv 4) A4)))
 refine A8 ?_
 exact(C6 (pv 2))
theorem ww3(T:Txt K mg t):J7 P w K mg base CX0 3 t.a_c_Reader_init t.d_c_Reader_init ["self","book"] (Z4 K):=by
 refine T.F_c_Reader_init.ok qx4 (by walk_at "n") (fun cdv A outer s H vs Q E hr h=>⟨qd8 K t.k_Branch,?_,wu2 T.cz h⟩)
 have S:=qx4
 refine A6 ?_ ?_
 ·exact(qu3 (pv 0) (pv 1) rfl)
 refine A6 ?_ ?_
 ·exact(qu3 (pv 0) (M8 (A0 (xo8 T.m_c_Branch_init (qx9 T) (hr.mono (by walk_at "le")) rfl T.n_Branch T.b_c_Branch_init .nil B5 (A0 (M1 rfl T.g_ROOT_NAME.1 T.g_ROOT_NAME.2) (A0 (D7 A4) A4))) A4)) rfl)
 refine A6 ?_ ?_
 ·exact(qu3 (pv 0) (M8 A4) rfl)
 refine A8 ?_
 exact(qu3 (pv 0) (M8 A4) rfl)
theorem qy0(T:Txt K mg t):J7 P w K mg base CX0 3 t.a_c_Reader_is_in_frame t.d_c_Reader_is_in_frame ["self"] (O9 K):=by
 refine T.F_c_Reader_is_in_frame.ok qf1 (by walk_at "n") (fun cdv A outer s H vs Q E hr h=>⟨Q6 K t.k_Reader,?_,qw5 T.cz h⟩)
 have S:=qf1
 refine A8 ?_
 refine C6 ?_
 refine qn5 (R8 (qf5 hr)) ?_ ?_ (D0 _)
 ·refine zcl (qr4 T) hr T.zc B5 ?_
  refine A0 ?_ ?_
  ·exact(E8 (pv 0) rfl)
  refine A0 ?_ ?_
  ·refine zcl (qh7 T) hr T.zj B5 ?_
   refine A0 ?_ ?_
   ·exact(S6 (pv 0) T.cz.cl_Reader T.m_c_Reader_open_names (M0 T) (hr.mono (by walk_at "le")) T.b_c_Reader_open_names .nil B5)
   exact A4
  exact A4
 ·exact C0
theorem qu2(T:Txt K mg t):J7 P w K mg base CX0 3 t.a_c_Reader_enter t.d_c_Reader_enter ["self","name"] (S8 K):=by
 refine T.F_c_Reader_enter.ok qt9 (by walk_at "n") (fun cdv A outer s H vs Q E hr h=>⟨Z0 K t.k_Branch,?_,wp3 T.cz h⟩)
 have S:=qt9
 refine A6 ?_ ?_
 ·refine zst (i:=2) S ?_
  exact(D8 (B7 (C9 hr)) (E8 (pv 0) rfl) (qi0 W0 B0) (fun _ _=>rfl))
 refine A8 ?_
 exact(C7 (Q9 PySem.F.plainAttrs_list PySem.F.slot_list_append PySem.F.type_list_append J5 (E8 (pv 0) rfl) (A0 (xo8 T.m_c_Branch_init (qx9 T) (hr.mono (by walk_at "le")) rfl T.n_Branch T.b_c_Branch_init .nil B5 (A0 (pv 1) (A0 (B9 Y9 (E8 (pv 2) rfl) (D7 (A0 (D3 D2 rfl T.z_len boot_len (A0 (E8 (pv 2) rfl) A4)) A4))) A4))) A4)))
theorem wm5(T:Txt K mg t):J7 P w K mg base CX0 4 t.zk.a t.zk.d ["book","names"] (qj7 K):=by
 refine T.zk.F.ok xh3 (by walk_at "n") (fun cdv A outer s H vs Q E hr h=>⟨wh1 K,?_,yf7 h⟩)
 have S:=xh3
 refine A6 ?_ ?_
 ·refine zst (i:=2) S ?_
  exact B0
 refine A6 ?_ ?_
 ·refine X7 PassesOwn.never rfl ?_ ?_ ?_
  ·exact(xw5 rfl T.z_enumerate (A0 (pv 1) A4))
  ·exact(xo4 rfl (qc4 (J0 (i:=3) S.nd rfl (Or.inl rfl)) (qc4 (J0 (i:=4) S.nd rfl (Or.inl rfl)) wz4)))
  ·refine A8 ?_
   refine L4 ?_ ?_ ?_
   ·exact(V9 (zcl (wa7 T) hr T.zd B5 (A0 (pv 0) (A0 (pv 4) A4))))
   ·refine A8 ?_
    refine zst (i:=2) S ?_
    exact(B9 Y9 (pv 3) B0)
   ·exact E1
 refine A8 ?_
 exact(C6 (O5 S7 rfl T.z_tuple boot_tuple (A0 (Q8 wo4 (pv 1) (N9 (pv 2)) qn6) A4)))
theorem wm6(T:Txt K mg t):J7 P w K mg base CX0 4 t.zn.a t.zn.d ["book","names","name"] (qq0 K):=by
 refine T.zn.F.ok xh4 (by walk_at "n") (fun cdv A outer s H vs Q E hr h=>⟨wg9 K,?_,yf6 h⟩)
 have S:=xh4
 refine A6 ?_ ?_
 ·refine X7 PassesOwn.never rfl ?_ ?_ ?_
  ·exact(yr3 rfl T.z_range (A0 (B9 wr7 (D3 D2 rfl T.z_len boot_len (A0 (pv 1) A4)) B0) (A0 (qi0 W0 B0) (A0 (qi0 W0 B0) A4))))
  ·exact(J0 (i:=3) S.nd rfl (Or.inl rfl))
  ·refine A6 ?_ ?_
   ·refine L4 ?_ ?_ ?_
    ·exact(C4 (R8 (qf5 hr)) (D8 (B7 (C9 hr)) (pv 1) (pv 3) (fun _ _=>rfl)) (pv 2) (D0 _))
    ·refine A8 ?_
     exact(C6 (pv 3))
    ·exact E1
   refine A8 ?_
   refine L4 ?_ ?_ ?_
   ·exact(PW.pt (qp4 (V9 (zcl (wa7 T) hr T.zd B5 (A0 (pv 0) (A0 (D8 (B7 (C9 hr)) (pv 1) (pv 3) (fun _ _=>rfl)) A4)))) (qn4 (xo3 (V9 (zcl (yh7 T) hr T.zh B5 (A0 (pv 0) (A0 (D8 (B7 (C9 hr)) (pv 1) (pv 3) (fun _ _=>rfl)) (A0 (pv 2) A4)))))))))
   ·refine A8 ?_
    exact(C6 U0)
   ·exact E1
 refine A8 ?_
 exact(C6 U0)
theorem xt3(T:Txt K mg t):J7 P w K mg base CX0 4 t.zp.a t.zp.d ["book","names"] (qo0 K):=by
 refine T.zp.F.ok wq9 (by walk_at "n") (fun cdv A outer s H vs Q E hr h=>⟨qs1 K,?_,xq5 h⟩)
 have S:=wq9
 refine A6 ?_ ?_
 ·refine qf2 (i:=2) S.nd rfl (Or.inl rfl) ?_ rfl ?_
  ·refine zcl (wc2 T) hr T.zv B5 ?_
   refine A0 ?_ ?_
   ·exact(pv 0)
   refine A0 ?_ ?_
   ·exact(zcl (qh7 T) hr T.zj B5 (A0 (pv 1) A4))
   exact A4
  ·walk_at "or"
 refine A8 ?_
 exact(C6 (qp5 (C4 ql9 (B9 C5 (D3 D2 rfl T.z_len boot_len (A0 (pv 1) A4)) (D3 D2 rfl T.z_len boot_len (A0 (pv 2) A4))) (M1 rfl T.g_MOST_OPEN.1 T.g_MOST_OPEN.2) (D0 _)) U0 (pv 2)))
theorem wr6(T:Txt K mg t):J7 P w K mg base CX0 4 t.yb.a t.yb.d ["text","settled","searched"] (W7 K):=by
 refine T.yb.F.ok qt8 (by walk_at "n") (fun cdv A outer s H vs Q E hr h=>⟨Z3 K,?_,wp7 h⟩)
 have S:=qt8
 refine A6 ?_ ?_
 ·refine zst (i:=3) S ?_
  exact(M8 A4)
 refine A6 ?_ ?_
 ·refine X7 PassesOwn.never rfl ?_ ?_ ?_
  ·exact(qb9 (zcl (xt2 T) hr T.yc B5 (A0 (pv 0) (A0 (pv 2) A4))))
  ·exact(J0 (i:=4) S.nd rfl (Or.inl rfl))
  ·refine A6 ?_ ?_
   ·exact(C7 (Q9 PySem.F.plainAttrs_list PySem.F.slot_list_extend PySem.F.type_list_extend xl6 (pv 3) (A0 (zcl (wc1 T) hr T.yg B5 (A0 (pv 0) (A0 (pv 1) (A0 (D8 (B7 (C9 hr)) (pv 4) (M1 rfl T.g_START.1 T.g_START.2) (fun _ _=>rfl)) A4)))) A4)))
   refine A6 ?_ ?_
   ·exact(C7 (Q9 PySem.F.plainAttrs_list PySem.F.slot_list_append PySem.F.type_list_append J5 (pv 3) (A0 (pv 4) A4)))
   refine A8 ?_
   refine zst (i:=1) S ?_
   exact(D8 (B7 (C9 hr)) (pv 4) (M1 rfl T.g_STOP.1 T.g_STOP.2) (fun _ _=>rfl))
 refine A8 ?_
 exact(C6 (pv 3))
theorem wm7(T:Txt K mg t):J7 P w K mg base CX0 4 t.yl.a t.yl.d ["book","closed"] (V1 K):=by
 refine T.yl.F.ok qr1 (by walk_at "n") (fun cdv A outer s H vs Q E hr h=>⟨X1 K,?_,wl8 h⟩)
 have S:=qr1
 refine A6 ?_ ?_
 ·refine zst (i:=2) S ?_
  exact(M8 A4)
 refine A6 ?_ ?_
 ·refine X7 PassesOwn.never rfl ?_ ?_ ?_
  ·exact(qb9 (pv 1))
  ·exact(J0 (i:=3) S.nd rfl (Or.inl rfl))
  ·refine A6 ?_ ?_
   ·refine L4 ?_ ?_ ?_
    ·exact(V9 (zcl (wa7 T) hr T.zd B5 (A0 (pv 0) (A0 (pv 3) A4))))
    ·refine A8 ?_
     exact yt2
    ·exact E1
   refine A8 ?_
   refine L4 ?_ ?_ ?_
   ·exact(C4 (R8 (qf5 hr)) (zcl (qr4 T) hr T.zc B5 (A0 (pv 0) (A0 (pv 3) A4))) C0 (D0 _))
   ·refine A8 ?_
    exact(C7 (Q9 PySem.F.plainAttrs_list PySem.F.slot_list_append PySem.F.type_list_append J5 (pv 2) (A0 (pv 3) A4)))
   ·exact E1
 refine A8 ?_
 exact(C6 (pv 2))
theorem W2(T:Txt K mg t):J7 P w K mg base CX0 4 t.a_c_Reader_last_wall t.d_c_Reader_last_wall ["self"] (M2 K):=by
 refine T.F_c_Reader_last_wall.ok qj2 (by walk_at "n") (fun cdv A outer s H vs Q E hr h=>⟨T0 K,?_,wc4 T.cz h⟩)
 have S:=qj2
 refine A6 ?_ ?_
 ·exact(yj4 (i:=1) S.nd rfl rfl rfl (U9 (osc:=B1 T3) (ON:=["self","walls"]) (N:=["self","branch"]) (fr:=[some 0,none]) (by decide +kernel) rfl rfl) (qb9 (E8 (pv 0) rfl)) (fun _ _ _ _ _ _=>(J0 (i:=1) (show List.Nodup (["self","branch"]:List Str) by decide +kernel) rfl (Or.inl rfl))) qs0 (fun _ _ _ _ _ _=>(wz7 (V9 (zcl (wa7 T) hr T.zd B5 (A0 (E8 (pv 0) rfl) (A0 (E8 (pv 1) rfl) A4)))))) (fun _ _ _ _ _ _=>(pv 1)))
 refine A8 ?_
 refine C6 ?_
 exact(qp5 (C4 ql9 (D3 D2 rfl T.z_len boot_len (A0 (pv 1) A4)) B0 (D0 _)) (D8 (B7 (C9 hr)) (pv 1) (qi0 W0 B0) (fun _ _=>rfl)) (D8 (B7 (C9 hr)) (E8 (pv 0) rfl) B0 (fun _ _=>rfl)))
theorem qe5(T:Txt K mg t):J7 P w K mg base CX0 4 t.a_c_Reader_put_in t.d_c_Reader_put_in ["self","name","start","rule"] (N6 K):=by
 refine T.F_c_Reader_put_in.ok qr3 (by walk_at "n") (fun cdv A outer s H vs Q E hr h=>⟨W9 K t.k_Reader,?_,wl7 T.cz h⟩)
 have S:=qr3
 refine A6 ?_ ?_
 ·exact(C7 (Q9 PySem.F.plainAttrs_list PySem.F.slot_list_append PySem.F.type_list_append J5 (E8 (pv 0) rfl) (A0 (D7 (A0 (pv 2) (A0 (pv 2) (A0 (zcl (xk2 T) hr T.yh B5 (A0 (pv 1) A4)) (A0 (pv 3) A4))))) A4)))
 refine A8 ?_
 exact(C7 (N8 (pv 0) T.cz.cl_Reader T.m_c_Reader_enter (qu2 T) (hr.mono (by walk_at "le")) T.b_c_Reader_enter .nil B5 (A0 (pv 1) A4)))
theorem ww4(T:Txt K mg t):J7 P w K mg base CX0 5 t.zu.a t.zu.d ["book","names","name"] (Z2 K):=by
 refine T.zu.F.ok qx1 (by walk_at "n") (fun cdv A outer s H vs Q E hr h=>⟨qd7 K,?_,wt6 h⟩)
 have S:=qx1
 refine A6 ?_ ?_
 ·refine zst (i:=3) S ?_
  exact(D8 (B7 (C9 hr)) (zcl (qx8 T) hr T.zb B5 (A0 (pv 0) (A0 (pv 2) A4))) (M1 rfl T.g_SHUTS.1 T.g_SHUTS.2) (fun _ _=>rfl))
 refine A6 ?_ ?_
 ·refine qf2 (i:=4) S.nd rfl (Or.inl rfl) ?_ rfl ?_
  ·refine B9 wr7 ?_ ?_
   ·exact(D3 D2 rfl T.z_len boot_len (A0 (pv 1) A4))
   ·exact(D3 D2 rfl T.z_len boot_len (A0 (zcl (wm5 T) hr T.zk B5 (A0 (pv 0) (A0 (pv 1) A4))) A4))
  ·walk_at "or"
 refine A6 ?_ ?_
 ·refine X7 PassesOwn.never rfl ?_ ?_ ?_
  ·exact(yo7 rfl T.z_range (A0 (pv 4) (A0 (D3 D2 rfl T.z_len boot_len (A0 (pv 1) A4)) A4)))
  ·exact(J0 (i:=5) S.nd rfl (Or.inl rfl))
  ·refine A8 ?_
   refine L4 ?_ ?_ ?_
   ·exact(C4 (wk7 (C9 hr)) (D8 (B7 (C9 hr)) (pv 1) (pv 5) (fun _ _=>rfl)) (pv 3) (by with_unfolding_all rfl))
   ·refine A8 ?_
    exact(C6 (pv 5))
   ·exact E1
 refine A8 ?_
 exact(C6 (D3 D2 rfl T.z_len boot_len (A0 (pv 1) A4)))
theorem xt4(T:Txt K mg t):J7 P w K mg base CX0 5 t.zw.a t.zw.d ["book","kept","put"] (qo2 K):=by
 refine T.zw.F.ok wr0 (by walk_at "n") (fun cdv A outer s H vs Q E hr h=>⟨qs2 K,?_,xq6 h⟩)
 have S:=wr0
 refine A6 ?_ ?_
 ·refine X7 PassesOwn.never rfl ?_ ?_ ?_
  ·exact(xw5 rfl T.z_enumerate (A0 (pv 2) A4))
  ·exact(xo4 rfl (qc4 (J0 (i:=3) S.nd rfl (Or.inl rfl)) (qc4 (J0 (i:=4) S.nd rfl (Or.inl rfl)) wz4)))
  ·refine A6 ?_ ?_
   ·refine zst (i:=5) S ?_
    exact(zcl (wm5 T) hr T.zk B5 (A0 (pv 0) (A0 (B9 Y9 (pv 1) (Q8 wo4 (pv 2) qn6 (N9 (pv 3)))) A4)))
   refine A8 ?_
   refine L4 ?_ ?_ ?_
   ·exact(V9 (zcl (wc0 T) hr T.zm B5 (A0 (pv 5) (A0 (D8 (B7 (C9 hr)) (zcl (qx8 T) hr T.zb B5 (A0 (pv 0) (A0 (pv 4) A4))) (M1 rfl T.g_BARS.1 T.g_BARS.2) (fun _ _=>rfl)) A4))))
   ·refine A8 ?_
    exact(C6 xu2)
   ·exact E1
 refine A8 ?_
 exact(C6 xu2)
theorem xt5(T:Txt K mg t):J7 P w K mg base CX0 5 t.ya.a t.ya.d ["text"] (qo6 K):=by
 refine T.ya.F.ok wr2 (by walk_at "n") (fun cdv A outer s H vs Q E hr h=>⟨qs6 K,?_,xr2 h⟩)
 have S:=wr2
 refine A6 ?_ ?_
 ·refine zst (i:=1) S ?_
  exact(zcl (wr6 T) hr T.yb B5 (A0 (pv 0) (A0 B0 (A0 B0 A4))))
 refine A6 ?_ ?_
 ·refine zst (i:=2) S ?_
  exact(qp5 (C4 ql9 (D3 D2 rfl T.z_len boot_len (A0 (pv 1) A4)) B0 (D0 _)) (D8 (B7 (C9 hr)) (D8 (B7 (C9 hr)) (pv 1) (qi0 W0 B0) (fun _ _=>rfl)) (M1 rfl T.g_STOP.1 T.g_STOP.2) (fun _ _=>rfl)) B0)
 refine A8 ?_
 exact(C6 (B9 C5 (pv 1) (zcl (wc1 T) hr T.yg B5 (A0 (pv 0) (A0 (pv 2) (A0 (D3 D2 rfl T.z_len boot_len (A0 (pv 0) A4)) A4))))))
theorem ww5(T:Txt K mg t):J7 P w K mg base CX0 5 t.yn.a t.yn.d ["book","names","name"] (Z7 K):=by
 refine T.yn.F.ok qx2 (by walk_at "n") (fun cdv A outer s H vs Q E hr h=>⟨qe0 K,?_,wu7 h⟩)
 have S:=qx2
 refine A6 ?_ ?_
 ·refine zst (i:=3) S ?_
  exact(zcl (qx8 T) hr T.zb B5 (A0 (pv 0) (A0 (pv 2) A4)))
 refine A6 ?_ ?_
 ·refine zst (i:=4) S ?_
  exact(B9 Y9 (B9 Y9 (D7 (A0 (pv 2) A4)) (D8 (B7 (C9 hr)) (pv 3) (M1 rfl T.g_SHUTS.1 T.g_SHUTS.2) (fun _ _=>rfl))) (D8 (B7 (C9 hr)) (pv 3) (M1 rfl T.g_BARS.1 T.g_BARS.2) (fun _ _=>rfl)))
 refine A8 ?_
 refine C6 ?_
 exact(yb5 (qn5 xc0 (D3 D2 rfl T.z_len boot_len (A0 (pv 1) A4)) (M1 rfl T.g_MOST_OPEN.1 T.g_MOST_OPEN.2) (D0 _)) (yb4 (yt1 (zcl (wc0 T) hr T.zm B5 (A0 (zcl (wm5 T) hr T.zk B5 (A0 (pv 0) (A0 (pv 1) A4))) (A0 (pv 4) A4))))))
theorem T6(T:Txt K mg t):J7 P w K mg base CX0 5 t.a_c_Reader_close_behind t.d_c_Reader_close_behind ["self","kept","start","rule"] (J9 K):=by
 refine T.F_c_Reader_close_behind.ok qd2 (by walk_at "n") (fun cdv A outer s H vs Q E hr h=>⟨P1 K t.k_Reader,?_,qu6 T.cz h⟩)
 have S:=qd2
 refine A6 ?_ ?_
 ·refine zst (i:=4) S ?_
  exact(Q8 wo4 (S6 (pv 0) T.cz.cl_Reader T.m_c_Reader_open_names (M0 T) (hr.mono (by walk_at "le")) T.b_c_Reader_open_names .nil B5) (N9 (pv 1)) qn6)
 refine A6 ?_ ?_
 ·refine X7 PassesOwn.never rfl ?_ ?_ ?_
  ·exact(zh6 rfl T.z_reversed (A0 (pv 4) A4))
  ·exact(J0 (i:=5) S.nd rfl (Or.inl rfl))
  ·refine A6 ?_ ?_
   ·exact(C7 (Q9 PySem.F.plainAttrs_list PySem.F.slot_list_append PySem.F.type_list_append J5 (E8 (pv 0) rfl) (A0 (D7 (A0 (pv 2) (A0 (pv 2) (A0 (zcl (xk3 T) hr T.yi B5 (A0 (pv 5) A4)) (A0 (pv 3) A4))))) A4)))
   refine A8 ?_
   exact(C7 (S6 (pv 0) T.cz.cl_Reader T.m_c_Reader_leave (qh8 T) (hr.mono (by walk_at "le")) T.b_c_Reader_leave .nil B5))
 refine A8 ?_
 exact(C7 (Q9 PySem.F.plainAttrs_list PySem.F.slot_list_extend PySem.F.type_list_extend xl6 (E8 (S6 (pv 0) T.cz.cl_Reader T.m_c_Reader_last_wall (W2 T) (hr.mono (by walk_at "le")) T.b_c_Reader_last_wall .nil B5) rfl) (A0 (zcl (wm7 T) hr T.yl B5 (A0 (E8 (pv 0) rfl) (A0 (pv 4) A4))) A4)))
theorem qr5(T:Txt K mg t):J7 P w K mg base CX0 6 t.zt.a t.zt.d ["book","names","name"] (V0 K):=by
 refine T.zt.F.ok qr0 (by walk_at "n") (fun cdv A outer s H vs Q E hr h=>⟨W5 K,?_,wl4 h⟩)
 have S:=qr0
 refine A6 ?_ ?_
 ·refine qf2 (i:=3) S.nd rfl (Or.inl rfl) ?_ rfl ?_
  ·refine zcl (wc2 T) hr T.zv B5 ?_
   refine A0 ?_ ?_
   ·exact(pv 0)
   refine A0 ?_ ?_
   ·exact(zcl (qh7 T) hr T.zj B5 (A0 (pv 1) A4))
   exact A4
  ·walk_at "or"
 refine A6 ?_ ?_
 ·refine L4 ?_ ?_ ?_
  ·exact(C4 ql9 (D3 D2 rfl T.z_len boot_len (A0 (pv 3) A4)) B0 (D0 _))
  ·refine A8 ?_
   exact(C6 (D7 (A0 (D3 D2 rfl T.z_len boot_len (A0 (pv 1) A4)) (A0 (B9 Y9 (pv 3) (D7 (A0 (pv 2) A4))) A4))))
  ·exact E1
 refine A8 ?_
 exact(C6 (D7 (A0 (zcl (ww4 T) hr T.zu B5 (A0 (pv 0) (A0 (pv 1) (A0 (pv 2) A4)))) (A0 (D7 (A0 (pv 2) A4)) A4))))
theorem wm8(T:Txt K mg t):J7 P w K mg base CX0 6 t.a_c_Reader_finish t.d_c_Reader_finish ["self","size"] (V2 K):=by
 refine T.F_c_Reader_finish.ok qr2 (by walk_at "n") (fun cdv A outer s H vs Q E hr h=>⟨X2 K t.k_Reader,?_,wm0 T.cz h⟩)
 have S:=qr2
 refine A8 ?_
 exact(C7 (N8 (pv 0) T.cz.cl_Reader T.m_c_Reader_close_behind (T6 T) (hr.mono (by walk_at "le")) T.b_c_Reader_close_behind .nil B5 (A0 B0 (A0 (pv 1) (A0 C0 A4)))))
theorem qv1(T:Txt K mg t):J7 P w K mg base CX0 6 t.a_c_Reader_read_closing t.d_c_Reader_read_closing ["self","start","signs","name"] (O1 K):=by
 refine T.F_c_Reader_read_closing.ok qd1 (by walk_at "n") (fun cdv A outer s H vs Q E hr h=>⟨P4 K t.k_Reader,?_,qu8 T.cz h⟩)
 have S:=qd1
 refine A6 ?_ ?_
 ·refine qf2 (i:=4) S.nd rfl (Or.inl rfl) ?_ rfl ?_
  ·refine zcl (wm6 T) hr T.zn B5 ?_
   refine A0 ?_ ?_
   ·exact(E8 (pv 0) rfl)
   refine A0 ?_ ?_
   ·exact(S6 (pv 0) T.cz.cl_Reader T.m_c_Reader_open_names (M0 T) (hr.mono (by walk_at "le")) T.b_c_Reader_open_names .nil B5)
   refine A0 ?_ ?_
   ·exact(pv 3)
   exact A4
  ·walk_at "or"
 refine A6 ?_ ?_
 ·refine zst (i:=5) S ?_
  exact(S6 (pv 0) T.cz.cl_Reader T.m_c_Reader_last_wall (W2 T) (hr.mono (by walk_at "le")) T.b_c_Reader_last_wall .nil B5)
 refine A8 ?_
 refine L4 ?_ ?_ ?_
 ·exact(C4 qv7 (pv 4) U0 (D0 _))
 ·refine A6 ?_ ?_
  ·exact(C7 (N8 (pv 0) T.cz.cl_Reader T.m_c_Reader_close_behind (T6 T) (hr.mono (by walk_at "le")) T.b_c_Reader_close_behind .nil B5 (A0 (B9 C5 (pv 4) B0) (A0 (pv 1) (A0 C0 A4)))))
  refine A8 ?_
  exact(C7 (S6 (pv 0) T.cz.cl_Reader T.m_c_Reader_leave (qh8 T) (hr.mono (by walk_at "le")) T.b_c_Reader_leave .nil B5))
 ·refine A8 ?_
  refine L4 ?_ ?_ ?_
  ·exact(C4 (wk7 (C9 hr)) (pv 3) (E8 (pv 5) rfl) (by with_unfolding_all rfl))
  ·refine A6 ?_ ?_
   ·exact(qu3 (pv 5) (zcl (wz2 T) hr T.ym B5 (A0 (E8 (pv 5) rfl) (A0 (pv 3) A4))) rfl)
   refine A8 ?_
   exact(C7 (N8 (pv 0) T.cz.cl_Reader T.m_c_Reader_drop (Q7 T) (hr.mono (by walk_at "le")) T.b_c_Reader_drop .nil B5 (A0 (pv 1) (A0 (pv 2) (A0 C0 A4)))))
  ·refine A8 ?_
   exact(C7 (N8 (pv 0) T.cz.cl_Reader T.m_c_Reader_drop (Q7 T) (hr.mono (by walk_at "le")) T.b_c_Reader_drop .nil B5 (A0 (pv 1) (A0 (pv 2) (A0 C0 A4)))))
theorem qr6(T:Txt K mg t):J7 P w K mg base CX0 6 t.a_c_Reader_put_in_waiting t.d_c_Reader_put_in_waiting ["self","start"] (N0 K):=by
 refine T.F_c_Reader_put_in_waiting.ok Y6 (by walk_at "n") (fun cdv A outer s H vs Q E hr h=>⟨N2 K t.k_Reader,?_,qq4 T.cz h⟩)
 have S:=Y6
 refine A6 ?_ ?_
 ·refine zst (i:=2) S ?_
  exact(S6 (pv 0) T.cz.cl_Reader T.m_c_Reader_last_wall (W2 T) (hr.mono (by walk_at "le")) T.b_c_Reader_last_wall .nil B5)
 refine A6 ?_ ?_
 ·refine zst (i:=3) S ?_
  exact(E8 (pv 2) rfl)
 refine A6 ?_ ?_
 ·exact(qu3 (pv 2) (M8 A4) rfl)
 refine A8 ?_
 refine X7 PassesOwn.never rfl ?_ ?_ ?_
 ·exact(qb9 (pv 3))
 ·exact(J0 (i:=4) S.nd rfl (Or.inl rfl))
 ·refine A8 ?_
  refine L4 ?_ ?_ ?_
  ·exact(V9 (zcl (ww5 T) hr T.yn B5 (A0 (E8 (pv 0) rfl) (A0 (S6 (pv 0) T.cz.cl_Reader T.m_c_Reader_open_names (M0 T) (hr.mono (by walk_at "le")) T.b_c_Reader_open_names .nil B5) (A0 (pv 4) A4)))))
  ·refine A8 ?_
   exact(C7 (N8 (pv 0) T.cz.cl_Reader T.m_c_Reader_put_in (qe5 T) (hr.mono (by walk_at "le")) T.b_c_Reader_put_in .nil B5 (A0 (pv 4) (A0 (pv 1) (A0 C0 A4)))))
  ·exact E1
theorem wg2(T:Txt K mg t):J7 P w K mg base CX0 7 t.a_c_Reader_read_run t.d_c_Reader_read_run ["self","start","signs","told"] (T2 K):=by
 refine T.F_c_Reader_read_run.ok ql6 (by walk_at "n") (fun cdv A outer s H vs Q E hr h=>⟨T9 K t.k_Reader,?_,wf0 T.cz h⟩)
 have S:=ql6
 refine A6 ?_ ?_
 ·refine qf2 (i:=4) S.nd rfl (Or.inl rfl) ?_ rfl ?_
  ·refine zcl (xt3 T) hr T.zp B5 ?_
   refine A0 ?_ ?_
   ·exact(E8 (pv 0) rfl)
   refine A0 ?_ ?_
   ·exact(S6 (pv 0) T.cz.cl_Reader T.m_c_Reader_open_names (M0 T) (hr.mono (by walk_at "le")) T.b_c_Reader_open_names .nil B5)
   exact A4
  ·walk_at "or"
 refine A8 ?_
 refine L4 ?_ ?_ ?_
 ·exact(PW.pt (qp4 (V9 (S6 (pv 0) T.cz.cl_Reader T.m_c_Reader_is_in_frame (qy0 T) (hr.mono (by walk_at "le")) T.b_c_Reader_is_in_frame .nil B5)) (qn4 (C4 (R8 (qf5 hr)) (Q9 PySem.F.plainAttrs_str PySem.F.slot_str_strip PySem.F.type_str_strip yr5 (pv 3) (A0 (M1 rfl T.g_BLANKS.1 T.g_BLANKS.2) A4)) C0 (D0 _)))))
 ·refine A8 ?_
  exact(C7 (N8 (pv 0) T.cz.cl_Reader T.m_c_Reader_drop (Q7 T) (hr.mono (by walk_at "le")) T.b_c_Reader_drop .nil B5 (A0 (pv 1) (A0 (pv 2) (A0 C0 A4)))))
 ·refine A8 ?_
  refine L4 ?_ ?_ ?_
  ·exact(C4 wk5 (pv 4) U0 (D0 _))
  ·refine A8 ?_
   exact(C7 (N8 (pv 0) T.cz.cl_Reader T.m_c_Reader_drop (Q7 T) (hr.mono (by walk_at "le")) T.b_c_Reader_drop .nil B5 (A0 (pv 1) (A0 (pv 2) (A0 C0 A4)))))
  ·refine A6 ?_ ?_
   ·refine X7 PassesOwn.never rfl ?_ ?_ ?_
    ·exact(qb9 (pv 4))
    ·exact(J0 (i:=5) S.nd rfl (Or.inl rfl))
    ·refine A8 ?_
     exact(C7 (N8 (pv 0) T.cz.cl_Reader T.m_c_Reader_put_in (qe5 T) (hr.mono (by walk_at "le")) T.b_c_Reader_put_in .nil B5 (A0 (pv 5) (A0 (pv 1) (A0 C0 A4)))))
   refine A6 ?_ ?_
   ·exact(C7 (N8 (pv 0) T.cz.cl_Reader T.m_c_Reader_put_in_waiting (qr6 T) (hr.mono (by walk_at "le")) T.b_c_Reader_put_in_waiting .nil B5 (A0 (pv 1) A4)))
   refine A6 ?_ ?_
   ·refine X7 PassesOwn.never rfl ?_ ?_ ?_
    ·exact(qb9 (zcl (xt1 T) hr T.zz B5 (A0 (pv 2) A4)))
    ·exact(J0 (i:=6) S.nd rfl (Or.inl rfl))
    ·refine A6 ?_ ?_
     ·refine zst (i:=7) S ?_
      exact(B9 C5 (pv 1) (pv 6))
     refine A8 ?_
     exact(C7 (Q9 PySem.F.plainAttrs_list PySem.F.slot_list_append PySem.F.type_list_append J5 (E8 (pv 0) rfl) (A0 (D7 (A0 (pv 7) (A0 (B9 C5 (pv 7) B0) (A0 (zcl (yh5 T) hr T.zx B5 (A0 (D8 (B7 (C9 hr)) (pv 2) (pv 6) (fun _ _=>rfl)) A4)) (A0 C0 A4))))) A4)))
   refine A8 ?_
   exact(C7 (N8 (pv 0) T.cz.cl_Reader T.m_c_Reader_add_text (wg1 T) (hr.mono (by walk_at "le")) T.b_c_Reader_add_text .nil B5 (A0 (pv 1) (A0 (pv 2) (A0 (pv 3) A4)))))
theorem xi0(T:Txt K mg t):∀ n:Nat,J7 P w K mg base CX0 (7+n) t.zr.a t.zr.d ["book","names","name"] (qq1 n K)
 | 0 => by
   have FR:J7 P w K mg base CX0 6 t.zr.a t.zr.d ["book","names","name"] (ql4 K 0):=⟨fun _ _ _ _ h=>h.elim,fun _ _ _ _ _ _ _ _ _ _ _ _ _ h=>h.elim⟩
   refine T.zr.F.ok (k:=6) wh8 (by walk_at "n") (fun cdv A outer s H vs Q E hr h=>⟨we6 K (ql4 K 0),?_,xn2 0 h⟩)
   have S:=wh8
   refine A6 ?_ ?_
   ·refine zst (i:=3) S ?_
    exact(zcl (qu1 T) hr T.zf B5 (A0 (pv 0) (A0 (pv 2) A4)))
   refine A6 ?_ ?_
   ·refine L4 ?_ ?_ ?_
    ·exact(C4 wk5 (pv 3) U0 (D0 _))
    ·refine A8 ?_
     exact(C6 (zcl (qr5 T) hr T.zt B5 (A0 (pv 0) (A0 (pv 1) (A0 (pv 2) A4)))))
    ·exact E1
   refine A6 ?_ ?_
   ·refine zst (i:=4) S ?_
    exact(zcl (wm6 T) hr T.zn B5 (A0 (pv 0) (A0 (pv 1) (A0 (pv 3) A4))))
   refine A6 ?_ ?_
   ·refine L4 ?_ ?_ ?_
    ·exact(C4 qv7 (pv 4) U0 (D0 _))
    ·refine A8 ?_
     exact(C6 (D7 (A0 (B9 Y9 (pv 4) B0) (A0 (D7 (A0 (pv 2) A4)) A4))))
    ·exact E1
   refine A6 ?_ ?_
   ·refine zst (i:=5) S ?_
    exact(zcl FR hr T.zr B5 (A0 (pv 0) (A0 (pv 1) (A0 (pv 3) A4))))
   refine A8 ?_
   refine C6 ?_
   refine D7 ?_
   refine A0 ?_ ?_
   ·exact(D8 (B7 (C9 hr)) (pv 5) B0 (fun _ _=>rfl))
   refine A0 ?_ ?_
   ·exact(B9 Y9 (D8 (B7 (C9 hr)) (pv 5) B0 (fun _ _=>rfl)) (D7 (A0 (pv 2) A4)))
   exact A4
 | n + 1=>by
   have FR:J7 P w K mg base CX0 (7+n) t.zr.a t.zr.d ["book","names","name"] (ql4 K (n+1)):=xi0 T n
   refine T.zr.F.ok (k:=(7+n)) wh8 (by walk_at "n") (fun cdv A outer s H vs Q E hr h=>⟨we6 K (ql4 K (n+1)),?_,xn2 (n+1) h⟩)
   have S:=wh8
   refine A6 ?_ ?_
   ·refine zst (i:=3) S ?_
    exact(zcl (qu1 T) hr T.zf B5 (A0 (pv 0) (A0 (pv 2) A4)))
   refine A6 ?_ ?_
   ·refine L4 ?_ ?_ ?_
    ·exact(C4 wk5 (pv 3) U0 (D0 _))
    ·refine A8 ?_
     exact(C6 (zcl (qr5 T) hr T.zt B5 (A0 (pv 0) (A0 (pv 1) (A0 (pv 2) A4)))))
    ·exact E1
   refine A6 ?_ ?_
   ·refine zst (i:=4) S ?_
    exact(zcl (wm6 T) hr T.zn B5 (A0 (pv 0) (A0 (pv 1) (A0 (pv 3) A4))))
   refine A6 ?_ ?_
   ·refine L4 ?_ ?_ ?_
    ·exact(C4 qv7 (pv 4) U0 (D0 _))
    ·refine A8 ?_
     exact(C6 (D7 (A0 (B9 Y9 (pv 4) B0) (A0 (D7 (A0 (pv 2) A4)) A4))))
    ·exact E1
   refine A6 ?_ ?_
   ·refine zst (i:=5) S ?_
    exact(zcl FR hr T.zr B5 (A0 (pv 0) (A0 (pv 1) (A0 (pv 3) A4))))
   refine A8 ?_
   refine C6 ?_
   refine D7 ?_
   refine A0 ?_ ?_
   ·exact(D8 (B7 (C9 hr)) (pv 5) B0 (fun _ _=>rfl))
   refine A0 ?_ ?_
   ·exact(B9 Y9 (D8 (B7 (C9 hr)) (pv 5) B0 (fun _ _=>rfl)) (D7 (A0 (pv 2) A4)))
   exact A4
theorem ys8(T:Txt K mg t):J7 P w K mg base CX0 20 t.zr.a t.zr.d ["book","names","name"] (xn1 K):=xi0 T 13
theorem yh8(T:Txt K mg t):J7 P w K mg base CX0 21 t.zo.a t.zo.d ["book","names","name"] (qz1 K):=by
 refine T.zo.F.ok xh5 (by walk_at "n") (fun cdv A outer s H vs Q E hr h=>⟨wh2 K,?_,yf8 h⟩)
 have S:=xh5
 refine A6 ?_ ?_
 ·refine zst (i:=3) S ?_
  exact(zcl (ys8 T) hr T.zr B5 (A0 (pv 0) (A0 (pv 1) (A0 (pv 2) A4))))
 refine A6 ?_ ?_
 ·refine zst (i:=4) S ?_
  exact(O5 S7 rfl T.z_tuple boot_tuple (A0 (Q8 wo4 (pv 1) qn6 (N9 (D8 (B7 (C9 hr)) (pv 3) B0 (fun _ _=>rfl)))) A4))
 refine A6 ?_ ?_
 ·refine zst (i:=5) S ?_
  exact(D8 (B7 (C9 hr)) (pv 3) B0 (fun _ _=>rfl))
 refine A6 ?_ ?_
 ·refine L4 ?_ ?_ ?_
  ·exact(V9 (zcl (xt4 T) hr T.zw B5 (A0 (pv 0) (A0 (pv 4) (A0 (pv 5) A4)))))
  ·refine A8 ?_
   exact(C6 (D7 (A0 C0 (A0 C0 A4))))
  ·exact E1
 refine A6 ?_ ?_
 ·refine L4 ?_ ?_ ?_
  ·exact(C4 ql9 (B9 Y9 (D3 D2 rfl T.z_len boot_len (A0 (pv 4) A4)) (D3 D2 rfl T.z_len boot_len (A0 (pv 5) A4))) (M1 rfl T.g_MOST_OPEN.1 T.g_MOST_OPEN.2) (D0 _))
  ·refine A8 ?_
   exact(C6 (D7 (A0 C0 (A0 C0 A4))))
  ·exact E1
 refine A8 ?_
 exact(C6 (D7 (A0 C0 (A0 (D3 D2 rfl T.z_len boot_len (A0 (pv 4) A4)) (A0 (pv 5) A4)))))
theorem qv2(T:Txt K mg t):J7 P w K mg base CX0 22 t.a_c_Reader_read_opening t.d_c_Reader_read_opening ["self","start","signs","name"] (O0 K):=by
 refine T.F_c_Reader_read_opening.ok qd0 (by walk_at "n") (fun cdv A outer s H vs Q E hr h=>⟨P3 K t.k_Reader,?_,qu7 T.cz h⟩)
 have S:=qd0
 refine A6 ?_ ?_
 ·refine L4 ?_ ?_ ?_
  ·exact(C4 wk5 (zcl (qr4 T) hr T.zc B5 (A0 (E8 (pv 0) rfl) (A0 (pv 3) A4))) U0 (D0 _))
  ·refine A6 ?_ ?_
   ·exact(C7 (N8 (pv 0) T.cz.cl_Reader T.m_c_Reader_drop (Q7 T) (hr.mono (by walk_at "le")) T.b_c_Reader_drop .nil B5 (A0 (pv 1) (A0 (pv 2) (A0 C0 A4)))))
   refine A8 ?_
   exact yi1
  ·exact E1
 refine A6 ?_ ?_
 ·refine qf2 (i:=4) S.nd rfl (Or.inl rfl) ?_ rfl ?_
  ·refine zcl (yh8 T) hr T.zo B5 ?_
   refine A0 ?_ ?_
   ·exact(E8 (pv 0) rfl)
   refine A0 ?_ ?_
   ·exact(S6 (pv 0) T.cz.cl_Reader T.m_c_Reader_open_names (M0 T) (hr.mono (by walk_at "le")) T.b_c_Reader_open_names .nil B5)
   refine A0 ?_ ?_
   ·exact(pv 3)
   exact A4
  ·walk_at "or"
 refine A6 ?_ ?_
 ·refine L4 ?_ ?_ ?_
  ·exact(C4 (R8 (qf5 hr)) (D8 (B7 (C9 hr)) (pv 4) B0 (fun _ _=>rfl)) C0 (D0 _))
  ·refine A6 ?_ ?_
   ·exact(C7 (N8 (pv 0) T.cz.cl_Reader T.m_c_Reader_drop (Q7 T) (hr.mono (by walk_at "le")) T.b_c_Reader_drop .nil B5 (A0 (pv 1) (A0 (pv 2) (A0 (D8 (B7 (C9 hr)) (pv 4) B0 (fun _ _=>rfl)) A4)))))
   refine A8 ?_
   exact yi1
  ·exact E1
 refine A6 ?_ ?_
 ·exact(C7 (N8 (pv 0) T.cz.cl_Reader T.m_c_Reader_close_behind (T6 T) (hr.mono (by walk_at "le")) T.b_c_Reader_close_behind .nil B5 (A0 (D8 (B7 (C9 hr)) (pv 4) B0 (fun _ _=>rfl)) (A0 (pv 1) (A0 C0 A4)))))
 refine A6 ?_ ?_
 ·refine X7 PassesOwn.never rfl ?_ ?_ ?_
  ·exact(qb9 (Q8 wo4 (D8 (B7 (C9 hr)) (pv 4) B0 (fun _ _=>rfl)) qn6 (N9 (qi0 W0 B0))))
  ·exact(J0 (i:=5) S.nd rfl (Or.inl rfl))
  ·refine A8 ?_
   exact(C7 (N8 (pv 0) T.cz.cl_Reader T.m_c_Reader_put_in (qe5 T) (hr.mono (by walk_at "le")) T.b_c_Reader_put_in .nil B5 (A0 (pv 5) (A0 (pv 1) (A0 C0 A4)))))
 refine A6 ?_ ?_
 ·exact(C7 (N8 (pv 0) T.cz.cl_Reader T.m_c_Reader_enter (qu2 T) (hr.mono (by walk_at "le")) T.b_c_Reader_enter .nil B5 (A0 (pv 3) A4)))
 refine A8 ?_
 refine L4 ?_ ?_ ?_
 ·exact(C4 (R8 (qf5 hr)) (zcl (qr4 T) hr T.zc B5 (A0 (E8 (pv 0) rfl) (A0 (pv 3) A4))) C0 (D0 _))
 ·refine A8 ?_
  exact(C7 (S6 (pv 0) T.cz.cl_Reader T.m_c_Reader_leave (qh8 T) (hr.mono (by walk_at "le")) T.b_c_Reader_leave .nil B5))
 ·exact E1
theorem ww6(T:Txt K mg t):J7 P w K mg base CX0 23 t.a_c_Reader_read t.d_c_Reader_read ["self","kind","start","signs","told"] (Z8 K):=by
 refine T.F_c_Reader_read.ok qx6 (by walk_at "n") (fun cdv A outer s H vs Q E hr h=>⟨qe2 K t.k_Reader,?_,wu9 T.cz h⟩)
 have S:=qx6
 refine A8 ?_
 refine L4 ?_ ?_ ?_
 ·exact(C4 (R8 (qf5 hr)) (pv 1) C0 (D0 _))
 ·refine A8 ?_
  exact(C7 (N8 (pv 0) T.cz.cl_Reader T.m_c_Reader_read_opening (qv2 T) (hr.mono (by walk_at "le")) T.b_c_Reader_read_opening .nil B5 (A0 (pv 2) (A0 (pv 3) (A0 (pv 4) A4)))))
 ·refine A8 ?_
  refine L4 ?_ ?_ ?_
  ·exact(C4 (R8 (qf5 hr)) (pv 1) C0 (D0 _))
  ·refine A8 ?_
   exact(C7 (N8 (pv 0) T.cz.cl_Reader T.m_c_Reader_read_closing (qv1 T) (hr.mono (by walk_at "le")) T.b_c_Reader_read_closing .nil B5 (A0 (pv 2) (A0 (pv 3) (A0 (pv 4) A4)))))
  ·refine A8 ?_
   exact(C7 (N8 (pv 0) T.cz.cl_Reader T.m_c_Reader_read_run (wg2 T) (hr.mono (by walk_at "le")) T.b_c_Reader_read_run .nil B5 (A0 (pv 2) (A0 (pv 3) (A0 (pv 4) A4)))))
theorem xt6(T:Txt K mg t):J7 P w K mg base CX0 24 t.yk.a t.yk.d ["book","text"] (qp0 K):=by
 refine T.yk.F.ok wr5 (by walk_at "n") (fun cdv A outer s H vs Q E hr h=>⟨qt4 K t.k_Reader,?_,xr9 T.cz h⟩)
 have S:=wr5
 refine A6 ?_ ?_
 ·refine zst (i:=2) S ?_
  exact(xo8 T.m_c_Reader_init (ww3 T) (hr.mono (by walk_at "le")) rfl T.n_Reader T.b_c_Reader_init .nil B5 (A0 (pv 0) A4))
 refine A6 ?_ ?_
 ·refine X7 PassesOwn.never rfl ?_ ?_ ?_
  ·exact(qb9 (zcl (xt5 T) hr T.ya B5 (A0 (pv 1) A4)))
  ·exact(xo4 rfl (qc4 (J0 (i:=3) S.nd rfl (Or.inl rfl)) (qc4 (J0 (i:=4) S.nd rfl (Or.inl rfl)) (qc4 (J0 (i:=5) S.nd rfl (Or.inl rfl)) (qc4 (J0 (i:=6) S.nd rfl (Or.inl rfl)) wz4)))))
  ·refine A8 ?_
   exact(C7 (N8 (pv 2) T.cz.cl_Reader T.m_c_Reader_read (ww6 T) (hr.mono (by walk_at "le")) T.b_c_Reader_read .nil B5 (A0 (pv 3) (A0 (pv 4) (A0 (Q8 qp6 (pv 1) (N9 (pv 4)) (N9 (pv 5))) (A0 (pv 6) A4))))))
 refine A6 ?_ ?_
 ·exact(C7 (N8 (pv 2) T.cz.cl_Reader T.m_c_Reader_finish (wm8 T) (hr.mono (by walk_at "le")) T.b_c_Reader_finish .nil B5 (A0 (D3 D2 rfl T.z_len boot_len (A0 (pv 1) A4)) A4)))
 refine A8 ?_
 exact(C6 (pv 2))
theorem xt7(T:Txt K mg t):J7 P w K mg base CX0 25 t.yj.a t.yj.d ["book","text"] (qp1 K):=by
 refine T.yj.F.ok wr4 (by walk_at "n") (fun cdv A outer s H vs Q E hr h=>⟨qt5 K t.k_Reader,?_,xs0 T.cz h⟩)
 have S:=wr4
 refine A6 ?_ ?_
 ·refine zst (i:=2) S ?_
  exact(zcl (xt6 T) hr T.yk B5 (A0 (pv 0) (A0 (pv 1) A4)))
 refine A8 ?_
 exact(C6 (D7 (A0 (S6 (pv 2) T.cz.cl_Reader T.m_c_Reader_root (ww2 T) (hr.mono (by walk_at "le")) T.b_c_Reader_root .nil B5) (A0 (E8 (pv 2) rfl) A4))))
theorem zu4 (T:Txt K mg t):J7 P w K mg base CX0 26 t.yw.a t.yw.d ["_law_script"] (wv1 K):=by
 refine T.yw.F.ok zd7 (by walk_at "n") (fun cdv A outer s H vs Q E hr h=>⟨yn9 K,?_,zu3 h⟩)
 have S:=zd7
 refine A6 ?_ ?_
 ·refine qf2 (i:=1) S.nd rfl (Or.inl rfl) ?_ rfl ?_
  ·refine zcl (xk5 T) hr T.yr B5 ?_
   refine A0 ?_ ?_
   ·exact(zcl (wz3 T) hr T.yo B5 (A0 (pv 0) (A0 B0 A4)))
   exact A4
  ·walk_at "or"
 refine A6 ?_ ?_
 ·refine qf2 (i:=2) S.nd rfl (Or.inl rfl) ?_ rfl ?_
  ·refine D7 ?_
   refine A0 ?_ ?_
   ·exact(D7 (A0 (D8 (B7 (C9 hr)) (pv 1) B0 (fun _ _=>rfl)) (A0 C0 (A0 C0 (A0 (D7 A4) (A0 (D7 A4) A4))))))
   refine A0 ?_ ?_
   ·exact(D7 (A0 (D8 (B7 (C9 hr)) (pv 1) B0 (fun _ _=>rfl)) (A0 C0 (A0 C0 (A0 (D7 A4) (A0 (D7 A4) A4))))))
   refine A0 ?_ ?_
   ·refine D7 ?_
    refine A0 ?_ ?_
    ·exact(D8 (B7 (C9 hr)) (pv 1) B0 (fun _ _=>rfl))
    refine A0 ?_ ?_
    ·exact C0
    refine A0 ?_ ?_
    ·exact(D8 (B7 (C9 hr)) (pv 1) B0 (fun _ _=>rfl))
    refine A0 ?_ ?_
    ·exact(D7 A4)
    refine A0 ?_ ?_
    ·exact(D7 A4)
    exact A4
   exact A4
  ·walk_at "or"
 refine A6 ?_ ?_
 ·refine zst (i:=3) S ?_
  exact(B9 C5 (B9 C5 C0 (D8 (B7 (C9 hr)) (pv 1) B0 (fun _ _=>rfl))) C0)
 refine A6 ?_ ?_
 ·refine zst (i:=4) S ?_
  exact(M8 A4)
 refine A6 ?_ ?_
 ·refine zst (i:=5) S ?_
  exact(M8 A4)
 refine A6 ?_ ?_
 ·refine zst (i:=6) S ?_
  exact xu2
 refine A6 ?_ ?_
 ·refine X7 PassesOwn.never rfl ?_ ?_ ?_
  ·exact(qb9 (Q8 qp6 (pv 0) (N9 B0) (N9 B0)))
  ·exact(J0 (i:=7) S.nd rfl (Or.inl rfl))
  ·refine A6 ?_ ?_
   ·refine zst (i:=8) S ?_
    exact(zcl (qv0 T) hr T.yp B5 (A0 (pv 7) (A0 B0 A4)))
   refine A6 ?_ ?_
   ·refine zst (i:=9) S ?_
    exact(D3 D2 rfl T.z_len boot_len (A0 (pv 3) A4))
   refine A6 ?_ ?_
   ·refine zst (i:=10) S ?_
    exact(B9 qb7 (pv 8) B0)
   refine A6 ?_ ?_
   ·refine zst (i:=11) S ?_
    exact(yb5 (qn5 (R8 (qf5 hr)) (pv 10) B0 (D0 _)) (yb4 (yt1 (pv 6))))
   refine A6 ?_ ?_
   ·refine L4 ?_ ?_ ?_
    ·exact(PW.pt (qp4 (V9 (pv 11)) (qn4 (C4 (R8 (qf5 hr)) (pv 4) (M8 A4) (D0 _)))))
    ·refine A8 ?_
     exact(C7 (Q9 PySem.F.plainAttrs_list PySem.F.slot_list_append PySem.F.type_list_append J5 (pv 5) (A0 (D7 (A0 (pv 9) (A0 (B9 C5 (pv 9) B0) (A0 C0 (A0 C0 A4))))) A4)))
    ·refine A8 ?_
     refine L4 ?_ ?_ ?_
     ·exact(PW.pt (qp4 (C4 ql9 (pv 10) B0 (D0 _)) (qp4 (C4 (R8 (qf5 hr)) (pv 4) (M8 A4) (D0 _)) (qn4 (PW.pt (yt0 (C4 ql9 (pv 10) B0 (D0 _)) (yb3 (xo3 (V9 (pv 6))))))))))
     ·refine A6 ?_ ?_
      ·exact(C7 (Q9 PySem.F.plainAttrs_list PySem.F.slot_list_append PySem.F.type_list_append J5 (pv 5) (A0 (D7 (A0 (pv 9) (A0 (pv 9) (A0 (B9 C5 (B9 C5 C0 (D8 (B7 (C9 hr)) (pv 1) B0 (fun _ _=>rfl))) C0) (A0 (D8 (B7 (C9 hr)) (M8 (A0 C0 (A0 C0 A4))) (O5 ws3 rfl T.z_int boot_int (A0 (qn5 ql9 (pv 10) B0 (D0 _)) A4)) (fun _ _=>rfl)) A4))))) A4)))
      refine A8 ?_
      exact(C7 (Q9 PySem.F.plainAttrs_list PySem.F.slot_list_append PySem.F.type_list_append J5 (pv 4) (A0 (M8 A4) A4)))
     ·exact E1
   refine A6 ?_ ?_
   ·refine L4 ?_ ?_ ?_
    ·exact(C4 (R8 (qf5 hr)) (pv 10) B0 (D0 _))
    ·refine A6 ?_ ?_
     ·refine L4 ?_ ?_ ?_
      ·exact(C4 (wk4 (qf5 hr)) (pv 4) (M8 A4) (D0 _))
      ·refine A8 ?_
       exact(C7 (Q9 PySem.F.plainAttrs_list PySem.F.slot_list_append PySem.F.type_list_append J5 (pv 5) (A0 (D7 (A0 (pv 9) (A0 (pv 9) (A0 (B9 C5 (B9 C5 C0 (D8 (B7 (C9 hr)) (pv 1) B0 (fun _ _=>rfl))) C0) (A0 C0 A4))))) A4)))
      ·exact E1
     refine A6 ?_ ?_
     ·refine zst (i:=3) S ?_
      exact(B9 C5 (B9 C5 (B9 C5 (pv 3) C0) (D8 (B7 (C9 hr)) (pv 1) B0 (fun _ _=>rfl))) C0)
     refine A8 ?_
     exact(C7 (Q9 PySem.F.plainAttrs_list PySem.F.slot_list_append PySem.F.type_list_append J5 (pv 4) (A0 (M8 A4) A4)))
    ·exact E1
   refine A6 ?_ ?_
   ·refine L4 ?_ ?_ ?_
    ·exact(V9 (pv 11))
    ·refine A6 ?_ ?_
     ·refine zst (i:=3) S ?_
      exact(B9 C5 (pv 3) C0)
     refine A8 ?_
     refine L4 ?_ ?_ ?_
     ·exact(C4 (wk4 (qf5 hr)) (pv 4) (M8 A4) (D0 _))
     ·refine A8 ?_
      exact(C7 (zcl (wg0 T) hr T.yt B5 (A0 (D8 (B7 (C9 hr)) (pv 4) (qi0 W0 B0) (fun _ _=>rfl)) (A0 C0 A4))))
     ·exact E1
    ·exact E1
   refine A6 ?_ ?_
   ·refine L4 ?_ ?_ ?_
    ·exact(PW.pt (qp4 (C4 (wk7 (C9 hr)) (pv 10) (D7 (A0 B0 (A0 B0 A4))) (by with_unfolding_all rfl)) (qn4 (xo3 (V9 (pv 6))))))
    ·refine A6 ?_ ?_
     ·refine zst (i:=3) S ?_
      exact(B9 C5 (B9 C5 (pv 3) C0) (O5 xm8 rfl T.z_str boot_str (A0 (B9 qb7 (B9 wg3 (pv 8) B0) B0) A4)))
     refine A8 ?_
     exact(C7 (zcl (wg0 T) hr T.yt B5 (A0 (D8 (B7 (C9 hr)) (pv 4) (qi0 W0 B0) (fun _ _=>rfl)) (A0 (B9 C5 C0 (O5 xm8 rfl T.z_str boot_str (A0 (B9 qb7 (B9 wg3 (pv 8) B0) B0) A4))) A4))))
    ·exact E1
   refine A6 ?_ ?_
   ·refine L4 ?_ ?_ ?_
    ·exact(C4 ql9 (pv 10) B0 (D0 _))
    ·refine A6 ?_ ?_
     ·refine zst (i:=12) S ?_
      exact(D8 (B7 (C9 hr)) (M8 (A0 C0 (A0 C0 A4))) (B9 wr7 (pv 10) B0) (fun _ _=>rfl))
     refine A6 ?_ ?_
     ·refine qf2 (i:=3) S.nd rfl (Or.inl rfl) ?_ rfl ?_
      ·refine B9 C5 ?_ ?_
       ·refine B9 C5 ?_ ?_
        ·exact(B9 C5 (B9 C5 (B9 C5 (B9 C5 (B9 C5 (pv 3) C0) (D8 (B7 (C9 hr)) (pv 1) B0 (fun _ _=>rfl))) C0) (pv 12)) C0)
        ·exact(D8 (B7 (C9 hr)) (pv 1) B0 (fun _ _=>rfl))
       ·exact C0
      ·walk_at "or"
     refine A8 ?_
     exact(C7 (zcl (wg0 T) hr T.yt B5 (A0 (D8 (B7 (C9 hr)) (pv 4) (qi0 W0 B0) (fun _ _=>rfl)) (A0 (D7 (A0 (D8 (B7 (C9 hr)) (pv 1) B0 (fun _ _=>rfl)) (A0 (O5 S7 rfl T.z_tuple boot_tuple (A0 (qy7 rfl (U9 (osc:=B1 xg7) (ON:=["_law_script","_law_names_here","_law_book","_law_text","_law_hosts","_law_mends","_law_ran","_law_cell","_law_number","_law_start","_law_way","_law_blank","_law_word","_law_tree"]) (N:=["_law_one"]) (fr:=[none]) (by decide +kernel) rfl rfl) (qb9 (M8 (A0 (pv 12) A4))) (fun _ _ _ _ _ _=>(J0 (i:=0) (show List.Nodup (["_law_one"]:List Str) by decide +kernel) rfl (Or.inl rfl))) qs0 (fun _ _ _ _ _ _=>(wz7 (C4 (wk4 (qf5 hr)) (pv 0) C0 (D0 _)))) (fun _ _ _ _ _ _=>(pv 0))) A4)) A4))) A4))))
    ·exact E1
   refine A8 ?_
   refine zst (i:=6) S ?_
   exact(xb1 xc0 xc0 B0 (pv 10) B0)
 refine A6 ?_ ?_
 ·refine zst (i:=13) S ?_
  exact(zcl (xk4 T) hr T.yu B5 (A0 (pv 1) (A0 (pv 4) (A0 (pv 3) (A0 (pv 5) A4)))))
 refine A8 ?_
 exact(C6 (qn5 (R8 (qf5 hr)) (zcl (xt7 T) hr T.yj B5 (A0 (pv 2) (A0 (pv 3) A4))) (D7 (A0 (pv 13) (A0 (pv 5) A4))) (D0 _)))
end
theorem ln1{us:List Value}(h:us.length=1):∃ x0,us=[x0]:=by
 rcases us with _|⟨x0,_|⟨y,us⟩⟩
 ·cases h
 ·exact⟨x0,rfl⟩
 ·cases h
theorem ln2{us:List Value}(h:us.length=2):∃ x0 x1,us=[x0,x1]:=by
 rcases us with _|⟨x0,_|⟨x1,_|⟨y,us⟩⟩⟩
 ·cases h
 ·cases h
 ·exact⟨x0,x1,rfl⟩
 ·cases h
theorem ln3{us:List Value}(h:us.length=3):∃ x0 x1 x2,us=[x0,x1,x2]:=by
 rcases us with _|⟨x0,_|⟨x1,_|⟨x2,_|⟨y,us⟩⟩⟩⟩
 ·cases h
 ·cases h
 ·cases h
 ·exact⟨x0,x1,x2,rfl⟩
 ·cases h
theorem ln4{us:List Value}(h:us.length=4):∃ x0 x1 x2 x3,us=[x0,x1,x2,x3]:=by
 rcases us with _|⟨x0,_|⟨x1,_|⟨x2,_|⟨x3,_|⟨y,us⟩⟩⟩⟩⟩
 ·cases h
 ·cases h
 ·cases h
 ·cases h
 ·exact⟨x0,x1,x2,x3,rfl⟩
 ·cases h
theorem ln5{us:List Value}(h:us.length=5):∃ x0 x1 x2 x3 x4,us=[x0,x1,x2,x3,x4]:=by
 rcases us with _|⟨x0,_|⟨x1,_|⟨x2,_|⟨x3,_|⟨x4,_|⟨y,us⟩⟩⟩⟩⟩⟩
 ·cases h
 ·cases h
 ·cases h
 ·cases h
 ·cases h
 ·exact⟨x0,x1,x2,x3,x4,rfl⟩
 ·cases h
theorem all_mk{l:PySem.W.OpenLaw}{w:World}{fa f0 f1 f2 f3 f4 f5 f6 f7 f8 f9 f10 f11 f12 f13 f14 f15 f16 f17 f18 f19 f20 f21 f22 f23 f24 f25 f26 f27 f28 f29 f30 f31 f32 f33 f34 f35 f36 f37 f38 f39 f40 f41 f42 f43 f44 f45 f46 f47 f48 f49 f50 f51 f52 f53 f54 f55 f56 f57 f58 f59 f60:Addr}(X:K.In h)(G:h.Ns mainGlobals mg)(hfa:mg "law"=some (.ref fa)){d0 d1 d2 d3 d4 d5 d6 d7 d8 d9 d10 d11 d12 d13 d14 d15 d16 d17 d18 d19 d20 d21 d22 d23 d24 d25 d26 d27 d28 d29 d30 d31 d32 d33 d34 d35 d36 d37 d38 d39 d40 d41 d42 d43 d44 d45 d46 d47 d48 d49 d50 d51 d52 d53 d54 d55 d56 d57 d58 d59 d60:FuncData}{k_LONGEST_NAME k_NAME k_SORT k_HOST k_SHUTS k_BARS k_ROOT_NAME k_MOST_OPEN k_START k_STOP k_BLANKS:Tok}{c_WALL_SORTS:Addr}{d_WALL_SORTS:Option Addr}{n_WALL_SORTS:Nat}{sl_WALL_SORTS:Array (Option Value)}{k_WALL_SORTS_0 k_WALL_SORTS_1:Tok}{c_TOLD_FOR:Addr}{d_TOLD_FOR:Option Addr}{n_TOLD_FOR:Nat}{sl_TOLD_FOR:Array (Option Value)}{k_TOLD_FOR_0 k_TOLD_FOR_1:Tok}{d_ESCAPED:Option Addr}{n_ESCAPED:Nat}{sl_ESCAPED:Array (Option Value)}{k_ESCAPED_0 k_ESCAPED_1:Tok}(eBranch:PySem.W.nsIn K mainGlobals "Branch"=some (some (.ref k_Branch)))(eReader:PySem.W.nsIn K mainGlobals "Reader"=some (some (.ref k_Reader)))(a0:PySem.W.nsIn K mainGlobals "has_letters_of_name"=some (some (.ref f0)))(F0:Fun K "has_letters_of_name" "has_letters_of_name" R6 f0 d0)(a1:PySem.W.nsIn K mainGlobals "row_of"=some (some (.ref f1)))(F1:Fun K "row_of" "row_of" xg5 f1 d1)(a2:PySem.W.nsIn K mainGlobals "sort_of"=some (some (.ref f2)))(F2:Fun K "sort_of" "sort_of" wv2 f2 d2)(a3:PySem.W.nsIn K mainGlobals "is_wall"=some (some (.ref f3)))(F3:Fun K "is_wall" "is_wall" wv3 f3 d3)(a4:PySem.W.nsIn K mainGlobals "host_of"=some (some (.ref f4)))(F4:Fun K "host_of" "host_of" wv4 f4 d4)(a5:PySem.W.nsIn K mainGlobals "frame_of"=some (some (.ref f5)))(F5:Fun K "frame_of" "frame_of" wm2 f5 d5)(a6:PySem.W.nsIn K mainGlobals "belongs"=some (some (.ref f6)))(F6:Fun K "belongs" "belongs" wv5 f6 d6)(a7:PySem.W.nsIn K mainGlobals "is_text"=some (some (.ref f7)))(F7:Fun K "is_text" "is_text" wv6 f7 d7)(a8:PySem.W.nsIn K mainGlobals "straight_above"=some (some (.ref f8)))(F8:Fun K "straight_above" "straight_above" qj8 f8 d8)(a9:PySem.W.nsIn K mainGlobals "near_of"=some (some (.ref f9)))(F9:Fun K "near_of" "near_of" wv7 f9 d9)(a10:PySem.W.nsIn K mainGlobals "share_a_name"=some (some (.ref f10)))(F10:Fun K "share_a_name" "share_a_name" qg9 f10 d10)(a11:PySem.W.nsIn K mainGlobals "closing"=some (some (.ref f11)))(F11:Fun K "closing" "closing" wv8 f11 d11)(a12:PySem.W.nsIn K mainGlobals "opening"=some (some (.ref f12)))(F12:Fun K "opening" "opening" wv9 f12 d12)(a13:PySem.W.nsIn K mainGlobals "hosts_for"=some (some (.ref f13)))(F13:Fun K "hosts_for" "hosts_for" wf3 f13 d13)(a14:PySem.W.nsIn K mainGlobals "wanted"=some (some (.ref f14)))(F14:Fun K "wanted" "wanted" xg6 f14 d14)(a15:PySem.W.nsIn K mainGlobals "wanted_by_guest"=some (some (.ref f15)))(F15:Fun K "wanted_by_guest" "wanted_by_guest" qh0 f15 d15)(a16:PySem.W.nsIn K mainGlobals "kept_by_shuts"=some (some (.ref f16)))(F16:Fun K "kept_by_shuts" "kept_by_shuts" qm2 f16 d16)(a17:PySem.W.nsIn K mainGlobals "hosts_within"=some (some (.ref f17)))(F17:Fun K "hosts_within" "hosts_within" qq5 f17 d17)(a18:PySem.W.nsIn K mainGlobals "is_barred"=some (some (.ref f18)))(F18:Fun K "is_barred" "is_barred" wf4 f18 d18)(a19:PySem.W.nsIn K mainGlobals "escaped"=some (some (.ref f19)))(F19:Fun K "escaped" "escaped" ww0 f19 d19)(a20:PySem.W.nsIn K mainGlobals "told_by"=some (some (.ref f20)))(F20:Fun K "told_by" "told_by" ww1 f20 d20)(a21:PySem.W.nsIn K mainGlobals "lone_ones"=some (some (.ref f21)))(F21:Fun K "lone_ones" "lone_ones" qt6 f21 d21)(a22:PySem.W.nsIn K mainGlobals "tokens_of"=some (some (.ref f22)))(F22:Fun K "tokens_of" "tokens_of" wf5 f22 d22)(a23:PySem.W.nsIn K mainGlobals "settled_tokens"=some (some (.ref f23)))(F23:Fun K "settled_tokens" "settled_tokens" qj9 f23 d23)(a24:PySem.W.nsIn K mainGlobals "tags_from"=some (some (.ref f24)))(F24:Fun K "tags_from" "tags_from" wf6 f24 d24)(a25:PySem.W.nsIn K mainGlobals "name_start"=some (some (.ref f25)))(F25:Fun K "name_start" "name_start" wa2 f25 d25)(a26:PySem.W.nsIn K mainGlobals "tag_stop"=some (some (.ref f26)))(F26:Fun K "tag_stop" "tag_stop" wm3 f26 d26)(a27:PySem.W.nsIn K mainGlobals "tag_between"=some (some (.ref f27)))(F27:Fun K "tag_between" "tag_between" qu9 f27 d27)(a28:PySem.W.nsIn K mainGlobals "runs_between"=some (some (.ref f28)))(F28:Fun K "runs_between" "runs_between" qq6 f28 d28)(a29:PySem.W.nsIn K mainGlobals "opening_of"=some (some (.ref f29)))(F29:Fun K "opening_of" "opening_of" wa3 f29 d29)(a30:PySem.W.nsIn K mainGlobals "closing_of"=some (some (.ref f30)))(F30:Fun K "closing_of" "closing_of" wa4 f30 d30)(a31:PySem.W.nsIn K mainGlobals "read_text"=some (some (.ref f31)))(F31:Fun K "read_text" "read_text" wf7 f31 d31)(a32:PySem.W.nsIn K mainGlobals "reader_of"=some (some (.ref f32)))(F32:Fun K "reader_of" "reader_of" wf8 f32 d32)(a33:PySem.W.nsIn K mainGlobals "those_that_wait"=some (some (.ref f33)))(F33:Fun K "those_that_wait" "those_that_wait" qh1 f33 d33)(a34:PySem.W.nsIn K mainGlobals "without_last"=some (some (.ref f34)))(F34:Fun K "without_last" "without_last" qq7 f34 d34)(a35:PySem.W.nsIn K mainGlobals "may_come_anew"=some (some (.ref f35)))(F35:Fun K "may_come_anew" "may_come_anew" qm3 f35 d35)(a36:PySem.W.nsIn K mainGlobals "_law_cell_at"=some (some (.ref f36)))(F36:Fun K "_law_cell_at" "_law_cell_at" qq8 f36 d36)(a37:PySem.W.nsIn K mainGlobals "_law_mixed"=some (some (.ref f37)))(F37:Fun K "_law_mixed" "_law_mixed" wa5 f37 d37)(a38:PySem.W.nsIn K mainGlobals "_law_letters"=some (some (.ref f38)))(F38:Fun K "_law_letters" "_law_letters" qq9 f38 d38)(a39:PySem.W.nsIn K mainGlobals "_law_names"=some (some (.ref f39)))(F39:Fun K "_law_names" "_law_names" qh2 f39 d39)(a40:PySem.W.nsIn K mainGlobals "_law_lie"=some (some (.ref f40)))(F40:Fun K "_law_lie" "_law_lie" wm4 f40 d40)(a41:PySem.W.nsIn K mainGlobals "_law_ended"=some (some (.ref f41)))(F41:Fun K "_law_ended" "_law_ended" qp3 f41 d41)(a42:PySem.W.nsIn K mainGlobals "law"=some (some (.ref f42)))(F42:Fun K "law" "law" xg7 f42 d42)(a43:PySem.W.findIn K (.ref k_Branch) "__init__"=some (some (.ref f43)))(F43:Fun K "__init__" "Branch.__init__" qm4 f43 d43)(fn43:PySem.W.isFn K (.ref f43)=true)(a44:PySem.W.findIn K (.ref k_Reader) "__init__"=some (some (.ref f44)))(F44:Fun K "__init__" "Reader.__init__" qm5 f44 d44)(fn44:PySem.W.isFn K (.ref f44)=true)(a45:PySem.W.findIn K (.ref k_Reader) "root"=some (some (.ref f45)))(F45:Fun K "root" "Reader.root" qm6 f45 d45)(fn45:PySem.W.isFn K (.ref f45)=true)(a46:PySem.W.findIn K (.ref k_Reader) "read"=some (some (.ref f46)))(F46:Fun K "read" "Reader.read" qm7 f46 d46)(fn46:PySem.W.isFn K (.ref f46)=true)(a47:PySem.W.findIn K (.ref k_Reader) "finish"=some (some (.ref f47)))(F47:Fun K "finish" "Reader.finish" qh3 f47 d47)(fn47:PySem.W.isFn K (.ref f47)=true)(a48:PySem.W.findIn K (.ref k_Reader) "read_opening"=some (some (.ref f48)))(F48:Fun K "read_opening" "Reader.read_opening" U2 f48 d48)(fn48:PySem.W.isFn K (.ref f48)=true)(a49:PySem.W.findIn K (.ref k_Reader) "read_closing"=some (some (.ref f49)))(F49:Fun K "read_closing" "Reader.read_closing" U3 f49 d49)(fn49:PySem.W.isFn K (.ref f49)=true)(a50:PySem.W.findIn K (.ref k_Reader) "read_run"=some (some (.ref f50)))(F50:Fun K "read_run" "Reader.read_run" qc2 f50 d50)(fn50:PySem.W.isFn K (.ref f50)=true)(a51:PySem.W.findIn K (.ref k_Reader) "open_names"=some (some (.ref f51)))(F51:Fun K "open_names" "Reader.open_names" R7 f51 d51)(fn51:PySem.W.isFn K (.ref f51)=true)(a52:PySem.W.findIn K (.ref k_Reader) "is_in_frame"=some (some (.ref f52)))(F52:Fun K "is_in_frame" "Reader.is_in_frame" V3 f52 d52)(fn52:PySem.W.isFn K (.ref f52)=true)(a53:PySem.W.findIn K (.ref k_Reader) "last_wall"=some (some (.ref f53)))(F53:Fun K "last_wall" "Reader.last_wall" T3 f53 d53)(fn53:PySem.W.isFn K (.ref f53)=true)(a54:PySem.W.findIn K (.ref k_Reader) "enter"=some (some (.ref f54)))(F54:Fun K "enter" "Reader.enter" qk0 f54 d54)(fn54:PySem.W.isFn K (.ref f54)=true)(a55:PySem.W.findIn K (.ref k_Reader) "leave"=some (some (.ref f55)))(F55:Fun K "leave" "Reader.leave" qk1 f55 d55)(fn55:PySem.W.isFn K (.ref f55)=true)(a56:PySem.W.findIn K (.ref k_Reader) "drop"=some (some (.ref f56)))(F56:Fun K "drop" "Reader.drop" qm8 f56 d56)(fn56:PySem.W.isFn K (.ref f56)=true)(a57:PySem.W.findIn K (.ref k_Reader) "put_in"=some (some (.ref f57)))(F57:Fun K "put_in" "Reader.put_in" qh4 f57 d57)(fn57:PySem.W.isFn K (.ref f57)=true)(a58:PySem.W.findIn K (.ref k_Reader) "close_behind"=some (some (.ref f58)))(F58:Fun K "close_behind" "Reader.close_behind" U4 f58 d58)(fn58:PySem.W.isFn K (.ref f58)=true)(a59:PySem.W.findIn K (.ref k_Reader) "put_in_waiting"=some (some (.ref f59)))(F59:Fun K "put_in_waiting" "Reader.put_in_waiting" S0 f59 d59)(fn59:PySem.W.isFn K (.ref f59)=true)(a60:PySem.W.findIn K (.ref k_Reader) "add_text"=some (some (.ref f60)))(F60:Fun K "add_text" "Reader.add_text" qc3 f60 d60)(fn60:PySem.W.isFn K (.ref f60)=true)(uLONGEST_NAME:PySem.W.nsIn K mainGlobals "LONGEST_NAME"=some (some (.int 8 k_LONGEST_NAME)))(uNAME:PySem.W.nsIn K mainGlobals "NAME"=some (some (.int 0 k_NAME)))(uSORT:PySem.W.nsIn K mainGlobals "SORT"=some (some (.int 1 k_SORT)))(uHOST:PySem.W.nsIn K mainGlobals "HOST"=some (some (.int 2 k_HOST)))(uSHUTS:PySem.W.nsIn K mainGlobals "SHUTS"=some (some (.int 3 k_SHUTS)))(uBARS:PySem.W.nsIn K mainGlobals "BARS"=some (some (.int 4 k_BARS)))(uROOT_NAME:PySem.W.nsIn K mainGlobals "ROOT_NAME"=some (some (.str "" k_ROOT_NAME)))(uMOST_OPEN:PySem.W.nsIn K mainGlobals "MOST_OPEN"=some (some (.int 20 k_MOST_OPEN)))(uSTART:PySem.W.nsIn K mainGlobals "START"=some (some (.int 1 k_START)))(uSTOP:PySem.W.nsIn K mainGlobals "STOP"=some (some (.int 2 k_STOP)))(uBLANKS:PySem.W.nsIn K mainGlobals "BLANKS"=some (some (.str " \n" k_BLANKS)))(uWALL_SORTS:PySem.W.nsIn K mainGlobals "WALL_SORTS"=some (some (.ref c_WALL_SORTS)))(wWALL_SORTS:K.lookup c_WALL_SORTS=some ⟨.type "tuple",d_WALL_SORTS,.seq #[.str "room" k_WALL_SORTS_0,.str "frame" k_WALL_SORTS_1] n_WALL_SORTS,sl_WALL_SORTS⟩)(uTOLD_FOR:PySem.W.nsIn K mainGlobals "TOLD_FOR"=some (some (.ref c_TOLD_FOR)))(wTOLD_FOR:K.lookup c_TOLD_FOR=some ⟨.type "tuple",d_TOLD_FOR,.seq #[.str "&l;" k_TOLD_FOR_0,.str "&a;" k_TOLD_FOR_1] n_TOLD_FOR,sl_TOLD_FOR⟩)(uESCAPED:PySem.W.nsIn K mainGlobals "ESCAPED"=some (some (.ref c_ESCAPED)))(wESCAPED:K.lookup c_ESCAPED=some ⟨.type "tuple",d_ESCAPED,.seq #[.str "<" k_ESCAPED_0,.str "&" k_ESCAPED_1] n_ESCAPED,sl_ESCAPED⟩)(pg0Branch:PySem.W.plainGet K k_Branch Str.empty=true)(hd0Branch:PySem.W.hasDictIn K k_Branch=true)(po0Branch:PySem.W.plainOver K k_Branch=true)(sa0Branch:PySem.W.findIn K (.ref k_Branch) "__setattr__"=some (some (.builtin "object.__setattr__")))(ns0Branch:PySem.W.nsIn K mainGlobals "Branch"=some (some (.ref k_Branch)))(na0Branch0name:PySem.W.findIn K (.ref k_Branch) "name"=some none)(na0Branch0place:PySem.W.findIn K (.ref k_Branch) "place"=some none)(na0Branch0parts:PySem.W.findIn K (.ref k_Branch) "parts"=some none)(na0Branch0waiting:PySem.W.findIn K (.ref k_Branch) "waiting"=some none)(pg0Reader:PySem.W.plainGet K k_Reader Str.empty=true)(hd0Reader:PySem.W.hasDictIn K k_Reader=true)(po0Reader:PySem.W.plainOver K k_Reader=true)(sa0Reader:PySem.W.findIn K (.ref k_Reader) "__setattr__"=some (some (.builtin "object.__setattr__")))(ns0Reader:PySem.W.nsIn K mainGlobals "Reader"=some (some (.ref k_Reader)))(na0Reader0book:PySem.W.findIn K (.ref k_Reader) "book"=some none)(na0Reader0branches:PySem.W.findIn K (.ref k_Reader) "branches"=some none)(na0Reader0mends:PySem.W.findIn K (.ref k_Reader) "mends"=some none)(na0Reader0laid:PySem.W.findIn K (.ref k_Reader) "laid"=some none)(mk0Branch:PySem.W.makesIn K k_Branch=true)(kp0Branch:PySem.W.keepIn K (.ref k_Branch)=true)(mk0Reader:PySem.W.makesIn K k_Reader=true)(kp0Reader:PySem.W.keepIn K (.ref k_Reader)=true)(zall:PySem.W.nsIn K mainGlobals "all"=some none)(zany:PySem.W.nsIn K mainGlobals "any"=some none)(zenumerate:PySem.W.nsIn K mainGlobals "enumerate"=some none)(zint:PySem.W.nsIn K mainGlobals "int"=some none)(zisinstance:PySem.W.nsIn K mainGlobals "isinstance"=some none)(zlen:PySem.W.nsIn K mainGlobals "len"=some none)(zrange:PySem.W.nsIn K mainGlobals "range"=some none)(zreversed:PySem.W.nsIn K mainGlobals "reversed"=some none)(zstr:PySem.W.nsIn K mainGlobals "str"=some none)(ztuple:PySem.W.nsIn K mainGlobals "tuple"=some none) :
 ∃ fd:FuncData,(∀ (s:Shared) (v:Value),BindsTo s fd ⟨[v],[]⟩ [("_law_script",v)])/\∀ base:Heap,K.In base->base.Ns mainGlobals mg->J7 l.prog w K mg base CX0 26 fa fd ["_law_script"] (wv1 K):=by
 have e:=hfa.symm.trans (PySem.W.mg_of X G a42)
 have e:f42=fa:=by cases e;rfl
 subst e
 obtain⟨_,_,kV,dc,pm,an,cd,ct,_,rfl,_,_⟩:=id F42.ex
 have b0:=F0.binds (ps:=["word"]) fun _ _ _ _ _ _ us hl=>by obtain⟨_,rfl⟩:=ln1 hl;rfl
 have b1:=F1.binds (ps:=["rows","name"]) fun _ _ _ _ _ _ us hl=>by obtain⟨_,_,rfl⟩:=ln2 hl;rfl
 have b2:=F2.binds (ps:=["book","name"]) fun _ _ _ _ _ _ us hl=>by obtain⟨_,_,rfl⟩:=ln2 hl;rfl
 have b3:=F3.binds (ps:=["book","name"]) fun _ _ _ _ _ _ us hl=>by obtain⟨_,_,rfl⟩:=ln2 hl;rfl
 have b4:=F4.binds (ps:=["book","name"]) fun _ _ _ _ _ _ us hl=>by obtain⟨_,_,rfl⟩:=ln2 hl;rfl
 have b5:=F5.binds (ps:=["book","name"]) fun _ _ _ _ _ _ us hl=>by obtain⟨_,_,rfl⟩:=ln2 hl;rfl
 have b6:=F6.binds (ps:=["book","name","frame"]) fun _ _ _ _ _ _ us hl=>by obtain⟨_,_,_,rfl⟩:=ln3 hl;rfl
 have b7:=F7.binds (ps:=["part"]) fun _ _ _ _ _ _ us hl=>by obtain⟨_,rfl⟩:=ln1 hl;rfl
 have b8:=F8.binds (ps:=["names"]) fun _ _ _ _ _ _ us hl=>by obtain⟨_,rfl⟩:=ln1 hl;rfl
 have b9:=F9.binds (ps:=["book","names"]) fun _ _ _ _ _ _ us hl=>by obtain⟨_,_,rfl⟩:=ln2 hl;rfl
 have b10:=F10.binds (ps:=["names","others"]) fun _ _ _ _ _ _ us hl=>by obtain⟨_,_,rfl⟩:=ln2 hl;rfl
 have b11:=F11.binds (ps:=["book","names","name"]) fun _ _ _ _ _ _ us hl=>by obtain⟨_,_,_,rfl⟩:=ln3 hl;rfl
 have b12:=F12.binds (ps:=["book","names","name"]) fun _ _ _ _ _ _ us hl=>by obtain⟨_,_,_,rfl⟩:=ln3 hl;rfl
 have b13:=F13.binds (ps:=["book","names"]) fun _ _ _ _ _ _ us hl=>by obtain⟨_,_,rfl⟩:=ln2 hl;rfl
 have b14:=F14.binds (ps:=["book","names","name"]) fun _ _ _ _ _ _ us hl=>by obtain⟨_,_,_,rfl⟩:=ln3 hl;rfl
 have b15:=F15.binds (ps:=["book","names","name"]) fun _ _ _ _ _ _ us hl=>by obtain⟨_,_,_,rfl⟩:=ln3 hl;rfl
 have b16:=F16.binds (ps:=["book","names","name"]) fun _ _ _ _ _ _ us hl=>by obtain⟨_,_,_,rfl⟩:=ln3 hl;rfl
 have b17:=F17.binds (ps:=["book","name"]) fun _ _ _ _ _ _ us hl=>by obtain⟨_,_,rfl⟩:=ln2 hl;rfl
 have b18:=F18.binds (ps:=["book","kept","put"]) fun _ _ _ _ _ _ us hl=>by obtain⟨_,_,_,rfl⟩:=ln3 hl;rfl
 have b19:=F19.binds (ps:=["text"]) fun _ _ _ _ _ _ us hl=>by obtain⟨_,rfl⟩:=ln1 hl;rfl
 have b20:=F20.binds (ps:=["run"]) fun _ _ _ _ _ _ us hl=>by obtain⟨_,rfl⟩:=ln1 hl;rfl
 have b21:=F21.binds (ps:=["run"]) fun _ _ _ _ _ _ us hl=>by obtain⟨_,rfl⟩:=ln1 hl;rfl
 have b22:=F22.binds (ps:=["text"]) fun _ _ _ _ _ _ us hl=>by obtain⟨_,rfl⟩:=ln1 hl;rfl
 have b23:=F23.binds (ps:=["text","settled","searched"]) fun _ _ _ _ _ _ us hl=>by obtain⟨_,_,_,rfl⟩:=ln3 hl;rfl
 have b24:=F24.binds (ps:=["text","searched"]) fun _ _ _ _ _ _ us hl=>by obtain⟨_,_,rfl⟩:=ln2 hl;rfl
 have b25:=F25.binds (ps:=["text","start"]) fun _ _ _ _ _ _ us hl=>by obtain⟨_,_,rfl⟩:=ln2 hl;rfl
 have b26:=F26.binds (ps:=["text","start"]) fun _ _ _ _ _ _ us hl=>by obtain⟨_,_,rfl⟩:=ln2 hl;rfl
 have b27:=F27.binds (ps:=["text","start","stop"]) fun _ _ _ _ _ _ us hl=>by obtain⟨_,_,_,rfl⟩:=ln3 hl;rfl
 have b28:=F28.binds (ps:=["text","start","stop"]) fun _ _ _ _ _ _ us hl=>by obtain⟨_,_,_,rfl⟩:=ln3 hl;rfl
 have b29:=F29.binds (ps:=["name"]) fun _ _ _ _ _ _ us hl=>by obtain⟨_,rfl⟩:=ln1 hl;rfl
 have b30:=F30.binds (ps:=["name"]) fun _ _ _ _ _ _ us hl=>by obtain⟨_,rfl⟩:=ln1 hl;rfl
 have b31:=F31.binds (ps:=["book","text"]) fun _ _ _ _ _ _ us hl=>by obtain⟨_,_,rfl⟩:=ln2 hl;rfl
 have b32:=F32.binds (ps:=["book","text"]) fun _ _ _ _ _ _ us hl=>by obtain⟨_,_,rfl⟩:=ln2 hl;rfl
 have b33:=F33.binds (ps:=["book","closed"]) fun _ _ _ _ _ _ us hl=>by obtain⟨_,_,rfl⟩:=ln2 hl;rfl
 have b34:=F34.binds (ps:=["names","name"]) fun _ _ _ _ _ _ us hl=>by obtain⟨_,_,rfl⟩:=ln2 hl;rfl
 have b35:=F35.binds (ps:=["book","names","name"]) fun _ _ _ _ _ _ us hl=>by obtain⟨_,_,_,rfl⟩:=ln3 hl;rfl
 have b36:=F36.binds (ps:=["_law_script","_law_k"]) fun _ _ _ _ _ _ us hl=>by obtain⟨_,_,rfl⟩:=ln2 hl;rfl
 have b37:=F37.binds (ps:=["_law_cell","_law_k"]) fun _ _ _ _ _ _ us hl=>by obtain⟨_,_,rfl⟩:=ln2 hl;rfl
 have b38:=F38.binds (ps:=["_law_number"]) fun _ _ _ _ _ _ us hl=>by obtain⟨_,rfl⟩:=ln1 hl;rfl
 have b39:=F39.binds (ps:=["_law_cell"]) fun _ _ _ _ _ _ us hl=>by obtain⟨_,rfl⟩:=ln1 hl;rfl
 have b40:=F40.binds (ps:=["_law_heap","_law_thing"]) fun _ _ _ _ _ _ us hl=>by obtain⟨_,_,rfl⟩:=ln2 hl;rfl
 have b41:=F41.binds (ps:=["_law_names_here","_law_hosts","_law_text","_law_mends"]) fun _ _ _ _ _ _ us hl=>by obtain⟨_,_,_,_,rfl⟩:=ln4 hl;rfl
 have b42:=F42.binds (ps:=["_law_script"]) fun _ _ _ _ _ _ us hl=>by obtain⟨_,rfl⟩:=ln1 hl;rfl
 have b43:=F43.binds (ps:=["self","name","place"]) fun _ _ _ _ _ _ us hl=>by obtain⟨_,_,_,rfl⟩:=ln3 hl;rfl
 have b44:=F44.binds (ps:=["self","book"]) fun _ _ _ _ _ _ us hl=>by obtain⟨_,_,rfl⟩:=ln2 hl;rfl
 have b45:=F45.binds (ps:=["self"]) fun _ _ _ _ _ _ us hl=>by obtain⟨_,rfl⟩:=ln1 hl;rfl
 have b46:=F46.binds (ps:=["self","kind","start","signs","told"]) fun _ _ _ _ _ _ us hl=>by obtain⟨_,_,_,_,_,rfl⟩:=ln5 hl;rfl
 have b47:=F47.binds (ps:=["self","size"]) fun _ _ _ _ _ _ us hl=>by obtain⟨_,_,rfl⟩:=ln2 hl;rfl
 have b48:=F48.binds (ps:=["self","start","signs","name"]) fun _ _ _ _ _ _ us hl=>by obtain⟨_,_,_,_,rfl⟩:=ln4 hl;rfl
 have b49:=F49.binds (ps:=["self","start","signs","name"]) fun _ _ _ _ _ _ us hl=>by obtain⟨_,_,_,_,rfl⟩:=ln4 hl;rfl
 have b50:=F50.binds (ps:=["self","start","signs","told"]) fun _ _ _ _ _ _ us hl=>by obtain⟨_,_,_,_,rfl⟩:=ln4 hl;rfl
 have b51:=F51.binds (ps:=["self"]) fun _ _ _ _ _ _ us hl=>by obtain⟨_,rfl⟩:=ln1 hl;rfl
 have b52:=F52.binds (ps:=["self"]) fun _ _ _ _ _ _ us hl=>by obtain⟨_,rfl⟩:=ln1 hl;rfl
 have b53:=F53.binds (ps:=["self"]) fun _ _ _ _ _ _ us hl=>by obtain⟨_,rfl⟩:=ln1 hl;rfl
 have b54:=F54.binds (ps:=["self","name"]) fun _ _ _ _ _ _ us hl=>by obtain⟨_,_,rfl⟩:=ln2 hl;rfl
 have b55:=F55.binds (ps:=["self"]) fun _ _ _ _ _ _ us hl=>by obtain⟨_,rfl⟩:=ln1 hl;rfl
 have b56:=F56.binds (ps:=["self","start","signs","rule"]) fun _ _ _ _ _ _ us hl=>by obtain⟨_,_,_,_,rfl⟩:=ln4 hl;rfl
 have b57:=F57.binds (ps:=["self","name","start","rule"]) fun _ _ _ _ _ _ us hl=>by obtain⟨_,_,_,_,rfl⟩:=ln4 hl;rfl
 have b58:=F58.binds (ps:=["self","kept","start","rule"]) fun _ _ _ _ _ _ us hl=>by obtain⟨_,_,_,_,rfl⟩:=ln4 hl;rfl
 have b59:=F59.binds (ps:=["self","start"]) fun _ _ _ _ _ _ us hl=>by obtain⟨_,_,rfl⟩:=ln2 hl;rfl
 have b60:=F60.binds (ps:=["self","start","signs","told"]) fun _ _ _ _ _ _ us hl=>by obtain⟨_,_,_,_,rfl⟩:=ln4 hl;rfl
 let t:Adr:={za:=⟨f0,d0⟩,zb:=⟨f1,d1⟩,zc:=⟨f2,d2⟩,zd:=⟨f3,d3⟩,ze:=⟨f4,d4⟩,zf:=⟨f5,d5⟩,zh:=⟨f6,d6⟩,zi:=⟨f7,d7⟩,zj:=⟨f8,d8⟩,zk:=⟨f9,d9⟩,zm:=⟨f10,d10⟩,zn:=⟨f11,d11⟩,zo:=⟨f12,d12⟩,zp:=⟨f13,d13⟩,zr:=⟨f14,d14⟩,zt:=⟨f15,d15⟩,zu:=⟨f16,d16⟩,zv:=⟨f17,d17⟩,zw:=⟨f18,d18⟩,zx:=⟨f19,d19⟩,zy:=⟨f20,d20⟩,zz:=⟨f21,d21⟩,ya:=⟨f22,d22⟩,yb:=⟨f23,d23⟩,yc:=⟨f24,d24⟩,yd:=⟨f25,d25⟩,ye:=⟨f26,d26⟩,yf:=⟨f27,d27⟩,yg:=⟨f28,d28⟩,yh:=⟨f29,d29⟩,yi:=⟨f30,d30⟩,yj:=⟨f31,d31⟩,yk:=⟨f32,d32⟩,yl:=⟨f33,d33⟩,ym:=⟨f34,d34⟩,yn:=⟨f35,d35⟩,yo:=⟨f36,d36⟩,yp:=⟨f37,d37⟩,yq:=⟨f38,d38⟩,yr:=⟨f39,d39⟩,yt:=⟨f40,d40⟩,yu:=⟨f41,d41⟩,yw:=⟨f42,PySem.W.fnOf "law" "law" (wn5 xg7) (wg4 xg7) (B1 xg7) .none kV dc pm an cd ct⟩,a_c_Branch_init:=f43,d_c_Branch_init:=d43,a_c_Reader_init:=f44,d_c_Reader_init:=d44,a_c_Reader_root:=f45,d_c_Reader_root:=d45,a_c_Reader_read:=f46,d_c_Reader_read:=d46,a_c_Reader_finish:=f47,d_c_Reader_finish:=d47,a_c_Reader_read_opening:=f48,d_c_Reader_read_opening:=d48,a_c_Reader_read_closing:=f49,d_c_Reader_read_closing:=d49,a_c_Reader_read_run:=f50,d_c_Reader_read_run:=d50,a_c_Reader_open_names:=f51,d_c_Reader_open_names:=d51,a_c_Reader_is_in_frame:=f52,d_c_Reader_is_in_frame:=d52,a_c_Reader_last_wall:=f53,d_c_Reader_last_wall:=d53,a_c_Reader_enter:=f54,d_c_Reader_enter:=d54,a_c_Reader_leave:=f55,d_c_Reader_leave:=d55,a_c_Reader_drop:=f56,d_c_Reader_drop:=d56,a_c_Reader_put_in:=f57,d_c_Reader_put_in:=d57,a_c_Reader_close_behind:=f58,d_c_Reader_close_behind:=d58,a_c_Reader_put_in_waiting:=f59,d_c_Reader_put_in_waiting:=d59,a_c_Reader_add_text:=f60,d_c_Reader_add_text:=d60,v_LONGEST_NAME:=.int 8 k_LONGEST_NAME,v_NAME:=.int 0 k_NAME,v_SORT:=.int 1 k_SORT,v_HOST:=.int 2 k_HOST,v_SHUTS:=.int 3 k_SHUTS,v_BARS:=.int 4 k_BARS,v_ROOT_NAME:=.str "" k_ROOT_NAME,v_MOST_OPEN:=.int 20 k_MOST_OPEN,v_START:=.int 1 k_START,v_STOP:=.int 2 k_STOP,v_BLANKS:=.str " \n" k_BLANKS,c_WALL_SORTS:=c_WALL_SORTS,c_TOLD_FOR:=c_TOLD_FOR,c_ESCAPED:=c_ESCAPED,k_Branch:=k_Branch,k_Reader:=k_Reader}
 have T:Txt K mg t:=⟨⟨F0,b0,PySem.W.mg_of X G a0⟩,⟨F1,b1,PySem.W.mg_of X G a1⟩,⟨F2,b2,PySem.W.mg_of X G a2⟩,⟨F3,b3,PySem.W.mg_of X G a3⟩,⟨F4,b4,PySem.W.mg_of X G a4⟩,⟨F5,b5,PySem.W.mg_of X G a5⟩,⟨F6,b6,PySem.W.mg_of X G a6⟩,⟨F7,b7,PySem.W.mg_of X G a7⟩,⟨F8,b8,PySem.W.mg_of X G a8⟩,⟨F9,b9,PySem.W.mg_of X G a9⟩,⟨F10,b10,PySem.W.mg_of X G a10⟩,⟨F11,b11,PySem.W.mg_of X G a11⟩,⟨F12,b12,PySem.W.mg_of X G a12⟩,⟨F13,b13,PySem.W.mg_of X G a13⟩,⟨F14,b14,PySem.W.mg_of X G a14⟩,⟨F15,b15,PySem.W.mg_of X G a15⟩,⟨F16,b16,PySem.W.mg_of X G a16⟩,⟨F17,b17,PySem.W.mg_of X G a17⟩,⟨F18,b18,PySem.W.mg_of X G a18⟩,⟨F19,b19,PySem.W.mg_of X G a19⟩,⟨F20,b20,PySem.W.mg_of X G a20⟩,⟨F21,b21,PySem.W.mg_of X G a21⟩,⟨F22,b22,PySem.W.mg_of X G a22⟩,⟨F23,b23,PySem.W.mg_of X G a23⟩,⟨F24,b24,PySem.W.mg_of X G a24⟩,⟨F25,b25,PySem.W.mg_of X G a25⟩,⟨F26,b26,PySem.W.mg_of X G a26⟩,⟨F27,b27,PySem.W.mg_of X G a27⟩,⟨F28,b28,PySem.W.mg_of X G a28⟩,⟨F29,b29,PySem.W.mg_of X G a29⟩,⟨F30,b30,PySem.W.mg_of X G a30⟩,⟨F31,b31,PySem.W.mg_of X G a31⟩,⟨F32,b32,PySem.W.mg_of X G a32⟩,⟨F33,b33,PySem.W.mg_of X G a33⟩,⟨F34,b34,PySem.W.mg_of X G a34⟩,⟨F35,b35,PySem.W.mg_of X G a35⟩,⟨F36,b36,PySem.W.mg_of X G a36⟩,⟨F37,b37,PySem.W.mg_of X G a37⟩,⟨F38,b38,PySem.W.mg_of X G a38⟩,⟨F39,b39,PySem.W.mg_of X G a39⟩,⟨F40,b40,PySem.W.mg_of X G a40⟩,⟨F41,b41,PySem.W.mg_of X G a41⟩,⟨F42,b42,PySem.W.mg_of X G a42⟩,F43,b43,⟨mk0Branch,a43,fn43,kp0Branch⟩,F44,b44,⟨mk0Reader,a44,fn44,kp0Reader⟩,F45,b45,⟨a45,fn45,F45.kp⟩,F46,b46,⟨a46,fn46,F46.kp⟩,F47,b47,⟨a47,fn47,F47.kp⟩,F48,b48,⟨a48,fn48,F48.kp⟩,F49,b49,⟨a49,fn49,F49.kp⟩,F50,b50,⟨a50,fn50,F50.kp⟩,F51,b51,⟨a51,fn51,F51.kp⟩,F52,b52,⟨a52,fn52,F52.kp⟩,F53,b53,⟨a53,fn53,F53.kp⟩,F54,b54,⟨a54,fn54,F54.kp⟩,F55,b55,⟨a55,fn55,F55.kp⟩,F56,b56,⟨a56,fn56,F56.kp⟩,F57,b57,⟨a57,fn57,F57.kp⟩,F58,b58,⟨a58,fn58,F58.kp⟩,F59,b59,⟨a59,fn59,F59.kp⟩,F60,b60,⟨a60,fn60,F60.kp⟩,PySem.W.mg_of X G uWALL_SORTS,fun _=>.inr ⟨_,_,_,wWALL_SORTS,rfl,rfl,by rw[sizeLine_eq];show 2<=_;decide,(.cons ⟨_,rfl⟩ (.cons ⟨_,rfl⟩ .nil))⟩,⟨PySem.W.mg_of X G uLONGEST_NAME,⟨_,rfl⟩⟩,⟨PySem.W.mg_of X G uNAME,⟨_,rfl⟩⟩,⟨PySem.W.mg_of X G uSORT,⟨_,rfl⟩⟩,⟨PySem.W.mg_of X G uHOST,⟨_,rfl⟩⟩,⟨PySem.W.mg_of X G uSHUTS,⟨_,rfl⟩⟩,⟨PySem.W.mg_of X G uBARS,⟨_,rfl⟩⟩,⟨PySem.W.mg_of X G uROOT_NAME,⟨_,rfl⟩⟩,⟨PySem.W.mg_of X G uMOST_OPEN,⟨_,rfl⟩⟩,PySem.W.mg_of X G uTOLD_FOR,fun _=>.inr ⟨_,_,_,wTOLD_FOR,rfl,rfl,by rw[sizeLine_eq];show 2<=_;decide,(.cons ⟨_,rfl⟩ (.cons ⟨_,rfl⟩ .nil))⟩,PySem.W.mg_of X G uESCAPED,fun _=>.inr ⟨_,_,_,wESCAPED,rfl,rfl,by rw[sizeLine_eq];show 2<=_;decide,(.cons ⟨_,rfl⟩ (.cons ⟨_,rfl⟩ .nil))⟩,⟨PySem.W.mg_of X G uSTART,⟨_,rfl⟩⟩,⟨PySem.W.mg_of X G uSTOP,⟨_,rfl⟩⟩,⟨PySem.W.mg_of X G uBLANKS,⟨_,rfl⟩⟩,PySem.W.mg_none_of X G zall,PySem.W.mg_none_of X G zany,PySem.W.mg_none_of X G zenumerate,PySem.W.mg_none_of X G zint,PySem.W.mg_none_of X G zisinstance,PySem.W.mg_none_of X G zlen,PySem.W.mg_none_of X G zrange,PySem.W.mg_none_of X G zreversed,PySem.W.mg_none_of X G zstr,PySem.W.mg_none_of X G ztuple,PySem.W.mg_of X G eBranch,PySem.W.mg_of X G eReader,⟨pg0Branch,hd0Branch,po0Branch,sa0Branch,ns0Branch,na0Branch0name,na0Branch0place,na0Branch0parts,na0Branch0waiting,pg0Reader,hd0Reader,po0Reader,sa0Reader,ns0Reader,na0Reader0book,na0Reader0branches,na0Reader0mends,na0Reader0laid⟩⟩
 exact⟨_,fun s v=>.of_eq rfl,fun base _ _=>zu4 T⟩
theorem walk{l:PySem.W.OpenLaw}{q:Program}{loose:List Str}{XP:(Str->Option Value)->Heap->Prop}{as:List Addr}{z t:Nat}{d:DefRec}{K:Params->Fg}(hn:l.most=some 63)(hdf:d.params.defaults=[])(hk:∀ P,as=(K P).map (·.1))(h0:0<t) (F:∀ (w:World) (mg:Str->Option Value) (fa:Addr) (h:Heap),(K w.params).In h->h.Ns mainGlobals mg->mg d.name=some (.ref fa) ->
  ∃ fd:FuncData,(∀ (s:Shared) (u:Value),BindsTo s fd ⟨[u],[]⟩ [("_law_script",u)])/\∀ base:Heap,(K w.params).In base->base.Ns mainGlobals mg->J7 l.prog w (K w.params) mg base CX0 26 fa fd ["_law_script"] (wv1 (K w.params))) :
 PySem.W.WalkX q loose XP (PySem.W.X.obsZ as) (PySem.W.X.valZ K z t) l.row.toRowW d [] (fun f vs=>PySem.call f vs) :=
 L2.zf5 (n:=63) (k:=26) (x := "_law_script") (CX:=fun _=>CX0) (sp:=fun w=>wv1 (K w.params)) hn (by decide) hdf ⟨rfl,by decide,by decide,rfl⟩ hk h0 F (fun _ _ a ns hl _ hS=>⟨a,ns,rfl,hS,hl,fun _=>rfl⟩) fun _ _ _ _ _ z=>z
end
end My
open PySem PySem.W PyProof.Rows
local macro_rules | `(tactic| x_go) => `(tactic| (refine' L2.zp3 ?l ?c ?k; (case l => k_is); (case c => k_is); (case k => k_is)))
set_option maxRecDepth 100000 in
set_option maxHeartbeats 0 in
theorem PySem.Challenge.cw_tagmend_k43_lists_holds : PySem.Challenge.rw_tagmend_k43_lists.Holds := by
 w_on;o_law;z_head;(case hw=>w_witness2)
 k_fill
 refine My.walk (l:=PySem.Challenge.rw_tagmend_k43_lists) rfl rfl (fun _=>rfl) (by decide) ?F
 case F =>
  intro w mg fa h KX G hmg
  refine' My.all_mk KX G hmg ?eBranch ?eReader ?a0 ?F0 ?a1 ?F1 ?a2 ?F2 ?a3 ?F3 ?a4 ?F4 ?a5 ?F5 ?a6 ?F6 ?a7 ?F7 ?a8 ?F8 ?a9 ?F9 ?a10 ?F10 ?a11 ?F11 ?a12 ?F12 ?a13 ?F13 ?a14 ?F14 ?a15 ?F15 ?a16 ?F16 ?a17 ?F17 ?a18 ?F18 ?a19 ?F19 ?a20 ?F20 ?a21 ?F21 ?a22 ?F22 ?a23 ?F23 ?a24 ?F24 ?a25 ?F25 ?a26 ?F26 ?a27 ?F27 ?a28 ?F28 ?a29 ?F29 ?a30 ?F30 ?a31 ?F31 ?a32 ?F32 ?a33 ?F33 ?a34 ?F34 ?a35 ?F35 ?a36 ?F36 ?a37 ?F37 ?a38 ?F38 ?a39 ?F39 ?a40 ?F40 ?a41 ?F41 ?a42 ?F42 ?a43 ?F43 ?fn43 ?a44 ?F44 ?fn44 ?a45 ?F45 ?fn45 ?a46 ?F46 ?fn46 ?a47 ?F47 ?fn47 ?a48 ?F48 ?fn48 ?a49 ?F49 ?fn49 ?a50 ?F50 ?fn50 ?a51 ?F51 ?fn51 ?a52 ?F52 ?fn52 ?a53 ?F53 ?fn53 ?a54 ?F54 ?fn54 ?a55 ?F55 ?fn55 ?a56 ?F56 ?fn56 ?a57 ?F57 ?fn57 ?a58 ?F58 ?fn58 ?a59 ?F59 ?fn59 ?a60 ?F60 ?fn60 ?uWALL_SORTS ?wWALL_SORTS ?uLONGEST_NAME ?uNAME ?uSORT ?uHOST ?uSHUTS ?uBARS ?uROOT_NAME ?uMOST_OPEN ?uTOLD_FOR ?wTOLD_FOR ?uESCAPED ?wESCAPED ?uSTART ?uSTOP ?uBLANKS ?pg0Branch ?hd0Branch ?po0Branch ?sa0Branch ?ns0Branch ?na0Branch0name ?na0Branch0place ?na0Branch0parts ?na0Branch0waiting ?pg0Reader ?hd0Reader ?po0Reader ?sa0Reader ?ns0Reader ?na0Reader0book ?na0Reader0branches ?na0Reader0mends ?na0Reader0laid ?mk0Branch ?kp0Branch ?mk0Reader ?kp0Reader ?zall ?zany ?zenumerate ?zint ?zisinstance ?zlen ?zrange ?zreversed ?zstr ?ztuple
  (case eBranch=>k_is);(case eReader=>k_is);(case a0=>k_is);(case F0=>x_go)
  (case a1=>k_is);(case F1=>x_go);(case a2=>k_is);(case F2=>x_go)
  (case a3=>k_is);(case F3=>x_go);(case a4=>k_is);(case F4=>x_go)
  (case a5=>k_is);(case F5=>x_go);(case a6=>k_is);(case F6=>x_go)
  (case a7=>k_is);(case F7=>x_go);(case a8=>k_is);(case F8=>x_go)
  (case a9=>k_is);(case F9=>x_go);(case a10=>k_is);(case F10=>x_go)
  (case a11=>k_is);(case F11=>x_go);(case a12=>k_is);(case F12=>x_go)
  (case a13=>k_is);(case F13=>x_go);(case a14=>k_is);(case F14=>x_go)
  (case a15=>k_is);(case F15=>x_go);(case a16=>k_is);(case F16=>x_go)
  (case a17=>k_is);(case F17=>x_go);(case a18=>k_is);(case F18=>x_go)
  (case a19=>k_is);(case F19=>x_go);(case a20=>k_is);(case F20=>x_go)
  (case a21=>k_is);(case F21=>x_go);(case a22=>k_is);(case F22=>x_go)
  (case a23=>k_is);(case F23=>x_go);(case a24=>k_is);(case F24=>x_go)
  (case a25=>k_is);(case F25=>x_go);(case a26=>k_is);(case F26=>x_go)
  (case a27=>k_is);(case F27=>x_go);(case a28=>k_is);(case F28=>x_go)
  (case a29=>k_is);(case F29=>x_go);(case a30=>k_is);(case F30=>x_go)
  (case a31=>k_is);(case F31=>x_go);(case a32=>k_is);(case F32=>x_go)
  (case a33=>k_is);(case F33=>x_go);(case a34=>k_is);(case F34=>x_go)
  (case a35=>k_is);(case F35=>x_go);(case a36=>k_is);(case F36=>x_go)
  (case a37=>k_is);(case F37=>x_go);(case a38=>k_is);(case F38=>x_go)
  (case a39=>k_is);(case F39=>x_go);(case a40=>k_is);(case F40=>x_go)
  (case a41=>k_is);(case F41=>x_go);(case a42=>k_is);(case F42=>x_go)
  (case a43=>k_is);(case F43=>x_go);(case fn43=>k_is);(case a44=>k_is)
  (case F44=>x_go);(case fn44=>k_is);(case a45=>k_is);(case F45=>x_go)
  (case fn45=>k_is);(case a46=>k_is);(case F46=>x_go);(case fn46=>k_is)
  (case a47=>k_is);(case F47=>x_go);(case fn47=>k_is);(case a48=>k_is)
  (case F48=>x_go);(case fn48=>k_is);(case a49=>k_is);(case F49=>x_go)
  (case fn49=>k_is);(case a50=>k_is);(case F50=>x_go);(case fn50=>k_is)
  (case a51=>k_is);(case F51=>x_go);(case fn51=>k_is);(case a52=>k_is)
  (case F52=>x_go);(case fn52=>k_is);(case a53=>k_is);(case F53=>x_go)
  (case fn53=>k_is);(case a54=>k_is);(case F54=>x_go);(case fn54=>k_is)
  (case a55=>k_is);(case F55=>x_go);(case fn55=>k_is);(case a56=>k_is)
  (case F56=>x_go);(case fn56=>k_is);(case a57=>k_is);(case F57=>x_go)
  (case fn57=>k_is);(case a58=>k_is);(case F58=>x_go);(case fn58=>k_is)
  (case a59=>k_is);(case F59=>x_go);(case fn59=>k_is);(case a60=>k_is)
  (case F60=>x_go);(case fn60=>k_is);(case uWALL_SORTS=>k_is);(case wWALL_SORTS=>k_is)
  (case uLONGEST_NAME=>k_is);(case uNAME=>k_is);(case uSORT=>k_is);(case uHOST=>k_is)
  (case uSHUTS=>k_is);(case uBARS=>k_is);(case uROOT_NAME=>k_is);(case uMOST_OPEN=>k_is)
  (case uTOLD_FOR=>k_is);(case wTOLD_FOR=>k_is);(case uESCAPED=>k_is);(case wESCAPED=>k_is)
  (case uSTART=>k_is);(case uSTOP=>k_is);(case uBLANKS=>k_is);(case pg0Branch=>k_is)
  (case hd0Branch=>k_is);(case po0Branch=>k_is);(case sa0Branch=>k_is);(case ns0Branch=>k_is)
  (case na0Branch0name=>k_is);(case na0Branch0place=>k_is);(case na0Branch0parts=>k_is);(case na0Branch0waiting=>k_is)
  (case pg0Reader=>k_is);(case hd0Reader=>k_is);(case po0Reader=>k_is);(case sa0Reader=>k_is)
  (case ns0Reader=>k_is);(case na0Reader0book=>k_is);(case na0Reader0branches=>k_is);(case na0Reader0mends=>k_is)
  (case na0Reader0laid=>k_is);(case mk0Branch=>k_is);(case kp0Branch=>k_is);(case mk0Reader=>k_is)
  (case kp0Reader=>k_is);(case zall=>k_is);(case zany=>k_is);(case zenumerate=>k_is)
  (case zint=>k_is);(case zisinstance=>k_is);(case zlen=>k_is);(case zrange=>k_is)
  (case zreversed=>k_is);(case zstr=>k_is);(case ztuple=>k_is)
end
