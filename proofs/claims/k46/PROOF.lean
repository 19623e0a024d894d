import PyProof.Rows.All
import Wide.All
import OpenK.AllK
import Wide.FinOn
import Lean
import PyProof.EqAt
import PyProof.EqKinds
import PyProof.TupleCall
import PyProof.NeData
import PyProof.Rows.StrJoin2
import PyProof.Rows.SortStr
import PyProof.Rows.SortWalk
import KE.KRevIter
import PyProof.Rows.RuleN_isinstance
import PyProof.StrReplace2
import PyProof.StrWalks
import PyProof.Draws
import PyProof.EnumMake
import PyProof.Rows.StrNews2
import PyProof.StrLawsTight
import PyProof.StrLawsReplace
import PyProof.ConsumeWalk
import PyProof.StrLawsFrom
import PyProof.DictValues
import PyProof.Rows.SumAny
import PyProof.SeqI3
import PyProof.NoPylong
import PyProof.Rows.FStrParts
import PyProof.ListRange
import PyProof.ListStr
import PyProof.DictWalks
import PyProof.DictItemsLoops
import PyProof.FactsAll.dict_itemiterator_1
import PyProof.Rows.RegStrFacts
import KE.KDictList
import KE.KDictOf
import PyProof.AttrMissSeq
import PyProof.TupleIter
import PyProof.StrLawsFirst
import PyProof.ReprHeadsTuple
import PyProof.ReprLen
import PyProof.Rows.StrMul
import PySem.Challenge.RW_tagmend_k46_too_deep
set_option Elab.async false
set_option hygiene false
set_option linter.all false
set_option compiler.extract_closed false
set_option genSizeOf false
set_option bootstrap.genMatcherCode false
local macro_rules | `(tactic| omega) => `(tactic| lia)
local macro_rules | `(tactic| walk_at "tk") => `(tactic| first | exact Nat.succ_pos _ | assumption | exact L2.Inv.tk ‹_› | omega)
local macro_rules | `(tactic| z_go) => `(tactic| first | exact Nat.le_of_ble_eq_true rfl | simp)
local macro_rules | `(tactic| walk_at "or") => `(tactic| first | exact .inl rfl | exact .inr rfl)
local macro_rules | `(tactic| walk_at "le") => `(tactic| first | decide | omega)
local macro_rules | `(tactic| walk_at "k") => `(tactic| exact ⟨rfl, rfl, rfl, by decide +kernel, rfl, by decide +kernel, by decide +kernel⟩)
local macro_rules | `(tactic| walk_at "n") => `(tactic| (intro _ _ _ _ zh; repeat (first | (obtain ⟨rfl, _⟩ := zh; rfl) | obtain ⟨_, zh⟩ := zh)))
theorem zAu(a:True:=by rfl)(b:True:=by decide)(c:0<1:=by walk_at "tk")(d:True:=by intro _;rfl)(e:True:=by first|exact .inl rfl|exact .inr rfl|assumption):True:=a
def zAr:Lean.Syntax:=zAu._auto_1
def zAd:Lean.Syntax:=zAu._auto_2
def zAt:Lean.Syntax:=zAu._auto_3
def zAi:Lean.Syntax:=zAu._auto_4
def zAf:Lean.Syntax:=zAu._auto_5
theorem PySem.W.Fast.tw853626670362069278 : True := ⟨⟩
theorem PySem.W.Fast.tw14624902344744289898 : True := ⟨⟩
theorem PySem.W.Fast.tw7500947632852358123 : True := ⟨⟩
theorem PySem.W.Fast.tw7668860339218719029 : True := ⟨⟩
theorem PySem.W.Fast.tw7587853395671718990 : True := ⟨⟩
theorem PySem.W.Fast.tw876109473119293019 : True := ⟨⟩
theorem PySem.W.Fast.tw17827115674512155411 : True := ⟨⟩
theorem PySem.W.Fast.tw1677249793174726108 : True := ⟨⟩
theorem PySem.W.Fast.tw13740667967990916880 : True := ⟨⟩
theorem PySem.W.Fast.tw1793452683212215507 : True := ⟨⟩
theorem PySem.W.Fast.tw6704762090976418147 : True := ⟨⟩
theorem PySem.W.Fast.tw6989528201988498082 : True := ⟨⟩
theorem PySem.W.Fast.tw13506138075714826035 : True := ⟨⟩
theorem PySem.W.Fast.tw14643292484958994045 : True := ⟨⟩
theorem PySem.W.Fast.tw751511544103250772 : True := ⟨⟩
theorem PySem.W.Fast.tw11965677196168636735 : True := ⟨⟩
noncomputable section
abbrev Fg:=PySem.W.Frag
set_option maxRecDepth 100000
namespace L2
open PySem PySem.Spec PyProof.Rows
abbrev Key:=Sum Int Str
def xl5:Key->Value->Bool
 | .inl k,v=>Value.isInt k v
 | .inr x,v=>Value.isStrOf x v
def Ab7(w:World):Key->Int
 | .inl k=>hashInt k
 | .inr x=>hashStr w x
theorem S2:∀ {k:Key} {v:Value},xl5 k v=true->(∃ i t,k=Sum.inl i/\v=Value.int i t)\/(∃ x t,k=Sum.inr x/\v=Value.str x t)
 | .inl i,v,h=>by
   obtain⟨t,e⟩:=Value.isInt_shape (k:=i) (v:=v) h
   exact .inl ⟨i,t,rfl,e⟩
 | .inr x,v,h=>by
   obtain⟨t,e⟩:=Value.isStrOf_shape (x:=x) (v:=v) h
   exact .inr ⟨x,t,rfl,e⟩
theorem yp1(i:Int)(t:Tok):xl5 (.inl i) (.int i t)=true:=by simp[xl5,Value.isInt]
theorem yp2(x:Str)(t:Tok):xl5 (.inr x) (.str x t)=true:=by simp[xl5,Value.isStrOf]
theorem zo8(a b:Int):decide ((Sum.inl a:Key)=Sum.inl b)=(a == b):=by
 by_cases e:a=b
 ·subst e;simp
 ·have h:¬(Sum.inl a:Key)=Sum.inl b:=fun q=>e (Sum.inl.inj q)
  rw[decide_eq_false h]
  exact(beq_eq_false_iff_ne.mpr e).symm
theorem zo9(a b:Str):decide ((Sum.inr a:Key)=Sum.inr b)=decide (a=b):=by
 by_cases e:a=b
 ·subst e;simp
 ·have h:¬(Sum.inr a:Key)=Sum.inr b:=fun q=>e (Sum.inr.inj q)
  rw[decide_eq_false h,decide_eq_false e]
theorem zp0(a:Int)(b:Str):decide ((Sum.inl a:Key)=Sum.inr b)=false:=decide_eq_false (fun q=>nomatch q)
theorem zp1(a:Str)(b:Int):decide ((Sum.inr a:Key)=Sum.inl b)=false:=decide_eq_false (fun q=>nomatch q)
def X9(prog:Program)(w:World):PySem.KeyKind prog w Key where
 is:=xl5
 hash:=Ab7 w
 inj:=fun v a b ha hb=>by
  rcases S2 ha with⟨i,t,rfl,rfl⟩|⟨x,t,rfl,rfl⟩
  ·rcases S2 hb with⟨j,u,rfl,e⟩|⟨y,u,rfl,e⟩
   ·injection e with e1 _;rw[e1]
   ·exact nomatch e
  ·rcases S2 hb with⟨j,u,rfl,e⟩|⟨y,u,rfl,e⟩
   ·exact nomatch e
   ·injection e with e1 _;rw[e1]
 byValue:=fun k v h=>by
  rcases S2 h with⟨i,t,rfl,rfl⟩|⟨x,t,rfl,rfl⟩ <;> rfl
 pyHash:=fun hv h=>by
  rcases S2 hv with⟨i,t,rfl,rfl⟩|⟨x,t,rfl,rfl⟩
  ·exact wpAny_pyHash_int h
  ·exact wpAny_pyHash_str h
 eqBool:=fun hu hv h=>by
  rcases S2 hu with⟨i,t,rfl,rfl⟩|⟨x,t,rfl,rfl⟩
  ·rcases S2 hv with⟨j,u,rfl,rfl⟩|⟨y,u,rfl,rfl⟩
   ·rw[zo8] at h;exact wpAny_eqBool_int h
   ·rw[zp0] at h;exact SeqAt.EqAt.int_str i t y u _ _ _ _ h
  ·rcases S2 hv with⟨j,u,rfl,rfl⟩|⟨y,u,rfl,rfl⟩
   ·rw[zp1] at h;exact SeqAt.EqAt.str_int x t j u _ _ _ _ h
   ·rw[zo9] at h;exact wpAny_eqBool_str h
 «strs»:=fun k x t v h=>by
  rcases S2 h with⟨i,u,rfl,e⟩|⟨y,u,rfl,e⟩
  ·exact nomatch e
  ·injection e with e1 _
   subst e1
   cases v <;> rfl
theorem xv3(prog:Program)(w:World)(i:Int)(t:Tok):(X9 prog w).is (.inl i) (.int i t)=true:=yp1 i t
theorem xv4(prog:Program)(w:World)(x:Str)(t:Tok):(X9 prog w).is (.inr x) (.str x t)=true:=yp2 x t
inductive V where
 | non|bl (b:Bool)|int (i:Int)|str (x:Str)|byt (b:Array UInt8)|flt (b:UInt64)|ref (a:Addr)|ty (n:String)
 deriving DecidableEq
def J9:V->Value->Prop
 | .non,u=>u=Value.none
 | .bl b,u=>u=Value.bool b
 | .int i,u=>∃ t,u=Value.int i t
 | .str x,u=>∃ t,u=Value.str x t
 | .byt b,u=>∃ t,u=Value.bytes b t
 | .flt b,u=>∃ t,u=Value.float b t
 | .ref a,u=>u=Value.ref a
 | .ty n,u=>u=Value.type n
abbrev G7:List V->List Value->Prop:=Paired J9
variable{us:List Value}{xs:List V}
theorem G7.length(r:G7 xs us):xs.length=us.length:=Paired.length r
theorem G7.get:∀ {xs:List V} {us:List Value} {i:Nat} {x:V},G7 xs us->xs[i]?=some x->∃ u,us[i]?=some u/\J9 x u
 | _,_,_,_,.nil,e=>by simp at e
 | _,_,0,_,.cons r _,e=>by simp at e;subst e;exact⟨_,rfl,r⟩
 | _,_,i+1,x,.cons _ t,e=>by
   obtain⟨u,h1,h2⟩:=G7.get (i:=i) (x:=x) t (by simpa using e)
   exact⟨u,by simpa using h1,h2⟩
theorem G7.set{x:V}{u:Value}(r:J9 x u):∀ {xs:List V} {us:List Value} (i:Nat),G7 xs us->G7 (xs.set i x) (us.set i u)
 | _,_,_,.nil=>.nil
 | _,_,0,.cons _ t=>.cons r t
 | _,_,i+1,.cons q t=>.cons q (G7.set r i t)
theorem G7.append:∀ {xs ys:List V} {us ws:List Value},G7 xs us->G7 ys ws->G7 (xs++ys) (us++ws)
 | _,_,_,_,.nil,s=>s
 | _,_,_,_,.cons r t,s=>.cons r (G7.append t s)
theorem G7.take:∀ {xs:List V} {us:List Value} (n:Nat),G7 xs us->G7 (xs.take n) (us.take n)
 | _,_,0,_=>.nil
 | _,_,_+1,.nil=>.nil
 | _,_,n+1,.cons r t=>.cons r (G7.take n t)
theorem G7.drop:∀ {xs:List V} {us:List Value} (n:Nat),G7 xs us->G7 (xs.drop n) (us.drop n)
 | _,_,0,r=>r
 | _,_,_+1,.nil=>.nil
 | _,_,n+1,.cons _ t=>G7.drop n t
def wo3:Option V->Option Value->Prop
 | some v,some u=>J9 v u
 | none,none=>True
 | _,_=>False
def KV{κ:Type}:List (κ×V)->List (κ×Value)->Prop:=Paired fun(p:κ×V) (q:κ×Value)=>p.1=q.1/\J9 p.2 q.2
def kV:Key->V
 | .inl i=>.int i
 | .inr x=>.str x
set_option genInjectivity false in
inductive HO where
 /-- a list -/
 | lst (xs:List V)
 /-- a tuple (never changes) -/
 | tup (xs:List V)
 /-- a dict whose keys are ints and texts;one whose keys are tuples of ints and texts (the empty one is both) -/
 | dK (kvs:List (Key×V))|dT (kvs:List (List Key×V))
 /-- a set of ints: its members,its size -/
 | set (S:Int->Bool) (n:Nat)
 /-- an instance of the class at C,its dict at dx,its attributes -/
 | ins (C dx:Addr) (fs:List (Str×V))
 /-- the dict of the instance at x -/
 | own (x:Addr)
 /-- the dict of an exception -/
 | xd (fs:List (Str×V))
 /-- a bound method,f of x -/
 | met (f x:Addr)
 /-- a range object lo,lo+1,.. below hi -/
 | rng (lo hi:Int)
 /-- a thing that is known to the object (the script;a dict while a loop walks it): read,never written while it is so -/
 | frz (o:Obj) (u:HO)
 /-- a code object's table -/
 | tbl (ps:Array Value)
 /-- any other thing,by what is true of its one object (a def of one's own: SetO a S n:=HO.ext fun h=>..) -/
 | ext (φ:Heap->Prop)
abbrev Hp:=Addr->Option HO
def upd(H:Hp)(a:Addr)(o:HO):Hp:=fun b=>if b=a then some o else H b
variable{H:Hp}{a:Addr}{o:HO}
theorem A5:upd H a o a=some o:=by unfold upd;rw[if_pos rfl]
variable{b:Addr}
theorem B9(h:b≠a):upd H a o b=H b:=by unfold upd;rw[if_neg h]
theorem zw2{u:HO}(h:H a=some o)(h':H b=some u)(d:o≠u):a≠b:=by
 intro e;subst e;rw[h] at h';exact d (Option.some.inj h')
theorem U6(h:H a=some o)(h':H b=none):a≠b:=by
 intro e;subst e;rw[h] at h';cases h'
section
variable(P:Program)(w:World)
def T7(H:Hp)(h:Heap)(a:Addr):HO->Prop
 | .lst xs=>xs.length<=sizeLine/\∃ (its:List Value) (n:Nat),G7 xs its/\h.get? a=some {cls:=.type "list",data:=.seq its.toArray n}
 | .tup xs=>xs.length<=sizeLine/\∃ its:List Value,G7 xs its/\IsTup h a its.toArray
 | .dK kvs=>kvs.length<=sizeLine/\(a == sysModules)=false/\∃ vs,KV kvs vs/\h.DictOf (X9 P w) a vs
 | .dT kvs=>kvs.length<=sizeLine/\(a == sysModules)=false/\∃ xs:List (List Key×Addr×Value),
  Paired (fun(p:List Key×V) (q:List Key×Addr×Value)=>p.1=q.1/\H q.2.1=some (.tup (p.1.map kV))/\J9 p.2 q.2.2) kvs xs /\
  ∃ o es ep,h.get? a=some o/\o.ExactDict/\o.data=.dict es ep/\es.toList=xs.map (entryOfKey (tupleKind (X9 P w)))/\(xs.map (·.1)).Nodup
 | .set S n=>h.SetOf (intKind P w) a S n
 | .ins C dx fs=>H dx=some (.own a)/\fs.length<=1000/\dx≠a/\h.get? a=some (PySem.W.instObj C dx) /\
  ∃ mA,h.Ns1 dx mA/\(∀ f,wo3 (fs.lookup f) (mA f))/\PySem.Within mA (fs.map (·.1))
 | .own _=>∃ o,h.get? a=some o
 | .xd fs=>∃ mA,h.Ns1 a mA/\∀ f,wo3 (fs.lookup f) (mA f)
 | .rng lo hi=>∃ t u v,h.get? a=some {cls:=.type "range",data:=.fields #[.int lo t,.int hi u,.int 1 v]}
 | .frz o u=>h.get? a=some o/\T7 H h a u
 | .tbl ps=>h.get? a=some {cls:=.none,data:=.fields ps}
 | .met f x=>h.get? a=some (PySem.W.methodObj (.ref f) (.ref x))
 | .ext φ=>φ h/\(∃ o,h.get? a=some o)/\∀ h1 h2:Heap,φ h1->(∀ o,h1.get? a=some o->h2.get? a=some o)->φ h2
def HOk(H:Hp)(h:Heap):Prop:=∀ a o,H a=some o->T7 P w H h a o
end
variable{H':Hp}{P:Program}{h h':Heap}{w:World}
theorem T7.lt(x:T7 P w H h a o):a<h.objs.size:=by
 cases o with
 | lst xs=>obtain⟨_,_,_,_,e⟩:=x;exact Heap.lt_size e
 | tup xs=>obtain⟨_,_,_,p⟩:=x;exact p.lt
 | dK kvs=>obtain⟨_,_,_,_,o,_,_,e,_⟩:=x;exact Heap.lt_size e
 | dT kvs=>obtain⟨_,_,_,_,o,_,_,e,_⟩:=x;exact Heap.lt_size e
 | set S n=>obtain⟨o,_,_,_,e,_⟩:=x;exact Heap.lt_size e
 | ins C dx fs=>obtain⟨_,_,_,e,_⟩:=x;exact Heap.lt_size e
 | own y=>obtain⟨_,e⟩:=x;exact Heap.lt_size e
 | xd fs=>obtain⟨_,⟨_,_,_,e,_⟩,_⟩:=x;exact Heap.lt_size e
 | rng lo hi=>obtain⟨_,_,_,e⟩:=x;exact Heap.lt_size e
 | frz ob u=>obtain⟨e,_⟩:=x;exact Heap.lt_size e
 | tbl ps=>exact Heap.lt_size (show h.get? a=some _ from x)
 | met f y=>exact Heap.lt_size (show h.get? a=some _ from x)
 | ext φ=>obtain⟨_,⟨_,e⟩,_⟩:=x;exact Heap.lt_size e
theorem Paired.mapP{α β:Type}{F G:α->β->Prop}:∀ {l₁:List α} {l₂:List β},Paired F l₁ l₂->(∀ a b,F a b->G a b)->Paired G l₁ l₂
 | _,_,.nil,_=>.nil
 | _,_,.cons r t,f=>.cons (f _ _ r) (Paired.mapP t f)
theorem T7.stay(x:T7 P w H h a o)(k:∀ b u,(b=a\/H b=some (.own a))->h.get? b=some u->h'.get? b=some u)(ho:∀ b,H b=some (.own a)->H' b=some (.own a))(ht:∀ b xs,H b=some (.tup xs)->H' b=some (.tup xs)):T7 P w H' h' a o:=by
 induction o with
 | lst xs=>obtain⟨z,its,n,r,e⟩:=x;exact⟨z,its,n,r,k _ _ (.inl rfl) e⟩
 | tup xs=>obtain⟨z,its,r,ob,e,c⟩:=x;exact⟨z,its,r,ob,k _ _ (.inl rfl) e,c⟩
 | dK kvs=>obtain⟨z,y,vs,r,ob,es,ep,e,c⟩:=x;exact⟨z,y,vs,r,ob,es,ep,k _ _ (.inl rfl) e,c⟩
 | dT kvs =>
   obtain⟨z,y,xs,r,ob,es,ep,e,c⟩:=x
   exact⟨z,y,xs,Paired.mapP r fun p q z=>⟨z.1,ht _ _ z.2.1,z.2.2⟩,ob,es,ep,k _ _ (.inl rfl) e,c⟩
 | set S n=>obtain⟨ob,es,ep,t,e,c⟩:=x;exact⟨ob,es,ep,t,k _ _ (.inl rfl) e,c⟩
 | ins C dx fs =>
   obtain⟨d,z,ne,e,mA,⟨od,es,ep,e2,c⟩,r⟩:=x
   exact⟨ho _ d,z,ne,k _ _ (.inl rfl) e,mA,⟨od,es,ep,k _ _ (.inr d) e2,c⟩,r⟩
 | own y=>obtain⟨ob,e⟩:=x;exact⟨ob,k _ _ (.inl rfl) e⟩
 | xd fs=>obtain⟨mA,⟨od,es,ep,e,c⟩,r⟩:=x;exact⟨mA,⟨od,es,ep,k _ _ (.inl rfl) e,c⟩,r⟩
 | rng lo hi=>obtain⟨t,u,v,e⟩:=x;exact⟨t,u,v,k _ _ (.inl rfl) e⟩
 | frz ob u ih=>obtain⟨e,q⟩:=x;exact⟨k _ _ (.inl rfl) e,ih q⟩
 | tbl ps =>
   have e:h.get? a=some {cls:=.none,data:=.fields ps}:=x
   show h'.get? a=some {cls:=.none,data:=.fields ps}
   exact k a _ (.inl rfl) e
 | met f y =>
   have e:h.get? a=some (PySem.W.methodObj (.ref f) (.ref y)):=x
   show h'.get? a=some (PySem.W.methodObj (.ref f) (.ref y))
   exact k a _ (.inl rfl) e
 | ext φ=>obtain⟨p,⟨o,e⟩,st⟩:=x;exact⟨st _ _ p fun o q=>k _ _ (.inl rfl) q,⟨o,k _ _ (.inl rfl) e⟩,st⟩
theorem HOk.lt(x:HOk P w H h)(e:H a=some o):a<h.objs.size:=(x a o e).lt
theorem HOk.fresh(x:HOk P w H h)(e:h.objs.size<=a):H a=none:=by
 cases q:H a with
 | none=>rfl
 | some u=>exact absurd (Nat.lt_of_lt_of_le (x.lt q) e) (Nat.lt_irrefl _)
theorem HOk.kept(x:HOk P w H h)(k:∀ b u,h.get? b=some u->h'.get? b=some u):HOk P w H h':=fun a o e =>
 (x a o e).stay (fun b u _ q=>k b u q) (fun _ q=>q) fun _ _ q=>q
theorem HOk.laid(x:HOk P w H h)(k:∀ b u,h.get? b=some u->h'.get? b=some u)(hp:h.objs.size<=a)(new:T7 P w (upd H a o) h' a o):HOk P w (upd H a o) h':=fun b u e=>by
 have hn:=x.fresh hp
 by_cases hb:b=a
 ·subst hb;rw[A5] at e;cases e;exact new
 ·rw[B9 hb] at e
  exact(x b u e).stay (fun c v _ q=>k c v q) (fun c q=>by rw[B9 (U6 q hn)];exact q) fun c xs q=>by rw[B9 (U6 q hn)];exact q
def Rd(H:Hp)(a:Addr)(u:HO):Prop:=H a=some u\/∃ o,H a=some (.frz o u)
theorem Rd.ok{u:HO}(r:Rd H a u)(x:HOk P w H h):T7 P w H h a u:=by
 rcases r with r|⟨o,r⟩
 ·exact x a u r
 ·obtain⟨_,q⟩:=x a _ r
  exact q
def Mut:Option HO->Prop
 | some (.lst _)=>True
 | some (.dK _)=>True
 | some (.dT _)=>True
 | some (.set _ _)=>True
 | some (.ins _ _ _)=>True
 | some (.ext _)=>True
 | some (.xd _)=>True
 | _=>False
section
variable{x e:Addr}{o':HO}
theorem HOk.write(ok:HOk P w H h)(mu:Mut (H x))(he:e=x\/H e=some (.own x))(k:∀ b u,b≠e->h.get? b=some u->h'.get? b=some u)(heo:∃ u,h'.get? e=some u)(new:T7 P w (upd H x o') h' x o'):HOk P w (upd H x o') h':=fun b u q=>by
 have nown:∀ c y,H c=some (.own y)->c≠x:=fun c y r z=>by subst z;rw[r] at mu;exact mu
 have ntup:∀ c xs,H c=some (.tup xs)->c≠x:=fun c xs r z=>by subst z;rw[r] at mu;exact mu
 by_cases hb:b=x
 ·subst hb;rw[A5] at q;cases q;exact new
 ·rw[B9 hb] at q
  by_cases hbe:b=e
  ·have q':H b=some (.own x):=by
    rcases he with z|z
    ·exact absurd (hbe.trans z) hb
    ·rw[hbe];exact z
   rw[q] at q';cases q'
   obtain⟨v,hv⟩:=heo
   exact⟨v,by rw[hbe];exact hv⟩
  ·refine(ok b u q).stay (fun c v hc r=>k c v ?_ r) (fun c r=>by rw[B9 (nown c b r)];exact r) fun c xs r=>by rw[B9 (ntup c xs r)];exact r
   rcases hc with rfl|hc
   ·exact hbe
   ·rintro rfl
    rcases he with z|z
    ·exact nown c b hc z
    ·rw[hc] at z;cases z;exact hb rfl
end
structure Un(fs ex:List Addr)(H H':Hp)(h h':Heap):Prop where
 keep:∀ b o,h.get? b=some o->H b=none->b∉fs->b∉ex->h'.get? b=some o
 slot:∀ b o,h.get? b=some o->H b=none->b∈fs->b∉ex->∃ sl,h'.get? b=some {o with slots:=sl}
 free:∀ b o,h.get? b=some o->H b=none->b∉ex->H' b=none
 there:∀ b o,h.get? b=some o->b∉ex->∃ o',h'.get? b=some o'
 tups:∀ b xs,H b=some (.tup xs)->H' b=some (.tup xs)
 frzs:∀ b o u,H b=some (.frz o u)->H' b=some (.frz o u)
 tbls:∀ b ps,H b=some (.tbl ps)->∃ more,H' b=some (.tbl (ps++more))
variable{H1 H2:Hp}
section
variable{fs fs' ex ex':List Addr}{h1 h2:Heap}{x e:Addr}
theorem Un.any(u:Un fs ex H H1 h h1){ob:Obj}(q:h.get? b=some ob)(n:H b=none)(hx:b∉ex):∃ sl,h1.get? b=some {ob with slots:=sl}:=by
 by_cases hb:b∈fs
 ·exact u.slot b ob q n hb hx
 ·exact⟨ob.slots,u.keep b ob q n hb hx⟩
theorem Un.kept(k:∀ b u,h.get? b=some u->h'.get? b=some u):Un fs ex H H h h' :=
 ⟨fun b ob q _ _ _=>k b ob q,fun b ob q _ _ _=>⟨ob.slots,k b ob q⟩,fun _ _ _ n _=>n,fun b ob q _=>⟨ob,k b ob q⟩,fun _ _ q=>q,fun _ _ _ q=>q,fun _ ps q=>⟨#[],by rw[q];simp⟩⟩
theorem Un.refl:Un fs ex H H h h:=Un.kept fun _ _ q=>q
theorem Un.laid(k:∀ b u,h.get? b=some u->h'.get? b=some u)(hp:h.objs.size<=a)(hn:H a=none):Un fs ex H (upd H a o) h h' where
 keep:=fun b u q _ _ _=>k b u q
 slot:=fun b u q _ _ _=>⟨u.slots,k b u q⟩
 free:=fun b u q n _=>by rw[B9 (Nat.ne_of_lt (Nat.lt_of_lt_of_le (Heap.lt_size q) hp))];exact n
 there:=fun b u q _=>⟨u,k b u q⟩
 tups:=fun b xs q=>by rw[B9 (U6 q hn)];exact q
 frzs:=fun b u xs q=>by rw[B9 (U6 q hn)];exact q
 tbls:=fun b ps q=>⟨#[],by rw[B9 (U6 q hn),q];simp⟩
theorem Un.write(mu:Mut (H x))(he:e=x\/H e=some (.own x))(k:∀ b u,b≠e->h.get? b=some u->h'.get? b=some u)(heo:∃ u,h'.get? e=some u):Un fs ex H (upd H x o) h h':=by
 have hx:∀ b,H b=none->b≠x:=fun b n z=>by subst z;rw[n] at mu;exact mu
 have hb:∀ b,H b=none->b≠e:=fun b n z=>by
  subst z
  rcases he with r|r
  ·exact hx b n r
  ·rw[n] at r;cases r
 have hm:∀ b u,H b=some u->¬Mut (some u)->b≠x:=fun b u q nm z=>by subst z;rw[q] at mu;exact nm mu
 refine⟨fun b u q n _ _=>k b u (hb b n) q,fun b u q n _ _=>⟨u.slots,k b u (hb b n) q⟩,fun b u q n _=>by rw[B9 (hx b n)];exact n,fun b u q _=>?_,
  fun b xs q=>by rw[B9 (hm b _ q fun z=>z)];exact q,fun b u xs q=>by rw[B9 (hm b _ q fun z=>z)];exact q,fun b ps q=>⟨#[],by rw[B9 (hm b _ q fun z=>z),q];simp⟩⟩
 by_cases hbe:b=e
 ·subst hbe;exact heo
 ·exact⟨u,k b u hbe q⟩
end
def trk(h:Heap)(H:Hp):List Addr:=(List.range h.objs.size).filter fun a=>(H a).isSome
def xo8(h:Heap)(H:Hp):Heap:=PySem.W.hideAll h (trk h H)
theorem yp3(h:Heap)(H:Hp):(xo8 h H).objs.size=h.objs.size:=PySem.W.hideAll_size _ _
theorem yu2{o:Obj}(e:h.get? b=some o)(n:H b=none):(xo8 h H).get? b=some o :=
 PySem.W.hideAll_get _ e fun hm=>by
  have q:(H b).isSome=true:=(List.mem_filter.mp hm).2
  rw[n] at q;simp at q
theorem zf2{o:Obj}(e:(xo8 h H).get? b=some o):h.get? b=some o/\H b=none:=by
 have e':h.get? b=some o:=PySem.W.of_hideAll (trk h H) e
 refine⟨e',?_⟩
 cases q:H b with
 | none=>rfl
 | some x =>
   have hm:b∈trk h H:=List.mem_filter.mpr ⟨List.mem_range.mpr (Heap.lt_size e'),by simp[q]⟩
   have z:(xo8 h H).get? b=none:=PySem.W.hideAll_none (trk h H) hm
   rw[z] at e;cases e
structure Mod(K:Fg)(mg:Str->Option Value)(base:Heap):Prop where
 kin:K.In base
 glob:base.Ns mainGlobals mg
 blt:∃ mb,base.Ns builtinsNs mb/\∀ x:Str,x ≠ "__name__"->mb x=bootBuiltins x
 nolimit:base.NoLimit
set_option genInjectivity false in
structure Cx where
 prog:Program
 w:World
 K:Fg
 mg:Str->Option Value
 base:Heap
 A:Around
 N:List Str
 s₀:Shared
 H₀:Hp
 env:Env
 outer:List Env
 stack:List Env
 ex:List Addr
 fn:Str->Bool
 calm:Bool
 pn:List (Addr×Obj)
 xe:Value->Shared->Prop
def frs(l:List Env):List Addr:=l.filterMap (·.frame)
abbrev Cx.fs(X:Cx):List Addr:=frs X.outer
def Vis(sc:Scope)(x:Str):Prop:=sc.names.lookup x=some .local\/sc.names.lookup x=some .cell\/sc.names.lookup x=some .free
def Loc(sc:Scope)(x:Str):Prop:=sc.names.lookup x=some .local\/sc.names.lookup x=some .cell
def Ab8(env:Env)(h:Heap)(m:Str->Option Value)(x:Str)(u:Value):Prop :=
 (env.kindOf x=some .local/\m x=some u)\/((env.kindOf x=some .cell\/env.kindOf x=some .free)/\∃ c,env.cells.lookup x=some c/\h.IsCell c (some u))
structure Cx.Ok(X:Cx):Prop where
 mod:Mod X.K X.mg X.base
 kind:X.env.scope.kind=.function
 glob:X.env.globals=mainGlobals
 blt:X.env.builtins=builtinsNs
 above:X.s₀.heap.objs.size<=X.env.locals
 inj:∀ x y c,X.env.cells.lookup x=some c->X.env.cells.lookup y=some c->x=y
 has:∀ x,(X.env.kindOf x=some .cell\/X.env.kindOf x=some .free)->∃ c,X.env.cells.lookup x=some c
 cab:∀ x c,X.fn x=true->X.env.cells.lookup x=some c->X.s₀.heap.objs.size<=c
 hd:X.calm=true->X.A.handled=none
 frames:X.A.frames=some X.stack
 stk:X.stack=X.outer\/(X.stack=X.env::X.outer/\X.env.frame=some X.env.locals)
 exf:∀ b∈X.ex,b≠X.env.locals/\∀ x c,X.env.cells.lookup x=some c->c≠b
 bs:∀ b o,X.base.get? b=some o->X.s₀.heap.get? b=some o/\X.H₀ b=none
 bsz:X.base.objs.size<=X.s₀.heap.objs.size
 noex:∀ b o,X.base.get? b=some o->b∉X.ex
 exfs:∀ b∈X.ex,b∉X.fs
 funs:X.s₀.heap.FunFrames X.base X.outer
 frf:∀ b∈X.fs,X.H₀ b=none
structure Inv(X:Cx)(pins:List (Addr×Obj))(σ:List (Option V))(H:Hp)(s:Shared):Prop where
 ok:X.Ok
 os:s.os=X.s₀.os
 bare:AllBare s.gens
 base:Un X.fs X.ex X.H₀ H X.s₀.heap s.heap
 loc:∃ m,s.heap.Ns X.env.locals m/\∀ (i:Nat) (x:Str) (v:V),X.N[i]?=some x->σ[i]?=some (some v)->Vis X.env.scope x->∃ u,J9 v u/\Ab8 X.env s.heap m x u
 cell:∀ x c,X.env.cells.lookup x=some c->∃ v,s.heap.IsCell c v
 free:H X.env.locals=none
 freeC:∀ x c,X.env.cells.lookup x=some c->H c=none
 pin:∀ p∈X.pn++pins,s.heap.get? p.1=some p.2/\H p.1=none/\p.1≠X.env.locals/\p.1∉X.fs/\∀ v,p.2.data≠.cell v
 hok:HOk X.prog X.w H s.heap
 len:σ.length=X.N.length
 tk:0<s.toks
variable{X:Cx}{pins:List (Addr×Obj)}{s:Shared}{d':Drawn}{g':Array GenState}{t':Nat}{it:Addr}{N:List Str}{x:Str}{A:Around}{E:Value->Shared->Prop}{M:Model}{u:Value}{v:V}
section
variable{σ:List (Option V)}
theorem Cx.Ok.nofr(ok:X.Ok){o:Obj}(e:X.base.get? b=some o):b∉X.fs:=fun hb=>by
 have:=(ok.funs.mem hb).1
 rw[e] at this;cases this
theorem Inv.bs(I:Inv X pins σ H s):∀ b o,X.base.get? b=some o->s.heap.get? b=some o/\H b=none:=fun b o e =>
 ⟨I.base.keep b o (I.ok.bs b o e).1 (I.ok.bs b o e).2 (I.ok.nofr e) (I.ok.noex b o e),I.base.free b o (I.ok.bs b o e).1 (I.ok.bs b o e).2 (I.ok.noex b o e)⟩
theorem Inv.bk(I:Inv X pins σ H s):∀ b o,X.base.get? b=some o->s.heap.get? b=some o:=fun b o e=>(I.bs b o e).1
theorem Inv.mod(I:Inv X pins σ H s):Mod X.K X.mg X.base:=I.ok.mod
theorem Inv.kIn(I:Inv X pins σ H s):X.K.In s.heap:=I.ok.mod.kin.keeps I.bk
theorem Inv.lt(I:Inv X pins σ H s):X.env.locals<s.heap.objs.size:=let ⟨_,hn,_⟩:=I.loc;hn.lt
theorem Inv.sz(I:Inv X pins σ H s):X.s₀.heap.objs.size<=s.heap.objs.size:=Nat.le_trans I.ok.above (Nat.le_of_lt I.lt)
theorem Inv.nofs(I:Inv X pins σ H s)(h:s.heap.objs.size<=a):a∉X.fs:=fun hb=>by
 obtain⟨_,o,ho,_⟩:=I.ok.funs.mem hb
 exact absurd (Nat.lt_of_lt_of_le (Heap.lt_size ho) (Nat.le_trans I.sz h)) (Nat.lt_irrefl _)
theorem Inv.cne(I:Inv X pins σ H s):∀ x c,X.env.cells.lookup x=some c->c≠X.env.locals:=fun x c e z=>by
 obtain⟨v,o,ho,hd⟩:=I.cell x c e
 obtain⟨m,⟨o',es,ep,ho',hd',_⟩,_⟩:=I.loc
 rw[z,ho'] at ho;cases ho;rw[hd'] at hd;cases hd
theorem Inv.funs(I:Inv X pins σ H s):s.heap.FunFrames X.base X.outer:=by
 have all:∀ (l:List Env),(∀ b∈frs l,b∈X.fs)->X.s₀.heap.FunFrames X.base l->s.heap.FunFrames X.base l:=by
  intro l
  induction l with
  | nil=>intro _ _;trivial
  | cons env r ih =>
    intro hs hl
    obtain⟨hk,⟨L,o,hf,hn,ho,hd⟩,hr⟩:=hl
    have hL:L∈X.fs:=hs L (by unfold frs;rw[List.filterMap_cons,hf];exact List.mem_cons_self)
    obtain⟨sl,e⟩:=I.base.slot L o ho (I.ok.frf L hL) hL fun z=>I.ok.exfs L z hL
    exact⟨hk,⟨L,_,hf,hn,e,hd⟩,ih (fun b hb=>hs b (by unfold frs;rw[List.filterMap_cons,hf];exact List.mem_cons_of_mem _ hb)) hr⟩
 exact all X.outer (fun _ hb=>hb) I.ok.funs
theorem Inv.stack(I:Inv X pins σ H s):s.heap.FunFrames X.base X.stack:=by
 rcases I.ok.stk with e|⟨e,hf⟩
 ·rw[e];exact I.funs
 ·rw[e]
  obtain⟨m,hn,_⟩:=I.loc
  refine .cons (by rw[I.ok.kind];decide) hf hn ?_ I.funs
  exact Heap.get?_none_of_le (Nat.le_trans I.ok.bsz I.ok.above)
theorem Inv.stkSub(I:Inv X pins σ H s):∀ b∈frs X.stack,b∈X.env.locals::X.fs:=fun b hb=>by
 rcases I.ok.stk with e|⟨e,hf⟩
 ·rw[e] at hb;exact List.mem_cons_of_mem _ hb
 ·rw[e] at hb
  unfold frs at hb
  rw[List.filterMap_cons,hf] at hb
  exact hb
theorem Inv.stkFree(I:Inv X pins σ H s):∀ b∈frs X.stack,H b=none:=fun b hb=>by
 rcases List.mem_cons.mp (I.stkSub b hb) with e|hb
 ·rw[e];exact I.free
 ·obtain⟨_,o,ho,_⟩:=I.ok.funs.mem hb
  exact I.base.free b o ho (I.ok.frf b hb) fun z=>I.ok.exfs b z hb
theorem Inv.step{ch:List Addr}(I:Inv X pins σ H s)(hch:∀ b∈ch,(b∈X.ex\/X.s₀.heap.objs.size<=b)/\b≠X.env.locals/\(∀ x c,X.env.cells.lookup x=some c->c≠b)/\∀ p∈X.pn++pins,p.1≠b)(keep:∀ b o,b≠X.env.locals->b∉X.fs->b∉ch->s.heap.get? b=some o->H b=none->h'.get? b=some o)(slot:∀ b o,b≠X.env.locals->b∈X.fs->b∉ch->s.heap.get? b=some o->H b=none->∃ sl,h'.get? b=some {o with slots:=sl})(free:∀ b o,b∉ch->s.heap.get? b=some o->H b=none->H' b=none)(there:∀ b o,b∉ch->s.heap.get? b=some o->∃ o',h'.get? b=some o')(tups:∀ b xs,H b=some (.tup xs)->H' b=some (.tup xs))(frzs:∀ b o u,H b=some (.frz o u)->H' b=some (.frz o u))(tbls:∀ b ps,H b=some (.tbl ps)->∃ more,H' b=some (.tbl (ps++more)))(ns:∀ m,s.heap.Ns X.env.locals m->h'.Ns X.env.locals m)(hok:HOk X.prog X.w H' h')(hg:AllBare g')(ht:autoParam (0<t') zAt) :
 Inv X pins σ H' {s with heap:=h',gens:=g',drawn:=d',toks:=t'}:=by
 have neL:∀ b o,X.s₀.heap.get? b=some o->b≠X.env.locals:=fun b o e=>Nat.ne_of_lt (Nat.lt_of_lt_of_le (Heap.lt_size e) I.ok.above)
 have neC:∀ b o,X.s₀.heap.get? b=some o->b∉X.ex->b∉ch:=fun b o e hx hb=>by
  rcases(hch b hb).1 with z|z
  ·exact hx z
  ·exact absurd (Nat.lt_of_lt_of_le (Heap.lt_size e) z) (Nat.lt_irrefl _)
 have cellK:∀ x c,X.env.cells.lookup x=some c->∀ v,s.heap.IsCell c v->h'.IsCell c v:=fun x c e v ⟨o,ho,hd⟩=>by
  have nch:c∉ch:=fun z=>(hch c z).2.2.1 x c e rfl
  by_cases hc:c∈X.fs
  ·obtain⟨sl,q⟩:=slot c o (I.cne x c e) hc nch ho (I.freeC x c e)
   exact⟨_,q,hd⟩
  ·exact⟨o,keep c o (I.cne x c e) hc nch ho (I.freeC x c e),hd⟩
 refine⟨I.ok,I.os,hg,⟨fun b o e n hb hx=>?_,fun b o e n hb hx=>?_,fun b o e n hx=>?_,fun b o e hx=>?_,fun b xs e=>tups b xs (I.base.tups b xs e),fun b o xs e=>frzs b o xs (I.base.frzs b o xs e),fun b ps e=>?_⟩,?_,fun x c e=>?_,?_,fun x c e=>?_,fun p hp=>?_,hok,I.len,ht⟩
 ·exact keep b o (neL b o e) hb (neC b o e hx) (I.base.keep b o e n hb hx) (I.base.free b o e n hx)
 ·obtain⟨sl,e1⟩:=I.base.slot b o e n hb hx
  obtain⟨sl',e2⟩:=slot b _ (neL b o e) hb (neC b o e hx) e1 (I.base.free b o e n hx)
  exact⟨sl',e2⟩
 ·obtain⟨o',e1⟩:=I.base.there b o e hx
  exact free b o' (neC b o e hx) e1 (I.base.free b o e n hx)
 ·obtain⟨o',e1⟩:=I.base.there b o e hx
  exact there b o' (neC b o e hx) e1
 ·obtain⟨m1,e1⟩:=I.base.tbls b ps e
  obtain⟨m2,e2⟩:=tbls b _ e1
  exact⟨m1++m2,by rw[e2,Array.append_assoc]⟩
 ·obtain⟨m,hn,hl⟩:=I.loc
  refine⟨m,ns m hn,fun i x v e1 e2 e3=>?_⟩
  obtain⟨u,r,l⟩:=hl i x v e1 e2 e3
  refine⟨u,r,?_⟩
  rcases l with l|⟨k,c,e,z⟩
  ·exact .inl l
  ·exact .inr ⟨k,c,e,cellK x c e _ z⟩
 ·obtain⟨v,z⟩:=I.cell x c e
  exact⟨v,cellK x c e v z⟩
 ·obtain⟨m,⟨o,_,_,ho,_⟩,_⟩:=I.loc
  exact free _ o (fun z=>(hch _ z).2.1 rfl) ho I.free
 ·obtain⟨v,o,ho,hd⟩:=I.cell x c e
  exact free c o (fun z=>(hch c z).2.2.1 x c e rfl) ho (I.freeC x c e)
 ·obtain⟨e,n,ne,nf,d⟩:=I.pin p hp
  have nch:p.1∉ch:=fun z=>(hch p.1 z).2.2.2 p hp rfl
  exact⟨keep p.1 p.2 ne nf nch e n,free p.1 p.2 nch e n,ne,nf,d⟩
theorem Inv.un(I:Inv X pins σ H s)(u:Un X.fs [] H H' s.heap h')(hok:HOk X.prog X.w H' h')(ht:autoParam (0<t') zAt):Inv X pins σ H' {s with heap:=h',toks:=t'}:=by
 obtain⟨m,⟨o,es,ep,ho,r⟩,_⟩:=id I.loc
 obtain⟨sl,hL⟩:=u.any ho I.free (by simp)
 exact I.step (g':=s.gens) (d':=s.drawn) (ch:=[]) (fun _ z=>nomatch z) (fun b o _ hb _ e n=>u.keep b o e n hb (by simp)) (fun b o _ hb _ e n=>u.slot b o e n hb (by simp)) (fun b o _ e n=>u.free b o e n (by simp)) (fun b o _ e=>u.there b o e (by simp)) u.tups u.frzs u.tbls (fun m' hm=>by
  obtain⟨o',es',ep',ho',r'⟩:=hm
  rw[ho] at ho';cases ho'
  exact⟨_,es',ep',hL,r'⟩) hok I.bare
theorem Inv.call{ch:List Addr}(I:Inv X pins σ H s)(u:Un (frs X.stack) ch H H' s.heap h')(hok:HOk X.prog X.w H' h')(hg:AllBare g')(hch:∀ b∈ch,(b∈X.ex\/X.s₀.heap.objs.size<=b)/\b≠X.env.locals/\(∀ x c,X.env.cells.lookup x=some c->c≠b)/\∀ p∈X.pn++pins,p.1≠b)(ht:autoParam (0<t') zAt) :
 Inv X pins σ H' {s with heap:=h',gens:=g',drawn:=d',toks:=t'}:=by
 obtain⟨m,⟨o,es,ep,ho,r⟩,_⟩:=id I.loc
 obtain⟨sl,hL⟩:=u.any ho I.free fun z=>(hch _ z).2.1 rfl
 exact I.step (ch:=ch) hch (fun b o hL hb hc e n=>u.keep b o e n (fun z=>(List.mem_cons.mp (I.stkSub b z)).elim hL hb) hc) (fun b o _ _ hc e n=>u.any e n hc) (fun b o hc e n=>u.free b o e n hc) (fun b o hc e=>u.there b o e hc) u.tups u.frzs u.tbls (fun m' hm=>by
  obtain⟨o',es',ep',ho',r'⟩:=hm
  rw[ho] at ho';cases ho'
  exact⟨_,es',ep',hL,r'⟩) hok hg
theorem Inv.turned(I:Inv X pins σ H s)(k:∀ b o,b≠it->s.heap.get? b=some o->h'.get? b=some o)(hn:H it=none)(hL:it≠X.env.locals)(h1:it∈X.ex\/X.s₀.heap.objs.size<=it)(h2:∀ x c,X.env.cells.lookup x=some c->c≠it)(h3:∀ p∈X.pn++pins,p.1≠it)(ht:autoParam (0<t') zAt):Inv X pins σ H {s with heap:=h',toks:=t'}:=by
 have nit:∀ b u,H b=some u->b≠it:=fun b u e z=>by rw[z,hn] at e;cases e
 refine I.step (g':=s.gens) (d':=s.drawn) (ch:=[it]) (fun b hb=>?_) (fun b o _ _ hc e _=>k b o (fun z=>hc (by simp[z])) e) (fun b o _ _ hc e _=>⟨o.slots,k b o (fun z=>hc (by simp[z])) e⟩) (fun _ _ _ _ n=>n)
  (fun b o hc e=>⟨o,k b o (fun z=>hc (by simp[z])) e⟩) (fun _ _ e=>e) (fun _ _ _ e=>e) (fun b ps e=>⟨#[],by rw[e];simp⟩) (fun m hm=>?_) (fun b u e=>?_) I.bare
 ·have e:b=it:=by simpa using hb
  subst e
  exact⟨h1,hL,h2,h3⟩
 ·obtain⟨o,es,ep,ho,r⟩:=hm
  exact⟨o,es,ep,k _ o (Ne.symm hL) ho,r⟩
 ·refine(I.hok b u e).stay (fun c v hc q=>k c v ?_ q) (fun _ q=>q) fun _ _ q=>q
  rcases hc with z|z
  ·rw[z];exact nit b u e
  ·exact nit c _ z
theorem Inv.tok(I:Inv X pins σ H s)(t':Nat)(ht:autoParam (0<t') zAt):Inv X pins σ H {s with toks:=t'}:=I.un (h':=s.heap) (t':=t') Un.refl I.hok
theorem Inv.kept(I:Inv X pins σ H s)(k:∀ b u,s.heap.get? b=some u->h'.get? b=some u)(ht:autoParam (0<t') zAt):Inv X pins σ H {s with heap:=h',toks:=t'}:=I.un (Un.kept k) (I.hok.kept k)
theorem Inv.laid(I:Inv X pins σ H s)(k:∀ b u,s.heap.get? b=some u->h'.get? b=some u)(hp:s.heap.objs.size<=a)(new:T7 X.prog X.w (upd H a o) h' a o)(ht:autoParam (0<t') zAt) :
 Inv X pins σ (upd H a o) {s with heap:=h',toks:=t'}:=I.un (Un.laid k hp (I.hok.fresh hp)) (I.hok.laid k hp new)
theorem Inv.write{x e:Addr}(I:Inv X pins σ H s)(mu:Mut (H x))(he:e=x\/H e=some (.own x))(k:∀ b u,b≠e->s.heap.get? b=some u->h'.get? b=some u)(heo:∃ u,h'.get? e=some u)(new:T7 X.prog X.w (upd H x o) h' x o)(ht:autoParam (0<t') zAt):Inv X pins σ (upd H x o) {s with heap:=h',toks:=t'}:=I.un (Un.write mu he k heo) (I.hok.write mu he k heo new)
theorem Inv.weak{σ':List (Option V)}(I:Inv X pins σ H s)(hl:σ'.length=σ.length)(w:∀ (i:Nat) v,σ'[i]?=some (some v)->σ[i]?=some (some v)):Inv X pins σ' H s :=
 ⟨I.ok,I.os,I.bare,I.base,let ⟨m,hn,hl'⟩:=I.loc;⟨m,hn,fun i x v e1 e2 e3=>hl' i x v e1 (w i v e2) e3⟩,I.cell,I.free,I.freeC,I.pin,I.hok,hl.trans I.len,I.tk⟩
theorem Inv.pins_of{pins':List (Addr×Obj)}(I:Inv X pins σ H s)(h:∀ p∈pins',s.heap.get? p.1=some p.2/\H p.1=none/\p.1≠X.env.locals/\p.1∉X.fs/\∀ v,p.2.data≠.cell v):Inv X pins' σ H s :=
 ⟨I.ok,I.os,I.bare,I.base,I.loc,I.cell,I.free,I.freeC,fun p hp=>(List.mem_append.mp hp).elim (fun z=>I.pin p (List.mem_append_left _ z)) (h p),I.hok,I.len,I.tk⟩
theorem xv5(hN:N.Nodup){i j:Nat}(a:N[i]?=some x)(b:N[j]?=some x):i=j:=by
 obtain⟨h1,e1⟩:=List.getElem?_eq_some_iff.mp a
 obtain⟨h2,e2⟩:=List.getElem?_eq_some_iff.mp b
 exact(List.getElem_inj hN).mp (e1.trans e2.symm)
theorem xl6{i:Nat}{Q:Unit->Shared->Prop}(I:Inv X pins σ H s)(hN:X.N.Nodup)(hi:X.N[i]?=some x)(hx:Loc X.env.scope x)(r:J9 v u)(h:∀ s',Inv X pins (σ.set i (some v)) H s'->(∃ a,Heap.SameBut a s.heap s'.heap/\(a=X.env.locals\/X.env.cells.lookup x=some a))->Q () s')(hf:autoParam (X.fn x=true\/X.env.scope.names.lookup x=some .local) zAf):wpAny M A (storeName X.env x u) Q E s:=by
 obtain⟨m,hn,hl⟩:=id I.loc
 have hcls:(X.env.scope.kind == .class || (X.env.scope.kind == .module && X.env.locals != X.env.globals))=false:=by rw[I.ok.kind];rfl
 have hiσ:i<σ.length:=by rw[I.len];exact(List.getElem?_eq_some_iff.mp hi).1
 have cne:=I.cne
 have tracked:∀ {a:Addr} {h':Heap},(∃ o,s.heap.get? a=some o/\H a=none)->Heap.SameBut a s.heap h'->HOk X.prog X.w H h':=fun{a h'} ha hs b ob e=>by
  obtain⟨_,_,hfree⟩:=ha
  refine(I.hok b ob e).stay (fun c w' hc q=>(hs.2 c ?_).trans q) (fun _ q=>q) fun _ _ q=>q
  rintro rfl
  rcases hc with rfl|hc
  ·rw[hfree] at e;cases e
  ·rw[hfree] at hc;cases hc
 rcases hx with hk|hk
 ·refine wpAny_storeName_local hk hn (fun h' hn' hs=>?_) hcls
  obtain⟨oL,_,_,hoL,_⟩:=id hn
  refine h _ ⟨I.ok,I.os,I.bare,⟨fun b o e n hb hx=>?_,fun b o e n hb hx=>?_,I.base.free,fun b o e hx=>?_,I.base.tups,I.base.frzs,I.base.tbls⟩,⟨_,hn',fun j y v' e1 e2 e3=>?_⟩,fun y c e=>?_,I.free,I.freeC,fun p hp=>?_,tracked ⟨oL,hoL,I.free⟩ hs,by simpa using I.len,by first|exact I.tk|exact Nat.succ_pos _⟩ ⟨_,hs,.inl rfl⟩
  ·exact(hs.2 b (Nat.ne_of_lt (Nat.lt_of_lt_of_le (Heap.lt_size e) I.ok.above))).trans (I.base.keep b o e n hb hx)
  ·obtain⟨sl,e1⟩:=I.base.slot b o e n hb hx
   exact⟨sl,(hs.2 b (Nat.ne_of_lt (Nat.lt_of_lt_of_le (Heap.lt_size e) I.ok.above))).trans e1⟩
  ·obtain⟨o',e1⟩:=I.base.there b o e hx
   exact⟨o',(hs.2 b (Nat.ne_of_lt (Nat.lt_of_lt_of_le (Heap.lt_size e) I.ok.above))).trans e1⟩
  ·by_cases hj:j=i
   ·subst hj
    rw[hi] at e1;cases e1
    rw[List.getElem?_set_self hiσ] at e2
    cases e2
    exact⟨u,r,.inl ⟨hk,by simp⟩⟩
   ·rw[List.getElem?_set_ne (Ne.symm hj)] at e2
    obtain⟨u',r',q⟩:=hl j y v' e1 e2 e3
    refine⟨u',r',?_⟩
    rcases q with⟨k,e⟩|⟨k,c,e,z⟩
    ·refine .inl ⟨k,?_⟩
     have:y≠x:=fun e=>hj (xv5 hN e1 (e▸hi))
     simp[this,e]
    ·exact .inr ⟨k,c,e,z.sameBut hs (cne y c e)⟩
  ·obtain⟨w',z⟩:=I.cell y c e
   exact⟨w',z.sameBut hs (cne y c e)⟩
  ·obtain⟨e,n,ne,nf,d⟩:=I.pin p hp
   exact⟨(hs.2 p.1 ne).trans e,n,ne,nf,d⟩
 ·have hfn:X.fn x=true:=by
   rcases hf with z|z
   ·exact z
   ·rw[z] at hk;cases hk
  obtain⟨c,hc⟩:=I.ok.has x (.inl hk)
  obtain⟨w',z⟩:=I.cell x c hc
  refine wpAny_storeName_cell I.ok.kind hk hc z (fun h' hc' hs=>?_)
  obtain⟨oc,hoc,hocd⟩:=id z
  refine h {s with heap:=h'} ⟨I.ok,I.os,I.bare,⟨fun b o e n hb hx=>?_,fun b o e n hb hx=>?_,I.base.free,fun b o e hx=>?_,I.base.tups,I.base.frzs,I.base.tbls⟩,⟨m,hn.sameBut hs (Ne.symm (cne x c hc)),fun j y v' e1 e2 e3=>?_⟩,fun y c' e=>?_,I.free,I.freeC,fun p hp=>?_,tracked ⟨oc,hoc,I.freeC x c hc⟩ hs,by simpa using I.len,by first|exact I.tk|exact Nat.succ_pos _⟩ ⟨c,hs,.inr hc⟩
  ·exact(hs.2 b (Nat.ne_of_lt (Nat.lt_of_lt_of_le (Heap.lt_size e) (I.ok.cab x c hfn hc)))).trans (I.base.keep b o e n hb hx)
  ·obtain⟨sl,e1⟩:=I.base.slot b o e n hb hx
   exact⟨sl,(hs.2 b (Nat.ne_of_lt (Nat.lt_of_lt_of_le (Heap.lt_size e) (I.ok.cab x c hfn hc)))).trans e1⟩
  ·obtain⟨o',e1⟩:=I.base.there b o e hx
   exact⟨o',(hs.2 b (Nat.ne_of_lt (Nat.lt_of_lt_of_le (Heap.lt_size e) (I.ok.cab x c hfn hc)))).trans e1⟩
  ·by_cases hj:j=i
   ·subst hj
    rw[hi] at e1;cases e1
    rw[List.getElem?_set_self hiσ] at e2
    cases e2
    exact⟨u,r,.inr ⟨.inl hk,c,hc,hc'⟩⟩
   ·rw[List.getElem?_set_ne (Ne.symm hj)] at e2
    obtain⟨u',r',q⟩:=hl j y v' e1 e2 e3
    refine⟨u',r',?_⟩
    rcases q with q|⟨k,c',e,z'⟩
    ·exact .inl q
    ·refine .inr ⟨k,c',e,z'.sameBut hs ?_⟩
     rintro rfl
     exact hj (xv5 hN e1 (I.ok.inj _ _ _ e hc▸hi))
  ·by_cases hcc:c'=c
   ·subst hcc;exact⟨_,hc'⟩
   ·obtain⟨w2,z2⟩:=I.cell y c' e
    exact⟨w2,z2.sameBut hs hcc⟩
  ·obtain⟨e,n,ne,nf,d⟩:=I.pin p hp
   refine⟨(hs.2 p.1 ?_).trans e,n,ne,nf,d⟩
   intro q
   rw[q,hoc] at e
   have q':oc=p.2:=Option.some.inj e
   exact d w' (by rw[<-q'];exact hocd)
theorem xv6{i:Nat}{Q:Unit->Shared->Prop}(I:Inv X pins σ H s)(hN:X.N.Nodup)(hi:X.N[i]?=some x)(hx:Loc X.env.scope x)(r:J9 v u)(h:∀ s',Inv X pins (σ.set i (some v)) H s'->Q () s')(hf:autoParam (X.fn x=true\/X.env.scope.names.lookup x=some .local) zAf):wpAny M A (storeName X.env x u) Q E s :=
 xl6 I hN hi hx r (fun s' I' _=>h s' I') hf
end
abbrev XK:=Value->Option Addr->Hp->Prop
abbrev St:=List (Option V)
abbrev VK:=V->Hp->Prop
abbrev TE:=St->Hp->VK->Prop
abbrev TT:=St->Hp->(Bool->Hp->Prop)->Prop
abbrev TA:=St->Hp->(List V->Hp->Prop)->Prop
set_option genInjectivity false in
structure qe3 where
 nx:St->Hp->Prop
 rt:VK
 bk:St->Hp->Prop:=fun _ _=>False
 ct:St->Hp->Prop:=fun _ _=>False
abbrev TS:=qe3->St->Hp->Prop
def EP(X:Cx)(pins:List (Addr×Obj))(σ:St)(Q:VK)(u:Value)(s':Shared):Prop:=∃ v H',Inv X pins σ H' s'/\J9 v u/\Q v H'
def TP(X:Cx)(pins:List (Addr×Obj))(σ:St)(Q:Bool->Hp->Prop)(b:Bool)(s':Shared):Prop:=∃ H',Inv X pins σ H' s'/\Q b H'
def AP(X:Cx)(pins:List (Addr×Obj))(σ:St)(Q:List V->Hp->Prop)(us:List Value)(s':Shared):Prop:=∃ vs H',Inv X pins σ H' s'/\G7 vs us/\Q vs H'
def SP(X:Cx)(pins:List (Addr×Obj))(D:qe3)(f:Flow)(s':Shared):Prop :=
 match f with
 | .next=>∃ σ' H',Inv X pins σ' H' s'/\D.nx σ' H'
 | .brk=>∃ σ' H',Inv X pins σ' H' s'/\D.bk σ' H'
 | .cont=>∃ σ' H',Inv X pins σ' H' s'/\D.ct σ' H'
 | .ret u=>∃ v σ' H',Inv X pins σ' H' s'/\J9 v u/\D.rt v H'
def PE(X:Cx)(e:Expr)(t:TE):Prop :=
 ∀ (pins:List (Addr×Obj)) (s:Shared) (σ:St) (H:Hp) (Q:VK),Inv X pins σ H s->t σ H Q->wpAny (model X.prog X.w) X.A (eval e X.env) (EP X pins σ Q) X.xe s
def PT(X:Cx)(e:Expr)(t:TT):Prop :=
 ∀ (pins:List (Addr×Obj)) (s:Shared) (σ:St) (H:Hp) (Q:Bool->Hp->Prop),Inv X pins σ H s->t σ H Q->wpAny (model X.prog X.w) X.A (isTrue e X.env (eval e X.env)) (TP X pins σ Q) X.xe s
def PW(X:Cx)(e:Expr)(t:TT):Prop :=
 ∀ (whole:Sem Value) (pins:List (Addr×Obj)) (s:Shared) (σ:St) (H:Hp) (Q:Bool->Hp->Prop),Inv X pins σ H s->t σ H Q->wpAny (model X.prog X.w) X.A (isTrue e X.env whole) (TP X pins σ Q) X.xe s
variable{e:Expr}
theorem PW.pt{t:TT}(h:PW X e t):PT X e t:=h _
def PA(X:Cx)(es:List Expr)(t:TA):Prop :=
 ∀ (pos:Pos) (pins:List (Addr×Obj)) (s:Shared) (σ:St) (H:Hp) (Q:List V->Hp->Prop),Inv X pins σ H s->t σ H Q->wpAny (model X.prog X.w) X.A (spliced (backTo pos (starEach es X.env))) (AP X pins σ Q) X.xe s
def PS(X:Cx)(st:Stmt)(t:TS):Prop :=
 ∀ (pins:List (Addr×Obj)) (s:Shared) (σ:St) (H:Hp) (D:qe3),Inv X pins σ H s->t D σ H->wpAny (model X.prog X.w) X.A (exec st X.env) (SP X pins D) X.xe s
def PSs(X:Cx)(st:List Stmt)(t:TS):Prop :=
 ∀ (pins:List (Addr×Obj)) (s:Shared) (σ:St) (H:Hp) (D:qe3),Inv X pins σ H s->t D σ H->wpAny (model X.prog X.w) X.A (execs st X.env) (SP X pins D) X.xe s
variable{α:Type}
theorem thn{t:Sem α}{Q Q':α->Shared->Prop}(h:wpAny M A t Q E s)(hQ:∀ a s,Q a s->Q' a s):wpAny M A t Q' E s:=wpAny_mono h hQ fun _ _ x=>x
variable{pos:Pos}{Q:Value->Shared->Prop}{σ:St}{ta:TE}{c:Expr}
section
def A3(i:Nat):TE:=fun σ H Q=>∃ v,σ[i]?=some (some v)/\Q v H
def tC(v:V):TE:=fun _ H Q=>Q v H
theorem zp2{i:Nat}(hN:X.N[i]?=some x)(hv:Vis X.env.scope x)(hd:autoParam ((x == ("__debug__":Str))=false) zAd)(hcd:autoParam ((x == ("__classdict__":Str))=false) zAd):PE X (.Name x pos) (A3 i):=by
 intro pins s σ H Q I h
 obtain⟨v,e,h⟩:=h
 obtain⟨m,hn,hl⟩:=I.loc
 obtain⟨u,r,l⟩:=hl i x v hN e hv
 have fin:EP X pins σ Q u s:=⟨v,H,I,r,h⟩
 rcases l with⟨hk,hm⟩|⟨hk,c,hc,hcell⟩
 ·exact wpAny_Name (wpAny_loadName_local I.ok.kind hk hn hm fin) hd
 ·rcases hk with hk|hk
  ·exact wpAny_Name (wpAny_loadName_cell I.ok.kind hk hc hcell fin) hd
  ·exact wpAny_Name (wpAny_loadName_free I.ok.kind hk hc hcell fin hcd) hd
theorem A9{i j pos}:PE X (.Constant (.int i) j pos) (tC (.int i)):=fun _ _ _ H _ I h=>wpAny_Constant_int ⟨.int i,H,I.tok _,⟨_,rfl⟩,h⟩
theorem yj6{b j pos}:PE X (.Constant (.bool b) j pos) (tC (.bl b)):=fun _ _ _ H _ I h=>Constant_bool ⟨.bl b,H,I,rfl,h⟩
theorem T8{j pos}:PE X (.Constant .none j pos) (tC .non):=fun _ _ _ H _ I h=>Constant_none ⟨.non,H,I,rfl,h⟩
theorem B2{x j pos}:PE X (.Constant (.str x) j pos) (tC (.str x)):=fun _ _ _ H _ I h=>Calls.Constant_str ⟨.str x,H,I.tok _,⟨_,rfl⟩,h⟩
def Gl(X:Cx)(x:Str):Prop:=X.env.kindOf x=some .globalImplicit
theorem xo9(I:Inv X pins σ H s)(hg:Gl X x)(hm:X.mg x=some u)(h:Q u s)(hd:autoParam ((x == ("__debug__":Str))=false) zAd):wpAny (model X.prog X.w) X.A (eval (.Name x pos) X.env) Q E s :=
 Calls.Name_function_global I.ok.kind hg (Calls.loadGlobal_global (by rw[I.ok.glob];exact I.mod.glob.keeps I.bk) hm h) hd
theorem qu5(I:Inv X pins σ H s)(hg:Gl X x)(hm:X.mg x=none)(hv:bootBuiltins x=some u)(h:Q u s)(hn:autoParam (x ≠ "__name__") zAd)(hd:autoParam ((x == ("__debug__":Str))=false) zAd):wpAny (model X.prog X.w) X.A (eval (.Name x pos) X.env) Q E s:=by
 obtain⟨mb,h1,h2⟩:=I.mod.blt
 exact Calls.Name_function_global I.ok.kind hg (Calls.loadGlobal_builtin (by rw[I.ok.glob];exact I.mod.glob.keeps I.bk) hm (by rw[I.ok.blt];exact h1.keeps I.bk) ((h2 x hn).trans hv) h) hd
theorem M3(hg:Gl X x)(hm:X.mg x=some u)(r:J9 v u)(hd:autoParam ((x == ("__debug__":Str))=false) zAd):PE X (.Name x pos) (tC v) :=
 fun _ _ _ H _ I h=>xo9 I hg hm ⟨v,H,I,r,h⟩ hd
theorem zf3(hg:Gl X x)(hm:X.mg x=none)(hv:bootBuiltins x=some u)(r:J9 v u)(hn:autoParam (x ≠ "__name__") zAd)(hd:autoParam ((x == ("__debug__":Str))=false) zAd):PE X (.Name x pos) (tC v) :=
 fun _ _ _ H _ I h=>qu5 I hg hm hv ⟨v,H,I,r,h⟩ hn hd
variable{a b:Expr}{tb:TE}
def tB(t:TE):TT:=fun σ H Q=>t σ H fun x H1=>∃ c,x=.bl c/\Q c H1
theorem ql2{t:TE}(h:PE X e t)(he:autoParam (∀ whole,isTrue e X.env whole=(do let v<-whole;standAt e.pos;holding [v] (truthy v))) zAi):PT X e (tB t):=by
 intro pins s σ H Q I hw
 refine isTrue_plain (thn (h pins s σ H _ I hw) fun v s1 zq=>?_) (he _)
 obtain⟨x,H1,I1,r1,q1⟩:=zq
 obtain⟨d,rfl,q⟩:=q1
 cases r1
 exact wpAny_truthy_bool ⟨H1,I1,q⟩
variable{tA tB':TT}{rest:List Expr}
def xp0(t u:TT):TT:=fun σ H Q=>t σ H fun c H1=>if c=true then u σ H1 Q else Q false H1
def tOr(t u:TT):TT:=fun σ H Q=>t σ H fun c H1=>if c=true then Q true H1 else u σ H1 Q
def zf4(t:TT):TT:=fun σ H Q=>t σ H fun c H1=>Q (!c) H1
theorem qy4(ha:PT X a tA):PW X (.BoolOp .And [a] pos) tA:=by
 intro wh pins s σ H Q I h
 refine isTrue_and (thn (ha pins s σ H Q I h) fun c s1 e=>?_)
 cases c with
 | true=>exact isTrue_and_nil e
 | false=>exact e
theorem yc9(ha:PT X a tA):PW X (.BoolOp .Or [a] pos) tA:=by
 intro wh pins s σ H Q I h
 refine isTrue_or (thn (ha pins s σ H Q I h) fun c s1 e=>?_)
 cases c with
 | false=>exact isTrue_or_nil e
 | true=>exact e
theorem wl8(ha:PT X a tA)(hb:PW X (.BoolOp .And (b::rest) pos) tB'):PW X (.BoolOp .And (a::b::rest) pos) (xp0 tA tB'):=by
 intro wh pins s σ H Q I h
 refine isTrue_and (thn (ha pins s σ H _ I h) fun c s1 zq=>?_)
 obtain⟨H1,I1,q1⟩:=zq
 cases c with
 | true=>exact hb wh pins s1 σ H1 Q I1 q1
 | false=>exact⟨H1,I1,q1⟩
theorem yu3(ha:PT X a tA)(hb:PW X (.BoolOp .Or (b::rest) pos) tB'):PW X (.BoolOp .Or (a::b::rest) pos) (tOr tA tB'):=by
 intro wh pins s σ H Q I h
 refine isTrue_or (thn (ha pins s σ H _ I h) fun c s1 zq=>?_)
 obtain⟨H1,I1,q1⟩:=zq
 cases c with
 | true=>exact⟨H1,I1,q1⟩
 | false=>exact hb wh pins s1 σ H1 Q I1 q1
theorem yu4(ha:PT X a tA):PT X (.UnaryOp .Not a pos) (zf4 tA):=by
 intro pins s σ H Q I h
 exact isTrue_not (ha pins s σ H (fun c H1=>Q (!c) H1) I h)
def yj7(ta tb:TE):TE:=fun σ H Q=>ta σ H fun x H1=>∃ c,x=.bl c/\if c=true then tb σ H1 Q else Q (.bl false) H1
def yu5(ta:TE):TE:=fun σ H Q=>ta σ H fun x H1=>∃ c,x=.bl c/\Q (.bl (!c)) H1
theorem yu6{op}{t:TE}(h:PE X a t):PE X (.BoolOp op [a] pos) t:=fun pins s σ H Q I hw=>BoolOp_one (h pins s σ H Q I hw)
theorem yu7(ha:PE X a ta)(hb:PE X (.BoolOp .And (b::rest) pos) tb):PE X (.BoolOp .And (a::b::rest) pos) (yj7 ta tb):=by
 intro pins s σ H Q I h
 refine BoolOp_and (thn (ha pins s σ H _ I h) fun v s1 zq=>?_)
 obtain⟨x,H1,I1,r1,q1⟩:=zq
 obtain⟨c,rfl,q1⟩:=q1
 cases r1
 refine wpAny_truthy_bool ?_
 cases c with
 | true=>exact hb pins s1 σ H1 Q I1 q1
 | false=>exact⟨.bl false,H1,I1,rfl,q1⟩
theorem zp3(ha:PE X a ta):PE X (.UnaryOp .Not a pos) (yu5 ta):=by
 intro pins s σ H Q I h
 refine UnaryOp_ (thn (ha pins s σ H _ I h) fun v s1 zq=>?_)
 obtain⟨x,H1,I1,r1,q1⟩:=zq
 obtain⟨c,rfl,q1⟩:=q1
 cases r1
 exact not_of (wpAny_truthy_bool ⟨.bl (!c),H1,I1,rfl,q1⟩)
def tIf(t:TT)(ta tb:TE):TE:=fun σ H Q=>t σ H fun c H1=>if c=true then ta σ H1 Q else tb σ H1 Q
theorem qo8(hc:PT X c tA)(ha:PE X a ta)(hb:PE X b tb):PE X (.IfExp c a b pos) (tIf tA ta tb):=by
 intro pins s σ H Q I h
 refine wpAny_IfExp (thn (hc pins s σ H _ I h) fun d s1 zq=>?_)
 obtain⟨H1,I1,q1⟩:=zq
 cases d with
 | true=>exact ha pins s1 σ H1 Q I1 q1
 | false=>exact hb pins s1 σ H1 Q I1 q1
end
def SqL(K:Fg)(H:Hp)(a:Addr)(xs:List V):Prop :=
 Rd H a (.lst xs) \/
  ∃ (o:Obj) (its:Array Value) (n:Nat),K.lookup a=some o/\o.cls=.type "list"/\o.dict=none/\o.data=.seq its n/\its.size<=sizeLine/\G7 xs its.toList
def SqT(K:Fg)(H:Hp)(a:Addr)(xs:List V):Prop :=
 Rd H a (.tup xs) \/
  ∃ (o:Obj) (its:Array Value) (n:Nat),K.lookup a=some o/\o.cls=.type "tuple"/\o.data=.seq its n/\its.size<=sizeLine/\G7 xs its.toList
def Ab9:Value->Option V
 | .none=>some .non
 | .bool b=>some (.bl b)
 | .int i _=>some (.int i)
 | .str x _=>some (.str x)
 | .bytes b _=>some (.byt b)
 | .float b _=>some (.flt b)
 | .ref a=>some (.ref a)
 | .type n=>some (.ty n)
 | _=>none
theorem J9.abs{x:V}(r:J9 x u):Ab9 u=some x:=by
 cases x with
 | non=>cases r;rfl
 | bl _=>cases r;rfl
 | int _=>obtain⟨t,rfl⟩:=r;rfl
 | str _=>obtain⟨t,rfl⟩:=r;rfl
 | byt _=>obtain⟨t,rfl⟩:=r;rfl
 | flt _=>obtain⟨t,rfl⟩:=r;rfl
 | ref _=>cases r;rfl
 | ty _=>cases r;rfl
variable{y:V}
theorem J9.inj{x:V}(r:J9 x u)(q:J9 y u):x=y:=Option.some.inj (r.abs.symm.trans q.abs)
theorem G7.inj{xs ys:List V}{us:List Value}(h:G7 xs us):G7 ys us->xs=ys:=by
 induction h generalizing ys with
 | nil=>intro k;cases k;rfl
 | cons r t ih=>intro k;cases k with|cons r' t'=>rw[r.inj r',ih t']
variable{ys:List V}
variable{K:Fg}
theorem SqL.of(h:H a=some (.lst xs)):SqL K H a xs:=.inl (.inl h)
theorem SqT.of(h:H a=some (.tup xs)):SqT K H a xs:=.inl (.inl h)
theorem Inv.list(I:Inv X pins σ H s)(h:SqL X.K H a xs):∃ its:List Value,G7 xs its/\PlainL s.heap a its.toArray/\xs.length<=sizeLine:=by
 rcases h with h|⟨o,its,n,hk,hc,hd,hs,hz,r⟩
 ·obtain⟨z,its,n,r,e⟩:=h.ok I.hok
  exact⟨its,r,⟨_,n,e,rfl,rfl,rfl⟩,z⟩
 ·refine⟨its.toList,r,⟨o,n,I.kIn a o hk,hc,hd,by simpa using hs⟩,?_⟩
  have e:=r.length
  simp only[Array.length_toList] at e
  omega
theorem Inv.tuple(I:Inv X pins σ H s)(h:SqT X.K H a xs):∃ its:List Value,G7 xs its/\IsTup s.heap a its.toArray/\xs.length<=sizeLine:=by
 rcases h with h|⟨o,its,n,hk,hc,hs,hz,r⟩
 ·obtain⟨z,its,r,p⟩:=h.ok I.hok
  exact⟨its,r,p,z⟩
 ·refine⟨its.toList,r,⟨o,I.kIn a o hk,hc,n,by simpa using hs⟩,?_⟩
  have e:=r.length
  simp only[Array.length_toList] at e
  omega
theorem Inv.list_inj(I:Inv X pins σ H s)(h:SqL X.K H a xs)(h':SqL X.K H a ys):xs=ys:=by
 obtain⟨its,r,⟨o,n,e,_,_,d⟩,_⟩:=I.list h
 obtain⟨its',r',⟨o',n',e',_,_,d'⟩,_⟩:=I.list h'
 rw[e] at e';cases e'
 rw[d] at d'
 injection d' with d1 _
 have:its=its':=by simpa using congrArg Array.toList d1
 subst this
 exact r.inj r'
theorem Inv.tuple_inj(I:Inv X pins σ H s)(h:SqT X.K H a xs)(h':SqT X.K H a ys):xs=ys:=by
 obtain⟨its,r,⟨o,e,_,n,d⟩,_⟩:=I.tuple h
 obtain⟨its',r',⟨o',e',_,n',d'⟩,_⟩:=I.tuple h'
 rw[e] at e';cases e'
 rw[d] at d'
 injection d' with d1 _
 have:its=its':=by simpa using congrArg Array.toList d1
 subst this
 exact r.inj r'
abbrev Cx.wish(X:Cx)(E:Value->Shared->Prop):Cx:={X with xe:=E}
abbrev Cx.nox(X:Cx):Cx:=X.wish fun _ _=>False
theorem Cx.Ok.wish(ok:X.Ok)(E:Value->Shared->Prop):(X.wish E).Ok :=
 ⟨ok.mod,ok.kind,ok.glob,ok.blt,ok.above,ok.inj,ok.has,ok.cab,ok.hd,ok.frames,ok.stk,ok.exf,ok.bs,ok.bsz,ok.noex,ok.exfs,ok.funs,ok.frf⟩
theorem Cx.Ok.unwish(ok:(X.wish E).Ok):X.Ok :=
 ⟨ok.mod,ok.kind,ok.glob,ok.blt,ok.above,ok.inj,ok.has,ok.cab,ok.hd,ok.frames,ok.stk,ok.exf,ok.bs,ok.bsz,ok.noex,ok.exfs,ok.funs,ok.frf⟩
theorem Inv.wish(I:Inv X pins σ H s)(E:Value->Shared->Prop):Inv (X.wish E) pins σ H s:=⟨I.ok.wish E,I.os,I.bare,I.base,I.loc,I.cell,I.free,I.freeC,I.pin,I.hok,I.len,I.tk⟩
theorem Inv.unwish(I:Inv (X.wish E) pins σ H s):Inv X pins σ H s:=⟨I.ok.unwish,I.os,I.bare,I.base,I.loc,I.cell,I.free,I.freeC,I.pin,I.hok,I.len,I.tk⟩
theorem SP.unwish{D:qe3}{f:Flow}{s':Shared}(h:SP (X.wish E) pins D f s'):SP X pins D f s':=by
 cases f with
 | next=>obtain⟨σ',H',I,q⟩:=h;exact⟨σ',H',I.unwish,q⟩
 | brk=>obtain⟨σ',H',I,q⟩:=h;exact⟨σ',H',I.unwish,q⟩
 | cont=>obtain⟨σ',H',I,q⟩:=h;exact⟨σ',H',I.unwish,q⟩
 | ret u=>obtain⟨v,σ',H',I,r,q⟩:=h;exact⟨v,σ',H',I.unwish,r,q⟩
theorem PSs.nox{st:List Stmt}{t:TS}(h:PSs X.nox st t):PSs X st t:=fun pins s σ H D I hw =>
 wpAny_mono (h pins s σ H D (I.wish _) hw) (fun _ _ q=>q.unwish) fun _ _ z=>False.elim z
variable{st:Stmt}{te:TE}
section
variable{rest:List Stmt}{t u:TS}
def O8:TS:=fun D σ H=>D.nx σ H
def C1(t u:TS):TS:=fun D σ H=>t {D with nx:=u D} σ H
theorem E9:PSs X [] O8:=fun _ _ σ H _ I h=>wpAny_execs_nil ⟨σ,H,I,h⟩
theorem A4(h1:PS X st t)(h2:PSs X rest u):PSs X (st::rest) (C1 t u):=by
 intro pins s σ H D I h
 refine wpAny_execs_cons (thn (h1 pins s σ H {D with nx:=u D} I h) fun f s1 q=>?_)
 cases f with
 | next =>
   obtain⟨σ',H',I',q⟩:=q
   exact h2 pins s1 σ' H' D I' q
 | ret v=>exact q
 | brk=>exact q
 | cont=>exact q
theorem A7(h1:PS X st t):PSs X [st] t:=by
 intro pins s σ H D I h
 refine wpAny_execs_cons (thn (h1 pins s σ H D I h) fun f s1 q=>?_)
 cases f with
 | next=>exact wpAny_execs_nil q
 | ret v=>exact q
 | brk=>exact q
 | cont=>exact q
def yd0:TS:=fun D σ H=>D.bk σ H
theorem yu8:PS X (.Break pos) yd0:=fun _ _ σ H _ I h=>wpAny_Break ⟨σ,H,I,h⟩
theorem Inv.quiet(I:Inv X pins σ H s):interactive X.env=false:=by simp[interactive,I.ok.kind]
def I0(te:TE):TS:=fun D σ H=>te σ H fun _ H1=>D.nx σ H1
theorem D0(he:PE X e te)(hs:autoParam (swapsWith e none pos.line X.env=pure false) zAr):PS X (.Expr e pos) (I0 te):=by
 intro pins s σ H D I h
 exact wpAny_Expr_any (thn (he pins s σ H _ I h) fun v s1 ⟨x,H1,I1,r1,q1⟩=>⟨σ,H1,I1,q1⟩) I.quiet hs
def L6(te:TE):TS:=fun D σ H=>te σ H D.rt
theorem C7(he:PE X e te):PS X (.Return (some e) pos) (L6 te):=by
 intro pins s σ H D I h
 exact wpAny_Return_some (thn (he pins s σ H _ I h) fun v s1 ⟨x,H1,I1,r1,q1⟩=>⟨x,σ,H1,I1,r1,q1⟩)
def yj8:TS:=fun D _ H=>D.rt .non H
theorem yj9:PS X (.Return none pos) yj8:=fun _ _ σ H _ I h=>wpAny_Return_none ⟨.non,σ,H,I,rfl,h⟩
def S3(c:TT)(t u:TS):TS:=fun D σ H=>c σ H fun b H1=>if b=true then t D σ H1 else u D σ H1
theorem M4{a b:List Stmt}{tc:TT}(hc:PT X c tc)(ha:PSs X a t)(hb:PSs X b u):PS X (.If c a b pos) (S3 tc t u):=by
 intro pins s σ H D I h
 refine wpAny_If (thn (hc pins s σ H _ I h) fun d s1 zq=>?_)
 obtain⟨H1,I1,q1⟩:=zq
 cases d with
 | true=>exact ha pins s1 σ H1 D I1 q1
 | false=>exact hb pins s1 σ H1 D I1 q1
end
abbrev TG:=V->St->Hp->(St->Hp->Prop)->Prop
abbrev TGs:=List V->St->Hp->(St->Hp->Prop)->Prop
def PG(X:Cx)(target:Expr)(t:TG):Prop :=
 ∀ (pins:List (Addr×Obj)) (s:Shared) (σ:St) (H:Hp) (v:V) (u:Value) (Q:St->Hp->Prop),Inv X pins σ H s->J9 v u->t v σ H Q ->
  wpAny (model X.prog X.w) X.A (assign target X.env u) (fun _ s'=>∃ σ' H',Inv X pins σ' H' s'/\Q σ' H') X.xe s
def PGs(X:Cx)(ts:List Expr)(t:TGs):Prop :=
 ∀ (pins:List (Addr×Obj)) (s:Shared) (σ:St) (H:Hp) (vs:List V) (us:List Value) (Q:St->Hp->Prop),Inv X pins σ H s->G7 vs us->t vs σ H Q ->
  wpAny (model X.prog X.w) X.A (assignInOrder ((assignEach ts X.env).map (·.2)) us) (fun _ s'=>∃ σ' H',Inv X pins σ' H' s'/\Q σ' H') X.xe s
abbrev yu9:=V->V->V->Hp->(Hp->Prop)->Prop
def zp4(X:Cx)(t:yu9):Prop :=
 ∀ (pins:List (Addr×Obj)) (s:Shared) (σ:St) (H:Hp) (o i v:V) (ov iv u:Value) (Q:Hp->Prop),Inv X pins σ H s->J9 o ov->J9 i iv->J9 v u->t o i v H Q ->
  wpAny (model X.prog X.w) X.A (setItem ov iv u) (fun _ s'=>∃ H',Inv X pins σ H' s'/\Q H') X.xe s
def B1(i:Nat):TG:=fun v σ H Q=>Q (σ.set i (some v)) H
theorem E3{i:Nat}(hN:X.N.Nodup)(hi:X.N[i]?=some x)(hx:Loc X.env.scope x)(hf:autoParam (X.fn x=true\/X.env.scope.names.lookup x=some .local) zAf):PG X (.Name x pos) (B1 i):=by
 intro pins s σ H v u Q I r h
 exact wpAny_assign_Name (xv6 I hN hi hx r (fun s' I'=>⟨_,H,I',h⟩) hf)
def yd1:TGs:=fun vs σ H Q=>vs=[]/\Q σ H
def qr4(t:TG)(u:TGs):TGs:=fun vs σ H Q=>∃ v r,vs=v::r/\t v σ H fun σ' H'=>u r σ' H' Q
theorem wo4:PGs X [] yd1:=by
 intro pins s σ H vs us Q I r h
 obtain⟨e,h⟩:=h
 subst e
 cases r
 exact assignInOrder_nil ⟨σ,H,I,h⟩
variable{es:List Expr}
theorem V4{t:TG}{u:TGs}(h1:PG X e t)(h2:PGs X es u)(hs:autoParam ((assignEach (e::es) X.env).map (·.2)=assign e X.env::(assignEach es X.env).map (·.2)) zAr):PGs X (e::es) (qr4 t u):=by
 intro pins s σ H vs us Q I r h
 obtain⟨v,vr,e1,h⟩:=h
 subst e1
 cases r with
 | cons r rr =>
   rw[hs]
   refine assignInOrder_cons (thn (h1 pins s σ H _ _ _ I r h) fun _ s1 zq=>?_)
   obtain⟨σ1,H1,I1,q1⟩:=zq
   exact h2 pins s1 σ1 H1 _ _ Q I1 rr q1
def yd2(K:Fg)(n:Nat)(t:TGs):TG:=fun v σ H Q=>∃ a xs,v=.ref a/\SqT K H a xs/\xs.length=n/\t xs σ H Q
variable{k n:Nat}
theorem xc3{t:TGs}(hc:X.calm=true)(h:PGs X es t)(hn:autoParam ((assignEach es X.env).length=n) zAr)(hst:autoParam ((assignEach es X.env).findIdx? (·.1)=none) zAr):PG X (.Tuple es k pos) (yd2 X.K n t):=by
 intro pins s σ H v u Q I r hw
 obtain⟨a,xs,e1,hq,hl,hw⟩:=hw
 subst e1
 cases r
 obtain⟨its,rv,ht,hz⟩:=I.tuple hq
 refine assign_Tuple_tuple (I.ok.hd hc) ht (by simp[hn,<-hl,rv.length]) hst fun h' hx=>?_
 have I1:Inv X pins σ H {s with heap:=h'}:=I.kept (t':=s.toks) fun b o e=>hx b o (Nat.ne_of_lt (Heap.lt_size e)) e
 exact h pins _ σ H xs _ Q I1 (by simpa using rv) hw
def yv0(to ti:TE)(t:yu9):TG:=fun v σ H Q=>to σ H fun o H1=>ti σ H1 fun i H2=>t o i v H2 fun H3=>Q σ H3
variable{ti to:TE}
theorem yd3{o i:Expr}{t:yu9}(ho:PE X o to)(hi:PE X i ti)(hs:zp4 X t) (ha:∀ v,assign (.Subscript o i pos) X.env v=(do
  let ov<-holding [v] (eval o X.env)
  let iv<-holding [v,ov] (eval i X.env)
  standAt pos
  holding [v,ov,iv] (setItem ov iv v)
  release [v,ov,iv] []):=by intro _;rfl):PG X (.Subscript o i pos) (yv0 to ti t):=by
 intro pins s σ H v u Q I r h
 rw[ha]
 refine wpAny_bind (wpAny_holding (thn (ho pins s σ H _ I h) fun ov s1 zq=>?_))
 obtain⟨x,H1,I1,r1,q1⟩:=zq
 refine wpAny_bind (wpAny_holding (thn (hi pins s1 σ H1 _ I1 q1) fun iv s2 zq=>?_))
 obtain⟨y,H2,I2,r2,q2⟩:=zq
 refine wpAny_bind (wpAny_standAt (wpAny_bind (wpAny_holding (thn (hs pins s2 σ H2 x y v ov iv u _ I2 r1 r2 r q2) fun _ s3 zq=>?_))))
 obtain⟨H3,I3,q3⟩:=zq
 exact wpAny_release ⟨σ,H3,I3,q3⟩
def E1(te:TE)(g:TG):TS:=fun D σ H=>te σ H fun x H1=>g x σ H1 D.nx
variable{g:TG}
theorem xp1{tg:Expr}(he:PE X e te)(hg:PG X tg g)(hs:autoParam (swapsWithSole [tg] e pos.line X.env=pure false) zAr)(hw:autoParam (swappedStores [tg] e X.env=pure none) zAr)(h1:autoParam ((assignEach [tg] X.env).map (·.2)=[assign tg X.env]) zAr):PS X (.Assign [tg] e pos) (E1 te g):=by
 intro pins s σ H D I h
 refine wpAny_Assign_stores (thn (he pins s σ H _ I h) fun v s1 zq=>?_) hs hw
 obtain⟨x,H1,I1,r1,q1⟩:=zq
 rw[h1]
 exact thn (hg pins s1 σ H1 x v _ I1 r1 q1) fun _ s2 q=>q
variable{pos':Pos}
theorem qe4{i:Nat}(hN:X.N.Nodup)(hi:X.N[i]?=some x)(hx:Loc X.env.scope x)(he:PE X e te)(hs:autoParam (swapsWith e (some (.Name x pos')) pos.line X.env=pure false) zAr)(hf:autoParam (X.fn x=true\/X.env.scope.names.lookup x=some .local) zAf) :
 PS X (.Assign [.Name x pos'] e pos) (E1 te (B1 i)):=by
 intro pins s σ H D I h
 refine wpAny_Assign_Name (thn (he pins s σ H _ I h) fun v s1 zq=>?_) hs
 obtain⟨y,H1,I1,r1,q1⟩:=zq
 exact xv6 I1 hN hi hx r1 (fun s2 I2=>⟨_,H1,I2,q1⟩) hf
def wd7(c:TT)(tb:TS):TS:=fun D σ H=>∃ W:Nat->St->Hp->Prop,(∃ m,W m σ H)/\∀ m σ H,W m σ H ->
 c σ H fun b H1=>if b=true then ∃ N:St->Hp->Prop,(∀ σ' H',N σ' H'->∃ m',m'<m/\W m' σ' H')/\tb {D with nx:=N,ct:=N,bk:=D.nx} σ H1 else D.nx σ H1
variable{body:List Stmt}{tb:TS}
theorem wo5{tc:TT}(hp:PassesOwn (model X.prog X.w) X.A X.env X.xe)(hc:PT X c tc)(hb:PSs X body tb):PS X (.While c body [] pos) (wd7 tc tb):=by
 intro pins s σ H D I h
 obtain⟨W,⟨m0,w0⟩,turn⟩:=h
 refine wpAny_While (codeAny_whileLoop (fun n s'=>∃ σ' H',Inv X pins σ' H' s'/\W n σ' H') ?_ m0 ⟨σ,H,I,w0⟩)
 rintro n s1 ⟨σ1,H1,I1,w1⟩
 refine wpAny_passesOwn hp (thn (hc pins s1 σ1 H1 _ I1 (turn n σ1 H1 w1)) fun b s2 zq=>?_)
 obtain⟨H2,I2,q2⟩:=zq
 cases b with
 | true =>
   obtain⟨N,hN,q2⟩:=q2
   rw[if_pos rfl]
   refine wpAny_passesOwn hp (thn (hb pins s2 σ1 H2 _ I2 q2) fun f s3 q3=>?_)
   cases f with
   | next =>
     obtain⟨σ3,H3,I3,n3⟩:=q3
     obtain⟨m',hm,w3⟩:=hN σ3 H3 n3
     exact⟨m',hm,σ3,H3,I3,w3⟩
   | cont =>
     obtain⟨σ3,H3,I3,n3⟩:=q3
     obtain⟨m',hm,w3⟩:=hN σ3 H3 n3
     exact⟨m',hm,σ3,H3,I3,w3⟩
   | brk=>exact q3
   | ret v=>exact q3
 | false =>
   rw[if_neg Bool.false_ne_true]
   exact wpAny_execs_nil ⟨σ1,H2,I2,q2⟩
set_option genInjectivity false in
structure It where
 go:Nat->Hp->Prop
 yld:Nat->Hp->V->Hp->Prop
 stop:Nat->Hp->Prop
def xi8(X:Cx)(pins:List (Addr×Obj))(H:Hp)(b:Addr):Prop :=
 H b=none/\b≠X.env.locals/\b∉X.fs/\(b∈X.ex\/X.s₀.heap.objs.size<=b)/\(∀ x c,X.env.cells.lookup x=some c->c≠b)/\∀ p∈X.pn++pins,p.1≠b
theorem Inv.fpOk(I:Inv X pins σ H s)(hb:s.heap.objs.size<=b)(hn:H' b=none):xi8 X pins H' b:=by
 refine⟨hn,Nat.ne_of_gt (Nat.lt_of_lt_of_le I.lt hb),I.nofs hb,.inr (Nat.le_trans I.sz hb),fun x c e z=>?_,fun p hp z=>?_⟩
 ·obtain⟨v,q⟩:=I.cell x c e
  exact absurd (Nat.lt_of_lt_of_le q.lt (by rw[z];exact hb)) (Nat.lt_irrefl _)
 ·exact absurd (Nat.lt_of_lt_of_le (Heap.lt_size (I.pin p hp).1) (by rw[z];exact hb)) (Nat.lt_irrefl _)
structure wz6(P:Program)(w:World)(K:Fg)(tg:Expr)(J:It)(fp:List Addr)(it:Addr)(tn:Nat->Heap->Prop):Prop where
 mem:it∈fp
 obj:∀ i h,tn i h->∀ b∈fp,∃ o,h.get? b=some o/\∀ v,o.data≠.cell v
 keep:∀ i h h',tn i h->(∀ b∈fp,∀ o,h.get? b=some o->h'.get? b=some o)->tn i h'
 item:∀ (X:Cx),X.prog=P->X.w=w->X.K=K->X.calm=true->∀ (i:Nat) (pins:List (Addr×Obj)) (s:Shared) (σ:St) (H:Hp) (E:Value->Shared->Prop),Inv X pins σ H s->(∀ b∈fp,xi8 X pins H b)->tn i s.heap->J.go i H ->
  wpAny (model P w) X.A (pyNext (.ref it)) (fun r s1=>∃ u,r=some u /\
   wpAny (model P w) X.A (letOwnedTupleGo tg (.ref it) u) (fun _ s2=>∃ x H',Inv X pins σ H' s2/\J9 x u/\J.yld i H x H'/\tn (i+1) s2.heap/\∀ b∈fp,H' b=none) E s1) E s
 done:∀ (X:Cx),X.prog=P->X.w=w->X.K=K->X.calm=true->∀ (i:Nat) (pins:List (Addr×Obj)) (s:Shared) (σ:St) (H:Hp) (E:Value->Shared->Prop),Inv X pins σ H s->(∀ b∈fp,xi8 X pins H b)->tn i s.heap->J.stop i H ->
  wpAny (model P w) X.A (pyNext (.ref it)) (fun r s1=>r=none/\Inv X pins σ H s1) E s
 self:∀ (A:Around) (i:Nat) (s:Shared) (Q:Value->Shared->Prop) (E:Value->Shared->Prop),tn i s.heap->Q (.ref it) s->wpAny (model P w) A (pyIter (.ref it)) Q E s
abbrev TI:=St->Hp->(It->Hp->Prop)->Prop
def PIE(X:Cx)(pins:List (Addr×Obj))(σ:St)(tg:Expr)(R:It->Hp->Prop)(itv:Value)(s2:Shared):Prop :=
 ∃ (it:Addr) (fp:List Addr) (tn:Nat->Heap->Prop) (J:It) (H':Hp),itv=.ref it/\Inv X pins σ H' s2/\wz6 X.prog X.w X.K tg J fp it tn/\tn 0 s2.heap/\(∀ b∈fp,xi8 X pins H' b)/\R J H'
def PI(X:Cx)(tg iter:Expr)(wi:TI):Prop :=
 ∀ (pins:List (Addr×Obj)) (s:Shared) (σ:St) (H:Hp) (R:It->Hp->Prop),Inv X pins σ H s->wi σ H R ->
  wpAny (model X.prog X.w) X.A (eval iter X.env) (fun v s1=>wpAny (model X.prog X.w) X.A (pyIter v) (PIE X pins σ tg R) X.xe s1) X.xe s
theorem xc4{tg:Expr}{o:Obj}{n:String}{vs:Array Value}{Q:Unit->Shared->Prop}(ho:s.heap.get? it=some o)(hc:o.cls=.type n)(hd:o.data=.fields vs)(hn:["enumerate","zip","dict_itemiterator","dict_reverseitemiterator","odict_iterator","itertools.zip_longest","itertools.pairwise"].contains n=false)(hQ:Q () s):wpAny M A (letOwnedTupleGo tg (.ref it) u) Q E s:=by
 unfold letOwnedTupleGo
 cases tg <;> first
  | exact wpAny_pure hQ
  | (cases u <;> first
   | exact wpAny_pure hQ
   | (refine wpAny_bind (wpAny_load ho ?_)
      rw[hc,hd]
      show wpAny M A (if(["enumerate","zip","dict_itemiterator","dict_reverseitemiterator","odict_iterator","itertools.zip_longest","itertools.pairwise"].contains n && vs[0]? == some (rawInt _))=true then _ else _) Q E s
      rw[if_neg (by intro h;rw[hn,Bool.false_and] at h;cases h)]
      exact wpAny_pure hQ))
def Itl(K:Fg)(a:Addr):It :=
 ⟨fun i H=>∃ xs x,SqL K H a xs/\xs[i]?=some x,fun i H x H'=>H'=H/\∀ xs,SqL K H a xs->xs[i]?=some x,fun i H=>∃ xs,SqL K H a xs/\xs.length<=i⟩
def Itt(K:Fg)(a:Addr):It :=
 ⟨fun i H=>∃ xs x,SqT K H a xs/\xs[i]?=some x,fun i H x H'=>H'=H/\∀ xs,SqT K H a xs->xs[i]?=some x,fun i H=>∃ xs,SqT K H a xs/\xs.length<=i⟩
def Itr(lo:Int)(n:Nat):It:=⟨fun i _=>i<n,fun i H x H'=>H'=H/\x=.int (lo+i),fun i _=>n<=i⟩
theorem yp4{tg:Expr}(a it:Addr):wz6 P w K tg (Itl K a) [it] it (fun i h=>h.IsListIter it a i) where
 mem:=by simp
 obj:=fun i h st b hb=>by
  have e:b=it:=by simpa using hb
  subst e
  obtain⟨o,e,c,d⟩:=st
  exact⟨o,e,fun v z=>by rw[d] at z;cases z⟩
 keep:=fun i h h' st k=>st.at fun o e=>k it (by simp) o e
 item:=by
  intro X hP hw hK hc i pins s σ H E I hf st hg
  subst hP hw hK
  obtain⟨xs,x,hq,hx⟩:=hg
  obtain⟨its,rv,p,hz⟩:=I.list hq
  obtain⟨u,hu,ru⟩:=rv.get hx
  obtain⟨f0,f1,f2,f3,f4,f5⟩:=hf it (by simp)
  refine wpAny_pyNext_list_item st p.isList (x:=u) (by simpa using hu) fun h' st' sb=>?_
  have I1:Inv X pins σ H {s with heap:=h'}:=I.turned (t':=s.toks) (fun b o hb e=>(sb.2 b hb).trans e) f0 f1 f3 f4 f5
  obtain⟨o,e,c,d⟩:=id st'
  exact⟨u,rfl,xc4 (s:={s with heap:=h'}) e c d (by decide) ⟨x,H,I1,ru,⟨rfl,fun ys hy=>by rw[I.list_inj hy hq];exact hx⟩,st',fun b hb=>(hf b hb).1⟩⟩
 done:=by
  intro X hP hw hK hc i pins s σ H E I hf st hg
  subst hP hw hK
  obtain⟨xs,hq,hx⟩:=hg
  obtain⟨its,rv,p,hz⟩:=I.list hq
  obtain⟨f0,f1,f2,f3,f4,f5⟩:=hf it (by simp)
  have hl:=rv.length
  exact wpAny_pyNext_list_end (I.ok.hd hc) st p.isList (by simp;omega) fun h' eb=>⟨rfl,I.turned (t':=s.toks) (fun b o hb e=>eb b o hb e) f0 f1 f3 f4 f5⟩
 self:=fun _ _ _ _ _ st h=>wpAny_pyIter_listiter st h
theorem yd4{tg:Expr}(a it:Addr):wz6 P w K tg (Itt K a) [it] it (fun i h=>h.IsTupleIter it a i) where
 mem:=by simp
 obj:=fun i h st b hb=>by
  have e:b=it:=by simpa using hb
  subst e
  obtain⟨o,e,c,d⟩:=st
  exact⟨o,e,fun v z=>by rw[d] at z;cases z⟩
 keep:=fun i h h' st k=>st.at fun o e=>k it (by simp) o e
 item:=by
  intro X hP hw hK hc i pins s σ H E I hf st hg
  subst hP hw hK
  obtain⟨xs,x,hq,hx⟩:=hg
  obtain⟨its,rv,p,hz⟩:=I.tuple hq
  obtain⟨u,hu,ru⟩:=rv.get hx
  obtain⟨f0,f1,f2,f3,f4,f5⟩:=hf it (by simp)
  refine wpAny_pyNext_tuple_item st (show s.heap.IsTuple a its.toArray from p) (x:=u) (by simpa using hu) fun h' st' sb=>?_
  have I1:Inv X pins σ H {s with heap:=h'}:=I.turned (t':=s.toks) (fun b o hb e=>(sb.2 b hb).trans e) f0 f1 f3 f4 f5
  obtain⟨o,e,c,d⟩:=id st'
  exact⟨u,rfl,xc4 (s:={s with heap:=h'}) e c d (by decide) ⟨x,H,I1,ru,⟨rfl,fun ys hy=>by rw[I.tuple_inj hy hq];exact hx⟩,st',fun b hb=>(hf b hb).1⟩⟩
 done:=by
  intro X hP hw hK hc i pins s σ H E I hf st hg
  subst hP hw hK
  obtain⟨xs,hq,hx⟩:=hg
  obtain⟨its,rv,p,hz⟩:=I.tuple hq
  obtain⟨f0,f1,f2,f3,f4,f5⟩:=hf it (by simp)
  have hl:=rv.length
  exact wpAny_pyNext_tuple_end (I.ok.hd hc) st (show s.heap.IsTuple a its.toArray from p) (by simp;omega) fun h' eb=>⟨rfl,I.turned (t':=s.toks) (fun b o hb e=>eb b o hb e) f0 f1 f3 f4 f5⟩
 self:=fun _ _ _ _ _ st h=>wpAny_pyIter_tupleiter st h
theorem yd5{tg:Expr}(it:Addr)(lo:Int)(n:Nat):wz6 P w K tg (Itr lo n) [it] it (fun i h=>IsRangeIter h it (lo+(i:Nat)*1) ((n:Int)-(i:Nat)) 1) where
 mem:=by simp
 obj:=fun i h st b hb=>by
  have e:b=it:=by simpa using hb
  subst e
  exact⟨_,st,fun v z=>by
   have z':Data.fields _=Data.cell v:=z
   cases z'⟩
 keep:=fun i h h' st k=>k it (by simp) _ st
 item:=by
  intro X hP hw hK hc i pins s σ H E I hf st hg
  subst hP hw hK
  obtain⟨f0,f1,f2,f3,f4,f5⟩:=hf it (by simp)
  have W:=Walks.range (prog:=X.prog) (w:=X.w) (I.ok.hd hc) it lo 1 n
  refine wpAny_with_toks (n:=1) I.tk (W.item i s _ _ hg st fun v h' tk hv st' kk ht=>?_)
  have ht:0<tk:=ht
  obtain⟨t,rfl⟩:=hv
  have I1:Inv X pins σ H {s with heap:=h',toks:=tk}:=I.turned (fun b o hb e=>kk b o (by simpa using hb) e) f0 f1 f3 f4 f5
  refine⟨_,rfl,xc4 (s:={s with heap:=h',toks:=tk}) (n := "range_iterator") st' rfl rfl (by decide) ⟨.int (lo+i),H,I1,⟨t,?_⟩,⟨rfl,rfl⟩,st',fun b hb=>(hf b hb).1⟩⟩
  rw[Int.mul_one]
 done:=by
  intro X hP hw hK hc i pins s σ H E I hf st hg
  subst hP hw hK
  obtain⟨f0,f1,f2,f3,f4,f5⟩:=hf it (by simp)
  exact wpAny_pyNext_range_end (I.ok.hd hc) st (by have:n<=i:=hg;omega) fun h' eb=>⟨rfl,I.turned (t':=s.toks) (fun b o hb e=>eb b o hb e) f0 f1 f3 f4 f5⟩
 self:=fun _ _ _ _ _ st h=>wpAny_pyIter_rangeiter st h
variable{R:It->Hp->Prop}{iter:Expr}{wi:TI}
section
variable{tg:Expr}
theorem xv7{lo hi:Int}{t u v:Tok}{tk:Nat}(I:Inv X pins σ H s)(h1:-(2 ^ 62)<=lo)(h2:lo<2 ^ 62)(h3:-(2 ^ 62)<=hi)(h4:hi<2 ^ 62)(q:R (Itr lo (hi-lo).toNat) H)(ht:autoParam (0<tk) zAt):wpAny (model X.prog X.w) X.A (pyIter (.ref s.heap.objs.size)) (PIE X pins σ tg R) E {s with heap:=s.heap.push {cls:=.type "range",data:=.fields #[.int lo t,.int hi u,.int 1 v]},toks:=tk}:=by
 refine wpAny_pyIter_range (IsRange.new ..) (small_one h1 h2 h3 h4) ?_
 have I1:Inv X pins σ H {s with heap:=s.heap.push {cls:=.type "range",data:=.fields #[.int lo t,.int hi u,.int 1 v]},toks:=tk}:=I.kept fun b o e=>Heap.get?_push_of_some _ e
 refine⟨(s.heap.push {cls:=.type "range",data:=.fields #[.int lo t,.int hi u,.int 1 v]}).objs.size,[(s.heap.push {cls:=.type "range",data:=.fields #[.int lo t,.int hi u,.int 1 v]}).objs.size],_,_,H,rfl,
  I1.kept (t':=tk) fun b o e=>Heap.get?_push_of_some _ e,yd5 _ lo (hi-lo).toNat,?_,fun b hb=>?_,q⟩
 ·have e1:lo+((0:Nat):Int)*1=lo:=by simp
  have e2:(((hi-lo).toNat:Nat):Int)-((0:Nat):Int)=Builtin.Range.rangeSize lo hi 1:=by rw[rangeSize_one];split <;> omega
  show IsRangeIter _ _ (lo+((0:Nat):Int)*1) ((((hi-lo).toNat:Nat):Int)-((0:Nat):Int)) 1
  rw[e1,e2]
  exact Heap.get?_push_size _ rfl
 ·have e:b=(s.heap.push {cls:=.type "range",data:=.fields #[.int lo t,.int hi u,.int 1 v]}).objs.size:=by simpa using hb
  subst e
  exact I1.fpOk (Nat.le_refl _) (I1.hok.fresh (Nat.le_refl _))
def xl7(ta:TA):TI:=fun σ H R=>ta σ H fun vs H1=>∃ j:Int,vs=[.int j]/\-(2 ^ 62)<=j/\j<2 ^ 62/\R (Itr 0 j.toNat) H1
def yv1(ta:TA):TI:=fun σ H R=>ta σ H fun vs H1=>∃ i j:Int,vs=[.int i,.int j]/\(-(2 ^ 62)<=i/\i<2 ^ 62/\-(2 ^ 62)<=j/\j<2 ^ 62)/\R (Itr i (j-i).toNat) H1
theorem wh1{a:Expr}{ta:TA}{p:Pos}(hg:Gl X "range")(hm:X.mg "range"=none)(ha:PA X [a] ta)(hs:autoParam (starEach [a] X.env=[(false,eval a X.env)]) zAr):PI X tg (.Call (.Name "range" p) [a] [] pos) (xl7 ta):=by
 intro pins s σ H R I h
 refine Call_ (qu5 I hg hm boot_range (PyProof.Rows.callWith_type1 (thn (ha pos pins s σ H _ I h) fun us s1 zq=>?_) hs rfl))
 obtain⟨vs,H1,I1,r1,q1⟩:=zq
 obtain⟨j,e,q1,q2,q⟩:=q1
 subst e
 cases r1 with
 | cons r rr =>
   cases rr
   obtain⟨t,rfl⟩:=r
   exact call_range_1 (xv7 I1 (by omega) (by omega) q1 q2 (by simpa using q))
theorem yp5{a b:Expr}{ta:TA}{p:Pos}(hg:Gl X "range")(hm:X.mg "range"=none)(ha:PA X [a,b] ta)(hs:autoParam (starEach [a,b] X.env=[(false,eval a X.env),(false,eval b X.env)]) zAr)(hs2:autoParam (starEach [b] X.env=[(false,eval b X.env)]) zAr) :
 PI X tg (.Call (.Name "range" p) [a,b] [] pos) (yv1 ta):=by
 intro pins s σ H R I h
 refine Call_ (qu5 I hg hm boot_range (PyProof.Rows.callWith_type1 (thn (ha pos pins s σ H _ I h) fun us s1 zq=>?_) (by rw[hs,hs2]) (by rw[hs2];rfl)))
 obtain⟨vs,H1,I1,r1,q1⟩:=zq
 obtain⟨i,j,e,⟨q1,q2,q3,q4⟩,q⟩:=q1
 subst e
 cases r1 with
 | cons r rr =>
   cases rr with
   | cons r' rr =>
     cases rr
     obtain⟨t,rfl⟩:=r
     obtain⟨t',rfl⟩:=r'
     exact call_range_2 (xv7 I1 q1 q2 q3 q4 q)
def qm8(wi:TI)(g:TG)(tb:TS):TS:=fun D σ H=>wi σ H fun J H1=>∃ W:Nat->Nat->St->Hp->Prop,(∃ m,W 0 m σ H1)/\∀ i m σ H,W i m σ H ->
 (J.stop i H/\D.nx σ H)\/(J.go i H/\∃ N:St->Hp->Prop,(∀ σ' H',N σ' H'->∃ m',m'<m/\W (i+1) m' σ' H')/\∀ x H',J.yld i H x H'->g x σ H' fun σ2 H2=>tb {D with nx:=N,ct:=N,bk:=D.nx} σ2 H2)
def xc5(fp:List Addr)(h:Heap):List (Addr×Obj):=fp.filterMap fun b=>(h.get? b).map fun o=>(b,o)
theorem qy5{fp:List Addr}{o:Obj}(hb:b∈fp)(e:h.get? b=some o):(b,o)∈xc5 fp h:=List.mem_filterMap.mpr ⟨b,hb,by rw[e];rfl⟩
theorem yp6{fp:List Addr}{p:Addr×Obj}(hp:p∈xc5 fp h):p.1∈fp/\h.get? p.1=some p.2:=by
 obtain⟨b,hb,e⟩:=List.mem_filterMap.mp hp
 cases q:h.get? b with
 | none=>rw[q] at e;cases e
 | some o =>
   rw[q] at e
   have e':(b,o)=p:=Option.some.inj e
   subst e'
   exact⟨hb,q⟩
theorem Inv.pinned{fp:List Addr}(I:Inv X pins σ H s)(hf:∀ b∈fp,xi8 X pins H b)(ho:∀ b∈fp,∃ o,s.heap.get? b=some o/\∀ v,o.data≠.cell v):Inv X (pins++xc5 fp s.heap) σ H s :=
 I.pins_of fun p hp=>(List.mem_append.mp hp).elim (fun z=>I.pin p (List.mem_append_right _ z)) fun z=>by
  obtain⟨hb,e⟩:=yp6 z
  obtain⟨f0,f1,f2,_⟩:=hf p.1 hb
  obtain⟨o,e',d⟩:=ho p.1 hb
  rw[e] at e';cases e'
  exact⟨e,f0,f1,f2,d⟩
theorem Inv.unpinned{pl:List (Addr×Obj)}(I:Inv X (pins++pl) σ H s):Inv X pins σ H s:=I.pins_of fun p hp=>I.pin p (List.mem_append_right _ (List.mem_append_left _ hp))
theorem R7(hp:PassesOwn (model X.prog X.w) X.A X.env X.xe)(hc:X.calm=true)(hi:PI X tg iter wi)(hg:PG X tg g)(hb:PSs X body tb)(hs:autoParam (∀ x,foldedSetIterable iter X.env x=pure x) zAi):PS X (.For tg iter body [] pos) (qm8 wi g tb):=by
 intro pins s σ H D I h
 refine wpAny_For (thn (hi pins s σ H _ I h) fun v s1 h1=>thn h1 fun itv s2 h2=>?_) hs
 obtain⟨it,fp,tn,J,H2,e,I2,T,st2,f2,W,⟨m0,w0⟩,turn⟩:=h2
 subst e
 have stat:∀ {H':Hp},(∀ b∈fp,H' b=none)->∀ b∈fp,xi8 X pins H' b:=fun hn b hb=>⟨hn b hb,(f2 b hb).2⟩
 refine codeAny_forLoop_any (fun n s'=>∃ i σ' H',Inv X pins σ' H' s'/\tn i s'.heap/\(∀ b∈fp,H' b=none)/\W i n σ' H') ?_ m0 ⟨0,σ,H2,I2,st2,fun b hb=>(f2 b hb).1,w0⟩
 rintro n s3 ⟨i,σ3,H3,I3,st3,fr3,w3⟩
 rcases turn i n σ3 H3 w3 with⟨stop,qn⟩|⟨go,N,hN,step⟩
 ·refine wpAny_passesOwn hp (thn (T.done X rfl rfl rfl hc i pins s3 σ3 H3 X.xe I3 (stat fr3) st3 stop) fun r s4 zq=>?_)
  obtain⟨hr,I4⟩:=zq
  subst hr
  exact wpAny_execs_nil ⟨σ3,H3,I4,qn⟩
 ·refine wpAny_passesOwn hp (thn (T.item X rfl rfl rfl hc i pins s3 σ3 H3 X.xe I3 (stat fr3) st3 go) fun r s4 zq=>?_)
  obtain⟨u,hr,h4⟩:=zq
  subst hr
  refine wpAny_passesOwn hp (thn h4 fun _ s5 zq=>?_)
  obtain⟨x,H5,I5,r5,y5,st5,fr5⟩:=zq
  have I5':=I5.pinned (stat fr5) (T.obj _ _ st5)
  refine wpAny_passesOwn hp (thn (hg _ s5 σ3 H5 x u _ I5' r5 (step x H5 y5)) fun _ s6 zq=>?_)
  obtain⟨σ6,H6,I6,q6⟩:=zq
  refine wpAny_passesOwn hp (thn (hb _ s6 σ6 H6 _ I6 q6) fun f s7 q7=>?_)
  have again:∀ {σ7:St} {H7:Hp},Inv X (pins++xc5 fp s5.heap) σ7 H7 s7->N σ7 H7->∃ m,m<n/\∃ i σ' H',Inv X pins σ' H' s7/\tn i s7.heap/\(∀ b∈fp,H' b=none)/\W i m σ' H':=fun{σ7 H7} I7 n7=>by
   obtain⟨m',hm,w7⟩:=hN σ7 H7 n7
   refine⟨m',hm,i+1,σ7,H7,I7.unpinned,T.keep _ _ _ st5 fun b hb o e=>(I7.pin (b,o) (List.mem_append_right _ (List.mem_append_right _ (qy5 hb e)))).1,fun b hb=>?_,w7⟩
   obtain⟨o,e,d⟩:=T.obj _ _ st5 b hb
   exact(I7.pin (b,o) (List.mem_append_right _ (List.mem_append_right _ (qy5 hb e)))).2.1
  cases f with
  | next=>obtain⟨σ7,H7,I7,n7⟩:=q7;exact again I7 n7
  | cont=>obtain⟨σ7,H7,I7,n7⟩:=q7;exact again I7 n7
  | brk=>obtain⟨σ7,H7,I7,q7⟩:=q7;exact⟨σ7,H7,I7.unpinned,q7⟩
  | ret v=>obtain⟨x7,σ7,H7,I7,r7,q7⟩:=q7;exact⟨x7,σ7,H7,I7.unpinned,r7,q7⟩
end
abbrev PAt{α:Type}(P:Nat->α->Hp->Prop)(i:Nat):α->Hp->Prop:=P i
variable{D:qe3}
theorem xc6(Pv:Nat->St->Hp->Prop)(h0:Pv 0 σ H)(hl:∀ i σ H,i<=xs.length->Pv i σ H->SqL K H a xs)(hs:∀ i x σ H,xs[i]?=some x->Pv i σ H->g x σ H fun σ2 H2=>tb {D with nx:=PAt Pv (i+1),ct:=PAt Pv (i+1),bk:=D.nx} σ2 H2)(hd:∀ σ H,Pv xs.length σ H->D.nx σ H) :
 ∃ W:Nat->Nat->St->Hp->Prop,(∃ m,W 0 m σ H)/\∀ i m σ H,W i m σ H ->
  ((Itl K a).stop i H/\D.nx σ H)\/((Itl K a).go i H/\∃ N:St->Hp->Prop,(∀ σ' H',N σ' H'->∃ m',m'<m/\W (i+1) m' σ' H')/\∀ x H',(Itl K a).yld i H x H'->g x σ H' fun σ2 H2=>tb {D with nx:=N,ct:=N,bk:=D.nx} σ2 H2):=by
 refine⟨fun i m σ H=>m=xs.length-i/\i<=xs.length/\Pv i σ H,⟨xs.length,by simp,Nat.zero_le _,h0⟩,?_⟩
 rintro i m σ H ⟨rfl,hi,p⟩
 have q:=hl i σ H hi p
 by_cases hlt:i<xs.length
 ·refine .inr ⟨⟨xs,xs[i],q,by simp[hlt]⟩,Pv (i+1),fun σ' H' p'=>⟨xs.length-(i+1),by omega,rfl,hlt,p'⟩,fun x H' y=>?_⟩
  obtain⟨e,y⟩:=y
  subst e
  exact hs i x σ _ (y xs q) p
 ·have e:i=xs.length:=by omega
  subst e
  exact .inl ⟨⟨xs,q,Nat.le_refl _⟩,hd σ H p⟩
theorem xp2(Pv:Nat->St->Hp->Prop)(h0:Pv 0 σ H)(hl:∀ i σ H,i<=xs.length->Pv i σ H->SqT K H a xs)(hs:∀ i x σ H,xs[i]?=some x->Pv i σ H->g x σ H fun σ2 H2=>tb {D with nx:=PAt Pv (i+1),ct:=PAt Pv (i+1),bk:=D.nx} σ2 H2)(hd:∀ σ H,Pv xs.length σ H->D.nx σ H) :
 ∃ W:Nat->Nat->St->Hp->Prop,(∃ m,W 0 m σ H)/\∀ i m σ H,W i m σ H ->
  ((Itt K a).stop i H/\D.nx σ H)\/((Itt K a).go i H/\∃ N:St->Hp->Prop,(∀ σ' H',N σ' H'->∃ m',m'<m/\W (i+1) m' σ' H')/\∀ x H',(Itt K a).yld i H x H'->g x σ H' fun σ2 H2=>tb {D with nx:=N,ct:=N,bk:=D.nx} σ2 H2):=by
 refine⟨fun i m σ H=>m=xs.length-i/\i<=xs.length/\Pv i σ H,⟨xs.length,by simp,Nat.zero_le _,h0⟩,?_⟩
 rintro i m σ H ⟨rfl,hi,p⟩
 have q:=hl i σ H hi p
 by_cases hlt:i<xs.length
 ·refine .inr ⟨⟨xs,xs[i],q,by simp[hlt]⟩,Pv (i+1),fun σ' H' p'=>⟨xs.length-(i+1),by omega,rfl,hlt,p'⟩,fun x H' y=>?_⟩
  obtain⟨e,y⟩:=y
  subst e
  exact hs i x σ _ (y xs q) p
 ·have e:i=xs.length:=by omega
  subst e
  exact .inl ⟨⟨xs,q,Nat.le_refl _⟩,hd σ H p⟩
theorem xl8{lo:Int}(Pv:Nat->St->Hp->Prop)(h0:Pv 0 σ H)(hs:∀ i σ H,i<n->Pv i σ H->g (.int (lo+i)) σ H fun σ2 H2=>tb {D with nx:=PAt Pv (i+1),ct:=PAt Pv (i+1),bk:=D.nx} σ2 H2)(hd:∀ σ H,Pv n σ H->D.nx σ H) :
 ∃ W:Nat->Nat->St->Hp->Prop,(∃ m,W 0 m σ H)/\∀ i m σ H,W i m σ H ->
  ((Itr lo n).stop i H/\D.nx σ H)\/((Itr lo n).go i H/\∃ N:St->Hp->Prop,(∀ σ' H',N σ' H'->∃ m',m'<m/\W (i+1) m' σ' H')/\∀ x H',(Itr lo n).yld i H x H'->g x σ H' fun σ2 H2=>tb {D with nx:=N,ct:=N,bk:=D.nx} σ2 H2):=by
 refine⟨fun i m σ H=>m=n-i/\i<=n/\Pv i σ H,⟨n,by simp,Nat.zero_le _,h0⟩,?_⟩
 rintro i m σ H ⟨rfl,hi,p⟩
 by_cases hlt:i<n
 ·refine .inr ⟨hlt,Pv (i+1),fun σ' H' p'=>⟨n-(i+1),by omega,rfl,hlt,p'⟩,fun x H' y=>?_⟩
  obtain⟨e,y⟩:=y
  subst e y
  exact hs i σ _ hlt p
 ·have e:i=n:=by omega
  subst e
  exact .inl ⟨Nat.le_refl _,hd σ H p⟩
theorem xv8{c:TT}(Pv:St->Hp->Prop)(μ:St->Hp->Nat)(h0:Pv σ H)(hs:∀ σ H,Pv σ H->c σ H fun b H1=>if b=true then tb {D with nx:=fun σ' H'=>Pv σ' H'/\μ σ' H'<μ σ H,ct:=fun σ' H'=>Pv σ' H'/\μ σ' H'<μ σ H,bk:=D.nx} σ H1 else D.nx σ H1)(mono:∀ σ H Q Q',(∀ b H1,Q b H1->Q' b H1)->c σ H Q->c σ H Q'):wd7 c tb D σ H:=by
 refine⟨fun m σ H=>m=μ σ H/\Pv σ H,⟨_,rfl,h0⟩,?_⟩
 rintro m σ H ⟨rfl,p⟩
 refine mono σ H _ _ (fun b H1 q=>?_) (hs σ H p)
 cases b with
 | true=>exact⟨_,fun σ' H' ⟨p',l⟩=>⟨_,l,rfl,p'⟩,q⟩
 | false=>exact q
abbrev R2:=V->V->Hp->VK->Prop
def OpR(X:Cx)(f:Value->Value->Sem Value)(r:R2):Prop :=
 ∀ (pins:List (Addr×Obj)) (s:Shared) (σ:St) (H:Hp) (x y:V) (v u:Value) (Q:VK),Inv X pins σ H s->J9 x v->J9 y u->r x y H Q ->
  wpAny (model X.prog X.w) X.A (f v u) (EP X pins σ Q) X.xe s
def UnR(X:Cx)(f:Value->Sem Value)(r:V->Hp->VK->Prop):Prop :=
 ∀ (pins:List (Addr×Obj)) (s:Shared) (σ:St) (H:Hp) (x:V) (v:Value) (Q:VK),Inv X pins σ H s->J9 x v->r x H Q ->
  wpAny (model X.prog X.w) X.A (f v) (EP X pins σ Q) X.xe s
def qe5(X:Cx)(f:Value)(r:List V->Hp->VK->Prop):Prop :=
 ∀ (pins:List (Addr×Obj)) (s:Shared) (σ:St) (H:Hp) (xs:List V) (us:List Value) (Q:VK),Inv X pins σ H s->G7 xs us->r xs H Q ->
  wpAny (model X.prog X.w) X.A (call f us) (EP X pins σ Q) X.xe s
def tOp(r:R2)(ta tb:TE):TE:=fun σ H Q=>ta σ H fun x H1=>tb σ H1 fun y H2=>r x y H2 Q
def tUn(r:V->Hp->VK->Prop)(ta:TE):TE:=fun σ H Q=>ta σ H fun x H1=>r x H1 Q
def rI(C:Int->Int->Prop)(g:Int->Int->V):R2:=fun x y H Q=>∃ i j,x=.int i/\y=.int j/\C i j/\Q (g i j) H
def rI0(g:Int->Int->V):R2:=fun x y H Q=>∃ i j,x=.int i/\y=.int j/\Q (g i j) H
def rU(g:Int->V):V->Hp->VK->Prop:=fun x H Q=>∃ i,x=.int i/\Q (g i) H
variable{tc:TE}{f:Value->Value->Sem Value}{i j:Int}
section
variable{a b:Expr}{tb:TE}
theorem zp5(ha:PE X a ta)(hb:PE X b tb){R:V->V->Hp->Prop}(I:Inv X pins σ H s)(h:ta σ H fun x H1=>tb σ H1 fun y H2=>R x y H2)(hf:∀ v u s2 x y H2,Inv X pins σ H2 s2->J9 x v->J9 y u->R x y H2->wpAny (model X.prog X.w) X.A (f v u) Q X.xe s2) :
 wpAny (model X.prog X.w) X.A (eval a X.env) (fun v s₁=>wpAny (model X.prog X.w) X.A (eval b X.env) (fun u s₂=>wpAny (model X.prog X.w) X.A (f v u) Q X.xe s₂) X.xe s₁) X.xe s:=by
 refine thn (ha pins s σ H _ I h) fun v s1 zq=>?_
 obtain⟨x,H1,I1,r1,q1⟩:=zq
 refine thn (hb pins s1 σ H1 _ I1 q1) fun u s2 zq=>?_
 obtain⟨y,H2,I2,r2,q2⟩:=zq
 exact hf v u s2 x y H2 I2 r1 r2 q2
theorem B3{op:Operator}{r:R2}(ho:OpR X (binaryOp op) r)(ha:PE X a ta)(hb:PE X b tb):PE X (.BinOp a op b pos) (tOp r ta tb):=by
 intro pins s σ H Q I h
 exact wpAny_BinOp (zp5 ha hb I h fun v u s2 x y H2 I2 rx ry q=>ho pins s2 σ H2 x y v u Q I2 rx ry q)
theorem qr5{op:UnaryOp}{r:V->Hp->VK->Prop}(ho:UnR X (unaryOp op) r)(ha:PE X a ta):PE X (.UnaryOp op a pos) (tUn r ta):=by
 intro pins s σ H Q I h
 exact UnaryOp_ (thn (ha pins s σ H _ I h) fun v s1 ⟨x,H1,I1,r1,q1⟩=>ho pins s1 σ H1 x v Q I1 r1 q1)
theorem opI{C:Int->Int->Prop}{g:Int->Int->Int}(rule:∀ (i j:Int) (t u:Tok) (s:Shared) (Q:Value->Shared->Prop) (E:Value->Shared->Prop),C i j->Q (.int (g i j) s.toks) {s with toks:=s.toks+1}->wpAny (model X.prog X.w) X.A (f (.int i t) (.int j u)) Q E s) :
 OpR X f (rI C fun i j=>.int (g i j)):=by
 intro pins s σ H x y v u Q I rx ry h
 obtain⟨i,j,rfl,rfl,hc,q⟩:=h
 obtain⟨t,rfl⟩:=rx
 obtain⟨t',rfl⟩:=ry
 exact rule i j t t' s _ _ hc ⟨.int (g i j),H,I.tok _,⟨_,rfl⟩,q⟩
theorem zw3{g:Int->Int->Int}(rule:∀ (i j:Int) (t u:Tok) (s:Shared) (Q:Value->Shared->Prop) (E:Value->Shared->Prop),Q (.int (g i j) s.toks) {s with toks:=s.toks+1}->wpAny (model X.prog X.w) X.A (f (.int i t) (.int j u)) Q E s) :
 OpR X f (rI0 fun i j=>.int (g i j)):=by
 intro pins s σ H x y v u Q I rx ry h
 obtain⟨i,j,rfl,rfl,q⟩:=h
 obtain⟨t,rfl⟩:=rx
 obtain⟨t',rfl⟩:=ry
 exact rule i j t t' s _ _ ⟨.int (g i j),H,I.tok _,⟨_,rfl⟩,q⟩
theorem zf5{g:Int->Int->Bool}(rule:∀ (i j:Int) (t u:Tok) (s:Shared) (Q:Value->Shared->Prop) (E:Value->Shared->Prop),Q (.bool (g i j)) s->wpAny (model X.prog X.w) X.A (f (.int i t) (.int j u)) Q E s) :
 OpR X f (rI0 fun i j=>.bl (g i j)):=by
 intro pins s σ H x y v u Q I rx ry h
 obtain⟨i,j,rfl,rfl,q⟩:=h
 obtain⟨t,rfl⟩:=rx
 obtain⟨t',rfl⟩:=ry
 exact rule i j t t' s _ _ ⟨.bl (g i j),H,I,rfl,q⟩
def yd6(i j:Int):Prop:=0<j/\j<1073741824
def yv2(i j:Int):Prop:=0<=j/\j<=1000000/\i.natAbs<2 ^ 64
def yv3(i j:Int):Prop:=(-(2 ^ 64)<i/\i<2 ^ 64)\/(-(2 ^ 64)<j/\j<2 ^ 64)
theorem yv3.ok(h:yv3 i j):IntMulOk i j:=by
 rcases h with⟨h1,h2⟩|⟨h1,h2⟩
 ·exact .of_left (intBits_le_64 h1 h2)
 ·exact .of_right (intBits_le_64 h1 h2)
theorem yd7(k:Nat):(0:Int)<=2 ^ k:=by
 rw[two_pow_cast]
 exact Int.natCast_nonneg _
theorem zp6:OpR X (binaryOp .Add) (rI0 fun i j=>.int (i+j)):=zw3 fun _ _ _ _ _ _ _ q=>add_int q
theorem xc7:OpR X (binaryOp .Sub) (rI0 fun i j=>.int (i-j)):=zw3 fun _ _ _ _ _ _ _ q=>sub_int q
theorem zp7:OpR X (binaryOp .Mult) (rI yv3 fun i j=>.int (i*j)):=opI fun _ _ _ _ _ _ _ hc q=>mul_int q hc.ok
theorem xb4:OpR X (binaryOp .FloorDiv) (rI yd6 fun i j=>.int (i / j)):=opI fun i j _ _ _ _ _ hc q=>by
 have h1:(0:Int)<j:=hc.1
 have h2:j<1073741824:=hc.2
 exact floordiv_int (by omega) (by rw[Int.fdiv_eq_ediv_of_nonneg i (by omega)];exact q) (.inl (PyProof.noPylong_small (by omega)))
theorem U7:OpR X (binaryOp .Mod) (rI (fun _ j=>0<j) fun i j=>.int (i % j)):=opI fun i j _ _ _ _ _ hc q=>by
 have h1:(0:Int)<j:=hc
 exact mod_int' (by omega) (by rw[Int.fmod_eq_emod_of_nonneg i (by omega)];exact q)
theorem yv4:OpR X (binaryOp .LShift) (rI yv2 fun i j=>.int (i*2 ^ j.toNat)):=opI fun _ _ _ _ _ _ _ hc q=>lshift_int_small hc.1 hc.2.1 hc.2.2 q
theorem yv5:OpR X (binaryOp .RShift) (rI (fun _ j=>0<=j) fun i j=>.int (i / 2 ^ j.toNat)):=opI fun i j _ _ _ _ _ hc q =>
 rshift_int hc (by rw[Int.fdiv_eq_ediv_of_nonneg i (yd7 _)];exact q)
theorem unI{f:Value->Sem Value}{g:Int->Int}(rule:∀ (i:Int) (t:Tok) (s:Shared) (Q:Value->Shared->Prop) (E:Value->Shared->Prop),Q (.int (g i) s.toks) {s with toks:=s.toks+1}->wpAny (model X.prog X.w) X.A (f (.int i t)) Q E s) :
 UnR X f (rU fun i=>.int (g i)):=by
 intro pins s σ H x v Q I rx h
 obtain⟨i,rfl,q⟩:=h
 obtain⟨t,rfl⟩:=rx
 exact rule i t s _ _ ⟨.int (g i),H,I.tok _,⟨_,rfl⟩,q⟩
theorem qe6:UnR X (unaryOp .USub) (rU fun i=>.int (-i)):=unI fun _ _ _ _ _ q=>neg_int q
end
def zf6:V->V->Bool
 | .non,.non=>true | .non,.int _=>true | .int _,.non=>true | .non,.bl _=>true | .bl _,.non=>true | .non,.str _=>true | .str _,.non=>true
 | .int _,.int _=>true | .bl _,.bl _=>true | .str _,.str _=>true | .byt _,.byt _=>true
 | .int _,.str _=>true | .str _,.int _=>true | .bl _,.str _=>true | .str _,.bl _=>true
 | _,_=>false
def rEq:R2:=fun x y H Q=>zf6 x y=true/\Q (.bl (decide (x=y))) H
def rNe:R2:=fun x y H Q=>zf6 x y=true/\Q (.bl (!decide (x=y))) H
theorem yk0:decide (V.int i=V.int j)=(i == j):=by
 rw[Bool.eq_iff_iff]
 simp
theorem yv6{i j:Bool}:decide (V.bl i=V.bl j)=(i == j):=by
 rw[Bool.eq_iff_iff]
 simp
theorem yk1{i j:Str}:decide (V.str i=V.str j)=(i == j):=by
 rw[Bool.eq_iff_iff]
 simp
theorem yk2{i j:Array UInt8}:decide (V.byt i=V.byt j)=(i.toList == j.toList):=by
 rw[Bool.eq_iff_iff]
 cases i
 cases j
 simp
section
variable{a b:Expr}{tb:TE}
theorem L7{Q:VK}{k k':Bool}(I:Inv X pins σ H s)(q:Q (.bl k) H)(e:k=k'):EP X pins σ Q (.bool k') s:=by
 subst e
 exact⟨.bl k,H,I,rfl,q⟩
theorem zw4:OpR X (compareOp .Eq) rEq:=by
 intro pins s σ H x y v u Q I rx ry h
 obtain⟨hs,q⟩:=h
 cases x with
 | non =>
   cases rx
   cases y with
   | non=>cases ry;exact PySem.EqNone.eq_none_none (L7 I q (by simp))
   | bl j=>cases ry;exact PySem.EqNone.eq_none_bool (L7 I q (by simp))
   | int j=>obtain⟨t',rfl⟩:=ry;exact PySem.EqNone.eq_none_int (L7 I q (by simp))
   | str j=>obtain⟨t',rfl⟩:=ry;exact PySem.EqNone.eq_none_str (L7 I q (by simp))
   | _=>exact absurd (show false=true from hs) Bool.false_ne_true
 | bl i =>
   cases rx
   cases y with
   | non=>cases ry;exact PySem.EqNone.eq_bool_none (L7 I q (by simp))
   | bl j=>cases ry;exact eq_bool (L7 I q yv6)
   | str j=>obtain⟨t',rfl⟩:=ry;exact PySem.EqMixed.eq_bool_str (L7 I q (by simp))
   | _=>exact absurd (show false=true from hs) Bool.false_ne_true
 | int i =>
   obtain⟨t,rfl⟩:=rx
   cases y with
   | non=>cases ry;exact PySem.EqNone.eq_int_none (L7 I q (by simp))
   | int j=>obtain⟨t',rfl⟩:=ry;exact eq_int (L7 I q yk0)
   | str j=>obtain⟨t',rfl⟩:=ry;exact PySem.EqMixed.eq_int_str (L7 I q (by simp))
   | _=>exact absurd (show false=true from hs) Bool.false_ne_true
 | str i =>
   obtain⟨t,rfl⟩:=rx
   cases y with
   | non=>cases ry;exact PySem.EqNone.eq_str_none (L7 I q (by simp))
   | bl j=>cases ry;exact PySem.EqMixed.eq_str_bool (L7 I q (by simp))
   | int j=>obtain⟨t',rfl⟩:=ry;exact PySem.EqMixed.eq_str_int (L7 I q (by simp))
   | str j=>obtain⟨t',rfl⟩:=ry;exact eq_str (L7 I q yk1)
   | _=>exact absurd (show false=true from hs) Bool.false_ne_true
 | byt i =>
   obtain⟨t,rfl⟩:=rx
   cases y with
   | byt j=>obtain⟨t',rfl⟩:=ry;exact PySem.W.eq_bytes (L7 I q yk2)
   | _=>exact absurd (show false=true from hs) Bool.false_ne_true
 | _=>cases y <;> exact absurd (show false=true from hs) Bool.false_ne_true
theorem zw5:OpR X (compareOp .NotEq) rNe:=by
 intro pins s σ H x y v u Q I rx ry h
 obtain⟨hs,q⟩:=h
 cases x with
 | non =>
   cases rx
   cases y with
   | non=>cases ry;exact PySem.EqNone.ne_none_none (L7 I q (by simp))
   | bl j=>cases ry;exact PySem.EqNone.ne_none_bool (L7 I q (by simp))
   | int j=>obtain⟨t',rfl⟩:=ry;exact PySem.EqNone.ne_none_int (L7 I q (by simp))
   | str j=>obtain⟨t',rfl⟩:=ry;exact PySem.EqNone.ne_none_str (L7 I q (by simp))
   | _=>exact absurd (show false=true from hs) Bool.false_ne_true
 | bl i =>
   cases rx
   cases y with
   | non=>cases ry;exact PySem.EqNone.ne_bool_none (L7 I q (by simp))
   | bl j=>cases ry;exact ne_bool (L7 I q (congrArg not yv6))
   | str j=>obtain⟨t',rfl⟩:=ry;exact PySem.EqMixed.ne_bool_str (L7 I q (by simp))
   | _=>exact absurd (show false=true from hs) Bool.false_ne_true
 | int i =>
   obtain⟨t,rfl⟩:=rx
   cases y with
   | non=>cases ry;exact PySem.EqNone.ne_int_none (L7 I q (by simp))
   | int j=>obtain⟨t',rfl⟩:=ry;exact ne_int (L7 I q (congrArg not yk0))
   | str j=>obtain⟨t',rfl⟩:=ry;exact PySem.EqMixed.ne_int_str (L7 I q (by simp))
   | _=>exact absurd (show false=true from hs) Bool.false_ne_true
 | str i =>
   obtain⟨t,rfl⟩:=rx
   cases y with
   | non=>cases ry;exact PySem.EqNone.ne_str_none (L7 I q (by simp))
   | bl j=>cases ry;exact PySem.EqMixed.ne_str_bool (L7 I q (by simp))
   | int j=>obtain⟨t',rfl⟩:=ry;exact PySem.EqMixed.ne_str_int (L7 I q (by simp))
   | str j=>obtain⟨t',rfl⟩:=ry;exact ne_str (L7 I q (congrArg not yk1))
   | _=>exact absurd (show false=true from hs) Bool.false_ne_true
 | byt i =>
   obtain⟨t,rfl⟩:=rx
   cases y with
   | byt j=>obtain⟨t',rfl⟩:=ry;exact PySem.W.ne_bytes (L7 I q (congrArg not yk2))
   | _=>exact absurd (show false=true from hs) Bool.false_ne_true
 | _=>cases y <;> exact absurd (show false=true from hs) Bool.false_ne_true
theorem zw6:OpR X (compareOp .Lt) (rI0 fun i j=>.bl (decide (i<j))):=zf5 fun _ _ _ _ _ _ _ q=>lt_int q
theorem zw7:OpR X (compareOp .LtE) (rI0 fun i j=>.bl (decide (i<=j))):=zf5 fun _ _ _ _ _ _ _ q=>le_int q
theorem zw8:OpR X (compareOp .Gt) (rI0 fun i j=>.bl (decide (j<i))):=zf5 fun _ _ _ _ _ _ _ q=>gt_int q
theorem zw9:OpR X (compareOp .GtE) (rI0 fun i j=>.bl (decide (j<=i))):=zf5 fun _ _ _ _ _ _ _ q=>ge_int q
theorem yp7:OpR X (compareOp .Lt) (fun x y H Q=>∃ i j,x=.str i/\y=.str j/\Q (.bl (decide (i.cps.toList<j.cps.toList))) H):=by
 intro pins s σ H x y v u Q I rx ry h
 obtain⟨i,j,rfl,rfl,q⟩:=h
 obtain⟨t,rfl⟩:=rx
 obtain⟨t',rfl⟩:=ry
 exact lt_str (L7 I q rfl)
theorem yp8:OpR X (compareOp .In) (fun x y H Q=>∃ i j,x=.str i/\y=.str j/\Q (.bl (!(Builtin.Str.occurrences j i 0 j.length 1).isEmpty)) H):=by
 intro pins s σ H x y v u Q I rx ry h
 obtain⟨i,j,rfl,rfl,q⟩:=h
 obtain⟨t,rfl⟩:=rx
 obtain⟨t',rfl⟩:=ry
 exact in_str (L7 I q rfl)
theorem zp8:OpR X (compareOp .Is) (fun x y H Q=>y=.non/\Q (.bl (decide (x=.non))) H):=by
 intro pins s σ H x y v u Q I rx ry h
 obtain⟨rfl,q⟩:=h
 cases ry
 refine is_none_gen (L7 I q ?_)
 cases x <;> first
  | (cases rx;rfl)
  | (obtain⟨t,rfl⟩:=rx;rfl)
theorem zf7:OpR X (compareOp .IsNot) (fun x y H Q=>y=.non/\Q (.bl (!decide (x=.non))) H):=by
 intro pins s σ H x y v u Q I rx ry h
 obtain⟨rfl,q⟩:=h
 cases ry
 refine isnot_none_gen (L7 I q ?_)
 cases x <;> first
  | (cases rx;rfl)
  | (obtain⟨t,rfl⟩:=rx;rfl)
theorem OpR.or{r r':R2}(h:OpR X f r)(h':OpR X f r'):OpR X f (fun x y H Q=>r x y H Q\/r' x y H Q):=by
 intro pins s σ H x y v u Q I rx ry q
 rcases q with q|q
 ·exact h pins s σ H x y v u Q I rx ry q
 ·exact h' pins s σ H x y v u Q I rx ry q
theorem D5(b:Expr){op:CmpOp}(h:autoParam (op≠.In) zAd)(h2:autoParam (op≠.NotIn) zAd):behindInMarks op b=false:=by
 have e1:(op == CmpOp.In)=false:=by cases op <;> first|rfl|exact absurd rfl h
 have e2:(op == CmpOp.NotIn)=false:=by cases op <;> first|rfl|exact absurd rfl h2
 cases b <;> simp[behindInMarks,e1,e2]
theorem qm9{op:CmpOp}{r:R2}(ho:OpR X (compareOp op) r)(ha:PE X a ta)(hb:PE X b tb)(hm:behindInMarks op b=false):PE X (.Compare a [op] [b] pos) (tOp r ta tb):=by
 intro pins s σ H Q I h
 exact wpAny_Compare1 (zp5 ha hb I h fun v u s2 x y H2 I2 rx ry q=>ho pins s2 σ H2 x y v u Q I2 rx ry q) hm
def G0(t:TE):TT:=fun σ H Q=>t σ H fun x H'=>∃ k,x=.bl k/\Q k H'
theorem C5{op:CmpOp}{r:R2}(ho:OpR X (compareOp op) r)(ha:PE X a ta)(hb:PE X b tb)(hm:behindInMarks op b=false):PT X (.Compare a [op] [b] pos) (G0 (tOp r ta tb)):=by
 intro pins s σ H Q I h
 refine wpAny_isTrue_Compare1 (thn (ha pins s σ H _ I h) fun v s1 ⟨x,H1,I1,r1,q1⟩=>thn (hb pins s1 σ H1 _ I1 q1) fun u s2 ⟨y,H2,I2,r2,q2⟩ =>
  thn (ho pins s2 σ H2 x y v u _ I2 r1 r2 q2) fun c s3 ⟨z,H3,I3,r3,k,e,q3⟩=>?_) hm
 subst e
 cases r3
 exact wpAny_truthy_bool ⟨H3,I3,q3⟩
def xp3(r r':R2)(ta tb tc:TE):TE:=fun σ H Q=>ta σ H fun x H1=>tb σ H1 fun y H2=>r x y H2 fun z H3=>∃ k,z=.bl k /\
 (if k=true then tc σ H3 fun w' H4=>r' y w' H4 Q else Q (.bl false) H3)
theorem xv9{op op':CmpOp}{r r':R2}(ho:OpR X (compareOp op) r)(ho':OpR X (compareOp op') r')(ha:PE X a ta)(hb:PE X b tb)(hc:PE X c tc)(hm:lastMarks [op,op'] [b,c]=false:=by with_unfolding_all rfl):PE X (.Compare a [op,op'] [b,c] pos) (xp3 r r' ta tb tc):=by
 intro pins s σ H Q I h
 refine Compare_chain (thn (ha pins s σ H _ I h) fun v s1 ⟨x,H1,I1,r1,q1⟩=>chain_link (thn (hb pins s1 σ H1 _ I1 q1) fun u s2 ⟨y,H2,I2,r2,q2⟩ =>
  thn (ho pins s2 σ H2 x y v u _ I2 r1 r2 q2) fun d s3 ⟨z,H3,I3,r3,k,e,q3⟩=>?_)) hm
 subst e
 cases r3
 refine wpAny_truthy_bool ?_
 cases k with
 | false=>exact ite_ff ⟨.bl false,H3,I3,rfl,q3⟩
 | true=>exact ite_tt (chain_last (thn (hc pins s3 σ H3 _ I3 q3) fun w' s4 ⟨z',H4,I4,r4,q4⟩=>ho' pins s4 σ H4 y z' u w' Q I4 r2 r4 q4))
theorem wt1:(sizeLine:Nat)<2 ^ 63:=by rw[sizeLine_eq];decide
theorem yd8:OpR X (binaryOp .Add) (fun x y H Q=>∃ i j,x=.str i/\y=.str j/\i.length+j.length<=sizeLine/\Q (.str (i++j)) H):=by
 intro pins s σ H x y v u Q I rx ry h
 obtain⟨i,j,rfl,rfl,hz,q⟩:=h
 obtain⟨t,rfl⟩:=rx
 obtain⟨t',rfl⟩:=ry
 exact wpAny_with_toks (n:=1) I.tk (add_str (fun t' tk ht=>⟨.str (i++j),H,I.tok _ ht,⟨_,rfl⟩,q⟩) hz)
theorem qr6{x:V}(r:G7 [x] us):∃ u,us=[u]/\J9 x u:=by
 cases r with
 | cons r1 r2=>cases r2;exact⟨_,rfl,r1⟩
theorem xw0{x:V}(r:G7 [x,y] us):∃ u w',us=[u,w']/\J9 x u/\J9 y w':=by
 cases r with
 | cons r1 r2 =>
   cases r2 with
   | cons r3 r4=>cases r4;exact⟨_,_,rfl,r1,r3⟩
theorem yp9:qe5 X (.type "int") (fun xs H Q=>(∃ i,xs=[.int i]/\Q (.int i) H)\/∃ k,xs=[.bl k]/\Q (.int (if k then 1 else 0)) H):=by
 intro pins s σ H xs us Q I r h
 rcases h with⟨i,rfl,q⟩|⟨k,rfl,q⟩
 ·obtain⟨u,rfl,t,rfl⟩:=qr6 r
  exact call_int_int ⟨.int i,H,I,⟨_,rfl⟩,q⟩
 ·obtain⟨u,rfl,r1⟩:=qr6 r
  cases r1
  exact call_int_bool ⟨.int (if k then 1 else 0),H,I.tok _,⟨_,rfl⟩,q⟩
end
structure yd9(h:Heap)(x dx C:Addr)(mA:Str->Option Value):Prop where
 obj:h.get? x=some (PySem.W.instObj C dx)
 ns:h.Ns1 dx mA
 ne:dx≠x
variable{dx:Addr}{mA:Str->Option Value}
theorem yq0(n:h.Ns1 dx mA):∃ od,h.get? dx=some od/\∀ name,PySem.W.lookIn name od=some (mA name):=by
 obtain⟨o,es,ep,ho,hd,hk,_,hm⟩:=n
 refine⟨o,ho,fun name=>?_⟩
 have e:=hm name
 unfold nsFind findBy at e
 rw[<-Array.find?_toList] at e
 unfold PySem.W.lookIn
 rw[hd]
 dsimp only
 split
 ·rename_i y q
  rw[q] at e
  exact congrArg some e
 ·rename_i q
  rw[q] at e
  have a:es.toList.any (·.refKey)=false:=by
   rw[List.any_eq_false]
   intro y hy
   obtain⟨z,t,hkey⟩:=hk y (Array.mem_toList_iff.mp hy)
   simp[DictEntry.refKey,hkey]
  have a':¬es.toList.any (·.refKey)=true:=by rw[a];exact Bool.false_ne_true
  rw[if_neg a']
  exact congrArg some e
variable{C:Addr}
theorem yd9.look{x:Addr}(I:yd9 h x dx C mA):∃ od,PySem.W.InstAt h x (PySem.W.instObj C dx) C (some od)/\∀ name,PySem.W.lookIn name od=some (mA name) :=
 let ⟨od,ho,hl⟩:=yq0 I.ns
 ⟨od,⟨I.obj,rfl,rfl,ho⟩,hl⟩
variable{name:Str}{prog:Program}{pl:Sem Bool}{kw:List (Str×Value)}
section
variable{x f:Addr}{v:Value}
theorem zf8{expr:Bool}(X:K.In s.heap)(I:yd9 s.heap x dx C mA)(hg:PySem.W.plainGet K C name=true)(hh:PySem.W.hasDictIn K C=true)(ha:PySem.W.findIn K (.ref C) name=some none)(hv:mA name=some v)(hv':PySem.W.handedIn v=true)(h:Q v {s with toks:=s.toks+1}) :
 wpAny (model prog w) A (getAttr (.ref x) name expr) Q E s:=by
 obtain⟨od,J,hl⟩:=I.look
 exact PySem.W.get_value X J (PySem.W.plainGet_of hg).1 (PySem.W.findObj_own hh ha rfl (by rw[hl,hv])) hv' h
theorem yv7{Q:Value×List Value->Shared->Prop}(X:K.In s.heap)(I:yd9 s.heap x dx C mA)(hg:PySem.W.plainGet K C name=true)(hf:PySem.W.findIn K (.ref C) name=some (some (.ref f)))(ht:PySem.W.isFn K (.ref f)=true)(hv:mA name=none)(h:Q (.ref f,[.ref x]) s) :
 wpAny (model prog w) A (getMethod (.ref x) name pl) Q E s:=by
 obtain⟨od,J,hl⟩:=I.look
 exact PySem.W.method_fn X J (PySem.W.plainGet_of hg).1 (PySem.W.plainGet_of hg).2 hf (beq_iff_eq.mp ht) (by show(PySem.W.lookIn name od).map (·.isSome)=some false;rw[hl,hv];rfl) h
theorem zf9{ns:List Str}{Q:Unit->Shared->Prop}(X:K.In s.heap)(I:yd9 s.heap x dx C mA)(hs:PySem.W.findIn K (.ref C) "__setattr__"=some (some (.builtin "object.__setattr__")))(hp:PySem.W.plainOver K C=true)(ht:PySem.W.takerIn K C name=some none)(hh:PySem.W.hasDictIn K C=true)(hw:PySem.Within mA ns)(hsz:ns.length<=sizeLine)(h:∀ h',yd9 h' x dx C (fun y=>if y=name then some v else mA y)->Heap.SameBut dx s.heap h'->Q () {s with heap:=h',toks:=s.toks+2}) :
 wpAny (model prog w) A (setAttr (.ref x) name v) Q E s:=by
 obtain⟨od,J,hl⟩:=I.look
 refine PySem.W.set_plain X J hs (PySem.W.osa_open (s:={s with toks:=s.toks+1}) (r:=none) X J hp ht fun b=>?_)
 obtain⟨cd,hc,hd'⟩:=PySem.W.any_some hh
 have hx:s.heap.get? x=some ⟨.ref C,some dx,.plain,#[]⟩:=I.obj
 refine wpAny_bind (wpAny_pure (wpAny_bind (wpAny_bind (wpAny_loadPart hx (wpAny_bind (PySem.W.Looks.here (s:={s with toks:=s.toks+1}) (PySem.W.looks_clsIn X hc) ?_))))))
 rw[hd']
 refine wpAny_pure (a:=some dx) (wpAny_bind (wpAny_pure (wpAny_bind ?_)))
 refine wpAny_nsSet1 (s:={s with toks:=s.toks+1}) I.ns fun h' hn2 hs2=>?_
 obtain⟨oD,esD,epD,hoD,hdD,hcD⟩:=hn2.count (PySem.Within.cons name v hw)
 refine wpAny_bind (wpAny_lookBehind hoD (by rw[hdD];exact pastItsLine_dict (Nat.le_trans hcD (by rw[List.length_cons];omega))) ?_)
 exact wpAny_pure (h _ ⟨(hs2.2 _ (Ne.symm I.ne)).trans I.obj,hn2,I.ne⟩ hs2)
theorem yv8{R:Result->Shared->Prop}{vs:List Value}(X:K.In s.heap)(hm:PySem.W.makesIn K C=true)(hi:PySem.W.findIn K (.ref C) "__init__"=some (some (.ref f)))(hf:PySem.W.typeIn K (.ref f)=some (.type "function")) (h:codeAny (model prog w) (A.under (.builtin "type.__call__" ⟨.ref C::vs,kw⟩)) (.call (.ref f) ⟨.ref (s.heap.objs.size+1)::vs,kw⟩) (PySem.W.InitBack (s.heap.objs.size+1) R)
  {s with heap:=(s.heap.push PySem.W.emptyDict).push (PySem.W.instObj C s.heap.objs.size)}) :
 codeAny (model prog w) A (.call (.ref C) ⟨vs,kw⟩) R s:=by
 obtain⟨hh,g,d,t,os⟩:=s
 exact PySem.W.make_core (PySem.W.makes_of X hm) (PySem.W.looks_findIn X hi) (fun self=>PySem.W.bind_fn X self hf) (.inl rfl) h
end
def qk2(f:Str)(v:V):List (Str×V)->List (Str×V)
 | []=>[(f,v)]
 | (g,x)::r=>if g=f then(g,v)::r else(g,x)::qk2 f v r
theorem wy3(f g:Str)(v:V):∀ fs:List (Str×V),(qk2 f v fs).lookup g=if g=f then some v else fs.lookup g
 | []=>by
   show List.lookup g [(f,v)]=_
   by_cases h:g=f
   ·have hb:(g == f)=true:=beq_iff_eq.mpr h
    simp only[List.lookup,hb,if_pos h]
   ·have hb:(g == f)=false:=beq_eq_false_iff_ne.mpr h
    simp only[List.lookup,hb,if_neg h]
 | (k,x)::r=>by
   have ih:=wy3 f g v r
   rw[show qk2 f v ((k,x)::r)=(if k=f then(k,v)::r else(k,x)::qk2 f v r) from rfl]
   by_cases hk:k=f
   ·rw[if_pos hk]
    by_cases h:g=k
    ·have hb:(g == k)=true:=beq_iff_eq.mpr h
     simp only[List.lookup,hb,if_pos (h.trans hk)]
    ·have hb:(g == k)=false:=beq_eq_false_iff_ne.mpr h
     simp only[List.lookup,hb,if_neg (fun e:g=f=>h (e.trans hk.symm))]
   ·rw[if_neg hk]
    by_cases h:g=k
    ·have hb:(g == k)=true:=beq_iff_eq.mpr h
     simp only[List.lookup,hb,if_neg (fun e:g=f=>hk (h.symm.trans e))]
    ·have hb:(g == k)=false:=beq_eq_false_iff_ne.mpr h
     simp only[List.lookup,hb]
     exact ih
theorem wt2(f:Str)(v:V):∀ fs:List (Str×V),f∈(qk2 f v fs).map (·.1)/\∀ g,g∈fs.map (·.1)->g∈(qk2 f v fs).map (·.1)
 | []=>⟨by simp[qk2],fun g h=>by simp at h⟩
 | (k,x)::r=>by
   obtain⟨i1,i2⟩:=wt2 f v r
   rw[show qk2 f v ((k,x)::r)=(if k=f then(k,v)::r else(k,x)::qk2 f v r) from rfl]
   by_cases hk:k=f
   ·rw[if_pos hk]
    subst hk
    exact⟨by simp,fun g h=>by simpa using h⟩
   ·rw[if_neg hk]
    refine⟨?_,fun g h=>?_⟩
    ·rw[List.map_cons]
     exact List.mem_cons_of_mem _ i1
    ·rw[List.map_cons] at h ⊢
     rcases List.mem_cons.mp h with e|e
     ·exact List.mem_cons.mpr (.inl e)
     ·exact List.mem_cons_of_mem _ (i2 g e)
theorem wy4(f:Str)(v:V):∀ fs:List (Str×V),(qk2 f v fs).length<=fs.length+1
 | []=>by simp[qk2]
 | (k,x)::r=>by
   have ih:=wy4 f v r
   rw[show qk2 f v ((k,x)::r)=(if k=f then(k,v)::r else(k,x)::qk2 f v r) from rfl]
   by_cases hk:k=f
   ·rw[if_pos hk,List.length_cons,List.length_cons];omega
   ·rw[if_neg hk,List.length_cons,List.length_cons];omega
theorem wo3.some_of{o:Option Value}(r:wo3 (some v) o):∃ u,o=some u/\J9 v u:=by
 cases o with
 | none=>exact(show False from r).elim
 | some u=>exact⟨u,rfl,r⟩
theorem wo3.none_of{o:Option Value}(r:wo3 none o):o=none:=by
 cases o with
 | none=>rfl
 | some u=>exact(show False from r).elim
theorem yq1(r:J9 v u):PySem.W.handedIn u=true:=by
 cases v with
 | non=>cases (show u=Value.none from r);rfl
 | bl b=>cases (show u=Value.bool b from r);rfl
 | int i=>obtain⟨t,e⟩:=(show ∃ t,u=Value.int i t from r);cases e;rfl
 | str x=>obtain⟨t,e⟩:=(show ∃ t,u=Value.str x t from r);cases e;rfl
 | byt b=>obtain⟨t,e⟩:=(show ∃ t,u=Value.bytes b t from r);cases e;rfl
 | flt b=>obtain⟨t,e⟩:=(show ∃ t,u=Value.float b t from r);cases e;rfl
 | ref a=>cases (show u=Value.ref a from r);rfl
 | ty n=>cases (show u=Value.type n from r);rfl
section
variable{fs fs':List (Str×V)}
theorem xb5(hok:HOk P w H h)(e:H a=some (.ins C dx fs)):∃ mA,yd9 h a dx C mA/\(∀ f,wo3 (fs.lookup f) (mA f))/\PySem.Within mA (fs.map (·.1))/\fs.length<=1000/\H dx=some (.own a):=by
 obtain⟨d,z,ne,ob,mA,n,r,q⟩:=(show T7 P w H h a (.ins C dx fs) from hok a _ e)
 exact⟨mA,⟨ob,n,ne⟩,r,q,z,d⟩
end
structure Cls(K:Fg)(C:Addr):Prop where
 pg:PySem.W.plainGet K C Str.empty=true
 hd:PySem.W.hasDictIn K C=true
 po:PySem.W.plainOver K C=true
 sa:PySem.W.findIn K (.ref C) "__setattr__"=some (some (.builtin "object.__setattr__"))
theorem Cls.get(c:Cls K C)(f:Str):PySem.W.plainGet K C f=true:=c.pg
def wd8(K:Fg)(C:Addr)(f:Str):Prop:=PySem.W.findIn K (.ref C) f=some none
theorem wd8.taker{f:Str}(n:wd8 K C f):PySem.W.takerIn K C f=some none:=by
 unfold PySem.W.takerIn
 rw[show PySem.W.findIn K (.ref C) f=some none from n]
 rfl
structure qy6(K:Fg)(C:Addr)(m:Str)(f:Addr):Prop where
 at_:PySem.W.findIn K (.ref C) m=some (some (.ref f))
 fn:PySem.W.isFn K (.ref f)=true
 kp:PySem.W.keepIn K (.ref f)=true
variable{m:Str}{env:Env}
section
variable{fs:List (Str×V)}{f:Str}
theorem ye0{b:Bool}(I:Inv X pins σ H s)(e:H a=some (.ins C dx fs))(c:Cls X.K C)(n:wd8 X.K C f)(l:fs.lookup f=some v)(h:∀ u s',Inv X pins σ H s'->J9 v u->Q u s'):wpAny (model X.prog X.w) A (getAttr (.ref a) f b) Q E s:=by
 obtain⟨mA,O,r,_,_,_⟩:=xb5 I.hok e
 obtain⟨u,hu,ru⟩:=wo3.some_of (v:=v) (o:=mA f) (by rw[<-l];exact r f)
 exact zf8 I.kIn O (c.get f) c.hd n hu (yq1 ru) (h u _ (I.tok _) ru)
theorem xc8{g:Addr}{Q:Value×List Value->Shared->Prop}(I:Inv X pins σ H s)(e:H a=some (.ins C dx fs))(c:Cls X.K C)(k:qy6 X.K C m g)(l:fs.lookup m=none)(h:Q (.ref g,[.ref a]) s):wpAny (model X.prog X.w) A (getMethod (.ref a) m pl) Q E s:=by
 obtain⟨mA,O,r,_,_,_⟩:=xb5 I.hok e
 have hn:mA m=none:=wo3.none_of (by rw[<-l];exact r m)
 exact yv7 I.kIn O (c.get m) k.at_ k.fn hn h
theorem ye1{Q:Unit->Shared->Prop}(I:Inv X pins σ H s)(e:H a=some (.ins C dx fs))(c:Cls X.K C)(n:wd8 X.K C f)(hl:fs.length<1000)(ry:J9 y u)(h:∀ s',Inv X pins σ (upd H a (.ins C dx (qk2 f y fs))) s'->Q () s'):wpAny (model X.prog X.w) A (setAttr (.ref a) f u) Q E s:=by
 obtain⟨mA,O,r,wi,_,ho⟩:=xb5 I.hok e
 have hz:(fs.map (·.1)).length<=sizeLine:=by rw[List.length_map,sizeLine_eq];omega
 refine zf9 I.kIn O c.sa c.po n.taker c.hd wi hz fun h' O' sb=>h _ ?_
 have hd:∃ o,h'.get? dx=some o:=let ⟨o,_,_,e',_⟩:=O'.ns;⟨o,e'⟩
 refine I.write (x:=a) (e:=dx) (by rw[e];exact True.intro) (.inr ho) (fun b q hb z=>(sb.2 b hb).trans z) hd ?_
 refine⟨by rw[B9 O.ne];exact ho,?_,O.ne,O'.obj,_,O'.ns,fun g=>?_,fun g hg=>?_⟩
 ·have:=wy4 f y fs;omega
 ·show wo3 ((qk2 f y fs).lookup g) (if g=f then some u else mA g)
  rw[wy3]
  by_cases q:g=f
  ·rw[if_pos q,if_pos q];exact ry
  ·rw[if_neg q,if_neg q];exact r g
 ·by_cases q:g=f
  ·rw[q];exact(wt2 f y fs).1
  ·refine(wt2 f y fs).2 g (wi g fun z=>hg ?_)
   show(if g=f then some u else mA g)=none
   rw[if_neg q];exact z
theorem Inv.made(I:Inv X pins σ H s):Inv X pins σ (upd (upd H s.heap.objs.size (.own (s.heap.objs.size+1))) (s.heap.objs.size+1) (.ins C s.heap.objs.size []))
 {s with heap:=(s.heap.push PySem.W.emptyDict).push (PySem.W.instObj C s.heap.objs.size)}:=by
 have e1:(s.heap.push PySem.W.emptyDict).get? s.heap.objs.size=some PySem.W.emptyDict:=Heap.get?_push_size s.heap rfl
 have e2:((s.heap.push PySem.W.emptyDict).push (PySem.W.instObj C s.heap.objs.size)).get? (s.heap.objs.size+1)=some (PySem.W.instObj C s.heap.objs.size):=by
  have:=Heap.get?_push_size (s.heap.push PySem.W.emptyDict) (o:=PySem.W.instObj C s.heap.objs.size) rfl
  rwa [Heap.size_push] at this
 have e3:(s.heap.push PySem.W.emptyDict).Ns s.heap.objs.size (fun _=>none):=⟨PySem.W.emptyDict,#[],_,e1,rfl,(fun e he=>absurd he (by simp)),fun _=>rfl⟩
 have I1:=I.laid (a:=s.heap.objs.size) (o:=.own (s.heap.objs.size+1)) (h':=s.heap.push PySem.W.emptyDict) (t':=s.toks) (fun b u q=>Heap.get?_push_of_some _ q) (Nat.le_refl _) ⟨_,e1⟩
 refine I1.laid (a:=s.heap.objs.size+1) (o:=.ins C s.heap.objs.size []) (t':=s.toks) (fun b u q=>Heap.get?_push_of_some _ q) (Nat.le_of_eq (Heap.size_push _ _)) ?_
 have ne:s.heap.objs.size≠s.heap.objs.size+1:=Nat.ne_of_lt (Nat.lt_succ_self _)
 refine⟨by rw[B9 ne,A5],Nat.zero_le _,ne,e2,fun _=>none,(Heap.Ns1.of_empty e3).at fun o q=>Heap.get?_push_of_some _ q,fun _=>True.intro,fun y hy=>absurd rfl hy⟩
theorem zg0{f:Str}(hb:attributeBase e f env (eval e env)=eval e env)(h:wpAny (model prog w) A (eval e env) (fun o s₁=>wpAny (model prog w) A (getAttr o f true) Q E s₁) E s):wpAny (model prog w) A (eval (.Attribute e f pos) env) Q E s :=
 Attribute_any_ h (by rw[arm_eval_Attribute,hb])
end
def S4(K:Fg)(ta:TE)(f:Str):TE:=fun σ H Q=>ta σ H fun x H1=>∃ a C dx fs v,x=.ref a/\H1 a=some (.ins C dx fs)/\Cls K C/\wd8 K C f/\fs.lookup f=some v/\Q v H1
def wd9(K:Fg)(ta tv:TE)(f:Str):TS:=fun D σ H=>tv σ H fun y H1=>ta σ H1 fun x H2=>∃ a C dx fs,x=.ref a/\H2 a=some (.ins C dx fs)/\Cls K C/\wd8 K C f/\fs.length<1000 /\
 D.nx σ (upd H2 a (.ins C dx (qk2 f y fs)))
variable{tpos:Pos}{tv:TE}
section
variable{o value:Expr}{f:Str}
theorem G8(he:PE X e ta)(hb:attributeBase e f X.env (eval e X.env)=eval e X.env):PE X (.Attribute e f pos) (S4 X.K ta f):=by
 intro pins s σ H Q I h
 refine zg0 hb (thn (he pins s σ H _ I h) fun u s1 zq=>?_)
 obtain⟨x,H1,I1,rx,a,C,dx,fs,v,ex,ea,c,n,l,q⟩:=zq
 subst ex
 obtain rfl:u=Value.ref a:=rx
 exact ye0 I1 ea c n l fun u' s2 I2 ru=>⟨v,H1,I2,ru,q⟩
theorem qu6(ha:PE X o ta)(hv:PE X value tv)(hs:swapsWith value (some (.Attribute o f pos')) pos.line X.env=pure false):PS X (.Assign [.Attribute o f pos'] value pos) (wd9 X.K ta tv f):=by
 intro pins s σ H D I h
 refine plainObj_wpAny_Assign_Attribute (thn (hv pins s σ H _ I h) fun u s1 ⟨y,H1,I1,ry,q⟩=>thn (ha pins s1 σ H1 _ I1 q) fun ov s2 zq=>?_) hs
 obtain⟨x,H2,I2,rx,a,C,dx,fs,ex,ea,c,n,l,q2⟩:=zq
 subst ex
 obtain rfl:ov=Value.ref a:=rx
 exact ye1 I2 ea c n l ry fun s3 I3=>⟨σ,_,I3,q2⟩
end
section
variable{c:Value}{b:Bool}
inductive wo6(K:Fg)(H:Hp):V->Value->Prop where
 | non:wo6 K H .non (.type "NoneType")
 | bl (x:Bool):wo6 K H (.bl x) (.type "bool")
 | int (i:Int):wo6 K H (.int i) (.type "int")
 | str (x:Str):wo6 K H (.str x) (.type "str")
 | flt (x:UInt64):wo6 K H (.flt x) (.type "float")
 | lst {a:Addr} {xs:List V} (e:H a=some (.lst xs)):wo6 K H (.ref a) (.type "list")
 | frz {a:Addr} {o:Obj} {xs:List V} (e:H a=some (.frz o (.lst xs))):wo6 K H (.ref a) (.type "list")
 | tup {a:Addr} {xs:List V} (e:H a=some (.tup xs)):wo6 K H (.ref a) (.type "tuple")
 | dK {a:Addr} {kvs:List (Key×V)} (e:H a=some (.dK kvs)):wo6 K H (.ref a) (.type "dict")
 | dT {a:Addr} {kvs:List (List Key×V)} (e:H a=some (.dT kvs)):wo6 K H (.ref a) (.type "dict")
 | ins {a C dx:Addr} {fs:List (Str×V)} (e:H a=some (.ins C dx fs)) (cl:Cls K C) (ha:PySem.W.findIn K (.ref C) "__class__"=some (some (.builtin "object.__class__")))
  (hn:PySem.W.specialIn K (.builtin "object.__class__") "__get__"=some (some (.builtin "getset_descriptor.__get__"))) (htk:PySem.W.takesIn K (.builtin "object.__class__")=some true)
  (hm:PySem.W.mroIn K C (.type "object")=some true):wo6 K H (.ref a) (.ref C)
theorem yq2{x:V}{t:Value}(I:Inv X pins σ H s)(rx:J9 x u)(ty:wo6 X.K H x t)(e:PySem.W.kitOne X.K t c=some b)(h:∀ tk,Q (.bool b) {s with toks:=tk}) :
 wpAny (model X.prog X.w) A (call (.builtin "isinstance") [u,c]) Q E s:=by
 cases ty with
 | non=>cases (show u=Value.none from rx);exact PySem.W.kia_one PySem.W.kitx_none I.kIn True.intro e (fun z=>nomatch z) h
 | bl y=>cases (show u=Value.bool y from rx);exact PySem.W.kia_one PySem.W.kitx_bool I.kIn True.intro e (fun z=>nomatch z) h
 | int i=>obtain⟨t,q⟩:=(show ∃ t,u=Value.int i t from rx);cases q;exact PySem.W.kia_one PySem.W.kitx_int I.kIn True.intro e (fun z=>nomatch z) h
 | str y=>obtain⟨t,q⟩:=(show ∃ t,u=Value.str y t from rx);cases q;exact PySem.W.kia_one PySem.W.kitx_str I.kIn True.intro e (fun z=>nomatch z) h
 | flt y=>obtain⟨t,q⟩:=(show ∃ t,u=Value.float y t from rx);cases q;exact PySem.W.kia_one PySem.W.kitx_float I.kIn True.intro e (fun z=>nomatch z) h
 | @lst a xs ea =>
   cases (show u=Value.ref a from rx)
   obtain⟨_,_,n,_,h1⟩:=(show T7 X.prog X.w H s.heap a (.lst xs) from I.hok a _ ea)
   exact PySem.W.kia_one PySem.W.kitx_list I.kIn ⟨_,h1,rfl⟩ e (fun z=>nomatch z) h
 | @frz a ob xs ea =>
   cases (show u=Value.ref a from rx)
   obtain⟨_,_,_,n,_,h1⟩:=(show T7 X.prog X.w H s.heap a (.frz ob (.lst xs)) from I.hok a _ ea)
   exact PySem.W.kia_one PySem.W.kitx_list I.kIn ⟨_,h1,rfl⟩ e (fun z=>nomatch z) h
 | @tup a xs ea =>
   cases (show u=Value.ref a from rx)
   obtain⟨_,_,_,p⟩:=(show T7 X.prog X.w H s.heap a (.tup xs) from I.hok a _ ea)
   obtain⟨o,h1,h2,_⟩:=p
   exact PySem.W.kia_one PySem.W.kitx_tuple I.kIn ⟨o,h1,h2⟩ e (fun z=>nomatch z) h
 | @dK a kvs ea =>
   cases (show u=Value.ref a from rx)
   obtain⟨_,_,vs,_,p⟩:=(show T7 X.prog X.w H s.heap a (.dK kvs) from I.hok a _ ea)
   obtain⟨o,es,ep,h1,h2,_⟩:=p
   exact PySem.W.kia_one PySem.W.kitx_dict I.kIn ⟨o,h1,h2.1⟩ e (fun z=>nomatch z) h
 | @dT a kvs ea =>
   cases (show u=Value.ref a from rx)
   obtain⟨_,_,xs,_,o,es,ep,h1,h2,_⟩:=(show T7 X.prog X.w H s.heap a (.dT kvs) from I.hok a _ ea)
   exact PySem.W.kia_one PySem.W.kitx_dict I.kIn ⟨o,h1,h2.1⟩ e (fun z=>nomatch z) h
 | @ins a C dx fs ea cl ha hn htk hm =>
   cases (show u=Value.ref a from rx)
   obtain⟨mA,O,_⟩:=xb5 I.hok ea
   obtain⟨od,J,_⟩:=O.look
   exact PySem.W.kia_one (PySem.W.kitx_own (cl.get _) cl.hd ha hn htk hm) I.kIn J e (fun z=>nomatch z) h
end
structure qi5(k:Nat)(A:Around):Prop where
 hd:A.handled=none
 dp:A.depth+3*k+5<recursionLimit
 un:A.units+16*k+200<cLine
 gd:A.guards=some []
theorem qi5.mono{j:Nat}(r:qi5 k A)(h:j<=k):qi5 j A:=⟨r.hd,by have:=r.dp;omega,by have:=r.un;omega,r.gd⟩
theorem qi5.deeper(r:qi5 (k+1) A)(env:Env):qi5 k (A.deeper env) :=
 ⟨r.hd,by have:=r.dp;show A.depth+1+3*k+5<_;omega,by have:=r.un;show A.units+3+16*k+200<_;omega,r.gd⟩
theorem ye2:(A.under (.builtin "type.__call__" ⟨.ref C::us,kw⟩)).depth=A.depth+1:=by
 first|rfl|simp[Around.under,Code.weight,Code.isCreation,Code.isGuard,Code.isCaller,Code.frames,Code.isFrame,guardIds]
theorem ye3:(A.under (.builtin "type.__call__" ⟨.ref C::us,kw⟩)).units=A.units+1:=by
 first|rfl|simp[Around.under,Code.cUnits,Code.frames,Code.isFrame]
theorem xw1:(A.under (.builtin "type.__call__" ⟨.ref C::us,kw⟩)).guards=pushGuards [] A.guards:=by
 first|rfl|simp[Around.under,Code.guards,Code.isGuard,guardIds]
theorem qi5.make(r:qi5 (k+1) A)(C:Addr)(us:List Value)(kw:List (Str×Value)):qi5 k (A.under (.builtin "type.__call__" ⟨.ref C::us,kw⟩)) :=
 ⟨r.hd,by have:=r.dp;rw[ye2];omega,by have:=r.un;rw[ye3];omega,by rw[xw1,r.gd];rfl⟩
theorem qi5.depth(r:qi5 k A):A.depth<recursionLimit:=by have:=r.dp;omega
theorem qi5.units(r:qi5 k A):A.units+64<cLine:=by have:=r.un;omega
def A8:TA:=fun _ H Q=>Q [] H
def A1(ta:TE)(tr:TA):TA:=fun σ H Q=>ta σ H fun x H1=>tr σ H1 fun xs H2=>Q (x::xs) H2
variable{t:TA}
theorem A2:PA X [] A8:=fun _ _ _ _ H Q I h=>Calls.spliced_nil ⟨[],H,I,.nil,h⟩
theorem A0(ha:PE X e te)(hr:PA X es t)(hs:autoParam (starEach (e::es) X.env=(false,eval e X.env)::starEach es X.env) zAr):PA X (e::es) (A1 te t):=by
 intro pos pins s σ H Q I h
 rw[hs]
 show wpAny _ _ (spliced ((false,eval e X.env)::backTo pos (starEach es X.env))) _ _ s
 refine Calls.spliced_cons (thn (ha pins s σ H _ I h) fun u s1 zq=>?_)
 obtain⟨x,H1,I1,r1,q1⟩:=zq
 exact thn (hr pos pins s1 σ H1 _ I1 q1) fun us s2 ⟨xs,H2,I2,r2,q2⟩=>⟨x::xs,H2,I2,.cons r1 r2,q2⟩
def M5(t:TA):TE:=fun σ H Q=>t σ H fun xs H1=>xs.length<=sizeLine/\∀ p,H1 p=none->Q (.ref p) (upd H1 p (.tup xs))
def qb5(t:TA):TE:=fun σ H Q=>t σ H fun xs H1=>xs.length<=sizeLine/\∀ p,H1 p=none->Q (.ref p) (upd H1 p (.lst xs))
theorem C8{x1}(h:PA X es t):PE X (.Tuple es x1 pos) (M5 t):=by
 intro pins s σ H Q I hq
 refine wpAny_Tuple_spliced (thn (h pos pins s σ H _ I hq) fun us s1 ⟨xs,H1,I1,r,z,q⟩=>⟨by rw[<-r.length];exact z,?_⟩)
 have hf:H1 s1.heap.objs.size=none:=I1.hok.fresh (Nat.le_refl _)
 refine⟨.ref s1.heap.objs.size,upd H1 s1.heap.objs.size (.tup xs),I1.laid (t':=s1.toks) (fun b u e=>Heap.get?_push_of_some _ e) (Nat.le_refl _) ?_,rfl,q _ hf⟩
 exact⟨z,us,r,⟨_,Heap.get?_push_size _ rfl,rfl,_,rfl⟩⟩
theorem O5(h:PA X es t):PE X (.List es pos) (qb5 t):=by
 intro pins s σ H Q I hq
 refine wpAny_List_spliced (thn (h pos pins s σ H _ I hq) fun us s1 ⟨xs,H1,I1,r,z,q⟩=>⟨by rw[<-r.length];exact z,?_⟩)
 have hf:H1 s1.heap.objs.size=none:=I1.hok.fresh (Nat.le_refl _)
 refine⟨.ref s1.heap.objs.size,upd H1 s1.heap.objs.size (.lst xs),I1.laid (t':=s1.toks) (fun b u e=>Heap.get?_push_of_some _ e) (Nat.le_refl _) ?_,rfl,q _ hf⟩
 exact⟨z,us,0,r,Heap.get?_push_size _ rfl⟩
abbrev Sp:=List V->Hp->VK->XK->Prop
abbrev CXT:=List Env->Hp->Shared->XK->Value->Shared->Prop
structure ye4(P:Program)(w:World)(K:Fg)(mg:Str->Option Value)(base:Heap)(A:Around)(outer:List Env)(s:Shared)(H:Hp):Prop where
 frames:A.frames=some outer
 mod:Mod K mg base
 bs:∀ b o,base.get? b=some o->s.heap.get? b=some o/\H b=none
 bsz:base.objs.size<=s.heap.objs.size
 funs:s.heap.FunFrames base outer
 frf:∀ b∈frs outer,H b=none
 hok:HOk P w H s.heap
 bare:AllBare s.gens
 tk:0<s.toks
def CE(outer:List Env)(P:Program)(w:World)(H:Hp)(s:Shared)(Q:VK)(u:Value)(s':Shared):Prop :=
 ∃ v H',0<s'.toks/\s'.os=s.os/\AllBare s'.gens/\Un (frs outer) [] H H' s.heap s'.heap/\HOk P w H' s'.heap/\J9 v u/\Q v H'
def CR(CX:CXT)(outer:List Env)(P:Program)(w:World)(H:Hp)(s:Shared)(Q:VK)(E:XK)(r:Result)(s':Shared):Prop :=
 match r with
 | .ok (.ret u)=>CE outer P w H s Q u s'
 | .ok _=>False
 | .error e=>CX outer H s E e s'
structure J6(P:Program)(w:World)(K:Fg)(mg:Str->Option Value)(base:Heap)(CX:CXT)(k:Nat)(f:Addr)(fd:FuncData)(ps:List Str)(sp:Sp):Prop where
 len:∀ vs H Q E,sp vs H Q E->vs.length=ps.length
 run:∀ (A:Around) (outer:List Env) (s:Shared) (H:Hp) (args:Args) (us:List Value) (vs:List V) (Q:VK) (E:XK),qi5 k A->ye4 P w K mg base A outer s H->BindsTo s fd args (ps.zip us)->G7 vs us->sp vs H Q E ->
  codeAny (model P w) A (.call (.ref f) args) (CR CX outer P w H s Q E) s
variable{base:Heap}{mg:Str->Option Value}{outer:List Env}
theorem ye4.make(e:ye4 P w K mg base A outer s H)(C:Addr)(us:List Value)(kw:List (Str×Value)) :
 ye4 P w K mg base (A.under (.builtin "type.__call__" ⟨.ref C::us,kw⟩)) outer s H:=⟨by first|exact e.frames|(simpa [Around.under,Code.envs,Code.isFrame,pushEnvs] using e.frames),e.mod,e.bs,e.bsz,e.funs,e.frf,e.hok,e.bare,e.tk⟩
section
variable{s':Shared}
theorem Inv.env0(I:Inv X pins σ H s):ye4 X.prog X.w X.K X.mg X.base X.A X.stack s H :=
 ⟨I.ok.frames,I.ok.mod,I.bs,Nat.le_trans I.ok.bsz I.sz,I.stack,I.stkFree,I.hok,I.bare,I.tk⟩
theorem Inv.after{Q:VK}(I:Inv X pins σ H s)(h:CE X.stack X.prog X.w H s Q u s'):EP X pins σ Q u s':=by
 obtain⟨v,H',ht,os,bare,un,hok,r,q⟩:=h
 obtain⟨hh,g,d,t,os'⟩:=s'
 obtain rfl:os'=s.os:=os
 exact⟨v,H',I.call (h':=hh) (g':=g) (d':=d) (t':=t) (ch:=[]) un hok bare (fun b z=>absurd z (by simp)) ht,r,q⟩
end
def D3(sp:Sp)(dvs:List V)(E:XK)(t:TA):TE:=fun σ H Q=>t σ H fun vs H1=>sp (vs++dvs) H1 Q E
def N3(C:Addr)(m:Str)(sp:Sp)(dvs:List V)(E:XK)(ta:TE)(t:TA):TE:=fun σ H Q=>ta σ H fun x H1=>∃ a dx fs,x=.ref a/\H1 a=some (.ins C dx fs)/\fs.lookup m=none /\
 t σ H1 fun vs H2=>sp (x::(vs++dvs)) H2 Q E
def xw2(C:Addr)(sp:Sp)(dvs:List V)(E:XK)(t:TA):TE:=fun σ H Q=>t σ H fun vs H1=>∀ x dx,H1 x=none->H1 dx=none->dx≠x ->
 sp (.ref x::(vs++dvs)) (upd (upd H1 dx (.own x)) x (.ins C dx [])) (fun v H2=>v=.non/\Q (.ref x) H2) E
def T3(K:Fg)(fd:FuncData)(ps:List Str)(ds:List Value):Prop :=
 ∀ (s:Shared) (us:List Value),K.In s.heap->(us++ds).length=ps.length->BindsTo s fd ⟨us,[]⟩ (ps.zip (us++ds))
variable{fd:FuncData}{ps:List Str}
theorem T3.all(h:∀ us:List Value,us.length=ps.length->bindArgs fd ⟨us,[]⟩=pure (ps.zip us)):T3 K fd ps []:=fun s us _ hl=>by
 rw[List.append_nil] at hl ⊢
 exact .of_eq (h us hl)
def we0(CX:CXT)(X:Cx)(E:XK):Prop:=∀ (pins:List (Addr×Obj)) (σ:St) (H:Hp) (s:Shared) (e:Value) (s':Shared),Inv X pins σ H s->CX X.stack H s E e s'->X.xe e s'
variable{CX:CXT}{apos:Pos}{dvs vs:List V}{sp:Sp}
section
variable{f:Addr}{ds:List Value}{E:XK}{p:Pos}{o:Expr}
theorem ye5{Q:VK}(F:J6 X.prog X.w X.K X.mg X.base CX k f fd ps sp)(hr:qi5 k X.A)(hb:T3 X.K fd ps ds)(hd:G7 dvs ds)(hx:we0 CX X E)(I:Inv X pins σ H s)(r:G7 vs us)(h:sp (vs++dvs) H Q E):wpAny (model X.prog X.w) X.A (call (.ref f) us) (EP X pins σ Q) X.xe s:=by
 have r2:G7 (vs++dvs) (us++ds):=r.append hd
 have hl:(us++ds).length=ps.length:=by rw[<-r2.length];exact F.len _ _ _ _ h
 refine wpAny_call (codeAny_mono (F.run X.A X.stack s H ⟨us,[]⟩ (us++ds) (vs++dvs) Q E hr I.env0 (hb s us I.kIn hl) r2 h) fun r s' hq=>?_)
 cases r with
 | error e=>exact hx pins σ H s e s' I hq
 | ok fl =>
   cases fl with
   | ret u=>exact I.after hq
   | next=>exact False.elim hq
   | brk=>exact False.elim hq
   | cont=>exact False.elim hq
theorem zg1(F:J6 X.prog X.w X.K X.mg X.base CX k f fd ps sp)(hr:qi5 k X.A)(hg:Gl X x)(hm:X.mg x=some (.ref f))(hk:PySem.W.keepIn X.K (.ref f)=true)(hb:T3 X.K fd ps ds)(hd:G7 dvs ds)(hx:we0 CX X E)(ha:PA X (e::es) t)(hdb:autoParam ((x == ("__debug__":Str))=false) zAd)(he:autoParam (starEach (e::es) X.env=(false,eval e X.env)::starEach es X.env) zAr)(hpl:autoParam ((backTo pos (starEach es X.env)).any (·.1)=false) zAr) :
 PE X (.Call (.Name x p) (e::es) [] pos) (D3 sp dvs E t):=by
 intro pins s σ H Q I h
 refine wpAny_Call_Name_kw (xo9 I hg hm ?_ hdb)
 refine PySem.W.callWith_K (h₀:=X.base) I.ok.mod.kin hk (thn (ha pos pins s σ H _ I h) fun us s1 ⟨vs,H1,I1,r,q⟩=>⟨I1.kIn,?_⟩) he hpl
 exact ye5 F hr hb hd hx I1 r q
theorem O1(he:PE X o ta)(c:Cls X.K C)(hm:qy6 X.K C m f)(F:J6 X.prog X.w X.K X.mg X.base CX k f fd ps sp)(hr:qi5 k X.A)(hb:T3 X.K fd ps ds)(hd:G7 dvs ds)(hx:we0 CX X E)(ha:PA X (e::es) t)(hst:autoParam (starEach (e::es) X.env=(false,eval e X.env)::starEach es X.env) zAr)(hpl:autoParam ((backTo pos (starEach es X.env)).any (·.1)=false) zAr) (ht:eval (.Call (.Attribute o m apos) (e::es) [] pos) X.env=(do
  let ov<-eval o X.env
  standAt apos.atName
  let (f,first)<-holding [ov] (getMethod ov m pl)
  callWith pos f first (backTo pos (starEach (e::es) X.env)) (backToKw pos (keywordEach [] X.env))):=by rfl) :
 PE X (.Call (.Attribute o m apos) (e::es) [] pos) (N3 C m sp dvs E ta t):=by
 intro pins s σ H Q I h
 refine PySem.W.methodCall_KW (pl:=pl) (thn (he pins s σ H _ I h) fun u s1 zq=>?_) ht
 obtain⟨x,H1,I1,rx,a,dx,fs,ex,ea,l,q⟩:=zq
 subst ex
 obtain rfl:u=Value.ref a:=rx
 refine xc8 I1 ea c hm l ?_
 refine PySem.W.callWith_K (first:=[.ref a]) (h₀:=X.base) I.ok.mod.kin hm.kp (thn (ha pos pins s1 σ H1 _ I1 q) fun us s2 ⟨vs,H2,I2,r,q2⟩=>⟨I2.kIn,?_⟩) hst hpl
 exact ye5 (us:=.ref a::us) (vs:=.ref a::vs) F hr hb hd hx I2 (.cons rfl r) q2
theorem S5(he:PE X o ta)(c:Cls X.K C)(hm:qy6 X.K C m f)(F:J6 X.prog X.w X.K X.mg X.base CX k f fd ps sp)(hr:qi5 k X.A)(hb:T3 X.K fd ps ds)(hd:G7 dvs ds)(hx:we0 CX X E) (ht:eval (.Call (.Attribute o m apos) [] [] pos) X.env=(do
  let ov<-eval o X.env
  standAt apos.atName
  let (f,first)<-holding [ov] (getMethod ov m pl)
  callWith pos f first (backTo pos (starEach [] X.env)) (backToKw pos (keywordEach [] X.env))):=by rfl) :
 PE X (.Call (.Attribute o m apos) [] [] pos) (N3 C m sp dvs E ta A8):=by
 intro pins s σ H Q I h
 refine PySem.W.methodCall_KW (pl:=pl) (thn (he pins s σ H _ I h) fun u s1 zq=>?_) ht
 obtain⟨x,H1,I1,rx,a,dx,fs,ex,ea,l,q⟩:=zq
 subst ex
 obtain rfl:u=Value.ref a:=rx
 refine xc8 I1 ea c hm l ?_
 exact PySem.W.callWith_K0 (first:=[.ref a]) I1.kIn hm.kp (ye5 (us:=[.ref a]) (vs:=[.ref a]) F hr hb hd hx I1 (.cons rfl .nil) q)
structure Mk(K:Fg)(C f:Addr):Prop where
 makes:PySem.W.makesIn K C=true
 init:PySem.W.findIn K (.ref C) "__init__"=some (some (.ref f))
 fn:PySem.W.isFn K (.ref f)=true
 kp:PySem.W.keepIn K (.ref C)=true
theorem yv9{Q:VK}(M:Mk X.K C f)(F:J6 X.prog X.w X.K X.mg X.base CX k f fd ps sp)(hr:qi5 (k+1) X.A)(hb:T3 X.K fd ps ds)(hd:G7 dvs ds)(hx:we0 CX X E)(I:Inv X pins σ H s)(r:G7 vs us)(h:∀ x dx,H x=none->H dx=none->dx≠x->sp (.ref x::(vs++dvs)) (upd (upd H dx (.own x)) x (.ins C dx [])) (fun v H2=>v=.non/\Q (.ref x) H2) E) :
 wpAny (model X.prog X.w) X.A (call (.ref C) us) (EP X pins σ Q) X.xe s:=by
 have hq:=h (s.heap.objs.size+1) s.heap.objs.size (I.hok.fresh (Nat.le_succ _)) (I.hok.fresh (Nat.le_refl _)) (Nat.ne_of_lt (Nat.lt_succ_self _))
 have I2:=Inv.made (C:=C) I
 have r2:G7 (V.ref (s.heap.objs.size+1)::(vs++dvs)) (Value.ref (s.heap.objs.size+1)::(us++ds)):=.cons rfl (r.append hd)
 have hl:(Value.ref (s.heap.objs.size+1)::us++ds).length=ps.length:=by
  have e:=r2.length
  rw[F.len _ _ _ _ hq] at e
  exact e.symm
 refine wpAny_call (yv8 (f:=f) I.kIn M.makes M.init (beq_iff_eq.mp M.fn) (codeAny_mono (F.run _ X.stack _ _ ⟨Value.ref (s.heap.objs.size+1)::us,[]⟩ (Value.ref (s.heap.objs.size+1)::(us++ds)) _ _ E (hr.make C us [])
  (I2.env0.make C us []) (hb _ (Value.ref (s.heap.objs.size+1)::us) I2.kIn hl) r2 hq) fun r s' hq'=>?_))
 cases r with
 | error e=>exact hx pins σ _ _ e s' I2 hq'
 | ok fl =>
   cases fl with
   | ret u =>
     obtain⟨v,H',I3,rv,ev,q3⟩:=I2.after hq'
     subst ev
     exact⟨rv,⟨V.ref (s.heap.objs.size+1),H',I3,rfl,q3⟩⟩
   | next=>exact False.elim hq'
   | brk=>exact False.elim hq'
   | cont=>exact False.elim hq'
theorem xp4(M:Mk X.K C f)(F:J6 X.prog X.w X.K X.mg X.base CX k f fd ps sp)(hr:qi5 (k+1) X.A)(hg:Gl X x)(hm:X.mg x=some (.ref C))(hb:T3 X.K fd ps ds)(hd:G7 dvs ds)(hx:we0 CX X E)(ha:PA X (e::es) t)(hdb:autoParam ((x == ("__debug__":Str))=false) zAd)(he:autoParam (starEach (e::es) X.env=(false,eval e X.env)::starEach es X.env) zAr)(hpl:autoParam ((backTo pos (starEach es X.env)).any (·.1)=false) zAr) :
 PE X (.Call (.Name x p) (e::es) [] pos) (xw2 C sp dvs E t):=by
 intro pins s σ H Q I h
 refine wpAny_Call_Name_kw (xo9 I hg hm ?_ hdb)
 refine PySem.W.callWith_K (h₀:=X.base) I.ok.mod.kin M.kp (thn (ha pos pins s σ H _ I h) fun us s1 ⟨vs,H1,I1,r,q⟩=>⟨I1.kIn,?_⟩) he hpl
 exact yv9 M F hr hb hd hx I1 r q
end
section
variable{f:Addr}{ks:List Str}{E:XK}{p kpos:Pos}{o:Expr}{kws:List Keyword}{tk:TA}{nm:Option Str}
variable{g:List Value->List Value->List Value}{gV:List V->List V->List V}
end
structure C0(N P:List Str)(sc:Scope):Prop where
 kind:sc.kind=.function
 co:sc.isCoroutine=false
 gen:sc.isGenerator=false
 nd:N.Nodup
 pre:N.take P.length=P
 par:∀ x∈P,sc.names.lookup x=some .local\/sc.names.lookup x=some .cell
 nofree:∀ y∈sc.names,y.2≠.free
theorem xl9{kindOf:Str->Option NameKind}{x:Str}:∀ {binds:List (Str×Value)} {m:Str->Option Value},(∀ v,(x,v)∉binds)->bindL kindOf binds m x=m x
 | [],_,_=>rfl
 | (n,v)::r,m,h=>by
   unfold bindL
   rw[xl9 fun w hw=>h w (List.mem_cons_of_mem _ hw)]
   split
   ·have:x≠n:=by rintro rfl;exact h v List.mem_cons_self
    simp[this]
   ·rfl
theorem xm0{kindOf:Str->Option NameKind}{x:Str}:∀ {binds:List (Str×Value)} {m:Str->Option Value},(∀ v,(x,v)∉binds)->bindC kindOf binds m x=m x
 | [],_,_=>rfl
 | (n,v)::r,m,h=>by
   unfold bindC
   rw[xm0 fun w hw=>h w (List.mem_cons_of_mem _ hw)]
   split
   ·rfl
   ·have:x≠n:=by rintro rfl;exact h v List.mem_cons_self
    simp[this]
theorem xm1{kindOf:Str->Option NameKind}{x:Str}{v:Value}:∀ {P:List Str} {vs:List Value} {i:Nat} {m:Str->Option Value},P.Nodup->P[i]?=some x->vs[i]?=some v->kindOf x=some .local ->
 bindL kindOf (P.zip vs) m x=some v
 | [],_,_,_,_,h,_,_=>by simp at h
 | _::_,[],_,_,_,_,h,_=>by simp at h
 | p::P,w::vs,0,m,nd,h1,h2,hk=>by
   simp at h1 h2;subst h1;subst h2
   show bindL kindOf ((p,w)::P.zip vs) m p=_
   unfold bindL
   rw[xl9 fun v hv=>(List.nodup_cons.mp nd).1 (List.of_mem_zip hv).1,if_pos hk]
   simp
 | p::P,w::vs,i+1,m,nd,h1,h2,hk=>by
   show bindL kindOf ((p,w)::P.zip vs) m x=_
   unfold bindL
   exact xm1 (i:=i) (List.nodup_cons.mp nd).2 (by simpa using h1) (by simpa using h2) hk
theorem xm2{kindOf:Str->Option NameKind}{x:Str}{v:Value}:∀ {P:List Str} {vs:List Value} {i:Nat} {m:Str->Option Value},P.Nodup->P[i]?=some x->vs[i]?=some v->kindOf x≠some .local ->
 bindC kindOf (P.zip vs) m x=some v
 | [],_,_,_,_,h,_,_=>by simp at h
 | _::_,[],_,_,_,_,h,_=>by simp at h
 | p::P,w::vs,0,m,nd,h1,h2,hk=>by
   simp at h1 h2;subst h1;subst h2
   show bindC kindOf ((p,w)::P.zip vs) m p=_
   unfold bindC
   rw[xm0 fun v hv=>(List.nodup_cons.mp nd).1 (List.of_mem_zip hv).1,if_neg hk]
   simp
 | p::P,w::vs,i+1,m,nd,h1,h2,hk=>by
   show bindC kindOf ((p,w)::P.zip vs) m x=_
   unfold bindC
   exact xm2 (i:=i) (List.nodup_cons.mp nd).2 (by simpa using h1) (by simpa using h2) hk
def D8(N:List Str)(vs:List V):St:=vs.map some++List.replicate (N.length-vs.length) none
def yq3(CX:CXT)(P:Program)(w:World)(K:Fg)(mg:Str->Option Value)(base:Heap)(N:List Str)(qual:Str)(scope:Scope)(f:Addr)(cd:Value)(A:Around)(outer:List Env)(s:Shared)(H:Hp)(E:XK):Cx where
 prog:=P
 w:=w
 K:=K
 mg:=mg
 base:=base
 A:=A.deeper (envOfC qual scope s.heap.objs.size f cd)
 N:=N
 s₀:=s
 H₀:=H
 env:=envOfC qual scope s.heap.objs.size f cd
 outer:=outer
 stack:=envOfC qual scope s.heap.objs.size f cd::outer
 ex:=[]
 calm:=true
 fn:=fun _=>true
 pn:=[]
 xe:=fun e s'=>wpAny (model P w) (A.deeper (envOfC qual scope s.heap.objs.size f cd)) (leaving (envOfC qual scope s.heap.objs.size f cd) e) (fun _ s''=>CX outer H s E e s'') (fun e' s''=>CX outer H s E e' s'') s'
theorem xw3{sc:Scope}(h:sc.names.lookup x=some .cell):∃ c,(cellsFrom n sc.names []).lookup x=some c:=by
 have q:=PySem.W.cellsFrom_some sc.names n [] (.inl h)
 exact Option.isSome_iff_exists.mp q
variable{qual:Str}{scope:Scope}
theorem yq4{f:Addr}{cd:Value}{s1:Shared}{E:XK}(S:C0 N ps scope)(hd:A.handled=none)(e0:ye4 P w K mg base A outer s H)(hl:vs.length=ps.length)(r:G7 vs us)(x:InCallC s s.heap.objs.size (bindL (envOfC qual scope s.heap.objs.size f cd).kindOf (ps.zip us) fun _=>none) (cellsFrom (s.heap.objs.size+1) scope.names []) (bindC (envOfC qual scope s.heap.objs.size f cd).kindOf (ps.zip us) fun _=>none) s1)(ht:0<s1.toks) :
 Inv (yq3 CX P w K mg base N qual scope f cd A outer s H E) [] (D8 N vs) H s1:=by
 have hpl:ps.length<=N.length:=by have:=congrArg List.length S.pre;rw[List.length_take] at this;omega
 obtain⟨h1,tk,rfl,hk⟩:=x.done
 have noA:∀ b:Addr,b∉(yq3 CX P w K mg base N qual scope f cd A outer s H E).ex:=fun b z=>absurd (show b∈([]:List Addr) from z) (by simp)
 refine⟨⟨e0.mod,S.kind,rfl,rfl,Nat.le_refl _,fun y z c h1 h2=>?_,fun y hy=>?_,fun y c _ h=>?_,fun _=>hd,Around.frames_deeper e0.frames,.inr ⟨rfl,rfl⟩,fun b z=>absurd z (noA b),e0.bs,e0.bsz,fun b _ _=>noA b,fun b z=>absurd z (noA b),e0.funs,e0.frf⟩,
  rfl,e0.bare,Un.kept hk,⟨_,x.toInCall.ns,fun i y v h1 h2 h3=>?_⟩,fun y c h=>⟨_,x.cell y c h⟩,e0.hok.fresh (Nat.le_refl _),fun y c h=>?_,fun p hp=>absurd (show p∈([]:List (Addr×Obj)) from hp) (by simp),e0.hok.kept hk,?_,ht⟩
 ·exact name_of_addr x.apart (PySem.mem_of_lookup h1) (PySem.mem_of_lookup h2)
 ·have hy:scope.names.lookup y=some .cell\/scope.names.lookup y=some .free:=hy
  rcases hy with hy|hy
  ·exact xw3 hy
  ·exact absurd rfl (S.nofree _ (PySem.mem_of_lookup hy))
 ·exact Nat.le_of_lt (x.above y c (PySem.mem_of_lookup h))
 ·have hi:i<vs.length:=by
   unfold D8 at h2
   by_cases hi:i<vs.length
   ·exact hi
   ·rw[List.getElem?_append_right (by simpa using hi)] at h2
    rw[List.getElem?_replicate] at h2
    split at h2 <;> cases h2
  have ha:vs[i]?=some v:=by
   unfold D8 at h2
   rw[List.getElem?_append_left (by simpa using hi),List.getElem?_map] at h2
   cases e:vs[i]? with
   | none=>rw[e] at h2;cases h2
   | some a=>rw[e] at h2;cases h2;rfl
  obtain⟨u,hu,rv⟩:=r.get ha
  have hp:ps[i]?=some y:=by
   rw[<-S.pre,List.getElem?_take_of_lt (by omega)];exact h1
  have ndP:ps.Nodup:=by rw[<-S.pre];exact S.nd.sublist (List.take_sublist _ _)
  refine⟨u,rv,?_⟩
  rcases S.par y (List.mem_of_getElem? hp) with k|k
  ·exact .inl ⟨k,xm1 ndP hp hu k⟩
  ·obtain⟨c,e⟩:=xw3 (n:=s.heap.objs.size+1) k
   refine .inr ⟨.inl k,c,e,?_⟩
   have q:=x.cell y c e
   rw[xm2 ndP hp hu (by show scope.names.lookup y≠_;rw[k];decide)] at q
   exact q
 ·exact e0.hok.fresh (Nat.le_of_lt (x.above y c (PySem.mem_of_lookup h)))
 ·unfold D8
  show _=N.length
  rw[List.length_append,List.length_map,List.length_replicate]
  omega
variable{an od:Option Addr}{cdv ct doc oc pm:Value}{osl:Array (Option Value)}
theorem zx0{f:Addr}{params:Arguments}{dV kV:Value}(lk:K.lookup f=some ⟨oc,od,.func (PySem.W.fnOf name qual params body scope dV kV doc pm an cdv ct),osl⟩)(hcd:PySem.W.codeIn K cdv qual=true)(S:C0 N ps scope)(len:∀ vs H Q E,sp vs H Q E->vs.length=ps.length) (hbody:∀ (A:Around) (outer:List Env) (s:Shared) (H:Hp) (vs:List V) (Q:VK) (E:XK),qi5 k (A.deeper (envOfC qual scope s.heap.objs.size f cdv))->sp vs H Q E ->
  ∃ t,PSs (yq3 CX P w K mg base N qual scope f cdv A outer s H E) body t/\t {nx:=fun _ H'=>Q .non H',rt:=Q} (D8 N vs) H) :
 J6 P w K mg base CX (k+1) f (PySem.W.fnOf name qual params body scope dV kV doc pm an cdv ct) ps sp:=by
 refine⟨len,fun A outer s H args us vs Q E hr e0 hb r hsp=>?_⟩
 have hl:=len _ _ _ _ hsp
 have KX:K.In s.heap:=e0.mod.kin.keeps fun b o e=>(e0.bs b o e).1
 have lim:s.heap.NoLimit:=e0.mod.nolimit.keeps fun b o e=>(e0.bs b o e).1
 have hkind:∀ y∈ps.zip us,scope.names.lookup y.1=some .local\/(scope.names.lookup y.1=some .cell/\((cellsFrom (s.heap.objs.size+1) scope.names []).lookup y.1).isSome=true):=fun⟨n,v⟩ hy=>by
  rcases S.par n (List.of_mem_zip hy).1 with q|q
  ·exact .inl q
  ·exact .inr ⟨q,PySem.W.cellsFrom_some _ _ _ (.inl q)⟩
 refine codeAny_call_function hr.depth (KX _ _ lk) rfl S.co S.gen rfl (PySem.W.codeRec_of KX hcd) (hb _ _ _ _ ?_)
 refine wpAny_with_toks (n:=1) e0.tk (wpAny_newFunctionEnv_cells S.kind hkind fun env he s1 x htk=>?_)
 subst he
 refine⟨lim.keeps x.toInCall.keep,codeAny_func ?_⟩
 obtain⟨t,ht,hq⟩:=hbody A outer s H vs Q E (hr.deeper _) hsp
 have I:Inv (yq3 CX P w K mg base N qual scope f cdv A outer s H E) [] (D8 N vs) H s1:=yq4 S hr.hd e0 hl r x htk
 refine wpAny_mono (ht [] s1 (D8 N vs) H _ I hq) (fun fl s' hs=>?_) fun e s' hs=>hs
 have fin:∀ {σ':St} {H':Hp} {v:V} {u:Value},Inv (yq3 CX P w K mg base N qual scope f cdv A outer s H E) [] σ' H' s'->J9 v u->Q v H'->CE outer P w H s Q u s' :=
  fun{σ' H' v u} J rv q=>⟨v,H',J.tk,J.os,J.bare,J.base,J.hok,rv,q⟩
 cases fl with
 | ret u =>
   obtain⟨v,σ',H',J,rv,q⟩:=hs
   exact fin J rv q
 | next =>
   obtain⟨σ',H',J,q⟩:=hs
   exact fin (v:=V.non) (u:=Value.none) J rfl q
 | brk =>
   obtain⟨_,_,_,q⟩:=hs
   exact False.elim q
 | cont =>
   obtain⟨_,_,_,q⟩:=hs
   exact False.elim q
variable{T:String}
section
variable{p:Pos}{id:String}{r:List V->Hp->VK->Prop}
def tCB(r:List V->Hp->VK->Prop)(t:TA):TE:=fun σ H Q=>t σ H fun vs H1=>r vs H1 Q
theorem C9(hc:qe5 X (.builtin id) r)(hg:Gl X x)(hm:X.mg x=none)(hv:bootBuiltins x=some (.builtin id))(ha:PA X (e::es) t)(hn:autoParam (x ≠ "__name__") zAd)(hdb:autoParam ((x == ("__debug__":Str))=false) zAd)(he:autoParam (starEach (e::es) X.env=(false,eval e X.env)::starEach es X.env) zAr)(hpl:autoParam ((backTo pos (starEach es X.env)).any (·.1)=false) zAr):PE X (.Call (.Name x p) (e::es) [] pos) (tCB r t):=by
 intro pins s σ H Q I h
 refine wpAny_Call_Name_kw (qu5 I hg hm hv ?_ hn hdb)
 exact PyProof.Rows.callWith_builtin1 (thn (ha pos pins s σ H _ I h) fun us s1 ⟨vs,H1,I1,r1,q1⟩=>hc pins s1 σ H1 vs us Q I1 r1 q1) he hpl
theorem Q7(hc:qe5 X (.type T) r)(hg:Gl X x)(hm:X.mg x=none)(hv:bootBuiltins x=some (.type T))(ha:PA X (e::es) t)(hn:autoParam (x ≠ "__name__") zAd)(hdb:autoParam ((x == ("__debug__":Str))=false) zAd)(he:autoParam (starEach (e::es) X.env=(false,eval e X.env)::starEach es X.env) zAr)(hpl:autoParam ((backTo pos (starEach es X.env)).any (·.1)=false) zAr):PE X (.Call (.Name x p) (e::es) [] pos) (tCB r t):=by
 intro pins s σ H Q I h
 refine wpAny_Call_Name_kw (qu5 I hg hm hv ?_ hn hdb)
 exact PyProof.Rows.callWith_type1 (thn (ha pos pins s σ H _ I h) fun us s1 ⟨vs,H1,I1,r1,q1⟩=>hc pins s1 σ H1 vs us Q I1 r1 q1) he hpl
end
namespace HT
open PySem PyProof.Rows
section
open PySem.SeqAt
open PySem.AutoSeq1 (wpAny_loadPart')
open PySem.MeetsSeq PySem.MeetsSeq2 PySem.MeetsSeq3
end
section
variable{prog:Program}{w:World}{A:Around}{E:Value->Shared->Prop}{s:Shared}
theorem zg2{t b:Addr}{vs ws:List Value}{Q:Value->Shared->Prop}(ht:IsTup s.heap t vs.toArray)(hb:IsTup s.heap b ws.toArray)(hv:vs≠[])
 (h1:ws=[]->Q (.ref t) s) (h2:ws≠[]->Q (.ref s.heap.objs.size) {s with heap:=s.heap.push {cls:=.type "tuple",data:=.seq (vs++ws).toArray}})
 (hsz:vs.length+ws.length<=sizeLine):wpAny (model prog w) A (binaryOp .Add (.ref t) (.ref b)) Q E s:=by
 obtain⟨⟨cls,dd,data,sl⟩,ho,hc,n,hd⟩:=id ht
 obtain⟨⟨cls2,dd2,data2,sl2⟩,ho2,hc2,n2,hd2⟩:=id hb
 simp only at hc hd hc2 hd2
 subst hc hd hc2 hd2
 have e:vs.toArray++ws.toArray=(vs++ws).toArray:=by simp
 by_cases hw:ws=[]
 ·exact concat_meets ⟨_,ho,rfl⟩ ⟨_,ho2,rfl⟩ noFill_tuple_add seq_tuple_add PySem.F.slot_tuple_add PySem.F.entry_tuple_add (PySem.F.args_tuple_add_2 _ _)
   (tuple_addW1 t b vs.toArray ws.toArray n n2 dd dd2 sl sl2 (by simpa using hv) (by simp[hw])) ⟨ho,ho2,h1 hw⟩
 ·refine concat_meets ⟨_,ho,rfl⟩ ⟨_,ho2,rfl⟩ noFill_tuple_add seq_tuple_add PySem.F.slot_tuple_add PySem.F.entry_tuple_add (PySem.F.args_tuple_add_2 _ _)
   (tuple_addW2 t b vs.toArray ws.toArray n n2 dd dd2 sl sl2 (by simpa using hv) (by simpa using hw) (by rw[List.size_toArray,List.size_toArray];exact hsz)) ⟨ho,ho2,?_⟩
  rw[e]
  exact h2 hw
def sIx(n d:Nat):Option Int->Nat
 | none=>d
 | some v=>if v<0 then(v+(n:Int)).toNat else min v.toNat n
theorem qj3(n d k:Nat):sIx n d (some (k:Int))=min k n:=by
 show(if(k:Int)<0 then((k:Int)+(n:Int)).toNat else min (k:Int).toNat n)=min k n
 rw[if_neg (by omega),Int.toNat_natCast]
theorem ye6(n d:Nat)(hd:d<=n)(o:Option Int):sIx n d o<=n:=by
 cases o with
 | none=>exact hd
 | some v =>
   show(if v<0 then(v+(n:Int)).toNat else min v.toNat n)<=n
   by_cases hv:v<0
   ·rw[if_pos hv];omega
   ·rw[if_neg hv];exact Nat.min_le_right _ _
theorem yk3(v:Int)(n d:Nat):(if v<0 then max (v+(n:Int)) 0 else min v (n:Int))=((sIx n d (some v):Nat):Int):=by
 show(if v<0 then max (v+(n:Int)) 0 else min v (n:Int))=(((if v<0 then(v+(n:Int)).toNat else min v.toNat n):Nat):Int)
 by_cases hv:v<0
 ·simp only[if_pos hv];omega
 ·simp only[if_neg hv];omega
theorem ye7(lo hi:Option Int)(n:Nat):Builtin.Slice.sliceAdjust lo hi 1 (n:Int)=(((sIx n 0 lo:Nat):Int),((sIx n n hi:Nat):Int)):=by
 have h1:¬((1:Int)<0):=by omega
 unfold Builtin.Slice.sliceAdjust
 simp only[h1,if_false]
 refine Prod.ext ?_ ?_
 ·cases lo with
  | none=>rfl
  | some v=>exact yk3 v n 0
 ·cases hi with
  | none=>rfl
  | some v=>exact yk3 v n n
theorem ye8(i j:Nat):Builtin.Slice.slicePlaces (i:Int) (j:Int) 1=j-i:=by
 unfold Builtin.Slice.slicePlaces
 have h1:(1:Int) > 0:=by omega
 simp only[h1,if_true,Int.ediv_one]
 split <;> omega
theorem xc9{v:Value}{o:Option Int}{Q:Option Int->Shared->Prop}(p:IsPart v o)(h:Q o s):wpAny (model prog w) A (Builtin.Slice.slicePartIndex v) Q E s:=by
 cases p with
 | none=>exact slicePart_none h
 | int i t=>exact slicePart_int h
theorem qv7{sl:Addr}{vl vu:Value}{lo hi:Option Int}{n:Nat}{Q:Int×Int×Nat->Shared->Prop}(hs:s.heap.IsSliceOf sl vl vu .none)(pl:IsPart vl lo)(pu:IsPart vu hi)
 (h:Q (((sIx n 0 lo:Nat):Int),1,sIx n n hi-sIx n 0 lo) s):wpAny (model prog w) A (Builtin.Slice.sliceApplied (.ref sl) (pure (n:Int))) Q E s:=by
 obtain⟨os,hos,hcs,hds⟩:=id hs
 unfold Builtin.Slice.sliceApplied Builtin.Slice.sliceFields
 refine wpAny_bind (wpAny_bind (wpAny_field hos hds (x:=vl) rfl (wpAny_bind (wpAny_field hos hds (x:=vu) rfl (wpAny_bind (wpAny_field hos hds (x:=.none) rfl (wpAny_pure ?_)))))))
 refine wpAny_bind (slicePart_none ?_)
 show wpAny _ _ (if((1:Int) == 0)=true then _ else _) _ _ s
 rw[if_neg (by decide)]
 refine wpAny_bind (xc9 pl (wpAny_bind (xc9 pu (wpAny_bind (wpAny_pure ?_)))))
 show wpAny _ _ (match Builtin.Slice.sliceAdjust lo hi 1 (n:Int) with|(lo,hi)=>pure (lo,(1:Int),Builtin.Slice.slicePlaces lo hi 1)) _ _ s
 rw[ye7 lo hi n]
 show wpAny _ _ (pure (((sIx n 0 lo:Nat):Int),(1:Int),Builtin.Slice.slicePlaces ((sIx n 0 lo:Nat):Int) ((sIx n n hi:Nat):Int) 1)) _ _ s
 rw[ye8]
 exact wpAny_pure h
theorem yw0(xs:Array Value)(i k:Nat):((List.range k).filterMap fun(m:Nat)=>xs[((i:Int)+(m:Int)*1).toNat]?).toArray=((xs.toList.drop i).take k).toArray:=by
 have e:(fun(m:Nat)=>xs[((i:Int)+(m:Int)*1).toNat]?)=fun m=>xs[i+m]?:=by
  funext m
  have:((i:Int)+(m:Int)*1).toNat=i+m:=by omega
  rw[this]
 rw[e]
 have:=pick_run xs i k
 rw[List.filterMap_map] at this
 have e2:((fun x=>xs[x]?)∘fun x=>i+x)=fun m=>xs[i+m]?:=rfl
 rw[e2] at this
 rw[this]
theorem wo7{t sl:Addr}{items:Array Value}{vl vu:Value}{lo hi:Option Int}{Q:Value->Shared->Prop}(ht:IsTup s.heap t items)(hs:s.heap.IsSliceOf sl vl vu .none)(pl:IsPart vl lo)(pu:IsPart vu hi)
 (hw:¬(sIx items.size 0 lo=0/\sIx items.size items.size hi=items.size))
 (h:Q (.ref s.heap.objs.size) {s with heap:=s.heap.push {cls:=.type "tuple",data:=.seq ((items.toList.drop (sIx items.size 0 lo)).take (sIx items.size items.size hi-sIx items.size 0 lo)).toArray}})
 (hsz:items.size<=sizeLine):wpAny (model prog w) A (getItem (.ref t) (.ref sl)) Q E s:=by
 have htake:sizeOk (.seq ((items.toList.drop (sIx items.size 0 lo)).take (sIx items.size items.size hi-sIx items.size 0 lo)).toArray):=by
  show((items.toList.drop (sIx items.size 0 lo)).take (sIx items.size items.size hi-sIx items.size 0 lo)).toArray.size<=sizeLine
  rw[List.size_toArray,List.length_take,List.length_drop,Array.length_toList]
  omega
 have hj:sIx items.size items.size hi<=items.size:=ye6 _ _ (Nat.le_refl _) hi
 obtain⟨os,hos,hcs,hds⟩:=id hs
 have hTs:s.TypeIs (.ref sl) "slice":=⟨os,hos,hcs⟩
 unfold getItem
 try with_reducible refine wpAny_holding ?_
 first|refine wpAny_bind (wpAny_pure ?_)|skip
 refine wpAny_bind (wpAny_sequenceKey ht.typeIs (by decide) ?_)
 refine wpAny_bind (wpAny_callSpecial?_slot (name:=Str.ofString "__getitem__") ht.typeIs PyProof.Rows.slot_tuple_getitem
  (wpAny_call_entry PyProof.Rows.slot_tuple_getitem ht.typeIs entry_tuple_getitem ?_ (args_tuple_getitem _ _)))
 show wpAny _ _ (Builtin.Tuple.tupleItemsOf (.ref t) >>= _) _ _ s
 refine wpAny_bind (tupleItemsOf_ ht ?_)
 refine wpAny_bind (wpAny_typeOf hTs ?_)
 rw[if_pos (by decide)]
 refine wpAny_bind (qv7 hs pl pu ?_)
 have hno:¬((((sIx items.size 0 lo:Nat):Int) == 0 && (1:Int) == 1 && (sIx items.size items.size hi-sIx items.size 0 lo) == items.size)=true):=by
  intro q
  rw[Bool.and_eq_true,Bool.and_eq_true] at q
  have q1:((sIx items.size 0 lo:Nat):Int)=0:=eq_of_beq q.1.1
  have q2:sIx items.size items.size hi-sIx items.size 0 lo=items.size:=eq_of_beq q.2
  exact hw ⟨by omega,by omega⟩
 show wpAny _ _ (if(((sIx items.size 0 lo:Nat):Int) == 0 && (1:Int) == 1 && (sIx items.size items.size hi-sIx items.size 0 lo) == items.size)=true then _ else _) _ _ s
 rw[if_neg hno,yw0]
 first
  | exact wpAny_bind (m:=Builtin.Tuple.tupleExact _) (wpAny_newObj_type (wpAny_pure ⟨_,rfl,wpAny_pure h⟩) htake)
  | exact wpAny_bind (m:=Builtin.Tuple.tupleExact _) (wpAny_newObj_type (wpAny_bind (wpAny_pure (wpAny_pure ⟨_,rfl,wpAny_pure h⟩))) htake)
  | exact wpAny_bind (wpAny_bind (m:=Builtin.Tuple.tupleExact _) (wpAny_newObj_type (wpAny_pure (wpAny_pure ⟨_,rfl,wpAny_pure h⟩)) htake))
  | exact wpAny_bind (wpAny_bind (m:=Builtin.Tuple.tupleExact _) (wpAny_newObj_type (wpAny_pure ⟨_,rfl,wpAny_pure h⟩) htake))
end
end HT
abbrev TO:=St->Hp->(Option Int->Hp->Prop)->Prop
def PO(X:Cx)(e:Option Expr)(t:TO):Prop :=
 ∀ (pins:List (Addr×Obj)) (s:Shared) (σ:St) (H:Hp) (Q:Option Int->Hp->Prop),Inv X pins σ H s->t σ H Q ->
  wpAny (model X.prog X.w) X.A (evalPart e X.env) (fun u s'=>∃ o H',Inv X pins σ H' s'/\IsPart u o/\Q o H') X.xe s
def qc3:TO:=fun _ H Q=>Q none H
def W1(t:TE):TO:=fun σ H Q=>t σ H fun x H1=>∃ i,x=.int i/\Q (some i) H1
variable{p2:Pos}{th:TO}{r:V->Option Int->Option Int->Hp->VK->Prop}
section
variable{lo hi:Option Expr}{tl:TO}
theorem qj4:PO X none qc3:=by
 intro pins s σ H Q I h
 rw[evalPart_none]
 exact wpAny_pure ⟨none,H,I,.none,h⟩
theorem N4(h:PE X e te):PO X (some e) (W1 te):=by
 intro pins s σ H Q I hw
 rw[evalPart_some]
 refine thn (h pins s σ H _ I hw) fun u s1 zq=>?_
 obtain⟨x,H1,I1,r1,q1⟩:=zq
 obtain⟨i,rfl,q⟩:=q1
 obtain⟨t,rfl⟩:=r1
 exact⟨some i,H1,I1,.int i t,q⟩
def SlR(X:Cx)(r:V->Option Int->Option Int->Hp->VK->Prop):Prop :=
 ∀ (pins:List (Addr×Obj)) (s:Shared) (σ:St) (H:Hp) (x:V) (v vl vu:Value) (lo hi:Option Int) (sl:Addr) (Q:VK),Inv X pins σ H s->J9 x v->s.heap.IsSliceOf sl vl vu .none->IsPart vl lo->IsPart vu hi->r x lo hi H Q ->
  ∃ T id,typeLookup (.type T) "__getitem__"=pure (some (.builtin id))/\s.TypeIs v T/\wpAny (model X.prog X.w) X.A (getItem v (.ref sl)) (EP X pins σ Q) X.xe s
theorem SlR.or{r':V->Option Int->Option Int->Hp->VK->Prop}(h:SlR X r)(h':SlR X r'):SlR X (fun x lo hi H Q=>r x lo hi H Q\/r' x lo hi H Q):=by
 intro pins s σ H x v vl vu lo hi sl Q I rx hs pl pu q
 rcases q with q|q
 ·exact h pins s σ H x v vl vu lo hi sl Q I rx hs pl pu q
 ·exact h' pins s σ H x v vl vu lo hi sl Q I rx hs pl pu q
def tSl(r:V->Option Int->Option Int->Hp->VK->Prop)(te:TE)(tl th:TO):TE:=fun σ H Q=>te σ H fun x H1=>tl σ H1 fun l H2=>th σ H2 fun u H3=>r x l u H3 Q
theorem P9(hr:SlR X r)(he:PE X e te)(hl:PO X lo tl)(hu:PO X hi th):PE X (.Subscript e (.Slice lo hi none p2) pos) (tSl r te tl th):=by
 intro pins s σ H Q I h
 refine Subscript_ (thn (he pins s σ H _ I h) fun v s1 zq=>?_)
 obtain⟨x,H1,I1,r1,q1⟩:=zq
 refine wpAny_Slice (thn (hl pins s1 σ H1 _ I1 q1) fun vl s2 ⟨l,H2,I2,pl,q2⟩=>thn (hu pins s2 σ H2 _ I2 q2) fun vu s3 zq=>?_)
 obtain⟨u,H3,I3,pu,q3⟩:=zq
 rw[evalPart_none]
 refine wpAny_pure ?_
 have I4:Inv X pins σ H3 {s3 with heap:=s3.heap.push {cls:=.type "slice",data:=.fields #[vl,vu,.none]}}:=I3.kept (t':=s3.toks) fun b ob q=>Heap.get?_push_of_some _ q
 obtain⟨T,id,hT,ht,hg⟩:=hr pins {s3 with heap:=s3.heap.push {cls:=.type "slice",data:=.fields #[vl,vu,.none]}} σ H3 x v vl vu l u s3.heap.objs.size Q I4 r1 (Heap.IsSliceOf.new ..) pl pu q3
 show wpAny (model X.prog X.w) X.A (subscriptTail e (.Slice lo hi none p2) v (.ref s3.heap.objs.size)) (EP X pins σ Q) X.xe {s3 with heap:=s3.heap.push {cls:=.type "slice",data:=.fields #[vl,vu,.none]}}
 exact tail_any (ops:=[.ref s3.heap.objs.size,v]) ht hT hg (by with_unfolding_all rfl)
def qe7(xs:List V)(lo hi:Option Int):List V:=(xs.drop (HT.sIx xs.length 0 lo)).take (HT.sIx xs.length xs.length hi-HT.sIx xs.length 0 lo)
theorem wy5(xs:List V)(lo hi:Option Int):(qe7 xs lo hi).length<=xs.length:=by
 unfold qe7
 rw[List.length_take,List.length_drop]
 omega
def zx1(K:Fg):V->Option Int->Option Int->Hp->VK->Prop:=fun x lo hi H Q=>∃ a xs,x=.ref a/\SqT K H a xs /\
 ¬(HT.sIx xs.length 0 lo=0/\HT.sIx xs.length xs.length hi=xs.length)/\∀ p,H p=none->Q (.ref p) (upd H p (.tup (qe7 xs lo hi)))
theorem zp9:SlR X (zx1 X.K):=by
 intro pins s σ H x v vl vu lo hi sl Q I rx hs pl pu h
 obtain⟨a,xs,rfl,hx,hw,q⟩:=h
 cases rx
 obtain⟨its,r,ht,hz⟩:=I.tuple hx
 have hlen:its.toArray.size=xs.length:=by rw[List.size_toArray];exact r.length.symm
 refine⟨"tuple",_,PyProof.Rows.slot_tuple_getitem.lookup,ht.typeIs,?_⟩
 refine HT.wo7 ht hs pl pu (by rw[hlen];exact hw) ?_ (by rw[hlen];exact hz)
 rw[hlen]
 refine⟨.ref s.heap.objs.size,_,I.laid (t':=s.toks) (o:=.tup (qe7 xs lo hi)) (fun b ob q=>Heap.get?_push_of_some _ q) (Nat.le_refl _) ?_,rfl,q _ (I.hok.fresh (Nat.le_refl _))⟩
 exact⟨Nat.le_trans (wy5 xs lo hi) hz,_,(r.drop (HT.sIx xs.length 0 lo)).take (HT.sIx xs.length xs.length hi-HT.sIx xs.length 0 lo),IsTup.new _ _⟩
def zm8(K:Fg):R2:=fun x y H Q=>∃ a b xs ys,x=.ref a/\y=.ref b/\SqT K H a xs/\SqT K H b ys/\xs≠[]/\xs.length+ys.length<=sizeLine /\
 (ys=[]->Q (.ref a) H)/\(ys≠[]->∀ p,H p=none->Q (.ref p) (upd H p (.tup (xs++ys))))
theorem G7.nil_iff(r:G7 xs us):us=[]↔xs=[]:=by
 cases r with
 | nil=>simp
 | cons _ _=>simp
theorem zg3:OpR X (binaryOp .Add) (zm8 X.K):=by
 intro pins s σ H x y v u Q I rx ry h
 obtain⟨a,b,xs,ys,rfl,rfl,ha,hb,hx,hz,q1,q2⟩:=h
 cases rx
 cases ry
 obtain⟨its,r1,p1,_⟩:=I.tuple ha
 obtain⟨its2,r2,p2,_⟩:=I.tuple hb
 refine HT.zg2 p1 p2 (fun z=>hx (r1.nil_iff.mp z)) (fun z=>⟨.ref a,H,I,rfl,q1 (r2.nil_iff.mp z)⟩) (fun z=>?_) (by rw[<-r1.length,<-r2.length];exact hz)
 refine⟨.ref s.heap.objs.size,_,I.laid (t':=s.toks) (o:=.tup (xs++ys)) (fun b ob q=>Heap.get?_push_of_some _ q) (Nat.le_refl _) ?_,rfl,q2 (fun w=>z (r2.nil_iff.mpr w)) _ (I.hok.fresh (Nat.le_refl _))⟩
 exact⟨by rw[List.length_append];exact hz,_,r1.append r2,IsTup.new _ _⟩
end
def ixN(n:Nat)(i:Int):Option Nat:=if 0<=i then(if i<n then some i.toNat else none) else if -(n:Int)<=i then some (i+n).toNat else none
def atI{α:Type}(xs:List α)(i:Int):Option α:=(ixN xs.length i).bind fun j=>xs[j]?
theorem yk4{j:Nat}(h:ixN n i=some j):seqIndex? i n=some j/\j<n/\-(n:Int)<=i/\i<n:=by
 unfold ixN at h
 by_cases h0:0<=i
 ·rw[if_pos h0] at h
  by_cases h1:i<n
  ·rw[if_pos h1] at h
   have e:i.toNat=j:=Option.some.inj h
   exact⟨by rw[seqIndex_of h0 h1,e],by omega,by omega,h1⟩
  ·rw[if_neg h1] at h;cases h
 ·rw[if_neg h0] at h
  by_cases h1:-(n:Int)<=i
  ·rw[if_pos h1] at h
   have e:(i+n).toNat=j:=Option.some.inj h
   exact⟨by rw[seqIndex_neg (by omega) h1,e],by omega,h1,by omega⟩
  ·rw[if_neg h1] at h;cases h
theorem xp5{xs:List α}{v:α}(h:atI xs i=some v):∃ j,seqIndex? i xs.length=some j/\xs[j]?=some v/\j<xs.length/\-(xs.length:Int)<=i/\i<xs.length:=by
 unfold atI at h
 cases e:ixN xs.length i with
 | none=>rw[e] at h;cases h
 | some j =>
   rw[e] at h
   obtain⟨h1,h2,h3,h4⟩:=yk4 e
   exact⟨j,h1,h,h2,h3,h4⟩
theorem O2{xs:List α}{j:Nat}{v:α}(h:xs[j]?=some v):atI xs (j:Int)=some v:=by
 have hj:j<xs.length:=(List.getElem?_eq_some_iff.mp h).1
 have e:ixN xs.length (j:Int)=some j:=by
  unfold ixN
  rw[if_pos (by omega),if_pos (by omega)];simp
 unfold atI;rw[e];exact h
theorem yw1(xs:List α)(v:α):atI (xs++[v]) (-1)=some v:=by
 have hl:(xs++[v]).length=xs.length+1:=by simp
 have e:ixN (xs++[v]).length (-1)=some xs.length:=by
  unfold ixN
  rw[hl,if_neg (by decide),if_pos (by omega)]
  congr 1
  omega
 unfold atI
 rw[e]
 show(xs++[v])[xs.length]?=some v
 simp
def zg4(b:Expr):Prop:=∀ o i,subscripted b false o i=operate [o,i] (getItem o i)
def IxR(X:Cx)(r:R2):Prop :=
 ∀ (value slice:Expr) (pins:List (Addr×Obj)) (s:Shared) (σ:St) (H:Hp) (x y:V) (v u:Value) (Q:VK),Inv X pins σ H s->J9 x v->J9 y u->r x y H Q ->
  subscripted slice false v u=operate [v,u] (getItem v u)->wpAny (model X.prog X.w) X.A (subscriptTail value slice v u) (EP X pins σ Q) X.xe s
def MtR(X:Cx)(id:String)(r:V->List V->Hp->VK->Prop):Prop :=
 ∀ (pins:List (Addr×Obj)) (s:Shared) (σ:St) (H:Hp) (x:V) (xs:List V) (v:Value) (us:List Value) (Q:VK),Inv X pins σ H s->J9 x v->G7 xs us->r x xs H Q ->
  wpAny (model X.prog X.w) X.A (call (.builtin id) (v::us)) (EP X pins σ Q) X.xe s
variable{its its':List Value}{p:Addr}{cpos:Pos}
section
variable{a b:Expr}{tb:TE}
theorem IxR.or{r r':R2}(h:IxR X r)(h':IxR X r'):IxR X (fun x y H Q=>r x y H Q\/r' x y H Q):=by
 intro value slice pins s σ H x y v u Q I rx ry q hs
 rcases q with q|q
 ·exact h value slice pins s σ H x y v u Q I rx ry q hs
 ·exact h' value slice pins s σ H x y v u Q I rx ry q hs
theorem D6{r:R2}(hr:IxR X r)(ha:PE X a ta)(hb:PE X b tb)(hs:zg4 b):PE X (.Subscript a b pos) (tOp r ta tb):=by
 intro pins s σ H Q I h
 exact Subscript_ (zp5 ha hb I h fun v u s2 x y H2 I2 rx ry q=>hr a b pins s2 σ H2 x y v u Q I2 rx ry q (hs _ _))
def zx2(K:Fg):R2:=fun x y H Q=>∃ p xs i v,x=.ref p/\y=.int i/\SqL K H p xs/\atI xs i=some v/\Q v H
def zx3(K:Fg):R2:=fun x y H Q=>∃ p xs i v,x=.ref p/\y=.int i/\SqT K H p xs/\atI xs i=some v/\Q v H
def zx4:R2:=fun x y H Q=>∃ z i c,x=.str z/\y=.int i/\z.length<=sizeLine/\atI z.cps.toList i=some c/\Q (.str ⟨#[c]⟩) H
theorem zg5:IxR X (zx2 X.K):=by
 intro value slice pins s σ H x y v u Q I rx ry h hs
 obtain⟨p,xs,i,z,rfl,rfl,hq,he,q⟩:=h
 cases rx
 obtain⟨t,rfl⟩:=ry
 obtain⟨its,r,pl,hz⟩:=I.list hq
 obtain⟨j,h1,h2,h3,h4,h5⟩:=xp5 he
 obtain⟨w,ew,rw'⟩:=r.get h2
 have hl:=r.length
 have hn:=wt1
 have fin:EP X pins σ Q w s:=⟨z,H,I,rw',q⟩
 by_cases h0:0<=i
 ·have hj:i.toNat=j:=by
   rw[seqIndex_of h0 h5] at h1
   exact Option.some.inj h1
  exact item_listR pl.isList h0 (by omega) (by rw[hj];simpa using ew) fin hs
 ·have hj:(i+(its.toArray.size:Int)).toNat=j:=by
   rw[seqIndex_neg (by omega) h4] at h1
   rw[List.size_toArray,<-hl]
   exact Option.some.inj h1
  exact subscriptTail_builtinR (x:=w) pl.isList.typeIs slot_list_getitem.lookup
   (wpAny_getItem_list_neg (Q:=fun r s'=>r=w/\EP X pins σ Q r s') pl.isList (by omega) (by rw[List.size_toArray] <;> omega) (by omega) (by rw[hj];simpa using ew) ⟨rfl,fin⟩) hs
theorem zq0:IxR X (zx3 X.K):=by
 intro value slice pins s σ H x y v u Q I rx ry h hs
 obtain⟨p,xs,i,z,rfl,rfl,hq,he,q⟩:=h
 cases rx
 obtain⟨t,rfl⟩:=ry
 obtain⟨its,r,pl,hz⟩:=I.tuple hq
 obtain⟨j,h1,h2,h3,h4,h5⟩:=xp5 he
 obtain⟨w,ew,rw'⟩:=r.get h2
 have hl:=r.length
 have hn:=wt1
 have fin:EP X pins σ Q w s:=⟨z,H,I,rw',q⟩
 exact subscriptTail_builtinR (x:=w) pl.typeIs slot_tuple_getitem.lookup
  (getItem_tuple (j:=j) (Q:=fun r s'=>r=w/\EP X pins σ Q r s') pl (by omega) (by omega) (by rw[List.size_toArray,<-hl];exact h1) (by simpa using ew) ⟨rfl,fin⟩) hs
theorem zq1:IxR X zx4:=by
 intro value slice pins s σ H x y v u Q I rx ry h hs
 obtain⟨z,i,c,rfl,rfl,hz,he,q⟩:=h
 obtain⟨t,rfl⟩:=rx
 obtain⟨t',rfl⟩:=ry
 obtain⟨j,h1,h2,h3,h4,h5⟩:=xp5 he
 have hl:z.cps.toList.length=z.length:=by simp[Str.length]
 rw[hl] at h1 h4 h5
 have hn:=wt1
 exact tail_any (typeIs_str s z t) slot_str_getitem.lookup (getItem_str (c:=c) (by
  have e1:decide (i < -(2 ^ 63:Int))=false:=decide_eq_false (by omega)
  have e2:decide (i>=2 ^ 63)=false:=decide_eq_false (by omega)
  rw[e1,e2,Bool.or_false]) (by rw[h1];simpa using h2) ⟨.str ⟨#[c]⟩,H,I.tok _,⟨_,rfl⟩,q⟩) hs
def rIx(K:Fg):R2:=fun x y H Q=>zx2 K x y H Q\/zx3 K x y H Q\/zx4 x y H Q
theorem zq2:IxR X (rIx X.K):=zg5.or (zq0.or zq1)
theorem ye9(its:List Value)(n j:Nat)(u:Value):Obj.mapSeq (·.setIfInBounds j u) {cls:=.type "list",data:=.seq its.toArray n}={cls:=.type "list",data:=.seq (its.set j u).toArray n}:=by
 simp[Obj.mapSeq]
theorem Inv.lst{pins:List (Addr×Obj)}{σ:St}{H:Hp}{s:Shared}{p:Addr}{xs:List V}(I:Inv X pins σ H s)(h:H p=some (.lst xs)) :
 ∃ (its:List Value) (n:Nat),G7 xs its/\s.heap.get? p=some {cls:=.type "list",data:=.seq its.toArray n}/\xs.length<=sizeLine:=by
 obtain⟨z,its,n,r,e⟩:=I.hok p _ h
 exact⟨its,n,r,e,z⟩
theorem Inv.lstUpd{n':Nat}{f:Obj->Obj}(I:Inv X pins σ H s)(h:H p=some (.lst xs))(ho:s.heap.get? p=some {cls:=.type "list",data:=.seq its.toArray n})(hf:f {cls:=.type "list",data:=.seq its.toArray n}={cls:=.type "list",data:=.seq its'.toArray n'})(r:G7 ys its')(hz:ys.length<=sizeLine)(t':Nat)(ht:autoParam (0<t') zAt) :
 Inv X pins σ (upd H p (.lst ys)) {s with heap:=s.heap.update p f,toks:=t'}:=by
 have e:(s.heap.update p f).get? p=some {cls:=.type "list",data:=.seq its'.toArray n'}:=by
  rw[Heap.get?_update_self f ho (by rw[hf] <;> rfl),hf]
 refine I.write (x:=p) (e:=p) (by rw[h];trivial) (.inl rfl) (fun b u hb q=>(Heap.get?_update_other _ _ (Ne.symm hb)).trans q) ⟨_,e⟩ ?_
 exact⟨hz,its',n',r,e⟩
def yw2:V->V->V->Hp->(Hp->Prop)->Prop:=fun o i v H Q=>∃ p xs k j,o=.ref p/\i=.int k/\H p=some (.lst xs)/\ixN xs.length k=some j/\Q (upd H p (.lst (xs.set j v)))
theorem yw3:zp4 X yw2:=by
 intro pins s σ H o i v ov iv u Q I ro ri rv h
 obtain⟨p,xs,k,j,rfl,rfl,hp,hj,q⟩:=h
 cases ro
 obtain⟨t,rfl⟩:=ri
 obtain⟨its,n,r,ho,hz⟩:=I.lst hp
 obtain⟨h1,h2,h3,h4⟩:=yk4 hj
 have hl:=r.length
 have hn:=wt1
 have I':Inv X pins σ (upd H p (.lst (xs.set j v))) {s with heap:=s.heap.update p (Obj.mapSeq (·.setIfInBounds j u))} :=
  I.lstUpd hp ho (ye9 its n j u) (r.set rv j) (by rw[List.length_set];exact hz) s.toks
 by_cases h0:0<=k
 ·have hk:k.toNat=j:=by
   rw[seqIndex_of h0 h4] at h1
   exact Option.some.inj h1
  exact PySem.W.ki_setAt ho h0 (by omega) (by rw[List.size_toArray,<-hl];exact h4) (by rw[hk];exact⟨_,I',q⟩)
 ·have hk:(k+(its.toArray.size:Int)).toNat=j:=by
   rw[seqIndex_neg (by omega) h3] at h1
   rw[List.size_toArray,<-hl]
   exact Option.some.inj h1
  exact PySem.W.ki_setBack ho (by omega) (by rw[List.size_toArray,<-hl];exact h3) (by omega) (by rw[hk];exact⟨_,I',q⟩)
theorem qy7(lo hi:Option Int)(n:Nat):(sliceBounds lo hi none n).1=((HT.sIx n 0 lo:Nat):Int)/\(sliceBounds lo hi none n).2.1=((HT.sIx n n hi:Nat):Int)/\(sliceBounds lo hi none n).2.2=1:=by
 refine⟨?_,?_,rfl⟩
 ·cases lo with
  | none=>simp[sliceBounds,HT.sIx]
  | some i =>
    simp only[sliceBounds,HT.sIx,Option.getD_none,show(1:Int) > 0 by decide,if_true]
    by_cases h:i<0
    ·simp only[h,if_true] <;> omega
    ·simp only[h,if_false] <;> omega
 ·cases hi with
  | none=>simp[sliceBounds,HT.sIx]
  | some i =>
    simp only[sliceBounds,HT.sIx,Option.getD_none,show(1:Int) > 0 by decide,if_true]
    by_cases h:i<0
    ·simp only[h,if_true] <;> omega
    ·simp only[h,if_false] <;> omega
theorem xi9(its:List Value)(lo hi:Option Int):slicePick its.toArray lo hi none=((its.drop (HT.sIx its.length 0 lo)).take (HT.sIx its.length its.length hi-HT.sIx its.length 0 lo)).toArray:=by
 obtain⟨h1,h2,h3⟩:=qy7 lo hi its.toArray.size
 unfold slicePick
 rw[h1,h2,h3]
 simp only[sliceRange_one,pick_run,List.size_toArray] <;> rfl
def zx5(K:Fg):V->Option Int->Option Int->Hp->VK->Prop:=fun x lo hi H Q=>∃ a xs,x=.ref a/\SqL K H a xs/\∀ p,H p=none->Q (.ref p) (upd H p (.lst (qe7 xs lo hi)))
theorem zg6:SlR X (zx5 X.K):=by
 intro pins s σ H x v vl vu lo hi sl Q I rx hs pl pu h
 obtain⟨a,xs,rfl,hx,q⟩:=h
 cases rx
 obtain⟨its,r,ht,hz⟩:=I.list hx
 have hlen:=r.length
 refine⟨"list",_,slot_list_getitem.lookup,ht.isList.typeIs,?_⟩
 refine wpAny_getItem_list_slice ht.isList hs pl pu .none (by simp) ?_ (by rw[List.size_toArray] <;> omega)
 rw[xi9,<-hlen]
 refine⟨.ref s.heap.objs.size,_,I.laid (t':=s.toks) (o:=.lst (qe7 xs lo hi)) (fun b ob q=>Heap.get?_push_of_some _ q) (Nat.le_refl _) ?_,rfl,q _ (I.hok.fresh (Nat.le_refl _))⟩
 exact⟨Nat.le_trans (wy5 xs lo hi) hz,_,0,(r.drop (HT.sIx xs.length 0 lo)).take (HT.sIx xs.length xs.length hi-HT.sIx xs.length 0 lo),Heap.get?_push_size _ rfl⟩
def qv8:V->Bool
 | .non=>true
 | .bl _=>true
 | .int _=>true
 | .str _=>true
 | _=>false
def eqV:V->V->Bool
 | .non,.non=>true
 | .bl a,.bl b=>a == b
 | .bl a,.int b=>(if a then 1 else 0) == b
 | .int a,.bl b=>a == (if b then 1 else 0)
 | .int a,.int b=>a == b
 | .str a,.str b=>a == b
 | _,_=>false
theorem zq3{x:V}{v:Value}(ry:J9 y u)(rx:J9 x v)(fy:qv8 y=true)(fx:qv8 x=true):SeqAt.EqAt A s u v (eqV y x):=by
 cases y with
 | non =>
   cases ry
   cases x with
   | non=>cases rx;exact SeqAt.EqAt.same _
   | bl b=>cases rx;exact SeqAt.EqAt.none_bool b
   | int b=>obtain⟨t,rfl⟩:=rx;exact SeqAt.EqAt.none_int b t
   | str b=>obtain⟨t,rfl⟩:=rx;exact SeqAt.EqAt.none_str b t
   | _=>exact absurd (show false=true from fx) Bool.false_ne_true
 | bl a =>
   cases ry
   cases x with
   | non=>cases rx;exact SeqAt.EqAt.bool_none a
   | bl b=>cases rx;exact SeqAt.EqAt.bool_bool a b
   | int b=>obtain⟨t,rfl⟩:=rx;exact SeqAt.EqAt.bool_int a b t
   | str b=>obtain⟨t,rfl⟩:=rx;exact SeqAt.EqAt.bool_str a b t
   | _=>exact absurd (show false=true from fx) Bool.false_ne_true
 | int a =>
   obtain⟨t',rfl⟩:=ry
   cases x with
   | non=>cases rx;exact SeqAt.EqAt.int_none a t'
   | bl b=>cases rx;exact SeqAt.EqAt.int_bool a t' b
   | int b=>obtain⟨t,rfl⟩:=rx;exact SeqAt.EqAt.int_int a t' b t
   | str b=>obtain⟨t,rfl⟩:=rx;exact SeqAt.EqAt.int_str a t' b t
   | _=>exact absurd (show false=true from fx) Bool.false_ne_true
 | str a =>
   obtain⟨t',rfl⟩:=ry
   cases x with
   | non=>cases rx;exact SeqAt.EqAt.str_none a t'
   | bl b=>cases rx;exact SeqAt.EqAt.str_bool a t' b
   | int b=>obtain⟨t,rfl⟩:=rx;exact SeqAt.EqAt.str_int a t' b t
   | str b=>obtain⟨t,rfl⟩:=rx;exact SeqAt.EqAt.str_str a t' b t
   | _=>exact absurd (show false=true from fx) Bool.false_ne_true
 | _=>exact absurd (show false=true from fy) Bool.false_ne_true
def eqU(x:V)(u:Value):Bool:=match u with
 | .none=>eqV .non x
 | .bool b=>eqV (.bl b) x
 | .int i _=>eqV (.int i) x
 | .str z _=>eqV (.str z) x
 | _=>false
theorem yw4{x:V}(r:J9 y u)(f:qv8 y=true):eqU x u=eqV y x:=by
 cases y with
 | non=>cases r;rfl
 | bl b=>cases r;rfl
 | int i=>obtain⟨t,rfl⟩:=r;rfl
 | str z=>obtain⟨t,rfl⟩:=r;rfl
 | _=>exact absurd (show false=true from f) Bool.false_ne_true
theorem wo8{x:V}:∀ {xs:List V} {us:List Value},G7 xs us->xs.all qv8=true->us.any (eqU x)=xs.any fun y=>eqV y x
 | _,_,.nil,_=>rfl
 | y::xs,u::us,.cons r t,f=>by
   rw[List.all_cons,Bool.and_eq_true] at f
   rw[List.any_cons,List.any_cons,yw4 r f.1,wo8 t f.2]
theorem we1{A:Around}{s:Shared}{x:V}{v:Value}(rx:J9 x v)(fx:qv8 x=true):∀ {xs:List V} {us:List Value},G7 xs us->xs.all qv8=true->∀ u∈us,SeqAt.EqAt A s u v (eqU x u)
 | _,_,.nil,_=>fun u hu=>by cases hu
 | y::xs,u::us,.cons r t,f=>fun u' hu=>by
   rw[List.all_cons,Bool.and_eq_true] at f
   rcases List.mem_cons.mp hu with rfl|hu
   ·rw[yw4 r f.1];exact zq3 r rx f.1 fx
   ·exact we1 rx fx t f.2 u' hu
def inV(x:V)(xs:List V):Bool:=xs.any fun y=>eqV y x
def rIn(K:Fg)(neg:Bool):R2:=fun x y H Q=>∃ p xs,y=.ref p/\(SqL K H p xs\/SqT K H p xs)/\qv8 x=true/\xs.all qv8=true/\Q (.bl (if neg then !inV x xs else inV x xs)) H
theorem yq5:OpR X (compareOp .In) (rIn X.K false):=by
 intro pins s σ H x y v u Q I rx ry h
 obtain⟨p,xs,rfl,hq,fx,fs,q⟩:=h
 cases ry
 rcases hq with hq|hq
 ·obtain⟨its,r,pl,hz⟩:=I.list hq
  refine SeqAt.in_listAt (eqU x) pl.isList (fun w hw=>we1 rx fx r fs w (by simpa using hw)) ⟨.bl _,H,I,rfl,?_⟩
  rw[show its.toArray.any (eqU x)=its.any (eqU x) by simp,wo8 r fs]
  exact q
 ·obtain⟨its,r,pl,hz⟩:=I.tuple hq
  refine SeqAt.in_tupleAt (eqU x) pl (fun w hw=>we1 rx fx r fs w (by simpa using hw)) ⟨.bl _,H,I,rfl,?_⟩
  rw[show its.toArray.any (eqU x)=its.any (eqU x) by simp,wo8 r fs]
  exact q
theorem xp6:OpR X (compareOp .NotIn) (rIn X.K true):=by
 intro pins s σ H x y v u Q I rx ry h
 obtain⟨p,xs,rfl,hq,fx,fs,q⟩:=h
 cases ry
 rcases hq with hq|hq
 ·obtain⟨its,r,pl,hz⟩:=I.list hq
  refine SeqAt.notIn_listAt (eqU x) pl.isList (fun w hw=>we1 rx fx r fs w (by simpa using hw)) ⟨.bl _,H,I,rfl,?_⟩
  rw[show its.toArray.any (eqU x)=its.any (eqU x) by simp,wo8 r fs]
  exact q
 ·obtain⟨its,r,pl,hz⟩:=I.tuple hq
  refine SeqAt.notIn_tupleAt (eqU x) pl (fun w hw=>we1 rx fx r fs w (by simpa using hw)) ⟨.bl _,H,I,rfl,?_⟩
  rw[show its.toArray.any (eqU x)=its.any (eqU x) by simp,wo8 r fs]
  exact q
theorem xp7:OpR X (compareOp .NotIn) (fun x y H Q=>∃ i j,x=.str i/\y=.str j/\Q (.bl (!(!(Builtin.Str.occurrences j i 0 j.length 1).isEmpty))) H):=by
 intro pins s σ H x y v u Q I rx ry h
 obtain⟨i,j,rfl,rfl,q⟩:=h
 obtain⟨t,rfl⟩:=rx
 obtain⟨t',rfl⟩:=ry
 exact notIn_str ⟨.bl _,H,I,rfl,q⟩
theorem xp8:qe5 X (.builtin "len") (fun xs H Q=>∃ p ys,xs=[.ref p]/\(SqL X.K H p ys\/SqT X.K H p ys)/\Q (.int ys.length) H):=by
 intro pins s σ H xs us Q I r h
 obtain⟨p,ys,rfl,hq,q⟩:=h
 obtain⟨u,rfl,rx⟩:=qr6 r
 cases rx
 have hn:=wt1
 rcases hq with hq|hq
 ·obtain⟨its,r',pl,hz⟩:=I.list hq
  have hlen:=r'.length
  exact Calls.call_len_list pl.isList (by simp only[List.size_toArray] <;> omega) ⟨.int ys.length,H,I.tok _,⟨s.toks+1,by rw[List.size_toArray,hlen]⟩,q⟩
 ·obtain⟨its,r',pl,hz⟩:=I.tuple hq
  have hlen:=r'.length
  exact len_tuple pl (by simp only[List.size_toArray] <;> omega) ⟨.int ys.length,H,I.tok _,⟨s.toks+1,by rw[List.size_toArray,hlen]⟩,q⟩
theorem xp9:qe5 X (.builtin "len") (fun xs H Q=>∃ z,xs=[.str z]/\z.length<=sizeLine/\Q (.int z.length) H):=by
 intro pins s σ H xs us Q I r h
 obtain⟨z,rfl,hz,q⟩:=h
 obtain⟨u,rfl,t,rfl⟩:=qr6 r
 have hn:=wt1
 exact len_str (by omega) ⟨.int z.length,H,I.tok _,⟨_,rfl⟩,q⟩
theorem qe5.or{f:Value}{r r':List V->Hp->VK->Prop}(h:qe5 X f r)(h':qe5 X f r'):qe5 X f (fun xs H Q=>r xs H Q\/r' xs H Q):=by
 intro pins s σ H xs us Q I rs q
 rcases q with q|q
 ·exact h pins s σ H xs us Q I rs q
 ·exact h' pins s σ H xs us Q I rs q
theorem xq0:qe5 X (.type "list") (fun xs H Q=>∃ p ys,xs=[.ref p]/\(SqL X.K H p ys\/SqT X.K H p ys)/\∀ l,H l=none->Q (.ref l) (upd H l (.lst ys))):=by
 intro pins s σ H xs us Q I r h
 obtain⟨p,ys,rfl,hq,q⟩:=h
 obtain⟨u,rfl,rx⟩:=qr6 r
 cases rx
 have fin:∀ (its:List Value),G7 ys its->ys.length<=sizeLine->∀ (h':Heap) (c':Nat),(∀ b o',s.heap.get? b=some o'->h'.get? b=some o') ->
  h'.get? s.heap.objs.size=some {cls:=.type "list",dict:=none,data:=.seq its.toArray c',slots:=#[]}->EP X pins σ Q (.ref s.heap.objs.size) {s with heap:=h'}:=fun its r' hz h' c' kp e =>
  ⟨.ref s.heap.objs.size,_,I.laid (t':=s.toks) kp (Nat.le_refl _) (show T7 X.prog X.w _ h' _ (.lst ys) from ⟨hz,its,c',r',e⟩),rfl,q _ (I.hok.fresh (Nat.le_refl _))⟩
 rcases hq with hq|hq
 ·obtain⟨its,r',pl,hz⟩:=I.list hq
  have hlen:=r'.length
  obtain⟨o,ho,hc,n,hd⟩:=pl.isList
  exact call_list_seq p (.inl rfl) ho hc hd (fun h' c' kp e=>fin its r' hz h' c' kp e) (by simp only[List.size_toArray] <;> omega)
 ·obtain⟨its,r',pl,hz⟩:=I.tuple hq
  have hlen:=r'.length
  obtain⟨o,ho,hc,n,hd⟩:=pl
  exact call_list_seq p (.inr rfl) ho hc hd (fun h' c' kp e=>fin its r' hz h' c' kp e) (by simp only[List.size_toArray] <;> omega)
theorem xj0:qe5 X (.type "tuple") (fun xs H Q=>∃ p ys,xs=[.ref p]/\((SqL X.K H p ys/\∀ l,H l=none->Q (.ref l) (upd H l (.tup ys)))\/(SqT X.K H p ys/\Q (.ref p) H))):=by
 intro pins s σ H xs us Q I r h
 obtain⟨p,ys,rfl,h⟩:=h
 obtain⟨u,rfl,rx⟩:=qr6 r
 cases rx
 rcases h with⟨hq,q⟩|⟨hq,q⟩
 ·obtain⟨its,r',pl,hz⟩:=I.list hq
  have hlen:=r'.length
  refine call_tuple_list pl.isList (fun h' kp=>?_) (by simp only[List.size_toArray] <;> omega)
  have I1:Inv X pins σ H {s with heap:=h'}:=I.kept (t':=s.toks) kp
  have I2:Inv X pins σ (upd H h'.objs.size (.tup ys)) {s with heap:=h'.push {cls:=.type "tuple",data:=.seq its.toArray}} :=
   I1.laid (t':=s.toks) (fun b o e=>Heap.get?_push_of_some _ e) (Nat.le_refl _) (show T7 X.prog X.w _ _ _ (.tup ys) from ⟨hz,its,r',IsTup.new _ _⟩)
  exact⟨.ref h'.objs.size,_,I2,rfl,q _ (I1.hok.fresh (Nat.le_refl _))⟩
 ·obtain⟨its,r',pl,hz⟩:=I.tuple hq
  exact call_tuple_same pl ⟨.ref p,H,I,rfl,q⟩
def tyV(K:Fg)(T:String)(x:V)(H:Hp):Prop:=match x with
 | .str _=>T = "str"
 | .int _=>T = "int"
 | .ref p=>(T = "list"/\∃ xs,SqL K H p xs)\/(T = "tuple"/\∃ o,K.lookup p=some o/\o.cls=.type "tuple"/\o.dict=none) \/
  (T = "dict"/\((∃ kvs,H p=some (.dK kvs))\/∃ kvs,H p=some (.dT kvs)))\/(T = "set"/\∃ S n,H p=some (.set S n))
 | _=>False
theorem yf0{x:V}{v:Value}(I:Inv X pins σ H s)(r:J9 x v)(ty:tyV X.K T x H) :
 s.TypeIs v T/\∀ a,v=.ref a->∃ ob,s.heap.get? a=some ob/\ob.dict=none:=by
 cases x with
 | str z =>
   obtain⟨t,rfl⟩:=r
   cases (show T = "str" from ty)
   exact⟨typeIs_str s z t,fun _ e=>nomatch e⟩
 | int i =>
   obtain⟨t,rfl⟩:=r
   cases (show T = "int" from ty)
   exact⟨typeIs_int s i t,fun _ e=>nomatch e⟩
 | ref p =>
   cases r
   rcases ty with⟨rfl,xs,hq⟩|⟨rfl,o,hk,hc,hd⟩|⟨rfl,hk⟩|⟨rfl,S,n,hk⟩
   ·obtain⟨its,_,pl,_⟩:=I.list hq
    refine⟨pl.isList.typeIs,fun a e=>?_⟩
    cases e
    obtain⟨o,n,e,c,hd,_⟩:=pl
    exact⟨o,e,hd⟩
   ·refine⟨⟨o,I.kIn p o hk,hc⟩,fun a e=>?_⟩
    cases e
    exact⟨o,I.kIn _ o hk,hd⟩
   ·have z:∃ o,s.heap.get? p=some o/\o.ExactDict:=by
     rcases hk with⟨kvs,hk⟩|⟨kvs,hk⟩
     ·obtain⟨_,_,_,_,o,_,_,e,ex,_⟩:=I.hok p _ hk
      exact⟨o,e,ex⟩
     ·obtain⟨_,_,_,_,o,_,_,e,ex,_⟩:=I.hok p _ hk
      exact⟨o,e,ex⟩
    obtain⟨o,e,ex⟩:=z
    refine⟨⟨o,e,ex.1⟩,fun a e2=>?_⟩
    cases e2
    exact⟨o,e,ex.2.1⟩
   ·obtain⟨o,_,_,_,e,ex,_⟩:=I.hok p _ hk
    refine⟨⟨o,e,ex.1⟩,fun a e2=>?_⟩
    cases e2
    exact⟨o,e,ex.2.1⟩
 | _=>exact False.elim ty
def zg7(K:Fg)(T:String)(r:V->List V->Hp->VK->Prop)(to:TE):TE:=fun σ H Q=>to σ H fun x H1=>tyV K T x H1/\r x [] H1 Q
def tBM(K:Fg)(T:String)(r:V->List V->Hp->VK->Prop)(to:TE)(t:TA):TE:=fun σ H Q=>to σ H fun x H1=>tyV K T x H1/\t σ H1 fun xs H2=>r x xs H2 Q
variable{o:Expr}{id:String}{r:V->List V->Hp->VK->Prop}
theorem yw5(pa:PlainAttrs T)(slot:Slot T name id)(hty:typeOf (.builtin id)=pure (.type "method_descriptor"))(hm:MtR X id r)(ho:PE X o to)(hbase:autoParam (attributeBase o name X.env (eval o X.env)=eval o X.env) zAr)(hline:autoParam ((apos.endLine == cpos.line)=true) zAr):PE X (.Call (.Attribute o name apos) [] [] cpos) (zg7 X.K T r to):=by
 intro pins s σ H Q I h
 refine wpAny_Call_method0_late hbase hline (thn (ho pins s σ H _ I h) fun v s1 zq=>?_)
 obtain⟨x,H1,I1,r1,ty,q1⟩:=zq
 obtain⟨h1,h2⟩:=yf0 I1 r1 ty
 exact⟨T,id,pa,slot,hty,h1,h2,Calls.callWith_builtin rfl (PySem.evalArgs_none (hm pins s1 σ H1 x [] v [] Q I1 r1 .nil q1))⟩
theorem N8(pa:PlainAttrs T)(slot:Slot T name id)(hty:typeOf (.builtin id)=pure (.type "method_descriptor"))(hm:MtR X id r)(ho:PE X o to)(ha:PA X (e::es) t)(hbase:autoParam (attributeBase o name X.env (eval o X.env)=eval o X.env) zAr) (hfew:((backTo cpos (starEach (e::es) X.env)).all (fun x=>!x.1) && (backToKw cpos (keywordEach [] X.env)).all (fun x=>x.1.isSome)
  && decide ((e::es).length+([]:List Keyword).length+(if([]:List Keyword).isEmpty then 0 else 1)<30))=true:=by rfl) (hline:autoParam ((apos.endLine == cpos.line)=true) zAr) (hs:autoParam (starEach (e::es) X.env=(false,eval e X.env)::starEach es X.env) zAr) (hplain:autoParam ((backTo cpos (starEach es X.env)).any (·.1)=false) zAr) :
 PE X (.Call (.Attribute o name apos) (e::es) [] cpos) (tBM X.K T r to t):=by
 intro pins s σ H Q I h
 refine wpAny_Call_method_late hbase hfew hline rfl (thn (ho pins s σ H _ I h) fun v s1 zq=>?_)
 obtain⟨x,H1,I1,r1,ty,q1⟩:=zq
 obtain⟨h1,h2⟩:=yf0 I1 r1 ty
 refine⟨T,id,pa,slot,hty,h1,h2,?_⟩
 have hA:=ha cpos pins s1 σ H1 _ I1 q1
 rw[hs] at hA ⊢
 refine Calls.callWith_builtin (by show(false || (backTo cpos (starEach es X.env)).any (·.1))=false;rw[hplain] <;> rfl) (Calls.evalArgs_plain ?_)
 exact thn hA fun us s2 ⟨vs,H2,I2,r2,q2⟩=>hm pins s2 σ H2 x vs v us Q I2 r1 r2 q2
end
def MtM(X:Cx)(id:String)(r:V->List V->Hp->VK->Prop):Prop :=
 ∀ (pins:List (Addr×Obj)) (s:Shared) (σ:St) (H:Hp) (x:V) (xs:List V) (v:Value) (us:List Value) (Q:VK),Inv X pins σ H s->J9 x v->G7 xs us->r x xs H Q ->
  wpAny (model X.prog X.w) X.A (call (.builtin id) (v::us)) (EP X pins σ Q) X.xe s
theorem G7.one{x:V}(r:G7 [x] us):∃ u,us=[u]/\J9 x u:=qr6 r
theorem G7.zero:∀ {us:List Value},G7 [] us->us=[]
 | _,.nil=>rfl
theorem G7.dropLast{xs:List V}{us:List Value}(h:G7 xs us):G7 xs.dropLast us.dropLast:=by
 induction h with
 | nil=>exact .nil
 | cons r t ih =>
   cases t with
   | nil=>exact .nil
   | cons q t'=>exact .cons r ih
theorem G7.rep{xs:List V}{us:List Value}(h:G7 xs us):∀ k:Nat,G7 (List.replicate k xs).flatten (List.replicate k us).flatten
 | 0=>.nil
 | k+1=>by
   rw[List.replicate_succ,List.replicate_succ,List.flatten_cons,List.flatten_cons]
   exact G7.append h (G7.rep h k)
theorem yf1(l:List α):l.eraseIdx (l.length-1)=l.dropLast:=by
 induction l with
 | nil=>rfl
 | cons a r ih =>
   cases r with
   | nil=>rfl
   | cons b r =>
     have e:(a::b::r).length-1=((b::r).length-1)+1:=by
      have h1:(a::b::r).length=r.length+2:=rfl
      have h2:(b::r).length=r.length+1:=rfl
      omega
     rw[e,List.eraseIdx_cons_succ,ih]
     all_goals rfl
theorem xm3(its:List Value):∀ (k:Nat) (acc:List Value),
 List.foldl (fun x1 x2=>x1++x2) acc.toArray (List.replicate k its.toArray)=(acc++(List.replicate k its).flatten).toArray
 | 0,acc=>by simp
 | k+1,acc=>by
   have e:acc.toArray++its.toArray=(acc++its).toArray:=by simp
   have e2:(acc++its)++(List.replicate k its).flatten=acc++(List.replicate (k+1) its).flatten:=by
    rw[List.replicate_succ,List.flatten_cons,List.append_assoc]
   rw[<-e2,<-xm3 its k (acc++its),<-e,List.replicate_succ,List.foldl_cons]
variable{l:Addr}{zs:List V}
theorem Inv.lset{f:Array Value->Array Value}(I:Inv X pins σ H s)(hH:H l=some (.lst xs))(e:s.heap.get? l=some {cls:=.type "list",data:=.seq its.toArray n})(hf:f its.toArray=its'.toArray)(hv:G7 ys its')(hz:ys.length<=sizeLine)(ht:autoParam (0<t') zAt) :
 Inv X pins σ (upd H l (.lst ys)) {s with heap:=s.heap.update l (Obj.mapSeq f),toks:=t'}:=by
 have q:=PySem.IsL.update e f
 rw[hf] at q
 refine I.write (x:=l) (e:=l) (by rw[hH];exact trivial) (.inl rfl) (fun b' u hb hu=>(Heap.get?_update_other s.heap (Obj.mapSeq f) (Ne.symm hb)).trans hu) ⟨_,q⟩ ?_
 exact⟨hz,its',_,hv,q⟩
theorem Inv.lnew(I:Inv X pins σ H s)(hv:G7 ys its)(hz:ys.length<=sizeLine)(ht:autoParam (0<t') zAt) :
 Inv X pins σ (upd H s.heap.objs.size (.lst ys)) {s with heap:=s.heap.push {cls:=.type "list",data:=.seq its.toArray},toks:=t'} :=
 I.laid (fun _ _ q=>Heap.get?_push_of_some _ q) (Nat.le_refl _) ⟨hz,its,0,hv,Heap.get?_push_size _ rfl⟩
theorem Inv.fresh(I:Inv X pins σ H s):H s.heap.objs.size=none:=I.hok.fresh (Nat.le_refl _)
theorem Inv.lstM(I:Inv X pins σ H s)(hH:H l=some (.lst xs)):xs.length<=sizeLine/\∃ (its:List Value) (n:Nat),G7 xs its/\xs.length=its.length/\s.heap.get? l=some {cls:=.type "list",data:=.seq its.toArray n}:=by
 obtain⟨z,its,n,r,e⟩:=I.hok l _ hH
 exact⟨z,its,n,r,r.length,e⟩
theorem xw4(h:n<=sizeLine):Builtin.List.listTooLong n=false:=by
 unfold Builtin.List.listTooLong
 exact decide_eq_false (by omega)
def I9:V->List V->Hp->VK->Prop:=fun x vs H Q=>∃ l xs y,x=.ref l/\vs=[y]/\H l=some (.lst xs)/\xs.length<sizeLine/\Q .non (upd H l (.lst (xs++[y])))
theorem D9:MtM X "list.append" I9:=by
 intro pins s σ H x vs v us Q I rx rv h
 obtain⟨l,xs,y,rfl,rfl,hH,hz,q⟩:=h
 cases rx
 obtain⟨u,rfl,ru⟩:=rv.one
 obtain⟨z,its,n,r,hl,e⟩:=I.lstM hH
 refine call_meets F.slot_list_append ⟨_,e,rfl⟩ F.entry_list_append (F.args_list_append_2 _ _) (PySem.list_append l its.toArray n u (by rw[List.size_toArray];omega)) ⟨e,?_⟩
 refine⟨.non,_,I.lset (its':=its++[u]) hH e (by simp) (r.append (.cons ru .nil)) ?_,rfl,q⟩
 rw[List.length_append,List.length_singleton]
 omega
def xb6:V->List V->Hp->VK->Prop:=fun x vs H Q=>∃ l b xs zs,x=.ref l/\vs=[.ref b]/\H l=some (.lst xs)/\H b=some (.lst zs)/\xs.length+zs.length<=sizeLine/\Q .non (upd H l (.lst (xs++zs)))
theorem xm4:MtM X "list.extend" xb6:=by
 intro pins s σ H x vs v us Q I rx rv h
 obtain⟨l,b,xs,zs,rfl,rfl,hH,hB,hz,q⟩:=h
 cases rx
 obtain⟨u,rfl,ru⟩:=rv.one
 cases ru
 obtain⟨z,its,n,r,hl,e⟩:=I.lstM hH
 obtain⟨z2,its2,n2,r2,hl2,e2⟩:=I.lstM hB
 have hsz:its.toArray.size+its2.toArray.size<=sizeLine:=by rw[List.size_toArray,List.size_toArray];omega
 have hlong:¬(!its.toArray.isEmpty && Builtin.List.listTooLong (its.toArray.size+its2.toArray.size))=true:=by
  rw[xw4 hsz,Bool.and_false]
  exact Bool.false_ne_true
 refine call_meets F.slot_list_extend ⟨_,e,rfl⟩ F.entry_list_extend (F.args_list_extend_2 _ _)
  (AutoSeq1.list_extend_list_list_0 l its.toArray n b its2.toArray n2 hlong (by rw[List.size_toArray];omega) (by omega)) ⟨e,e2,?_⟩
 refine⟨.non,_,I.lset (its':=its++its2) hH e (by simp) (r.append r2) ?_,rfl,q⟩
 rw[List.length_append]
 omega
def zg8:V->List V->Hp->VK->Prop:=fun x vs H Q=>∃ l xs y,x=.ref l/\vs=[]/\H l=some (.lst xs)/\xs[xs.length-1]?=some y/\Q y (upd H l (.lst xs.dropLast))
theorem yw6:MtM X "list.pop" zg8:=by
 intro pins s σ H x vs v us Q I rx rv h
 obtain⟨l,xs,y,rfl,rfl,hH,hy,q⟩:=h
 cases rx
 have hus:=rv.zero
 subst hus
 obtain⟨z,its,n,r,hl,e⟩:=I.lstM hH
 obtain⟨u,hu,ru⟩:=r.get hy
 have hy':its.toArray[its.toArray.size-1]?=some u:=by
  show its.toArray[its.length-1]?=some u
  rw[<-Array.getElem?_toList,<-hl]
  exact hu
 refine call_meets F.slot_list_pop ⟨_,e,rfl⟩ F.entry_list_pop (F.args_list_pop_1 _) (MeetsSeq.list_pop_last l its.toArray n u hy' (by rw[List.size_toArray];omega)) ⟨e,?_⟩
 refine⟨y,_,I.lset (its':=its.dropLast) hH e ?_ r.dropLast ?_,ru,q⟩
 ·show its.toArray.eraseIdxIfInBounds (its.toArray.size-1)=its.dropLast.toArray
  rw[List.size_toArray,List.eraseIdxIfInBounds_toArray,yf1]
 ·rw[List.length_dropLast]
  omega
def zx6:R2:=fun x y H Q=>∃ l b xs zs,x=.ref l/\y=.ref b/\H l=some (.lst xs)/\H b=some (.lst zs)/\xs.length+zs.length<=sizeLine/\∀ p,H p=none->Q (.ref p) (upd H p (.lst (xs++zs)))
theorem zq4:OpR X (binaryOp .Add) zx6:=by
 intro pins s σ H x y v u Q I rx ry h
 obtain⟨l,b,xs,zs,rfl,rfl,hH,hB,hz,q⟩:=h
 cases rx
 cases ry
 obtain⟨z,its,n,r,hl,e⟩:=I.lstM hH
 obtain⟨z2,its2,n2,r2,hl2,e2⟩:=I.lstM hB
 refine PySem.P.add_list e e2 ?_ (by rw[List.size_toArray,List.size_toArray];omega)
 have ea:its.toArray++its2.toArray=(its++its2).toArray:=by simp
 rw[ea]
 exact⟨.ref _,_,I.lnew (t':=s.toks) (r.append r2) (by rw[List.length_append];omega),rfl,q _ I.fresh⟩
def zx7:R2:=fun x y H Q=>∃ l k xs,x=.ref l/\y=.int k/\H l=some (.lst xs)/\-(2 ^ 63)<=k/\k<2 ^ 63/\xs.length*k.toNat<=sizeLine /\
 ∀ p,H p=none->Q (.ref p) (upd H p (.lst (List.replicate k.toNat xs).flatten))
theorem zg9(xs:List α)(k:Nat):(List.replicate k xs).flatten.length=k*xs.length:=by
 induction k with
 | zero=>simp
 | succ k ih=>rw[List.replicate_succ,List.flatten_cons,List.length_append,ih,Nat.succ_mul,Nat.add_comm]
theorem zq5:OpR X (binaryOp .Mult) zx7:=by
 intro pins s σ H x y v u Q I rx ry h
 obtain⟨l,k,xs,rfl,rfl,hH,h1,h2,hz,q⟩:=h
 cases rx
 obtain⟨t,rfl⟩:=ry
 obtain⟨z,its,n,r,hl,e⟩:=I.lstM hH
 have hlen:its.toArray.size*k.toNat<=sizeLine:=by rw[List.size_toArray,<-hl];exact hz
 have hcap:¬its.toArray.size*k.toNat > (2 ^ 63-1) / 8:=by
  have:(sizeLine:Nat)<=(2 ^ 63-1) / 8:=by decide
  omega
 have hfit:¬(!Builtin.List.listFitsIndex k)=true:=by
  rw[fitsIndex_both h1 h2]
  exact Bool.false_ne_true
 have hlong:¬Builtin.List.listTooLong (its.toArray.size*k.toNat)=true:=by
  rw[xw4 hlen]
  exact Bool.false_ne_true
 have hnew:List.foldl (fun x1 x2=>x1++x2) #[] (List.replicate (if its.toArray.isEmpty=true then 0 else k.toNat) its.toArray)=(List.replicate k.toNat its).flatten.toArray:=by
  have f0:∀ m:Nat,List.foldl (fun x1 x2=>x1++x2) #[] (List.replicate m its.toArray)=(List.replicate m its).flatten.toArray:=fun m=>by
   have:=xm3 its m []
   rw[List.nil_append] at this
   exact this
  rw[f0]
  cases its with
  | nil=>simp
  | cons a r'=>rw[if_neg (by simp)]
 refine wpAny_binaryOp_repeat_ref (T := "list") (U := "int") (by decide) ⟨_,e,rfl⟩ (fun s'=>typeIs_int s' k t) noFill_list_mul F.fills_int_mul F.slot_int_rmul repeat_list F.slot_int_index.lookup
  (call_meets F.slot_int_rmul (typeIs_int s k t) F.entry_int_rmul (F.args_int_rmul_2 _ _) (int___rmul___int_list k t l its.toArray n)
   ⟨e,rfl,⟨_,e,rfl⟩,call_meets F.slot_list_mul ⟨_,e,rfl⟩ F.entry_list_mul (F.args_list_mul_2 _ _) (AutoListH.list___mul___list_int_3 l its.toArray n k t hfit hcap hlong) ⟨e,?_⟩⟩)
 rw[hnew]
 exact⟨.ref _,_,I.lnew (t':=s.toks) (r.rep k.toNat) (by rw[zg9,Nat.mul_comm];exact hz),rfl,q _ I.fresh⟩
variable{κ:Type}
section
variable[DecidableEq κ]
def xd0(kvs:List (κ×V))(k:κ):Option V:=(kvs.find? fun kv=>decide (kv.1=k)).map (·.2)
def xj1(kvs:List (κ×V))(k:κ)(v:V):List (κ×V) :=
 if(kvs.any fun kv=>decide (kv.1=k))=true then kvs.map (fun kv=>if kv.1=k then(kv.1,v) else kv) else kvs++[(k,v)]
theorem zx8{k:κ}:xd0 ([]:List (κ×V)) k=none:=rfl
theorem xd1{p:κ×V}{r:List (κ×V)}{k:κ}(e:p.1=k):xd0 (p::r) k=some p.2:=by simp[xd0,List.find?_cons,e]
theorem xd2{p:κ×V}{r:List (κ×V)}{k:κ}(e:¬p.1=k):xd0 (p::r) k=xd0 r k:=by simp[xd0,List.find?_cons,e]
theorem xw5(k:κ):∀ kvs:List (κ×V),(kvs.any fun kv=>decide (kv.1=k))=(xd0 kvs k).isSome
 | []=>rfl
 | p::r=>by
   rw[List.any_cons]
   by_cases e:p.1=k
   ·simp only[xd1 e,decide_eq_true e,Bool.true_or,Option.isSome_some]
   ·rw[xd2 e,decide_eq_false e,Bool.false_or];exact xw5 k r
theorem wy6(kvs:List (κ×V))(k:κ)(v:V):(xj1 kvs k v).length<=kvs.length+1:=by
 unfold xj1
 split
 ·rw[List.length_map];omega
 ·rw[List.length_append,List.length_cons,List.length_nil];omega
theorem wo3.isSome_eq{o:Option V}{u:Option Value}(r:wo3 o u):o.isSome=u.isSome:=by
 cases o with
 | none=>cases u with
   | none=>rfl
   | some _=>exact(show False from r).elim
 | some _=>cases u with
   | none=>exact(show False from r).elim
   | some _=>rfl
theorem KV.val{kvs:List (κ×V)}{vs:List (κ×Value)}(r:KV kvs vs)(k:κ):wo3 (xd0 kvs k) (valueAt vs k):=by
 unfold KV at r
 induction r with
 | nil=>exact True.intro
 | @cons p q ps qs h t ih =>
   obtain⟨h1,h2⟩:=h
   by_cases e:p.1=k
   ·have e':q.1=k:=h1.symm.trans e
    have b:valueAt (q::qs) k=some q.2:=by simp[valueAt,List.find?_cons,e']
    rw[xd1 e,b];exact h2
   ·have e':¬q.1=k:=fun z=>e (h1.trans z)
    have b:valueAt (q::qs) k=valueAt qs k:=by simp[valueAt,List.find?_cons,e']
    rw[xd2 e,b];exact ih
theorem KV.any{kvs:List (κ×V)}{vs:List (κ×Value)}(r:KV kvs vs)(k:κ):(kvs.any fun kv=>decide (kv.1=k))=vs.any fun kv=>decide (kv.1=k):=by
 unfold KV at r
 induction r with
 | nil=>rfl
 | cons h t ih=>rw[List.any_cons,List.any_cons,ih,h.1]
theorem KV.repl{kvs:List (κ×V)}{vs:List (κ×Value)}(r:KV kvs vs)(k:κ)(ry:J9 y u) :
 KV (kvs.map fun kv=>if kv.1=k then(kv.1,y) else kv) (vs.map fun kv=>if kv.1=k then(kv.1,u) else kv):=by
 unfold KV at r ⊢
 induction r with
 | nil=>exact .nil
 | @cons p q ps qs h t ih =>
   rw[List.map_cons,List.map_cons]
   refine .cons ?_ ih
   obtain⟨h1,h2⟩:=h
   by_cases e:p.1=k
   ·rw[if_pos e,if_pos (h1.symm.trans e)];exact⟨h1,ry⟩
   ·rw[if_neg e,if_neg (fun z=>e (h1.trans z))];exact⟨h1,h2⟩
theorem KV.put{kvs:List (κ×V)}{vs:List (κ×Value)}(r:KV kvs vs)(k:κ)(ry:J9 y u):KV (xj1 kvs k y) (stored vs k u):=by
 unfold xj1 stored
 rw[r.any k]
 by_cases e:(vs.any fun kv=>decide (kv.1=k))=true
 ·rw[if_pos e,if_pos e];exact r.repl k ry
 ·rw[if_neg e,if_neg e];exact Paired.snoc r ⟨rfl,ry⟩
theorem KV.length{kvs:List (κ×V)}{vs:List (κ×Value)}(r:KV kvs vs):kvs.length=vs.length:=Paired.length r
end
theorem yk5{k:Key}(r:J9 (kV k) u):(X9 P w).is k u=true:=by
 cases k with
 | inl i=>obtain⟨t,e⟩:=(show ∃ t,u=Value.int i t from r);subst e;exact xv3 P w i t
 | inr x=>obtain⟨t,e⟩:=(show ∃ t,u=Value.str x t from r);subst e;exact xv4 P w x t
theorem xm5{P:Program}{w:World}:∀ {ks:List Key} {us:List Value},G7 (ks.map kV) us->ItemsAre (X9 P w) ks us
 | [],_,r=>by rw[List.map_nil] at r;cases r;exact .nil
 | k::ks,_,r=>by
   rw[List.map_cons] at r
   cases r with
   | cons h t=>exact .cons (yk5 h) (xm5 t)
abbrev KT(H:Hp):List (List Key×V)->List (List Key×Addr×Value)->Prop:=Paired fun p q=>p.1=q.1/\H q.2.1=some (.tup (p.1.map kV))/\J9 p.2 q.2.2
variable{kvs:List (List Key×V)}
theorem KT.val{xs:List (List Key×Addr×Value)}(r:KT H kvs xs)(k:List Key):wo3 (xd0 kvs k) ((atKey xs k).map (·.2)):=by
 induction r with
 | nil=>exact True.intro
 | @cons p q ps qs h t ih =>
   obtain⟨h1,_,h2⟩:=h
   by_cases e:p.1=k
   ·have e':q.1=k:=h1.symm.trans e
    have b:atKey (q::qs) k=some q.2:=by simp[atKey,List.find?_cons,e']
    rw[xd1 e,b];exact h2
   ·have e':¬q.1=k:=fun z=>e (h1.trans z)
    have b:atKey (q::qs) k=atKey qs k:=by simp[atKey,List.find?_cons,e']
    rw[xd2 e,b];exact ih
theorem KT.repl{xs:List (List Key×Addr×Value)}(r:KT H kvs xs)(k:List Key)(ry:J9 y u) :
 KT H (kvs.map fun kv=>if kv.1=k then(kv.1,y) else kv) (xs.map (putAt k u)):=by
 induction r with
 | nil=>exact .nil
 | @cons p q ps qs h t ih =>
   rw[List.map_cons,List.map_cons]
   refine .cons ?_ ih
   obtain⟨h1,h2,h3⟩:=h
   unfold putAt
   by_cases e:p.1=k
   ·rw[if_pos e,if_pos (h1.symm.trans e)];exact⟨h1,h2,ry⟩
   ·rw[if_neg e,if_neg (fun z=>e (h1.trans z))];exact⟨h1,h2,h3⟩
theorem KT.put{xs:List (List Key×Addr×Value)}(r:KT H kvs xs)(k:List Key)(hb:H b=some (.tup (k.map kV)))(ry:J9 y u) :
 KT H (xj1 kvs k y) (storedH xs k b u):=by
 have e:(kvs.any fun kv=>decide (kv.1=k))=(atKey xs k).isSome:=by
  rw[xw5,(r.val k).isSome_eq,Option.isSome_map]
 unfold xj1 storedH
 rw[e]
 by_cases q:(atKey xs k).isSome=true
 ·rw[if_pos q,if_pos q];exact r.repl k ry
 ·rw[if_neg q,if_neg q];exact Paired.snoc r ⟨rfl,hb,ry⟩
theorem KT.keeps{xs:List (List Key×Addr×Value)}(r:KT H kvs xs)(ht:∀ b ys,H b=some (.tup ys)->H' b=some (.tup ys)):KT H' kvs xs :=
 Paired.mapP r fun _ _ z=>⟨z.1,ht _ _ z.2.1,z.2.2⟩
theorem zm9{u:HO}(ok:HOk P w H h)(e:Rd H a u):T7 P w H h a u:=e.ok ok
theorem yk6{kvs:List (Key×V)}(ok:HOk P w H h)(e:Rd H a (.dK kvs)):kvs.length<=sizeLine/\(a == sysModules)=false/\∃ vs,KV kvs vs/\h.DictOf (X9 P w) a vs :=
 show T7 P w H h a (.dK kvs) from zm9 ok e
theorem zx9{kvs:List (Key×V)}(ok:HOk P w H h)(e:H a=some (.dK kvs)):kvs.length<=sizeLine/\(a == sysModules)=false/\∃ vs,KV kvs vs/\h.DictOf (X9 P w) a vs:=yk6 ok (.inl e)
theorem xq1{ks:List Key}(ok:HOk P w H h)(e:H a=some (.tup (ks.map kV))):(tupleKind (X9 P w)).is h ks a:=by
 obtain⟨_,its,r,o,h1,h2,n,h3⟩:=(show T7 P w H h a (.tup (ks.map kV)) from ok a _ e)
 exact⟨o,its.toArray,n,h1,h2,h3,by simpa using xm5 r⟩
theorem yw7(ok:HOk P w H h)(e:Rd H a (.dT kvs)):kvs.length<=sizeLine/\(a == sysModules)=false /\
 ∃ xs,KT H kvs xs/\h.DictOfH (tupleKind (X9 P w)) a xs:=by
 obtain⟨z,y,xs,r,o,es,ep,h1,h2,h3,h4,h5⟩:=(show T7 P w H h a (.dT kvs) from zm9 ok e)
 refine⟨z,y,xs,r,o,es,ep,h1,h2,h3,h4,fun x hx=>?_,h5⟩
 have all:∀ {l:List (List Key×V)} {m:List (List Key×Addr×Value)},KT H l m->∀ x∈m,(tupleKind (X9 P w)).is h x.1 x.2.1:=by
  intro l m q
  induction q with
  | nil=>intro x hx;exact nomatch hx
  | @cons p q ps qs hq t ih =>
    intro x hx
    rcases List.mem_cons.mp hx with e|hx
    ·subst e
     exact xq1 ok (by rw[<-hq.1];exact hq.2.1)
    ·exact ih x hx
 exact all r x hx
theorem zy0(ok:HOk P w H h)(e:H a=some (.dT kvs)):kvs.length<=sizeLine/\(a == sysModules)=false /\
 ∃ xs,KT H kvs xs/\h.DictOfH (tupleKind (X9 P w)) a xs:=yw7 ok (.inl e)
def zq6(H:Hp)(a:Addr)(y:V)(r:Option V):Prop :=
 (∃ kvs k,Rd H a (.dK kvs)/\y=kV k/\r=xd0 kvs k)\/∃ kvs k b,Rd H a (.dT kvs)/\y=.ref b/\H b=some (.tup (k.map kV))/\r=xd0 kvs k
def zy1(H:Hp)(a:Addr)(y v:V)(H':Hp):Prop :=
 (∃ kvs k,H a=some (.dK kvs)/\y=kV k/\kvs.length<sizeLine/\H'=upd H a (.dK (xj1 kvs k v))) \/
 ∃ kvs k b,H a=some (.dT kvs)/\y=.ref b/\H b=some (.tup (k.map kV))/\kvs.length<sizeLine/\H'=upd H a (.dT (xj1 kvs k v))
section
variable{r:Value}{o:Option V}
theorem Ac0(hu:A.units+1<cLine)(I:Inv X pins σ H s)(g:zq6 H a y o)(ry:J9 y u)(h:∀ s',Inv X pins σ H s'->Q (.bool o.isSome) s') :
 wpAny (model X.prog X.w) A (compareOp .In u (.ref a)) Q E s:=by
 rcases g with⟨kvs,k,e,ey,l⟩|⟨kvs,k,b,e,ey,eb,l⟩
 ·subst ey
  obtain⟨z,hd,vs,rel,dd⟩:=yk6 I.hok e
  refine wpAny_in_of (yk5 ry) hd dd.mapOf ?_
  rw[<-(rel.val k).isSome_eq,<-l]
  exact h _ (I.tok _)
 ·subst ey
  cases (show u=Value.ref b from ry)
  obtain⟨z,hd,xs,rel,dd⟩:=yw7 I.hok e
  refine wpAny_in_heap (tupleKind_room_in1 hu) (xq1 I.hok eb) hd dd ?_
  have q:=(rel.val k).isSome_eq
  rw[Option.isSome_map] at q
  rw[<-q,<-l]
  exact h _ (I.tok _)
theorem zh0(hu:A.units+1<cLine)(I:Inv X pins σ H s)(g:zq6 H a y o)(ry:J9 y u)(h:∀ s',Inv X pins σ H s'->Q (.bool (!o.isSome)) s') :
 wpAny (model X.prog X.w) A (compareOp .NotIn u (.ref a)) Q E s:=by
 rcases g with⟨kvs,k,e,ey,l⟩|⟨kvs,k,b,e,ey,eb,l⟩
 ·subst ey
  obtain⟨z,hd,vs,rel,dd⟩:=yk6 I.hok e
  refine wpAny_notIn_of (yk5 ry) hd dd.mapOf ?_
  rw[<-(rel.val k).isSome_eq,<-l]
  exact h _ (I.tok _)
 ·subst ey
  cases (show u=Value.ref b from ry)
  obtain⟨z,hd,xs,rel,dd⟩:=yw7 I.hok e
  refine wpAny_notIn_heap (tupleKind_room_in1 hu) (xq1 I.hok eb) hd dd ?_
  have q:=(rel.val k).isSome_eq
  rw[Option.isSome_map] at q
  rw[<-q,<-l]
  exact h _ (I.tok _)
theorem yk7{ob:HO}(I:Inv X pins σ H s)(mu:Mut (H a))(hs:Heap.SameBut a s.heap h')(he:∃ q,h'.get? a=some q)(new:T7 X.prog X.w (upd H a ob) h' a ob)(ht:autoParam (0<t') zAt) :
 Inv X pins σ (upd H a ob) {s with heap:=h',toks:=t'} :=
 I.write (x:=a) (e:=a) mu (.inl rfl) (fun b q hb z=>(hs.2 b hb).trans z) he new
theorem zq7{kvs:List (Key×V)}{vs:List (Key×Value)}(z:kvs.length<=sizeLine)(hd:(a == sysModules)=false)(rel:KV kvs vs)(dd:h'.DictOf (X9 P w) a vs) :
 T7 P w H' h' a (.dK kvs):=⟨z,hd,vs,rel,dd⟩
theorem yq6{Q:Unit->Shared->Prop}(hu:A.units+1<cLine)(I:Inv X pins σ H s)(g:zy1 H a y v H')(ry:J9 y u)(rv:J9 v r)(h:∀ s',Inv X pins σ H' s'->Q () s') :
 wpAny (model X.prog X.w) A (setItem (.ref a) u r) Q E s:=by
 rcases g with⟨kvs,k,e,ey,l,eH⟩|⟨kvs,k,b,e,ey,eb,l,eH⟩
 ·subst ey eH
  obtain⟨z,hd,vs,rel,dd⟩:=zx9 I.hok e
  have hz:vs.length<=sizeLine:=by rw[<-rel.length];exact z
  have hl:(xj1 kvs k v).length<=sizeLine:=by have:=wy6 kvs k v;omega
  refine wpAny_setItem_pairs (hsz:=hz) (yk5 ry) dd fun h' dd' hs=>h _ ?_
  have he:∃ q,h'.get? a=some q:=let ⟨q,_,_,hq,_⟩:=dd';⟨q,hq⟩
  exact yk7 I (by rw[e];exact True.intro) hs he (zq7 hl hd (rel.put k rv) dd')
 ·subst ey eH
  cases (show u=Value.ref b from ry)
  obtain⟨z,hd,xs,rel,dd⟩:=zy0 I.hok e
  have hz:xs.length<=sizeLine:=by rw[<-Paired.length rel];exact z
  have hl:(xj1 kvs k v).length<=sizeLine:=by have:=wy6 kvs k v;omega
  refine wpAny_setItem_heap (hsz:=hz) (tupleKind_room_in1 hu) (xq1 I.hok eb) dd fun h' dd' hs=>h _ ?_
  obtain⟨q,es,ep,hq,h2,h3,h4,_,h5⟩:=dd'
  refine yk7 I (by rw[e];exact True.intro) hs ⟨q,hq⟩ ⟨hl,hd,_,(rel.put k eb rv).keeps fun c ys ec=>?_,q,es,ep,hq,h2,h3,h4,h5⟩
  rw[B9 (zw2 ec e (fun z=>nomatch z))]
  exact ec
end
section
variable{kvs:List (Key×V)}{k:Key}
theorem zy2(I:Inv X pins σ H s)(e:Rd H a (.dK kvs))(h:∀ t s',Inv X pins σ H s'->Q (.int kvs.length t) s'):wpAny (model X.prog X.w) A (call (.builtin "len") [.ref a]) Q E s:=by
 obtain⟨z,hd,vs,rel,dd⟩:=yk6 I.hok e
 refine call_len_dict hd dd (by rw[<-rel.length];rw[sizeLine_eq] at z;omega) ?_
 rw[<-rel.length]
 exact h _ _ (I.tok _)
end
namespace Att
open PySem PySem.W PySem.Calls PyProof.Rows
theorem wz7{P:Params}{h:Heap}:∀ (ns:List Int) (vs:List Value),WellAll P h vs (ns.map WData.int)->IntsAre vs ns:=by
 intro ns
 induction ns with
 | nil =>
   intro vs w
   rw[List.map_nil] at w
   cases w
   exact .nil
 | cons n ns ih =>
   intro vs w
   rw[List.map_cons] at w
   cases w with
   | cons a b =>
     cases a
     exact .cons _ _ (ih _ b)
theorem script_of{l:OpenLaw}{n:Nat}(hn:l.most=some n){P:Params}{h:Heap}{args:List WData}{vals:List Value}
 (hpre:l.row.toRowW.claim.pre args=true) (hwl:WellAll P h vals args) :
 ∃ a vs ns,vals=[Value.ref a]/\args=[WData.list (ns.map WData.int)]/\h.get? a=some {cls:=.type "list",data:=.seq vs.toArray}/\IntsAre vs ns/\ns.length<=n:=by
 have hsh:WShape.hasAll [] args [.list .int]=true:=(pre_splitW hpre).1
 have hc:l.pre.holds [] {args:=args}=true:=(pre_splitW hpre).2
 obtain⟨d,r,rfl,h1,h2⟩:=hasAllW_cons hsh
 obtain rfl:=hasAllW_nil h2
 obtain⟨xs,rfl,h3⟩:=hasW_list h1
 obtain⟨ns,rfl⟩:=items_int h3
 have hlen:ns.length<=n:=by
  unfold OpenLaw.pre at hc
  have h4:(WTm.not (.lt (.lit (.int (n:Int))) (.len (.arg 0)))).holds [] {args:=[.list (ns.map .int)]}=true:=by
   have h4:=(holds_andW hc).1
   rw[hn] at h4
   exact h4
  have h5:=condW_of h4 (w_not (w_lt w_lit (w_len_list (w_arg rfl))))
  rw[List.length_map] at h5
  refine Nat.le_of_not_lt fun q=>?_
  have q':(n:Int)<((ns.length:Nat):Int):=by omega
  first
   | (rw[decide_eq_true q'] at h5;exact absurd h5 (by decide))
   | (simp at h5;omega)
 cases hwl with
 | cons w1 w2 =>
   cases w2
   cases w1 with
   | list ho hall=>exact⟨_,_,ns,rfl,rfl,ho,wz7 ns _ hall,hlen⟩
theorem post_true(l:OpenLaw)(args:List WData):l.row.toRowW.claim.post args (.bool true) args=true :=
 postW_of (r:=l.row.toRowW) (X:=(true == true))
  (show WShape.has [] (.bool true) .bool=true by first|rfl|decide|simp[WShape.has,WShape.arms,WShape.armsAll])
  (show(WTm.eq .res (.lit (.bool true))).value [] {args:=args,res:=some (.bool true),after:=args}=some (.bool (true == true)) from w_eq_bool (w_res rfl) w_lit) rfl
end Att
theorem xm6:∀ {vs:List Value} {ns:List Int},IntsAre vs ns->G7 (ns.map V.int) vs
 | _,_,.nil=>.nil
 | _,_,.cons n t h=>.cons ⟨t,rfl⟩ (xm6 h)
def zq8(H:Hp):Prop:=∀ b,H b=none\/∃ o xs,H b=some (.frz o (.lst xs))
theorem yw8 {mb:Str->Option Value} {fa:Addr} {s₁:Shared} {vs:List Value} {ns:List Int} (KX:K.In s₁.heap) (hns:s₁.heap.Ns mainGlobals mg) (hb:s₁.heap.Ns builtinsNs mb) (hbb:∀ x:Str,x ≠ "__name__"->mb x=bootBuiltins x) (hlim:s₁.heap.NoLimit) (hg:s₁.gens=#[]) (htk:0<s₁.toks) (ha:s₁.heap.get? a=some {cls:=.type "list",data:=.seq vs.toArray}) (hi:IntsAre vs ns) (hl:ns.length<=sizeLine) (hr:qi5 k callerA) (F:∀ base:Heap,K.In base->base.Ns mainGlobals mg->J6 P w K mg base CX k fa fd [x] sp) (hbind:∀ (s:Shared) (u:Value),BindsTo s fd ⟨[u],[]⟩ [(x,u)]) (hsp:∀ H:Hp,zq8 H->SqL K H a (ns.map V.int)->sp [.ref a] H (fun v _=>v=.bl true) fun _ _ _=>False) (hCX:∀ H e s',CX [] H s₁ (fun _ _ _=>False) e s'->False) :
 codeAny (model P w) callerA (.call (.ref fa) ⟨[.ref a],[]⟩) (fun r s'=>r=.ok (.ret (.bool true))/\OldK s₁.heap s'.heap/\s'.os=s₁.os/\AllBare s'.gens) s₁:=by
 have rv:=xm6 hi
 have lenV:=hi.length
 have core:∀ H:Hp,zq8 H->SqL K H a (ns.map V.int)->HOk P w H s₁.heap->(∀ b,H b≠none->b=a)->(H a≠none->K.lookup a=none) ->
  codeAny (model P w) callerA (.call (.ref fa) ⟨[.ref a],[]⟩) (fun r s'=>r=.ok (.ret (.bool true))/\OldK s₁.heap s'.heap/\s'.os=s₁.os/\AllBare s'.gens) s₁:=by
  intro H hO hS hok hA hK
  have base_of:∀ {b:Addr} {o:Obj},s₁.heap.get? b=some o->H b=none->(xo8 s₁.heap H).get? b=some o:=fun e n=>yu2 e n
  have noA:∀ {b:Addr} {o:Obj} {es:Array DictEntry} {ep:Nat},s₁.heap.get? b=some o->o.data=.dict es ep->H b=none:=fun{b o es ep} e d=>by
   cases q:H b with
   | none=>rfl
   | some u =>
     have e':b=a:=hA b (by rw[q];simp)
     subst e'
     rw[ha] at e;cases e
     have d':Data.seq vs.toArray _=Data.dict es ep:=d
     cases d'
  have nsK:∀ {b:Addr} {m:Str->Option Value},s₁.heap.Ns b m->(xo8 s₁.heap H).Ns b m:=fun{b m} ⟨o,es,ep,e,d,r⟩=>⟨o,es,ep,base_of e (noA e d),d,r⟩
  have hKb:K.In (xo8 s₁.heap H):=fun b o e=>base_of (KX b o e) (by
   cases q:H b with
   | none=>rfl
   | some u =>
     have e':b=a:=hA b (by rw[q];simp)
     subst e'
     rw[hK (by rw[q];simp)] at e;cases e)
  have hM:Mod K mg (xo8 s₁.heap H):=⟨hKb,nsK hns,⟨mb,nsK hb,hbb⟩,let ⟨mc,h1,h2⟩:=hlim;⟨mc,nsK h1,h2⟩⟩
  have e0:ye4 P w K mg (xo8 s₁.heap H) callerA [] s₁ H:=⟨rfl,hM,fun b o e=>zf2 e,Nat.le_of_eq (yp3 _ _),trivial,fun b hb=>absurd (show b∈([]:List Addr) from hb) (by simp),hok,.of_eq hg,htk⟩
  refine codeAny_mono ((F _ hKb (nsK hns)).run callerA [] s₁ H ⟨[.ref a],[]⟩ [.ref a] [.ref a] _ _ hr e0 (hbind s₁ (.ref a)) (.cons rfl .nil) (hsp H hO hS)) fun r s' h=>?_
  cases r with
  | error e=>exact(hCX H e s' h).elim
  | ok fl =>
    cases fl with
    | next=>exact False.elim h
    | brk=>exact False.elim h
    | cont=>exact False.elim h
    | ret u =>
      obtain⟨v,H',_,os,bare,un,hok',r',q⟩:=h
      have q':v=.bl true:=q
      subst q'
      obtain rfl:u=Value.bool true:=r'
      refine⟨rfl,OldK.of_keep fun b o e=>?_,os,bare⟩
      cases q:H b with
      | none=>exact un.keep b o e q (by intro z;exact absurd (show b∈([]:List Addr) from z) (by simp)) (by simp)
      | some u =>
        rcases hO b with z|⟨ob,xs,z⟩
        ·rw[q] at z;cases z
        ·have z2:=un.frzs b ob _ z
         obtain⟨e1,_⟩:=hok b _ z
         obtain⟨e2,_⟩:=hok' b _ z2
         rw[e] at e1;cases e1
         exact e2
 cases hk:K.lookup a with
 | some o =>
   have e:=KX a o hk
   rw[ha] at e
   cases e
   refine core (fun _=>none) (fun _=>.inl rfl) (.inr ⟨_,vs.toArray,_,hk,rfl,rfl,rfl,by rw[List.size_toArray,lenV];exact hl,by simpa using rv⟩) (fun b u z=>by have z':(none:Option HO)=some u:=z;cases z') (fun b z=>absurd rfl z) fun z=>absurd rfl z
 | none =>
   refine core (fun b=>if b=a then some (.frz {cls:=.type "list",data:=.seq vs.toArray} (.lst (ns.map V.int))) else none) (fun b=>?_) (.inl (.inr ⟨{cls:=.type "list",data:=.seq vs.toArray},if_pos rfl⟩)) (fun b u z=>?_) (fun b z=>?_) fun _=>hk
   ·by_cases hb:b=a
    ·exact .inr ⟨_,_,if_pos hb⟩
    ·exact .inl (if_neg hb)
   ·by_cases hb:b=a
    ·have z':=(if_pos hb).symm.trans z
     cases z'
     subst hb
     exact⟨ha,by rw[List.length_map];exact hl,vs,_,rv,ha⟩
    ·have z':=(if_neg hb).symm.trans z
     cases z'
   ·by_cases hb:b=a
    ·exact hb
    ·exact absurd (if_neg hb) z
theorem xd3:∀ ns:List Int,PySem.W.ofPys (ns.map PyData.int)=ns.map PySem.W.WData.int
 | []=>by simp[PySem.W.ofPys]
 | n::ns=>by simp only[List.map_cons,PySem.W.ofPys,PySem.W.ofPy];rw[xd3 ns]
variable{as:List Addr}{q:Program}
theorem zh1{l:PySem.W.OpenLaw}{loose:List Str}{XP:(Str->Option Value)->Heap->Prop}{z t:Nat}{d:DefRec}{K:Params->Fg}{CX:World->CXT}{sp:World->Sp}(hn:l.most=some n)(hn2:n<=sizeLine)(hdf:d.params.defaults=[])(hr:qi5 k callerA)(hk:∀ P,as=(K P).map (·.1))(h0:0<t) (F:∀ (w:World) (mg:Str->Option Value) (fa:Addr) (h:Heap),(K w.params).In h->h.Ns mainGlobals mg->mg d.name=some (.ref fa) ->
  ∃ fd:FuncData,(∀ (s:Shared) (u:Value),BindsTo s fd ⟨[u],[]⟩ [(x,u)]) /\
   ∀ base:Heap,(K w.params).In base->base.Ns mainGlobals mg->J6 l.prog w (K w.params) mg base (CX w) k fa fd [x] (sp w)) (hsp:∀ (w:World) (H:Hp) (a:Addr) (ns:List Int),ns.length<=n->zq8 H->SqL (K w.params) H a (ns.map V.int)->sp w [.ref a] H (fun v _=>v=.bl true) fun _ _ _=>False) (hCX:∀ (w:World) (H:Hp) (s:Shared) (e:Value) (s':Shared),CX w [] H s (fun _ _ _=>False) e s'->False) :
 PySem.W.WalkX q loose XP (PySem.W.X.obsZ as) (PySem.W.X.valZ K z t) l.row.toRowW d [] (fun f vs=>PySem.call f vs):=by
 intro w s₀ s₁ mg mb G y fa o pm cd doc dV kV ho hd hcd hD hmg hg args vals aa L hpre hlay hrd hwl hlo
 obtain rfl:dV=.none:=PySem.W.Dflts.none hD hdf
 obtain rfl:kV=.none:=PySem.W.Dflts.noKw hD
 obtain⟨a,vs,ns,rfl,rfl,hobj,hints,hlen⟩:=Att.script_of hn hpre hwl
 obtain⟨_,KI,_,htk⟩:=PySem.W.X.z_facts hk y
 have KX:=PySem.W.InK.keeps w _ _ KI L.keeps
 have tk:0<s₁.toks:=Nat.lt_of_lt_of_le h0 (PySem.W.X.script_toks (ns:=ns) (a:=a) (by rw[PySem.W.ofPy,xd3];exact L) htk)
 obtain⟨fd,hb,hF⟩:=F w mg fa _ KX G.T.g hmg
 refine PySem.W.enter_call (codeAny_mono (yw8 KX G.T.g G.T.b G.T.builtins G.T.nolimit hg tk hobj hints (Nat.le_trans hlen hn2) hr hF hb (fun H hO hS=>hsp w H a ns hlen hO hS) fun H e s'=>hCX w H s₁ e s') fun r s' hq=>?_)
 obtain⟨rfl,h2,h3,h4⟩:=hq
 exact⟨.inl ⟨.bool true,.bool true,[],rfl,fun _=>rfl,.bool true,Att.post_true l _,fun _=>⟨List.Pairwise.nil,fun _ hm=>(nomatch hm)⟩⟩,h2,h3,h4⟩
def wo9(s:Stmt):Arguments:=match s with
 | .FunctionDef _ a _ _ _ _ _ _ _ _=>a
 | _=>{posonlyargs:=[],args:=[],vararg:=none,kwonlyargs:=[],kw_defaults:=[],kwarg:=none,defaults:=[]}
def wh2(s:Stmt):List Stmt:=match s with
 | .FunctionDef _ _ b _ _ _ _ _ _ _=>b
 | _=>[]
def B0(s:Stmt):Scope:=match s with
 | .FunctionDef _ _ _ _ _ _ sc _ _ _=>sc
 | _=>{kind:=.function,names:=[],isGenerator:=false,isCoroutine:=false}
abbrev CX0:CXT:=fun _ _ _ _ _ _=>False
abbrev E0:XK:=fun _ _ _=>False
theorem B6:we0 CX0 X E0:=fun _ _ _ _ _ _ _ h=>h.elim
structure Fun(K:Fg)(x qual:Str)(st:Stmt)(f:Addr)(fd:FuncData):Prop where
 ex:∃ (oc:Value) (od:Option Addr) (kV doc pm:Value) (an:Option Addr) (cdv ct:Value) (osl:Array (Option Value)),
  fd=PySem.W.fnOf x qual (wo9 st) (wh2 st) (B0 st) .none kV doc pm an cdv ct/\K.lookup f=some ⟨oc,od,.func fd,osl⟩/\PySem.W.codeIn K cdv qual=true
 kp:PySem.W.keepIn K (.ref f)=true
theorem Fun.ok{f:Addr}(F:Fun K x qual st f fd)(S:C0 N ps (B0 st))(len:∀ vs H Q E,sp vs H Q E->vs.length=ps.length) (hbody:∀ (cdv:Value) (A:Around) (outer:List Env) (s:Shared) (H:Hp) (vs:List V) (Q:VK) (E:XK),qi5 k (A.deeper (envOfC qual (B0 st) s.heap.objs.size f cdv))->sp vs H Q E ->
  ∃ t,PSs (yq3 CX0 P w K mg base N qual (B0 st) f cdv A outer s H E).nox (wh2 st) t/\t {nx:=fun _ H'=>Q .non H',rt:=Q} (D8 N vs) H):J6 P w K mg base CX0 (k+1) f fd ps sp:=by
 obtain⟨oc,od,kV,doc,pm,an,cdv,ct,osl,rfl,lk,hcd⟩:=F.ex
 refine zx0 lk hcd S len fun A outer s H vs Q E hr hsp=>?_
 obtain⟨t,h,q⟩:=hbody cdv A outer s H vs Q E hr hsp
 exact⟨t,h.nox,q⟩
theorem Fun.binds{f:Addr}(F:Fun K x qual st f fd)(h:∀ (kV doc pm:Value) (an:Option Addr) (cdv ct:Value) (us:List Value),us.length=ps.length->bindArgs (PySem.W.fnOf x qual (wo9 st) (wh2 st) (B0 st) .none kV doc pm an cdv ct) ⟨us,[]⟩=pure (ps.zip us)):T3 K fd ps []:=by
 obtain⟨oc,od,kV,doc,pm,an,cdv,ct,osl,rfl,lk,hcd⟩:=F.ex
 exact .all (h kV doc pm an cdv ct)
theorem zq9{f:Addr}{kV:Value}(l:K.lookup f=some ⟨oc,od,.func (PySem.W.fnOf x qual (wo9 st) (wh2 st) (B0 st) .none kV doc pm an cdv ct),osl⟩)(c:PySem.W.codeIn K cdv qual=true)(k:PySem.W.keepIn K (.ref f)=true):Fun K x qual st f (PySem.W.fnOf x qual (wo9 st) (wh2 st) (B0 st) .none kV doc pm an cdv ct):=⟨⟨oc,od,kV,doc,pm,an,cdv,ct,osl,rfl,l,c⟩,k⟩
theorem D1(hr:qi5 k A):A.units+1<cLine:=Nat.lt_of_le_of_lt (Nat.add_le_add_left (by decide:1<=64) _) hr.units
theorem pv(i:Nat)(hN:autoParam (X.N[i]?=some x) zAr)(hv:Vis X.env.scope x:=by first|exact Or.inl rfl|exact Or.inr (Or.inl rfl)|exact Or.inr (Or.inr rfl))(hd:autoParam ((x == ("__debug__":Str))=false) zAd)(hcd:autoParam ((x == ("__classdict__":Str))=false) zAd):PE X (.Name x pos) (A3 i):=zp2 hN hv hd hcd
variable{B:Prop}
theorem qk3{A:Prop}(h:B):if false=true then A else B:=by
 rw[if_neg Bool.false_ne_true]
 exact h
theorem qr0{A:Prop}(h:A):if true=true then A else B:=by
 rw[if_pos rfl]
 exact h
def A6(H H':Hp):Prop:=∀ b o,H b=some o->H' b=some o
theorem A6.refl(H:Hp):A6 H H:=fun _ _ h=>h
theorem A6.free(e:A6 H H')(h:H' l=Option.none):H l=Option.none:=by
 cases q:H l with
 | none=>rfl
 | some o =>
   rw[e l o q] at h
   cases h
theorem A6.seq(e:A6 H H')(h:SqL K H a xs):SqL K H' a xs:=by
 rcases h with(h|⟨o,h⟩)|h
 ·exact .inl (.inl (e _ _ h))
 ·exact .inl (.inr ⟨o,e _ _ h⟩)
 ·exact .inr h
theorem yq7:qe5 X (.builtin "len") (fun xs H Q=>∃ a kvs,xs=[V.ref a]/\H a=some (.dK kvs)/\Q (.int kvs.length) H):=by
 intro pins s σ H xs us Q I r h
 obtain⟨a,kvs,rfl,ha,q⟩:=h
 obtain⟨u,rfl,ru⟩:=qr6 r
 cases ru
 exact zy2 I (.inl ha) fun t s' I'=>⟨.int kvs.length,H,I',⟨t,rfl⟩,q⟩
theorem noE{t:Sem α}{Q:α->Shared->Prop}(h:wpAny M A t Q (fun _ _=>False) s):wpAny M A t Q E s :=
 wpAny_mono h (fun _ _ q=>q) fun _ _ z=>False.elim z
theorem wl9{env:Env}:∀ (names:List (Str×NameKind)) (acc:List (Str×Addr)),(∀ y∈names,y.2=.free->∃ c,env.cells.lookup y.1=some c)->(∀ x c,acc.lookup x=some c->env.cells.lookup x=some c) ->
 ∃ cl,(forIn names acc fun(x:Str×NameKind) (r:List (Str×Addr)) =>
  (if(x.2 == .free)=true then(do let a<-cellOf env x.1;pure (ForInStep.yield ((x.1,a)::r))) else pure (ForInStep.yield r):Sem (ForInStep (List (Str×Addr)))))=(pure cl:Sem (List (Str×Addr))) /\
  (∀ x c,cl.lookup x=some c->env.cells.lookup x=some c)/\(∀ x,(∃ c,acc.lookup x=some c)->∃ c,cl.lookup x=some c)/\∀ y∈names,y.2=.free->∃ c,cl.lookup y.1=some c
 | [],acc,_,h2=>⟨acc,by rw[List.forIn_nil],h2,fun _ h=>h,fun _ h=>by cases h⟩
 | (n,k)::r,acc,h1,h2=>by
   by_cases hk:k=.free
   ·subst hk
    obtain⟨c,hc⟩:=h1 (n,.free) List.mem_cons_self rfl
    obtain⟨cl,e,q1,q2,q3⟩:=wl9 r ((n,c)::acc) (fun y hy=>h1 y (List.mem_cons_of_mem _ hy)) (fun x d hd=>by
     rw[List.lookup_cons] at hd
     cases hx:x == n with
     | true=>rw[hx] at hd;cases hd;rw[beq_iff_eq.mp hx];exact hc
     | false=>rw[hx] at hd;exact h2 x d hd)
    refine⟨cl,?_,q1,fun x hx=>q2 x ?_,fun y hy hf=>?_⟩
    ·rw[List.forIn_cons]
     have e0:cellOf env n=pure c:=by unfold cellOf;rw[hc]
     simp only[beq_self_eq_true,if_true,e0]
     exact e
    ·rw[List.lookup_cons]
     cases x == n with
     | true=>exact⟨c,rfl⟩
     | false=>exact hx
    ·rcases List.mem_cons.mp hy with rfl|hy
     ·exact q2 n ⟨c,by rw[List.lookup_cons];simp⟩
     ·exact q3 y hy hf
   ·obtain⟨cl,e,q1,q2,q3⟩:=wl9 r acc (fun y hy=>h1 y (List.mem_cons_of_mem _ hy)) h2
    refine⟨cl,?_,q1,q2,fun y hy hf=>?_⟩
    ·rw[List.forIn_cons]
     have hb:(k == NameKind.free)=false:=by simpa using hk
     simp only[hb,Bool.false_eq_true,if_false]
     exact e
    ·rcases List.mem_cons.mp hy with rfl|hy
     ·exact absurd hf hk
     ·exact q3 y hy hf
theorem wj9(h:∀ y∈scope.names,y.2=.free->∃ c,env.cells.lookup y.1=some c) :
 ∃ cl,closureFor scope env=pure cl/\(∀ x c,cl.lookup x=some c->env.cells.lookup x=some c)/\∀ y∈scope.names,y.2=.free->∃ c,cl.lookup y.1=some c:=by
 obtain⟨cl,e,q1,_,q3⟩:=wl9 (env:=env) scope.names [] h (fun x c hc=>by simp at hc)
 refine⟨cl,?_,q1,q3⟩
 unfold closureFor
 simp only[]
 rw[show(forIn scope.names ([]:List (Str×Addr)) fun(x:Str×NameKind) (r:List (Str×Addr)) =>
  (match x with|(name,kind)=>if(kind == .free)=true then(do let a<-cellOf env name;pure (ForInStep.yield ((name,a)::r))) else pure (ForInStep.yield r):Sem (ForInStep (List (Str×Addr)))))=(pure cl:Sem (List (Str×Addr))) from e]
 rfl
theorem qm4{env:Env}:∀ {names:List (Str×NameKind)} {x:Str},names.lookup x=some .free ->
 (names.map fun(n,k)=>if(k == NameKind.free && env.scope.kind == .function && env.kindOf n == some .cell) then(n,NameKind.cell) else(n,k)).lookup x=some .cell \/
 (names.map fun(n,k)=>if(k == NameKind.free && env.scope.kind == .function && env.kindOf n == some .cell) then(n,NameKind.cell) else(n,k)).lookup x=some .free
 | [],_,h=>by simp at h
 | (n,k)::r,x,h=>by
   have ih:=@qm4 env r x
   show List.lookup x ((if(k == NameKind.free && env.scope.kind == .function && env.kindOf n == some .cell)=true then(n,NameKind.cell) else(n,k))::_)=_\/List.lookup x ((if(k == NameKind.free && env.scope.kind == .function && env.kindOf n == some .cell)=true then(n,NameKind.cell) else(n,k))::_)=_
   cases hx:x == n with
   | true =>
     simp only[List.lookup_cons,hx] at h
     cases h
     by_cases hc:(NameKind.free == NameKind.free && env.scope.kind == .function && env.kindOf n == some .cell)=true
     ·rw[if_pos hc];exact .inl (by simp only[List.lookup_cons,hx])
     ·rw[if_neg hc];exact .inr (by simp only[List.lookup_cons,hx])
   | false =>
     simp only[List.lookup_cons,hx] at h
     by_cases hc:(k == NameKind.free && env.scope.kind == .function && env.kindOf n == some .cell)=true
     ·rw[if_pos hc];simp only[List.lookup_cons,hx];exact ih h
     ·rw[if_neg hc];simp only[List.lookup_cons,hx];exact ih h
theorem qb0{env:Env}:∀ {names:List (Str×NameKind)} {x:Str} {k:NameKind},
 (names.map fun(n,k)=>if(k == NameKind.free && env.scope.kind == .function && env.kindOf n == some .cell) then(n,NameKind.cell) else(n,k)).lookup x=some k ->
 names.lookup x=some k\/(k=.cell/\names.lookup x=some .free)
 | [],_,_,h=>by simp at h
 | (n, j)::r,x,k,h=>by
   have ih:=@qb0 env r x k
   have h:List.lookup x ((if(j == NameKind.free && env.scope.kind == .function && env.kindOf n == some .cell)=true then(n,NameKind.cell) else(n,j))::_)=some k:=h
   by_cases hc:(j == NameKind.free && env.scope.kind == .function && env.kindOf n == some .cell)=true
   ·rw [if_pos hc] at h
    cases hx:x == n with
    | true =>
      simp only[List.lookup_cons,hx] at h ⊢
      cases h
      have:j=.free:=by
       cases j <;> simp at hc ⊢
      exact .inr ⟨rfl,by rw[this]⟩
    | false=>simp only[List.lookup_cons,hx] at h ⊢;exact ih h
   ·rw[if_neg hc] at h
    cases hx:x == n with
    | true=>simp only[List.lookup_cons,hx] at h ⊢;exact .inl h
    | false=>simp only[List.lookup_cons,hx] at h ⊢;exact ih h
variable{elt:Expr}{ifs:List Expr}
theorem we2{R:Result->Shared->Prop}{target:Expr}{it acc:Value}(I:Nat->Shared->Prop) (turn:∀ n s,I n s->wpAny (model prog w) A (pyNext it) (fun r s₁=>match r with
  | none=>R (.ok .next) s₁
  | some v=>wpAny (model prog w) A (letOwnedTupleGo target it v) (fun _ s₁'=>wpAny (model prog w) A (assign target env v) (fun _ s₂ =>
   wpAny (model prog w) A (forIn ifs true fun c r=>if r=true then do let ok<-isTrue c env (eval c env);pure (ForInStep.yield ok) else pure (ForInStep.yield r)) (fun ok s₃ =>
    if ok=true then wpAny (model prog w) A (eval elt env) (fun x s₄ =>
     wpAny (model prog w) A (call (.builtin "list.append") [acc,x]) (fun _ s₅=>∃ m,m<n/\I m s₅) (notedBy (model prog w) A env fun e s'=>R (.error e) s') s₄) (notedBy (model prog w) A env fun e s'=>R (.error e) s') s₃
    else ∃ m,m<n/\I m s₃) (notedBy (model prog w) A env fun e s'=>R (.error e) s') s₂) (notedBy (model prog w) A env fun e s'=>R (.error e) s') s₁') (notedBy (model prog w) A env fun e s'=>R (.error e) s') s₁)
  (notedBy (model prog w) A env fun e s'=>R (.error e) s') s) (n:Nat) (h:I n s) :
 codeAny (model prog w) A (.compLoop (.ListComp elt [⟨target,iter,ifs,0⟩] scope pos) 0 it acc env) R s:=by
 refine codeAny_loop rfl I (fun n s hI=>?_) n h
 show wpAny _ A ((compTurn (.ListComp elt [⟨target,iter,ifs,0⟩] scope pos) 0 it acc env).onRaise (fun x=>do noteFrame x env;theTreesLotGoes x)) _ _ s
 refine wpAny_noted ?_
 rw[compTurn_list]
 refine wpAny_bind (wpAny_standAt (wpAny_bind (wpAny_mono (turn n s hI) (fun r s₁ h₁=>?_) fun _ _ h'=>h')))
 cases r with
 | none=>exact wpAny_pure h₁
 | some v =>
   refine wpAny_bind (wpAny_mono h₁ (fun _ s₁' h₁'=>?_) fun _ _ h'=>h')
   refine wpAny_bind (wpAny_mono h₁' (fun _ s₂ h₂=>wpAny_bind (wpAny_mono h₂ (fun ok s₃ h₃=>?_) fun _ _ h'=>h')) fun _ _ h'=>h')
   cases ok with
   | false=>exact wpAny_pure ⟨rfl,h₃⟩
   | true =>
     exact wpAny_bind (wpAny_bind (wpAny_mono h₃ (fun x s₄ h₄=>wpAny_bind (wpAny_mono h₄ (fun _ s₅ h₅=>wpAny_pure (wpAny_pure ⟨rfl,h₅⟩)) fun _ _ h'=>h')) fun _ _ h'=>h'))
def blk(X:Cx)(N:List Str)(scope:Scope)(cl:List (Str×Addr))(C:Addr)(s₂:Shared)(H₂:Hp)(fp:List Addr)(pn:List (Addr×Obj)):Cx :=
 {X with N:=N,s₀:=s₂,H₀:=H₂,env:=compEnvC scope cl C X.env,outer:=X.stack,stack:=X.stack,ex:=fp,fn:=fun _=>false,pn:=pn,xe:=fun _ _=>False}
def we3(fr:List (Option Nat))(σ:St):St:=fr.map fun o=>match o with|some i=>(σ[i]?).join|none=>none
variable{fr:List (Option Nat)}
theorem xw6{j:Nat}(h:(we3 fr σ)[j]?=some (some v)):∃ i,fr[j]?=some (some i)/\σ[i]?=some (some v):=by
 unfold we3 at h
 rw[List.getElem?_map] at h
 cases e:fr[j]? with
 | none=>rw[e] at h;cases h
 | some o =>
   rw[e] at h
   cases o with
   | none=>cases h
   | some i =>
     refine⟨i,rfl,?_⟩
     have h':(σ[i]?).join=some v:=Option.some.inj h
     cases e2:σ[i]? with
     | none=>rw[e2] at h';cases h'
     | some x=>rw[e2] at h';cases x with
       | none=>cases h'
       | some y=>cases h';rfl
def yw9(fr:List (Option Nat))(g:TG):Prop:=∀ (x:V) (σ:St) (H:Hp) (Q:St->Hp->Prop),g x σ H Q->g x σ H fun σ2 H2=>Q σ2 H2/\∀ (j i:Nat),fr[j]?=some (some i)->σ2[j]?=σ[j]?
def yk8(fr:List (Option Nat))(g:TGs):Prop:=∀ (xs:List V) (σ:St) (H:Hp) (Q:St->Hp->Prop),g xs σ H Q->g xs σ H fun σ2 H2=>Q σ2 H2/\∀ (j i:Nat),fr[j]?=some (some i)->σ2[j]?=σ[j]?
theorem wh3{i:Nat}(h:autoParam (fr[i]?=some none) zAr):yw9 fr (B1 i):=fun x σ H Q q=>⟨q,fun j k hj=>by
 have:i≠j:=by rintro rfl;rw[h] at hj;cases hj
 rw[List.getElem?_set_ne this]⟩
theorem zr0:yk8 fr yd1:=fun xs σ H Q ⟨e,q⟩=>⟨e,q,fun _ _ _=>rfl⟩
theorem yk9{i:Nat}{u:TGs}(h:fr[i]?=some none)(hu:yk8 fr u):yk8 fr (qr4 (B1 i) u):=fun xs σ H Q ⟨v,r,e,q⟩=>by
 refine⟨v,r,e,?_⟩
 have q:u r (σ.set i (some v)) H Q:=q
 have e2:=hu _ _ _ _ q
 have k:∀ j k,fr[j]?=some (some k)->(σ.set i (some v))[j]?=σ[j]?:=fun j k hj=>by
  have:i≠j:=by rintro rfl;rw[h] at hj;cases hj
  rw[List.getElem?_set_ne this]
 have e3:(fun(σ2:St) (H2:Hp)=>Q σ2 H2/\∀ (j k:Nat),fr[j]?=some (some k)->σ2[j]?=σ[j]?)=(fun(σ2:St) (H2:Hp)=>Q σ2 H2/\∀ (j k:Nat),fr[j]?=some (some k)->σ2[j]?=(σ.set i (some v))[j]?):=by
  funext σ2 H2
  refine propext ⟨fun⟨a,b⟩=>⟨a,fun j m hj=>(b j m hj).trans (k j m hj).symm⟩,fun⟨a,b⟩=>⟨a,fun j m hj=>(b j m hj).trans (k j m hj)⟩⟩
 show u r (σ.set i (some v)) H _
 rw[e3]
 exact e2
theorem zr1{u:TGs}(hu:yk8 fr u):yw9 fr (yd2 K n u):=fun x σ H Q ⟨a,xs,e1,e2,e3,q⟩=>⟨a,xs,e1,e2,e3,hu _ _ _ _ q⟩
def PTs(X:Cx)(ifs:List Expr)(t:TT):Prop :=
 ∀ (pins:List (Addr×Obj)) (s:Shared) (σ:St) (H:Hp) (Q:Bool->Hp->Prop),Inv X pins σ H s->t σ H Q ->
  wpAny (model X.prog X.w) X.A (forIn ifs true fun c r=>if r=true then do let ok<-isTrue c X.env (eval c X.env);pure (ForInStep.yield ok) else pure (ForInStep.yield r)) (TP X pins σ Q) X.xe s
def tTT:TT:=fun _ H Q=>Q true H
theorem xb7:PTs X [] tTT:=fun _ _ _ H _ I h=>wpAny_tests_nil ⟨H,I,h⟩
theorem xq2{t:TT}(h:PT X c t):PTs X [c] t:=fun pins s σ H Q I hq=>wpAny_tests_one (h pins s σ H Q I hq)
structure wh4(X:Cx)(scope:Scope)(N:List Str)(fr:List (Option Nat)):Prop where
 kind:scope.kind=.function
 nocell:∀ y∈scope.names,y.2≠.cell
 names:∀ y∈scope.names,y.2=.local->scope.names.lookup y.1=some .local
 free:∀ y∈scope.names,y.2=.free->X.env.scope.names.lookup y.1=some .cell\/X.env.scope.names.lookup y.1=some .free
 len:N.length=fr.length
 at_:∀ (j i:Nat) (x:Str),fr[j]?=some (some i)->N[j]?=some x->X.N[i]?=some x/\scope.names.lookup x=some .free
def yl0(osc:Scope)(ON:List Str)(scope:Scope)(N:List Str)(fr:List (Option Nat)):Bool :=
 decide (scope.kind=.function) && scope.names.all (fun y=>decide (y.2≠.cell)) && scope.names.all (fun y=>decide (y.2≠.local) || decide (scope.names.lookup y.1=some .local)) &&
 scope.names.all (fun y=>decide (y.2≠.free) || decide (osc.names.lookup y.1=some .cell) || decide (osc.names.lookup y.1=some .free)) && decide (N.length=fr.length) &&
 (fr.zip N).all (fun p=>match p.1 with|some i=>decide (ON[i]?=some p.2) && decide (scope.names.lookup p.2=some .free)|none=>true)
theorem qd3{osc:Scope}{ON:List Str}(h:yl0 osc ON scope N fr=true)(e1:X.env.scope=osc)(e2:X.N=ON):wh4 X scope N fr:=by
 subst e1 e2
 unfold yl0 at h
 simp only[Bool.and_eq_true,List.all_eq_true,Bool.or_eq_true,decide_eq_true_eq] at h
 obtain⟨⟨⟨⟨⟨h1,h2⟩,h3⟩,h4⟩,h5⟩,h6⟩:=h
 refine⟨h1,h2,fun y hy e=>(h3 y hy).resolve_left fun z=>z e,fun y hy e=>?_,h5,fun j i x e1 e2=>?_⟩
 ·rcases h4 y hy with(z|z)|z
  ·exact absurd e z
  ·exact .inl z
  ·exact .inr z
 ·have hm:(some i,x)∈fr.zip N:=by
   apply List.mem_of_getElem? (i:=j)
   rw[List.getElem?_zip_eq_some]
   exact⟨e1,e2⟩
  have:=h6 _ hm
  simpa using this
def wk0 (fr:List (Option Nat)) (wi:TI) (g:TG) (tt:TT) (te:TE):TE:=fun σ H Q=>wi σ H fun J H1 =>
 ∃ W:Nat->Nat->List V->Hp->Prop,(∃ m,W 0 m [] H1)/\∀ i m ys H,W i m ys H->ys.length<=sizeLine /\
  ((J.stop i H/\∀ p,H p=none->Q (.ref p) (upd H p (.lst ys))) \/
   (J.go i H/\∃ NN:List V->Hp->Prop,(∀ ys' H',NN ys' H'->∃ m',m'<m/\W (i+1) m' ys' H')/\∀ x H',J.yld i H x H'->g x (we3 fr σ) H' fun σ2 H2=>tt σ2 H2 fun b H3 =>
    if b=true then te σ2 H3 fun y H4=>NN (ys++[y]) H4 else NN ys H3))
structure zr2(X:Cx)(pins:List (Addr×Obj))(σ:St)(Q:VK)(C D:Addr)(s':Shared):Prop where
 ex:∃ (ys:List V) (H:Hp),H D=none/\(∃ m,s'.heap.Ns C m)/\D≠C/\C≠X.env.locals/\(∀ x c,X.env.cells.lookup x=some c->c≠C)/\(∀ p∈X.pn++pins,p.1≠C)/\X.s₀.heap.objs.size<=C/\C∉X.fs /\
  (upd H D (.lst ys)) C=none /\
  (∀ h',Heap.SameBut C s'.heap h'->Inv X pins σ (upd H D (.lst ys)) {s' with heap:=h'})/\Q (.ref D) (upd H D (.lst ys))
variable{J:It}{tt:TT}
theorem xd4 {tg:Expr} {cl:List (Str×Addr)} (hcalm:X.calm=true) (S:wh4 X scope N fr) (hclS:∀ x c,cl.lookup x=some c->X.env.cells.lookup x=some c) (hclH:∀ y∈scope.names,y.2=.free->∃ c,cl.lookup y.1=some c) (hg:∀ C s₂ H₂ fp pn,PG (blk X N scope cl C s₂ H₂ fp pn) tg g) (hgo:yw9 fr g) (ht:∀ C s₂ H₂ fp pn,PTs (blk X N scope cl C s₂ H₂ fp pn) ifs tt) (he:∀ C s₂ H₂ fp pn,PE (blk X N scope cl C s₂ H₂ fp pn) elt te) {s2:Shared} {Q:VK} {fp:List Addr} {tn:Nat->Heap->Prop} (I2:Inv X pins σ H2 s2) (T:wz6 X.prog X.w X.K tg J fp it tn) (st2:tn 0 s2.heap) (f2:∀ b∈fp,xi8 X pins H2 b) (W:Nat->Nat->List V->Hp->Prop) (w0:∃ m,W 0 m [] H2) (turn:∀ i m ys H,W i m ys H->ys.length<=sizeLine /\
 ((J.stop i H/\∀ p,H p=none->Q (.ref p) (upd H p (.lst ys))) \/
  (J.go i H/\∃ NN:List V->Hp->Prop,(∀ ys' H',NN ys' H'->∃ m',m'<m/\W (i+1) m' ys' H')/\∀ x H',J.yld i H x H'->g x (we3 fr σ) H' fun σ2 H2=>tt σ2 H2 fun b H3 =>
   if b=true then te σ2 H3 fun y H4=>NN (ys++[y]) H4 else NN ys H3))) {RR:Value->Addr->Result->Shared->Prop} (hRR:∀ C D s',zr2 X pins σ Q C D s'->RR (.ref D) C (.ok .next) s') :
 wpAny (model X.prog X.w) X.A (newList []) (fun acc s₃=>wpAny (model X.prog X.w) X.A (newFunctionEnv scope X.env.globals cl [] X.env.qual none .none (some X.env)) (fun cenv s₄ =>
  codeAny (model X.prog X.w) X.A (.compStart (.ListComp elt [⟨tg,iter,ifs,0⟩] scope pos) 0 (.ref it) acc {cenv with scope:=relabel scope X.env}) (RR acc cenv.locals) s₄) E s₃) E s2:=by
 obtain⟨m0,w0⟩:=w0
 refine wpAny_newObj_type (wpAny_newFunctionEnv S.nocell (by intro y hy;simp at hy) (fun h₁ hns₁ hsb₁=>?_) S.kind)
 dsimp only at hns₁ hsb₁ ⊢
 generalize hHH:s2.heap.push {cls:=.type "list",dict:=none,data:=.seq ([]:List Value).toArray}=HH at hns₁ hsb₁ ⊢
 have hC:HH.objs.size=s2.heap.objs.size+1:=by rw[<-hHH,Heap.size_push]
 generalize hDD:s2.heap.objs.size=D at *
 generalize hCC:HH.objs.size=C at *
 have hDlt:Nat.lt D C:=by show D<C;rw[hC];exact Nat.lt_succ_self _
 have hDC:D≠C:=Nat.ne_of_lt hDlt
 have neD:∀ {b:Addr},Nat.lt b D->b≠D:=fun h=>Nat.ne_of_lt h
 have neC:∀ {b:Addr},Nat.lt b D->b≠C:=fun h=>Nat.ne_of_lt (Nat.lt_trans h hDlt)
 have below:∀ (b:Addr) (o:Obj),s2.heap.get? b=some o->Nat.lt b D:=fun b o e=>by rw[<-hDD];exact Heap.lt_size e
 have old:∀ b o,s2.heap.get? b=some o->h₁.get? b=some o:=fun b o e=>hsb₁.extBut b o (neC (below b o e)) (Heap.get?_push_of_some _ (hHH▸Heap.get?_push_of_some _ e))
 have hacc:h₁.get? D=some {cls:=.type "list",data:=.seq ([]:List Value).toArray}:=hsb₁.extBut _ _ hDC (Heap.get?_push_of_some _ (by rw[<-hHH,<-hDD];exact Heap.get?_push_size _ rfl))
 have Lt:Nat.lt X.env.locals D:=by rw[<-hDD];exact I2.lt
 have cellLt:∀ x c,X.env.cells.lookup x=some c->Nat.lt c D:=fun x c e=>by
  obtain⟨v,q⟩:=I2.cell x c e
  rw[<-hDD];exact q.lt
 have pinLt:∀ p∈X.pn++pins,Nat.lt p.1 D:=fun p hp=>below p.1 p.2 (I2.pin p hp).1
 have freshH:∀ b:Addr,Nat.le D b->H2 b=none:=fun b hb=>I2.hok.fresh (by rw[hDD];exact hb)
 let X':Cx:=blk X N scope cl C s2 H2 fp (X.pn++pins)
 have okX:X'.Ok:=by
  refine⟨I2.ok.mod,S.kind,I2.ok.glob,I2.ok.blt,by show s2.heap.objs.size<=C;rw[hDD];exact Nat.le_of_lt hDlt,fun x y c e1 e2=>I2.ok.inj x y c (hclS _ _ e1) (hclS _ _ e2),fun x hx=>?_,fun x c hf _=>(by cases hf),I2.ok.hd,I2.ok.frames,.inl rfl,fun b hb=>⟨?_,fun x c e=>(f2 b hb).2.2.2.2.1 x c (hclS _ _ e)⟩,I2.bs,Nat.le_trans I2.ok.bsz I2.sz,fun b o e hb=>?_,fun b hb hm=>?_,I2.stack,I2.stkFree⟩
  ·have hx:(relabel scope X.env).names.lookup x=some .cell\/(relabel scope X.env).names.lookup x=some .free:=hx
   have hf:scope.names.lookup x=some .free:=by
    rcases hx with hx|hx
    ·rcases qb0 hx with h|⟨_,h⟩
     ·exact absurd rfl (S.nocell _ (PySem.mem_of_lookup h))
     ·exact h
    ·rcases qb0 hx with h|⟨h,_⟩
     ·exact h
     ·cases h
   exact hclH _ (PySem.mem_of_lookup hf) rfl
  ·obtain⟨o,e,_⟩:=T.obj 0 _ st2 b hb
   exact neC (below b o e)
  ·obtain⟨_,_,_,h,_⟩:=f2 b hb
   rcases h with h|h
   ·exact I2.ok.noex b o e h
   ·have:=Heap.lt_size (I2.ok.bs b o e).1
    exact absurd (Nat.lt_of_lt_of_le this h) (Nat.lt_irrefl _)
  ·rcases List.mem_cons.mp (I2.stkSub b hm) with h|h
   ·exact(f2 b hb).2.1 h
   ·exact(f2 b hb).2.2.1 h
 have I4:∀ tk,0<tk->Inv X' [(D,{cls:=.type "list",data:=.seq ([]:List Value).toArray})] (we3 fr σ) H2 {s2 with heap:=h₁,toks:=tk}:=fun tk htk=>by
  refine⟨okX,rfl,I2.bare,Un.kept old,⟨_,hns₁,fun j x v e1 e2 e3=>?_⟩,fun x c e=>?_,freshH C (Nat.le_of_lt hDlt),fun x c e=>I2.freeC x c (hclS _ _ e),fun p hp=>?_,I2.hok.kept old,?_,htk⟩
  ·obtain⟨i,q1,q2⟩:=xw6 e2
   obtain⟨a1,a2⟩:=S.at_ j i x q1 e1
   obtain⟨m,hn,hl⟩:=I2.loc
   have vis:Vis X.env.scope x:=by
    rcases S.free _ (PySem.mem_of_lookup a2) rfl with h|h
    ·exact .inr (.inl h)
    ·exact .inr (.inr h)
   obtain⟨u,r,l⟩:=hl i x v a1 q2 vis
   refine⟨u,r,.inr ⟨?_,?_⟩⟩
   ·exact qm4 (env:=X.env) a2
   ·rcases l with⟨hk,_⟩|⟨_,c,hc,hcell⟩
    ·have hk:X.env.scope.names.lookup x=some .local:=hk
     rcases S.free _ (PySem.mem_of_lookup a2) rfl with h|h
     ·have h:X.env.scope.names.lookup x=some .cell:=h
      rw[hk] at h;cases h
     ·have h:X.env.scope.names.lookup x=some .free:=h
      rw[hk] at h;cases h
    ·obtain⟨c',hc'⟩:=hclH _ (PySem.mem_of_lookup a2) rfl
     have:c=c':=by
      have:=hclS _ _ hc'
      rw[hc] at this
      exact Option.some.inj this
     subst this
     obtain⟨o,ho,hd⟩:=hcell
     exact⟨c,hc',o,old c o ho,hd⟩
  ·obtain⟨v,o,ho,hd⟩:=I2.cell x c (hclS _ _ e)
   exact⟨v,o,old c o ho,hd⟩
  ·rcases List.mem_append.mp hp with hp|hp
   ·obtain⟨e,n,ne,nf,d⟩:=I2.pin p hp
    refine⟨old _ _ e,n,?_,fun hm=>?_,d⟩
    ·exact neC (pinLt p hp)
    ·rcases List.mem_cons.mp (I2.stkSub _ hm) with h|h
     ·exact ne h
     ·exact nf h
   ·have hp:p=(D,{cls:=.type "list",data:=.seq ([]:List Value).toArray}):=by simpa using hp
    subst hp
    refine⟨hacc,freshH D (Nat.le_refl _),hDC,fun hm=>?_,fun v z=>by cases z⟩
    rcases List.mem_cons.mp (I2.stkSub _ hm) with h|h
    ·exact neD Lt h.symm
    ·exact I2.nofs (by rw[hDD];exact Nat.le_refl _) h
  ·show(we3 fr σ).length=N.length
   unfold we3
   rw[List.length_map,S.len]
 have fpLt:∀ b∈fp,Nat.lt b D:=fun b hb=>by
  obtain⟨o,e,_⟩:=T.obj 0 _ st2 b hb
  exact below b o e
 have fpk:∀ {H:Hp} {oD:Obj},(∀ b∈fp,H b=none)->∀ b∈fp,xi8 X' [(D,oD)] H b:=fun{H oD} hn b hb=>by
  refine⟨hn b hb,?_,fun hm=>?_,.inl hb,fun x c e=>(f2 b hb).2.2.2.2.1 x c (hclS _ _ e),fun p hp=>?_⟩
  ·exact neC (fpLt b hb)
  ·rcases List.mem_cons.mp (I2.stkSub b hm) with h|h
   ·exact(f2 b hb).2.1 h
   ·exact(f2 b hb).2.2.1 h
  ·rcases List.mem_append.mp hp with hp|hp
   ·exact(f2 b hb).2.2.2.2.2 p hp
   ·have hp:p=(D,oD):=by simpa using hp
    subst hp
    exact(neD (fpLt b hb)).symm
 have loop:∀ s₃:Shared,s₃={s2 with heap:=h₁,toks:=s2.toks+([]:List (Str×Value)).length} ->
  codeAny (model X.prog X.w) X.A (.compLoop (.ListComp elt [⟨tg,iter,ifs,0⟩] scope pos) 0 (.ref it) (.ref D) (compEnvC scope cl C X.env)) (RR (.ref D) C) s₃:=by
  rintro s₃ rfl
  refine we2 (fun n s'=>∃ i ys its k H',Inv X' [(D,({cls:=.type "list",data:=.seq its k}:Obj))] (we3 fr σ) H' s'/\tn i s'.heap/\(∀ b∈fp,H' b=none)/\G7 ys its.toList/\W i n ys H') ?_ m0
   ⟨0,[],#[],_,H2,I4 _ (by first|exact I2.tk|exact Nat.succ_pos _),T.keep 0 _ _ st2 (fun b _ o e=>old b o e),fun b hb=>(f2 b hb).1,.nil,w0⟩
  rintro n s3 ⟨i,ys,its,k,H3,I3,st3,fr3,vy,w3⟩
  obtain⟨hsz,h⟩:=turn i n ys H3 w3
  rcases h with⟨stop,qn⟩|⟨go,NN,hNN,step⟩
  ·refine noE (thn (T.done X' rfl rfl rfl hcalm i [(D,_)] s3 (we3 fr σ) H3 _ I3 (fpk fr3) st3 stop) fun r s4 zq=>?_)
   obtain⟨hr,I4⟩:=zq
   subst hr
   refine hRR C D s4 ⟨ys,H3,?_⟩
   obtain⟨pD,nD,_,_,_⟩:=I4.pin (D,_) (List.mem_append_right _ (List.mem_singleton.mpr rfl))
   have pD:s4.heap.get? D=some {cls:=.type "list",data:=.seq its k}:=pD
   have nD:H3 D=none:=nD
   have nC:H3 C=none:=I4.free
   obtain⟨mC,hnC,_⟩:=I4.loc
   refine⟨nD,⟨mC,hnC⟩,hDC,(neC Lt).symm,fun x c e z=>?_,fun p hp z=>?_,?_,fun hm=>?_,?_,fun h' hsb=>?_,qn D nD⟩
   ·exact neC (cellLt x c e) z
   ·exact neC (pinLt p hp) z
   ·have:=I2.sz;rw[hDD] at this;exact Nat.le_trans this (Nat.le_of_lt hDlt)
   ·exact I2.nofs (by rw[hDD];exact Nat.le_of_lt hDlt) hm
   ·rw[B9 (Ne.symm hDC)];exact nC
   ·have un:Un (frs X.stack) fp H2 (upd H3 D (.lst ys)) s2.heap h':=by
     have u:=I4.base
     have neC:∀ (b:Addr) (o:Obj),s2.heap.get? b=some o->b≠C:=fun b o e=>neC (below b o e)
     have neD:∀ (b:Addr) (o:Obj),s2.heap.get? b=some o->b≠D:=fun b o e=>neD (below b o e)
     have trkNe:∀ b (o:HO),H3 b=some o->b≠D:=fun b o e z=>by rw[z,nD] at e;cases e
     refine⟨fun b o e n hb hx=>hsb.extBut b o (neC b o e) (u.keep b o e n hb hx),fun b o e n hb hx=>?_,fun b o e n hx=>by rw[B9 (neD b o e)];exact u.free b o e n hx,fun b o e hx=>?_,fun b xs e=>?_,fun b o xs e=>?_,fun b ps e=>?_⟩
     ·obtain⟨sl,q⟩:=u.slot b o e n hb hx
      exact⟨sl,hsb.extBut b _ (neC b o e) q⟩
     ·obtain⟨o',q⟩:=u.there b o e hx
      exact⟨o',hsb.extBut b _ (neC b o e) q⟩
     ·have q:=u.tups b xs e
      rw[B9 (trkNe b _ q)];exact q
     ·have q:=u.frzs b o xs e
      rw[B9 (trkNe b _ q)];exact q
     ·obtain⟨more,q⟩:=u.tbls b ps e
      exact⟨more,by rw[B9 (trkNe b _ q)];exact q⟩
    have hok:HOk X.prog X.w (upd H3 D (.lst ys)) h':=fun b u e=>by
     by_cases hb:b=D
     ·rw[hb,A5] at e
      cases e
      rw[hb]
      exact⟨hsz,its.toList,k,vy,by simpa using hsb.extBut D _ hDC pD⟩
     ·rw[B9 hb] at e
      refine(I4.hok b u e).stay (fun c v hc q=>hsb.extBut c v ?_ q) (fun c q=>?_) fun c xs q=>?_
      ·rcases hc with rfl|hc
       ·rintro rfl;rw[nC] at e;cases e
       ·rintro rfl;rw[nC] at hc;cases hc
      ·rw[B9 (U6 q nD)];exact q
      ·rw[B9 (U6 q nD)];exact q
    obtain⟨hh,gg,dd,tt',os'⟩:=s4
    obtain rfl:os'=s2.os:=I4.os
    refine(show Inv X pins σ (upd H3 D (.lst ys)) {s2 with heap:=h',gens:=gg,drawn:=dd,toks:=tt'} from I2.call (h':=h') (g':=gg) (d':=dd) (t':=tt') (ch:=fp) un hok I4.bare fun b hb=>?_)
    obtain⟨_,f1,_,f3,f4,f5⟩:=f2 b hb
    exact⟨f3,f1,f4,f5⟩
  ·refine noE (thn (T.item X' rfl rfl rfl hcalm i [(D,_)] s3 (we3 fr σ) H3 _ I3 (fpk fr3) st3 go) fun r s4 zq=>?_)
   obtain⟨u,hr,h4⟩:=zq
   subst hr
   refine noE (thn h4 fun _ s5 zq=>?_)
   obtain⟨x,H5,I5,r5,y5,st5,fr5⟩:=zq
   have I5':=I5.pinned (fpk fr5) (T.obj _ _ st5)
   refine noE (thn (hg C s2 H2 fp (X.pn++pins) _ s5 (we3 fr σ) H5 x u _ I5' r5 (hgo _ _ _ _ (step x H5 y5))) fun _ s6 zq=>?_)
   obtain⟨σ6,H6,I6,q6,k6⟩:=zq
   refine noE (thn (ht C s2 H2 fp (X.pn++pins) _ s6 σ6 H6 _ I6 q6) fun b s7 zq=>?_)
   obtain⟨H7,I7,q7⟩:=zq
   have back:∀ {s8:Shared} {H8:Hp},Inv X' ([(D,({cls:=.type "list",data:=.seq its k}:Obj))]++xc5 fp s5.heap) σ6 H8 s8->Inv X' [(D,({cls:=.type "list",data:=.seq its k}:Obj))] (we3 fr σ) H8 s8/\tn (i+1) s8.heap/\∀ b∈fp,H8 b=none:=fun{s8 H8} I8=>by
    refine⟨(I8.unpinned).weak ?_ fun j v e=>?_,T.keep _ _ _ st5 fun b hb o e=>(I8.pin (b,o) (List.mem_append_right _ (List.mem_append_right _ (qy5 hb e)))).1,fun b hb=>?_⟩
    ·rw[I8.len];show(we3 fr σ).length=N.length;unfold we3;rw[List.length_map,S.len]
    ·obtain⟨i',q1,_⟩:=xw6 e
     rw[k6 j i' q1];exact e
    ·obtain⟨o,e,d⟩:=T.obj _ _ st5 b hb
     exact(I8.pin (b,o) (List.mem_append_right _ (List.mem_append_right _ (qy5 hb e)))).2.1
   cases b with
   | false =>
     rw[if_neg Bool.false_ne_true] at q7 ⊢
     obtain⟨m',hm,w7⟩:=hNN _ _ q7
     obtain⟨J1,J2,J3⟩:=back I7
     exact⟨m',hm,i+1,ys,its,k,H7,J1,J2,J3,vy,w7⟩
   | true =>
     rw[if_pos rfl] at q7 ⊢
     refine noE (thn (he C s2 H2 fp (X.pn++pins) _ s7 σ6 H7 _ I7 q7) fun y s8 zq=>?_)
     obtain⟨yv,H8,I8,r8,n8⟩:=zq
     obtain⟨m',hm,w8⟩:=hNN _ _ n8
     obtain⟨J1,J2,J3⟩:=back I8
     obtain⟨pD,nD,_,_,_⟩:=J1.pin (D,_) (List.mem_append_right _ (List.mem_singleton.mpr rfl))
     have pD:s8.heap.get? D=some {cls:=.type "list",data:=.seq its k}:=pD
     have nD:H8 D=none:=nD
     have hz':its.size<=sizeLine:=by
      have e1:its.size=ys.length:=by rw[vy.length];simp
      rw[e1];exact hsz
     refine wpAny_list_append_plain (hsz:=hz') ⟨k,pD⟩ fun h' ⟨k',hl'⟩ hsb=>?_
     ·refine⟨m',hm,i+1,ys++[yv],its.push y,k',H8,?_,T.keep _ _ _ J2 fun b hb o e=>?_,J3,?_,w8⟩
      ·have K0:Inv X' [] (we3 fr σ) H8 s8:=J1.pins_of fun p hp=>by cases hp
       have K1:Inv X' [] (we3 fr σ) H8 {s8 with heap:=h'}:=by
        refine K0.turned (it:=D) (t':=s8.toks) (fun b o hb e=>hsb.extBut b o hb e) nD hDC (.inr (by show s2.heap.objs.size<=D;rw[hDD];exact Nat.le_refl _)) (fun x c e z=>?_) fun p hp z=>?_
        ·exact neD (cellLt x c (hclS _ _ e)) z
        ·have hp:p∈X.pn++pins:=by
          rcases List.mem_append.mp hp with hp|hp
          ·exact hp
          ·cases hp
         exact neD (pinLt p hp) z
       refine K1.pins_of fun p hp=>?_
       have hp:p=(D,({cls:=.type "list",data:=.seq (its.push y) k'}:Obj)):=by simpa using hp
       subst hp
       refine⟨hl',nD,hDC,fun hm=>?_,fun v z=>by cases z⟩
       rcases List.mem_cons.mp (I2.stkSub _ hm) with h|h
       ·exact neD Lt h.symm
       ·exact I2.nofs (by rw[hDD];exact Nat.le_refl _) h
      ·exact hsb.extBut b o (neD (fpLt b hb)) e
      ·rw[Array.toList_push]
       exact G7.append vy (.cons r8 .nil)
 exact codeAny_compStart_list (loop _ rfl) (T.self _ 0 _ _ _ (T.keep 0 _ _ st2 fun b _ o e=>old b o e) (loop _ rfl))
theorem wp0{tg:Expr}(hcalm:X.calm=true)(S:wh4 X scope N fr)(hi:PI X tg iter wi)(hg:∀ cl C s₂ H₂ fp pn,PG (blk X N scope cl C s₂ H₂ fp pn) tg g)(hgo:yw9 fr g)(ht:∀ cl C s₂ H₂ fp pn,PTs (blk X N scope cl C s₂ H₂ fp pn) ifs tt)(he:∀ cl C s₂ H₂ fp pn,PE (blk X N scope cl C s₂ H₂ fp pn) elt te)(hs:autoParam (∀ x,foldedSetIterable iter X.env x=pure x) zAi):PE X (.ListComp elt [⟨tg,iter,ifs,0⟩] scope pos) (wk0 fr wi g tt te):=by
 intro pins s σ H Q I h
 obtain⟨cl,hclos,hclS,hclH⟩:=wj9 (env:=X.env) (scope:=scope) fun y hy hf=>I.ok.has y.1 (S.free y hy hf)
 rw[eval_ListComp]
 refine wpAny_comprehension_free (use:=none) rfl hs hclos S.kind S.names (thn (hi pins s σ H _ I h) fun v s1 h1=>thn h1 fun itv s2 h2=>?_)
 obtain⟨it,fp,tn,J,H2,e,I2,T,st2,f2,W,w0,turn⟩:=h2
 subst e
 refine xd4 (RR:=fun acc C=>compPost (model X.prog X.w) X.A X.xe none (EP X pins σ Q) acc C) hcalm S hclS hclH (hg cl) hgo (ht cl) (he cl) I2 T st2 f2 W w0 turn fun C D s' B=>?_
 obtain⟨ys,H',nD,hC,_,_,_,_,_,_,_,hI,q⟩:=B.ex
 obtain⟨m,hn⟩:=hC
 exact⟨m,hn,fun h' hs'=>⟨.ref D,_,hI h' hs',rfl,q⟩⟩
theorem yl1{tg:Expr}{spos py:Pos}{i:Nat}{y:Str}(hN:X.N.Nodup)(hy:X.N[i]?=some y)(hly:X.env.scope.names.lookup y=some .local)(hcalm:X.calm=true)(S:wh4 X scope N fr)(hi:PI X tg iter wi)(hg:∀ cl C s₂ H₂ fp pn,PG (blk X N scope cl C s₂ H₂ fp pn) tg g)(hgo:yw9 fr g)(ht:∀ cl C s₂ H₂ fp pn,PTs (blk X N scope cl C s₂ H₂ fp pn) ifs tt)(he:∀ cl C s₂ H₂ fp pn,PE (blk X N scope cl C s₂ H₂ fp pn) elt te)(hsw:autoParam (swapsWith (.ListComp elt [⟨tg,iter,ifs,0⟩] scope pos) (some (.Name y py)) spos.line X.env=pure true) zAr)(hs:autoParam (∀ x,foldedSetIterable iter X.env x=pure x) zAi):PS X (.Assign [.Name y py] (.ListComp elt [⟨tg,iter,ifs,0⟩] scope pos) spos) (E1 (wk0 fr wi g tt te) (B1 i)):=by
 intro pins s σ H D I h
 obtain⟨cl,hclos,hclS,hclH⟩:=wj9 (env:=X.env) (scope:=scope) fun y hy hf=>I.ok.has y.1 (S.free y hy hf)
 rw[exec_Assign_Name_used _ _ _ _ hsw]
 refine wpAny_bind (wpAny_standAt (wpAny_bind ?_))
 show wpAny _ X.A (do let _<-comprehension (.ListComp elt [⟨tg,iter,ifs,0⟩] scope pos) scope X.env _ (newList []) false (eval iter X.env) (some (assign (.Name y py) X.env))) _ _ s
 refine wpAny_bind (wpAny_mono (wpAny_comprehension_free (use:=some (assign (.Name y py) X.env)) (Q:=fun _ s'=>SP X pins D .next s') rfl hs hclos S.kind S.names
  (thn (hi pins s σ H _ I h) fun v s1 h1=>thn h1 fun itv s2 h2=>?_)) (fun _ s' hq=>wpAny_pure (wpAny_pure hq)) fun _ _ e=>e)
 obtain⟨it,fp,tn,J,H2,e,I2,T,st2,f2,W,w0,turn⟩:=h2
 subst e
 refine xd4 (Q:=fun x H1=>B1 i x σ H1 D.nx) (RR:=fun acc C=>compPost (model X.prog X.w) X.A X.xe (some (assign (.Name y py) X.env)) (fun _ s'=>SP X pins D .next s') acc C) hcalm S hclS hclH (hg cl) hgo (ht cl) (he cl) I2 T st2 f2 W w0 turn fun C D' s' B=>?_
 obtain⟨ys,H',nD,hC,hDC,hCL,hCc,hCp,hCs,hCf,hCn,hI,q⟩:=B.ex
 obtain⟨m,hn⟩:=hC
 have I1:Inv X pins σ (upd H' D' (.lst ys)) s':=by
  have:=hI s'.heap (.refl ..)
  obtain⟨hh,gg,dd,tt',os'⟩:=s'
  exact this
 show wpAny _ X.A (assign (.Name y py) X.env (.ref D')) _ _ _
 refine wpAny_assign_Name (xl6 I1 hN hy (.inl hly) (v:=.ref D') rfl (fun s2 I3 zq=>?_) (.inr hly))
 obtain⟨a,sb,ha⟩:=zq
 have hCa:C≠a:=by
  rcases ha with rfl|ha
  ·exact hCL
  ·exact fun z=>hCc y a ha z.symm
 refine⟨m,hn.sameBut sb hCa,fun h3 hs3=>?_⟩
 exact⟨_,_,I3.turned (it:=C) (t':=s2.toks) (fun b o hb e=>hs3.extBut b o hb e) hCn hCL (.inr hCs) hCc hCp,q⟩
mutual
def Dv(K:Fg)(H:Hp):PyData->V->Prop
 | .none,v=>v=.non
 | .bool b,v=>v=.bl b
 | .int i,v=>v=.int i
 | .str x,v=>v=.str x
 | .list ds,v=>∃ a vs,v=.ref a/\SqL K H a vs/\Dvs K H ds vs
 | .tuple ds,v=>∃ a vs,v=.ref a/\SqT K H a vs/\Dvs K H ds vs
 | .dict _,_=>False
def Dvs(K:Fg)(H:Hp):List PyData->List V->Prop
 | [],vs=>vs=[]
 | d::ds,vs=>∃ v r,vs=v::r/\Dv K H d v/\Dvs K H ds r
end
theorem Dvs.length:∀ {ds:List PyData} {vs:List V},Dvs K H ds vs->vs.length=ds.length
 | [],_,h=>by rw[Dvs] at h;subst h;rfl
 | d::ds,_,h=>by
   rw[Dvs] at h
   obtain⟨v,r,rfl,_,h⟩:=h
   rw[List.length_cons,List.length_cons,Dvs.length h]
theorem Dvs.get:∀ {ds:List PyData} {vs:List V} {i:Nat} {d:PyData},Dvs K H ds vs->ds[i]?=some d->∃ v,vs[i]?=some v/\Dv K H d v
 | [],_,_,_,_,e=>by simp at e
 | d::ds,_,0,_,h,e=>by
   rw[Dvs] at h
   obtain⟨v,r,rfl,h,_⟩:=h
   cases e
   exact⟨v,rfl,h⟩
 | d::ds,_,i+1,_,h,e=>by
   rw[Dvs] at h
   obtain⟨v,r,rfl,_,h⟩:=h
   exact Dvs.get (i:=i) h (by simpa using e)
theorem Dvs.get':∀ {ds:List PyData} {vs:List V} {i:Nat} {v:V},Dvs K H ds vs->vs[i]?=some v->∃ d,ds[i]?=some d/\Dv K H d v
 | [],_,_,_,h,e=>by rw[Dvs] at h;subst h;simp at e
 | d::ds,_,0,_,h,e=>by
   rw[Dvs] at h
   obtain⟨v,r,rfl,h,_⟩:=h
   cases e
   exact⟨d,rfl,h⟩
 | d::ds,_,i+1,_,h,e=>by
   rw[Dvs] at h
   obtain⟨v,r,rfl,_,h⟩:=h
   exact Dvs.get' (i:=i) h (by simpa using e)
theorem Dvs.append:∀ {ds es:List PyData} {vs ws:List V},Dvs K H ds vs->Dvs K H es ws->Dvs K H (ds++es) (vs++ws)
 | [],_,_,_,h,g=>by rw[Dvs] at h;subst h;exact g
 | d::ds,es,_,_,h,g=>by
   rw[Dvs] at h
   obtain⟨v,r,rfl,h1,h⟩:=h
   show Dvs K H (d::(ds++es)) _
   rw[Dvs]
   exact⟨v,r++_,rfl,h1,Dvs.append h g⟩
theorem J4:Dvs K H [] []:=by rw[Dvs]
variable{d:PyData}{ds:List PyData}
theorem C3(h:Dv K H d v)(t:Dvs K H ds vs):Dvs K H (d::ds) (v::vs):=by rw[Dvs];exact⟨v,vs,rfl,h,t⟩
theorem xq3:Dvs K H (d::ds) (v::vs)↔Dv K H d v/\Dvs K H ds vs:=by
 rw[Dvs]
 constructor
 ·rintro⟨v',r,e,h⟩;cases e;exact h
 ·intro h;exact⟨v,vs,rfl,h⟩
theorem wp1:Dv K H .none v↔v=.non:=by rw[Dv]
theorem wp2{b:Bool}:Dv K H (.bool b) v↔v=.bl b:=by rw[Dv]
theorem O6:Dv K H (.int i) v↔v=.int i:=by rw[Dv]
theorem E6:Dv K H (.str x) v↔v=.str x:=by rw[Dv]
theorem qr7:Dv K H (.list ds) v↔∃ a vs,v=.ref a/\SqL K H a vs/\Dvs K H ds vs:=by rw[Dv]
theorem D7:Dv K H (.tuple ds) v↔∃ a vs,v=.ref a/\SqT K H a vs/\Dvs K H ds vs:=by rw[Dv]
def sDa(xs:List Str):List PyData:=xs.map .str
def B7(xs:List Str):List V:=xs.map .str
theorem qr8:∀ {xs:List Str} {vs:List V},Dvs K H (sDa xs) vs↔vs=B7 xs
 | [],_=>by show Dvs K H [] _↔_=[];rw[Dvs]
 | x::xs,vs=>by
   show Dvs K H (.str x::sDa xs) vs↔vs=V.str x::B7 xs
   rw[Dvs]
   constructor
   ·rintro⟨v,r,rfl,h1,h2⟩
    rw[E6.mp h1,qr8.mp h2]
   ·rintro rfl
    exact⟨_,_,rfl,E6.mpr rfl,qr8.mpr rfl⟩
def U8(H H':Hp):Prop:=(∀ b xs,H b=some (.tup xs)->H' b=some (.tup xs))/\∀ b o xs,H b=some (.frz o (.tup xs))->H' b=some (.frz o (.tup xs))
theorem A6.tupK(h:A6 H H'):U8 H H':=⟨fun b xs e=>h b _ e,fun b o xs e=>h b _ e⟩
theorem U8.refl(H:Hp):U8 H H:=⟨fun _ _ e=>e,fun _ _ _ e=>e⟩
theorem U8.trans(a:U8 H H1)(b:U8 H1 H2):U8 H H2:=⟨fun c xs e=>b.1 c xs (a.1 c xs e),fun c o xs e=>b.2 c o xs (a.2 c o xs e)⟩
theorem U8.sqT(e:U8 H H')(h:SqT K H a xs):SqT K H' a xs:=by
 rcases h with(h|⟨o,h⟩)|h
 ·exact .inl (.inl (e.1 _ _ h))
 ·exact .inl (.inr ⟨o,e.2 _ _ _ h⟩)
 ·exact .inr h
theorem A6.sqT(e:A6 H H')(h:SqT K H a xs):SqT K H' a xs:=e.tupK.sqT h
theorem A6.sqL(e:A6 H H')(h:SqL K H a xs):SqL K H' a xs:=e.seq h
theorem A6.new(h:H p=none)(o:HO):A6 H (upd H p o):=fun b u q=>by rw[B9 (U6 q h)];exact q
def But(ps:List Addr)(H H':Hp):Prop:=∀ b o,H b=some o->b∉ps->H' b=some o
theorem But.refl(ps:List Addr)(H:Hp):But ps H H:=fun _ _ e _=>e
mutual
/-- data without lists -/
def fix:PyData->Bool
 | .none=>true | .bool _=>true | .int _=>true | .str _=>true
 | .list _=>false
 | .tuple ds=>N9 ds
 | .dict _=>false
def N9:List PyData->Bool
 | []=>true
 | d::ds=>fix d && N9 ds
end
mutual
theorem Dv.tupK{K:Fg}{H H':Hp}(k:U8 H H'):∀ (d:PyData) (v:V),fix d=true->Dv K H d v->Dv K H' d v
 | .none,_,_,h=>wp1.mpr (wp1.mp h)
 | .bool _,_,_,h=>wp2.mpr (wp2.mp h)
 | .int _,_,_,h=>O6.mpr (O6.mp h)
 | .str _,_,_,h=>E6.mpr (E6.mp h)
 | .list _,_,f,_=>by rw[fix] at f;cases f
 | .tuple ds,v,f,h=>by
   rw[fix] at f
   obtain⟨a,vs,rfl,hq,h⟩:=D7.mp h
   exact D7.mpr ⟨a,vs,rfl,k.sqT hq,Dvs.tupK k ds vs f h⟩
 | .dict _,_,f,_=>by rw[fix] at f;cases f
theorem Dvs.tupK{K:Fg}{H H':Hp}(k:U8 H H'):∀ (ds:List PyData) (vs:List V),N9 ds=true->Dvs K H ds vs->Dvs K H' ds vs
 | [],_,_,h=>by rw[Dvs] at h ⊢;exact h
 | d::ds,vs,f,h=>by
   rw[N9,Bool.and_eq_true] at f
   rw[Dvs] at h ⊢
   obtain⟨v,r,e,h1,h2⟩:=h
   exact⟨v,r,e,Dv.tupK k d v f.1 h1,Dvs.tupK k ds r f.2 h2⟩
end
mutual
theorem Dv.same{K:Fg}{H H':Hp}(k:A6 H H'):∀ (d:PyData) (v:V),Dv K H d v->Dv K H' d v
 | .none,_,h=>wp1.mpr (wp1.mp h)
 | .bool _,_,h=>wp2.mpr (wp2.mp h)
 | .int _,_,h=>O6.mpr (O6.mp h)
 | .str _,_,h=>E6.mpr (E6.mp h)
 | .list ds,v,h=>by
   obtain⟨a,vs,rfl,hq,h⟩:=qr7.mp h
   exact qr7.mpr ⟨a,vs,rfl,k.sqL hq,Dvs.same k ds vs h⟩
 | .tuple ds,v,h=>by
   obtain⟨a,vs,rfl,hq,h⟩:=D7.mp h
   exact D7.mpr ⟨a,vs,rfl,k.sqT hq,Dvs.same k ds vs h⟩
 | .dict _,_,h=>by rw[Dv] at h;exact h.elim
theorem Dvs.same{K:Fg}{H H':Hp}(k:A6 H H'):∀ (ds:List PyData) (vs:List V),Dvs K H ds vs->Dvs K H' ds vs
 | [],_,h=>by rw[Dvs] at h ⊢;exact h
 | d::ds,vs,h=>by
   rw[Dvs] at h ⊢
   obtain⟨v,r,e,h1,h2⟩:=h
   exact⟨v,r,e,Dv.same k d v h1,Dvs.same k ds r h2⟩
end
mutual
theorem Dv.reads{X:Cx}{pins:List (Addr×Obj)}{σ:St}{H:Hp}{s:Shared}(I:Inv X pins σ H s):∀ (d:PyData) (v:V) (u:Value),Dv X.K H d v->J9 v u->∃ as,Reads s.heap u d as
 | .none,_,_,h,r=>by rw[wp1.mp h] at r;cases r;exact⟨_,.none⟩
 | .bool b,_,_,h,r=>by rw[wp2.mp h] at r;cases r;exact⟨_,.bool b⟩
 | .int i,_,_,h,r=>by rw[O6.mp h] at r;obtain⟨t,rfl⟩:=r;exact⟨_,.int i t⟩
 | .str x,_,_,h,r=>by rw[E6.mp h] at r;obtain⟨t,rfl⟩:=r;exact⟨_,.str x t⟩
 | .list ds,_,_,h,r=>by
   obtain⟨a,vs,rfl,hq,h⟩:=qr7.mp h
   cases r
   obtain⟨its,rv,pl,_⟩:=I.list hq
   obtain⟨o,e,c,n,d⟩:=pl.isList
   obtain⟨as,ra⟩:=Dvs.reads I ds vs its h rv
   exact⟨_,.list e c d (by simpa using ra)⟩
 | .tuple ds,_,_,h,r=>by
   obtain⟨a,vs,rfl,hq,h⟩:=D7.mp h
   cases r
   obtain⟨its,rv,pl,_⟩:=I.tuple hq
   obtain⟨o,e,c,n,d⟩:=pl
   obtain⟨as,ra⟩:=Dvs.reads I ds vs its h rv
   exact⟨_,.tuple e c d (by simpa using ra)⟩
 | .dict _,_,_,h,_=>by rw[Dv] at h;exact h.elim
theorem Dvs.reads{X:Cx}{pins:List (Addr×Obj)}{σ:St}{H:Hp}{s:Shared}(I:Inv X pins σ H s):∀ (ds:List PyData) (vs:List V) (us:List Value),Dvs X.K H ds vs->G7 vs us->∃ as,ReadsAll s.heap us ds as
 | [],_,_,h,r=>by rw[Dvs] at h;subst h;cases r;exact⟨_,.nil⟩
 | d :: ds,_,_,h,r=>by
   rw[Dvs] at h
   obtain⟨v,r',rfl,h1,h2⟩:=h
   cases r with
   | cons r1 r2 =>
     obtain⟨as,a1⟩:=Dv.reads I d v _ h1 r1
     obtain⟨bs,a2⟩:=Dvs.reads I ds r' _ h2 r2
     exact⟨_,.cons a1 a2⟩
end
open PySem.SeqAt
mutual
def nd:PyData->Bool
 | .none=>true | .bool _=>true | .int _=>true | .str _=>true
 | .list ds=>nds ds
 | .tuple ds=>nds ds
 | .dict _=>false
def nds:List PyData->Bool
 | []=>true
 | d::ds=>nd d && nds ds
end
mutual
theorem Dv.nd{K:Fg}{H:Hp}:∀ (d:PyData) (v:V),Dv K H d v->nd d=true
 | .none,_,_=>by rw[L2.nd]
 | .bool _,_,_=>by rw[L2.nd]
 | .int _,_,_=>by rw[L2.nd]
 | .str _,_,_=>by rw[L2.nd]
 | .list ds,_,h=>by
   obtain⟨a,vs,_,_,h⟩:=qr7.mp h
   rw[L2.nd];exact Dvs.nd ds vs h
 | .tuple ds,_,h=>by
   obtain⟨a,vs,_,_,h⟩:=D7.mp h
   rw[L2.nd];exact Dvs.nd ds vs h
 | .dict _,_,h=>by rw[Dv] at h;exact h.elim
theorem Dvs.nd{K:Fg}{H:Hp}:∀ (ds:List PyData) (vs:List V),Dvs K H ds vs->nds ds=true
 | [],_,_=>by rw[nds]
 | d::ds,vs,h=>by
   rw[Dvs] at h
   obtain⟨v,r,_,h1,h2⟩:=h
   rw[nds,Dv.nd d v h1,Dvs.nd ds r h2];rfl
end
mutual
theorem xd5{h:Heap}:∀ (d d':PyData) (v:Value) (as as':List Addr),nd d=true->Reads h v d as->Reads h v d' as'->d=d'
 | .none,_,_,_,_,_,r,q=>by cases r;cases q;rfl
 | .bool _,_,_,_,_,_,r,q=>by cases r;cases q;rfl
 | .int _,_,_,_,_,_,r,q=>by cases r;cases q;rfl
 | .str _,_,_,_,_,_,r,q=>by cases r;cases q;rfl
 | .dict _,_,_,_,_,n,_,_=>by rw[L2.nd] at n;cases n
 | .list xs,d',_,_,_,n,r,q=>by
   rw[L2.nd] at n
   cases r with
   | list a1 a2 a3 a4 =>
     cases q with
     | list b1 b2 b3 b4=>rw[a1] at b1;cases b1;rw[a3] at b3;cases b3;rw[wt3 xs _ _ _ _ n a4 b4]
     | tuple b1 b2 b3 b4=>rw[a1] at b1;cases b1;rw[a2] at b2;exact absurd b2 (by simp)
     | dict b1 b2=>rw[a1] at b1;cases b1;rw[a2] at b2;exact absurd b2 (by simp)
 | .tuple xs,d',_,_,_,n,r,q=>by
   rw[L2.nd] at n
   cases r with
   | tuple a1 a2 a3 a4 =>
     cases q with
     | tuple b1 b2 b3 b4=>rw[a1] at b1;cases b1;rw[a3] at b3;cases b3;rw[wt3 xs _ _ _ _ n a4 b4]
     | list b1 b2 b3 b4=>rw[a1] at b1;cases b1;rw[a2] at b2;exact absurd b2 (by simp)
     | dict b1 b2=>rw[a1] at b1;cases b1;rw[a2] at b2;exact absurd b2 (by simp)
theorem wt3{h:Heap}:∀ (xs ys:List PyData) (vs:List Value) (as as':List Addr),nds xs=true->ReadsAll h vs xs as->ReadsAll h vs ys as'->xs=ys
 | [],_,_,_,_,_,r,q=>by cases r;cases q;rfl
 | x :: xs,_,_,_,_,n,r,q=>by
   rw[nds,Bool.and_eq_true] at n
   cases r with
   | cons r1 r2 =>
     cases q with
     | cons q1 q2=>rw[xd5 x _ _ _ _ n.1 r1 q1,wt3 xs _ _ _ _ n.2 r2 q2]
end
mutual
theorem wp3:∀ d:PyData,nd d=true->PyData.eqv d d=true
 | .none,_=>rfl
 | .bool b,_=>by simp[PyData.eqv]
 | .int i,_=>by simp[PyData.eqv]
 | .str x,_=>by simp[PyData.eqv]
 | .list xs,h=>by rw[PyData.eqv];rw[L2.nd] at h;exact wt4 xs h
 | .tuple xs,h=>by rw[PyData.eqv];rw[L2.nd] at h;exact wt4 xs h
 | .dict _,h=>by rw[L2.nd] at h;cases h
theorem wt4:∀ xs:List PyData,nds xs=true->PyData.eqvAll xs xs=true
 | [],_=>rfl
 | x::xs,h=>by
   rw[nds,Bool.and_eq_true] at h
   rw[PyData.eqvAll,wp3 x h.1,wt4 xs h.2];rfl
end
theorem L8{h:Heap}:∀ {xs:List PyData} {vs:List Value} {as:List Addr},ReadsAll h vs xs as->vs.length=xs.length
 | [],_,_,r=>by cases r;rfl
 | _::xs,_,_,r=>by
   cases r with
   | cons _ r'=>rw[List.length_cons,List.length_cons,L8 r']
mutual
theorem yx0:∀ (da db:PyData) (A:Around) (s:Shared) (a b:Value) (as bs:List Addr),Reads s.heap a da as->Reads s.heap b db bs->nd da=true->nd db=true->A.units+min da.depth db.depth<cLine->EqAt A s a b (PyData.eqv da db)
 | .none,db,A,s,_,_,_,_,ra,rb,_,hb,hu=>by
   cases ra
   cases rb with
   | none=>exact EqAt.same _
   | bool y=>exact EqAt.none_bool y
   | int y u=>exact EqAt.none_int y u
   | str y u=>exact EqAt.none_str y u
   | list k1 k2 k3 k4=>exact EqAt.none_list ⟨_,k1,k2,_,k3⟩ (room_here hu)
   | tuple k1 k2 k3 k4=>exact EqAt.none_tuple ⟨_,k1,k2,_,k3⟩ (room_here hu)
   | dict=>rw[L2.nd] at hb;cases hb
 | .bool x,db,A,s,_,_,_,_,ra,rb,_,hb,hu=>by
   cases ra
   cases rb with
   | none=>exact EqAt.bool_none x
   | bool y=>exact EqAt.bool_bool x y
   | int y u=>exact EqAt.bool_int x y u
   | str y u=>exact EqAt.bool_str x y u
   | list k1 k2 k3 k4=>exact EqAt.bool_list x ⟨_,k1,k2,_,k3⟩ (room_here hu)
   | tuple k1 k2 k3 k4=>exact EqAt.bool_tuple x ⟨_,k1,k2,_,k3⟩ (room_here hu)
   | dict=>rw[L2.nd] at hb;cases hb
 | .int x,db,A,s,_,_,_,_,ra,rb,_,hb,hu=>by
   cases ra
   cases rb with
   | none=>exact EqAt.int_none x _
   | bool y=>exact EqAt.int_bool x _ y
   | int y u=>exact EqAt.int_int x _ y u
   | str y u=>exact EqAt.int_str x _ y u
   | list k1 k2 k3 k4=>exact EqAt.int_list x _ ⟨_,k1,k2,_,k3⟩ (room_here hu)
   | tuple k1 k2 k3 k4=>exact EqAt.int_tuple x _ ⟨_,k1,k2,_,k3⟩ (room_here hu)
   | dict=>rw[L2.nd] at hb;cases hb
 | .str x,db,A,s,_,_,_,_,ra,rb,_,hb,hu=>by
   cases ra
   cases rb with
   | none=>exact EqAt.str_none x _
   | bool y=>exact EqAt.str_bool x _ y
   | int y u=>exact EqAt.str_int x _ y u
   | str y u=>exact EqAt.str_str x _ y u
   | list k1 k2 k3 k4=>exact EqAt.str_list x _ ⟨_,k1,k2,_,k3⟩ (room_here hu)
   | tuple k1 k2 k3 k4=>exact EqAt.str_tuple x _ ⟨_,k1,k2,_,k3⟩ (room_here hu)
   | dict=>rw[L2.nd] at hb;cases hb
 | .list xs,db,A,s,_,_,_,_,ra,rb,ha,hb,hu=>by
   have ra0:=ra
   have rb0:=rb
   cases ra with
   | @list l o1 vs1 n1 xs as h1 h2 h3 h4 =>
     cases rb with
     | none=>exact EqAt.list_none ⟨_,h1,h2,_,h3⟩ (room_here hu)
     | bool y=>exact EqAt.list_bool y ⟨_,h1,h2,_,h3⟩ (room_here hu)
     | int y u=>exact EqAt.list_int y u ⟨_,h1,h2,_,h3⟩ (room_here hu)
     | str y u=>exact EqAt.list_str y u ⟨_,h1,h2,_,h3⟩ (room_here hu)
     | tuple k1 k2 k3 k4=>exact EqAt.list_tuple ⟨_,h1,h2,_,h3⟩ ⟨_,k1,k2,_,k3⟩ (room_here hu)
     | @list b o vs2 n2 ys bs k1 k2 k3 k4 =>
       by_cases e:l=b
       ·subst e
        rw[xd5 _ _ _ _ _ ha ra0 rb0,wp3 _ hb]
        exact EqAt.same _
       ·refine EqAt.of_refs e ?_
        have l1:=L8 h4
        have l2:=L8 k4
        rw[L2.nd] at ha hb
        by_cases hz:xs.length=ys.length
        ·have:=RcAt.lists (A:=A) (s:=s) (e:=pairEq xs ys) ⟨_,h1,h2,_,h3⟩ ⟨_,k1,k2,_,k3⟩ (by simp at l1 l2;omega) (room_here hu) (fun j h1 h2=>by have q:=qd4 xs ys A.in1 s _ _ _ _ h4 k4 ha hb (room_in (by rw[PyData.depth,PyData.depth] at hu;exact hu)) j (by simpa using h1) (by simpa using h2);rw[Array.getElem_toList,Array.getElem_toList] at q;exact q)
         rw[show PyData.eqv (.list xs) (.list ys)=PyData.eqvAll xs ys by rw[PyData.eqv],<-eqvAll_same_length hz]
         have e1:vs1.size=xs.length:=by simpa using l1
         rw[e1] at this
         exact this
        ·rw[show PyData.eqv (.list xs) (.list ys)=PyData.eqvAll xs ys by rw[PyData.eqv],eqvAll_other_length hz]
         exact RcAt.lists_lengths ⟨_,h1,h2,_,h3⟩ ⟨_,k1,k2,_,k3⟩ (by simp at l1 l2;simp;omega) (room_here hu)
     | dict=>rw[L2.nd] at hb;cases hb
 | .tuple xs,db,A,s,_,_,_,_,ra,rb,ha,hb,hu=>by
   have ra0:=ra
   have rb0:=rb
   cases ra with
   | @tuple l o1 vs1 n1 xs as h1 h2 h3 h4 =>
     cases rb with
     | none=>exact EqAt.tuple_none ⟨_,h1,h2,_,h3⟩ (room_here hu)
     | bool y=>exact EqAt.tuple_bool y ⟨_,h1,h2,_,h3⟩ (room_here hu)
     | int y u=>exact EqAt.tuple_int y u ⟨_,h1,h2,_,h3⟩ (room_here hu)
     | str y u=>exact EqAt.tuple_str y u ⟨_,h1,h2,_,h3⟩ (room_here hu)
     | list k1 k2 k3 k4=>exact EqAt.tuple_list ⟨_,h1,h2,_,h3⟩ ⟨_,k1,k2,_,k3⟩ (room_here hu)
     | @tuple b o vs2 n2 ys bs k1 k2 k3 k4 =>
       by_cases e:l=b
       ·subst e
        rw[xd5 _ _ _ _ _ ha ra0 rb0,wp3 _ hb]
        exact EqAt.same _
       ·refine EqAt.of_refs e ?_
        have l1:=L8 h4
        have l2:=L8 k4
        rw[L2.nd] at ha hb
        have:=RcAt.tuples (A:=A) (s:=s) (e:=pairEq xs ys) ⟨_,h1,h2,_,h3⟩ ⟨_,k1,k2,_,k3⟩ (room_here hu) (fun j h1 h2=>by have q:=qd4 xs ys A.in1 s _ _ _ _ h4 k4 ha hb (room_in (by rw[PyData.depth,PyData.depth] at hu;exact hu)) j (by simpa using h1) (by simpa using h2);rw[Array.getElem_toList,Array.getElem_toList] at q;exact q)
        rw[show PyData.eqv (.tuple xs) (.tuple ys)=PyData.eqvAll xs ys by rw[PyData.eqv],<-eqvAll_eq xs ys]
        have e1:vs1.size=xs.length:=by simpa using l1
        have e2:vs2.size=ys.length:=by simpa using l2
        rw[e1,e2] at this
        exact this
     | dict=>rw[L2.nd] at hb;cases hb
 | .dict _,_,_,_,_,_,_,_,_,_,ha,_,_=>by rw[L2.nd] at ha;cases ha
theorem qd4:∀ (xs ys:List PyData) (A:Around) (s:Shared) (us ws:List Value) (as bs:List Addr),ReadsAll s.heap us xs as->ReadsAll s.heap ws ys bs->nds xs=true->nds ys=true->A.units+min (PyData.depthAll xs) (PyData.depthAll ys)<cLine ->
 ∀ j (h1:j<us.length) (h2:j<ws.length),EqAt A s us[j] ws[j] (pairEq xs ys j)
 | [],_,_,_,_,_,_,_,r,_,_,_,_=>by cases r;intro j h1;simp at h1
 | x :: xs,ys,A,s,_,ws,_,_,r,q,ha,hb,hu=>by
   cases r with
   | @cons u us d ds as1 as2 r1 r2 =>
     cases q with
     | nil=>intro j h1 h2;simp at h2
     | @cons w ws y ys bs1 bs2 q1 q2 =>
       rw[nds,Bool.and_eq_true] at ha hb
       rw[PyData.depthAll,PyData.depthAll] at hu
       intro j h1 h2
       cases j with
       | zero=>exact yx0 x y A s u w _ _ r1 q1 ha.1 hb.1 (room_head hu)
       | succ j =>
         exact qd4 xs ys A s us ws _ _ r2 q2 ha.2 hb.2 (room_tail hu) j (by simpa using h1) (by simpa using h2)
end
variable{db:PyData}
theorem zr3{da:PyData}{a b:Value}{bs:List Addr}(ra:Reads s.heap a da as)(rb:Reads s.heap b db bs)(ha:nd da=true)(hb:nd db=true)(hu:A.units+min da.depth db.depth<cLine):RcAt A s a b (PyData.eqv da db):=by
 cases ra with
 | none =>
   cases rb with
   | none=>exact RcAt.none_none
   | bool y=>exact RcAt.none_bool y
   | int y u=>exact RcAt.none_int y u
   | str y u=>exact RcAt.none_str y u
   | @list l2 o2 ws n2 ys bs k1 k2 k3 k4=>exact RcAt.none_list ⟨_,k1,k2,_,k3⟩ (room_here hu)
   | @tuple l2 o2 ws n2 ys bs k1 k2 k3 k4=>exact RcAt.none_tuple ⟨_,k1,k2,_,k3⟩ (room_here hu)
   | dict=>rw[L2.nd] at hb;cases hb
 | bool x =>
   cases rb with
   | none=>exact RcAt.bool_none x
   | bool y=>exact RcAt.bool_bool x y
   | int y u=>exact RcAt.bool_int x y u
   | str y u=>exact RcAt.bool_str x y u
   | @list l2 o2 ws n2 ys bs k1 k2 k3 k4=>exact RcAt.bool_list x ⟨_,k1,k2,_,k3⟩ (room_here hu)
   | @tuple l2 o2 ws n2 ys bs k1 k2 k3 k4=>exact RcAt.bool_tuple x ⟨_,k1,k2,_,k3⟩ (room_here hu)
   | dict=>rw[L2.nd] at hb;cases hb
 | int x t =>
   cases rb with
   | none=>exact RcAt.int_none x t
   | bool y=>exact RcAt.int_bool x t y
   | int y u=>exact RcAt.int_int x t y u
   | str y u=>exact RcAt.int_str x t y u
   | @list l2 o2 ws n2 ys bs k1 k2 k3 k4=>exact RcAt.int_list x t ⟨_,k1,k2,_,k3⟩ (room_here hu)
   | @tuple l2 o2 ws n2 ys bs k1 k2 k3 k4=>exact RcAt.int_tuple x t ⟨_,k1,k2,_,k3⟩ (room_here hu)
   | dict=>rw[L2.nd] at hb;cases hb
 | str x t =>
   cases rb with
   | none=>exact RcAt.str_none x t
   | bool y=>exact RcAt.str_bool x t y
   | int y u=>exact RcAt.str_int x t y u
   | str y u=>exact RcAt.str_str x t y u
   | @list l2 o2 ws n2 ys bs k1 k2 k3 k4=>exact RcAt.str_list x t ⟨_,k1,k2,_,k3⟩ (room_here hu)
   | @tuple l2 o2 ws n2 ys bs k1 k2 k3 k4=>exact RcAt.str_tuple x t ⟨_,k1,k2,_,k3⟩ (room_here hu)
   | dict=>rw[L2.nd] at hb;cases hb
 | @list l o vs n xs as h1 h2 h3 h4 =>
   cases rb with
   | none=>exact RcAt.list_none ⟨_,h1,h2,_,h3⟩ (room_here hu)
   | bool y=>exact RcAt.list_bool y ⟨_,h1,h2,_,h3⟩ (room_here hu)
   | int y u=>exact RcAt.list_int y u ⟨_,h1,h2,_,h3⟩ (room_here hu)
   | str y u=>exact RcAt.list_str y u ⟨_,h1,h2,_,h3⟩ (room_here hu)
   | @list l2 o2 ws n2 ys bs k1 k2 k3 k4 =>
     have l1:vs.size=xs.length:=by simpa using L8 h4
     have l2:ws.size=ys.length:=by simpa using L8 k4
     rw[L2.nd] at ha hb
     rw[PyData.depth,PyData.depth] at hu
     have hi:∀ j (h1:j<vs.size) (h2:j<ws.size),EqAt A.in1 s vs[j] ws[j] (pairEq xs ys j):=fun j h1 h2=>by
      have q:=qd4 xs ys A.in1 s _ _ _ _ h4 k4 ha hb (room_in hu) j (by simpa using h1) (by simpa using h2)
      rw[Array.getElem_toList,Array.getElem_toList] at q
      exact q
     have hu':A.units<cLine:=room_here hu
     rw[show PyData.eqv (.list xs) (.list ys)=PyData.eqvAll xs ys by rw[PyData.eqv]]
     by_cases hz:xs.length=ys.length
     ·have q:=RcAt.lists (A:=A) (s:=s) (e:=pairEq xs ys) ⟨_,h1,h2,_,h3⟩ ⟨_,k1,k2,_,k3⟩ (by omega) hu' hi
      rw[l1,eqvAll_same_length hz] at q
      exact q
     ·rw[eqvAll_other_length hz]
      exact RcAt.lists_lengths ⟨_,h1,h2,_,h3⟩ ⟨_,k1,k2,_,k3⟩ (by simp;omega) hu'
   | @tuple l2 o2 ws n2 ys bs k1 k2 k3 k4=>exact RcAt.list_tuple ⟨_,h1,h2,_,h3⟩ ⟨_,k1,k2,_,k3⟩ (room_here hu)
   | dict=>rw[L2.nd] at hb;cases hb
 | @tuple l o vs n xs as h1 h2 h3 h4 =>
   cases rb with
   | none=>exact RcAt.tuple_none ⟨_,h1,h2,_,h3⟩ (room_here hu)
   | bool y=>exact RcAt.tuple_bool y ⟨_,h1,h2,_,h3⟩ (room_here hu)
   | int y u=>exact RcAt.tuple_int y u ⟨_,h1,h2,_,h3⟩ (room_here hu)
   | str y u=>exact RcAt.tuple_str y u ⟨_,h1,h2,_,h3⟩ (room_here hu)
   | @list l2 o2 ws n2 ys bs k1 k2 k3 k4=>exact RcAt.tuple_list ⟨_,h1,h2,_,h3⟩ ⟨_,k1,k2,_,k3⟩ (room_here hu)
   | @tuple l2 o2 ws n2 ys bs k1 k2 k3 k4 =>
     have l1:vs.size=xs.length:=by simpa using L8 h4
     have l2:ws.size=ys.length:=by simpa using L8 k4
     rw[L2.nd] at ha hb
     rw[PyData.depth,PyData.depth] at hu
     have hi:∀ j (h1:j<vs.size) (h2:j<ws.size),EqAt A.in1 s vs[j] ws[j] (pairEq xs ys j):=fun j h1 h2=>by
      have q:=qd4 xs ys A.in1 s _ _ _ _ h4 k4 ha hb (room_in hu) j (by simpa using h1) (by simpa using h2)
      rw[Array.getElem_toList,Array.getElem_toList] at q
      exact q
     have hu':A.units<cLine:=room_here hu
     rw[show PyData.eqv (.tuple xs) (.tuple ys)=PyData.eqvAll xs ys by rw[PyData.eqv]]
     have q:=RcAt.tuples (A:=A) (s:=s) (e:=pairEq xs ys) ⟨_,h1,h2,_,h3⟩ ⟨_,k1,k2,_,k3⟩ hu' hi
     rw[l1,l2,eqvAll_eq xs ys] at q
     exact q
   | dict=>rw[L2.nd] at hb;cases hb
 | dict=>rw[L2.nd] at ha;cases ha
theorem yx1{da:PyData}{a b:Value}{bs:List Addr}(ra:Reads s.heap a da as)(rb:Reads s.heap b db bs)(ha:nd da=true)(hb:nd db=true)(hu:A.units+min da.depth db.depth<cLine):RcNeAt A s a b (!PyData.eqv da db):=by
 cases ra with
 | none =>
   cases rb with
   | none=>exact RcNeAt.none_none
   | bool y=>exact RcNeAt.none_bool y
   | int y u=>exact RcNeAt.none_int y u
   | str y u=>exact RcNeAt.none_str y u
   | @list l2 o2 ws n2 ys bs k1 k2 k3 k4=>exact RcNeAt.none_list ⟨_,k1,k2,_,k3⟩ (room_here hu)
   | @tuple l2 o2 ws n2 ys bs k1 k2 k3 k4=>exact RcNeAt.none_tuple ⟨_,k1,k2,_,k3⟩ (room_here hu)
   | dict=>rw[L2.nd] at hb;cases hb
 | bool x =>
   cases rb with
   | none=>exact RcNeAt.bool_none x
   | bool y=>exact RcNeAt.bool_bool x y
   | int y u=>exact RcNeAt.bool_int x y u
   | str y u=>exact RcNeAt.bool_str x y u
   | @list l2 o2 ws n2 ys bs k1 k2 k3 k4=>exact RcNeAt.bool_list x ⟨_,k1,k2,_,k3⟩ (room_here hu)
   | @tuple l2 o2 ws n2 ys bs k1 k2 k3 k4=>exact RcNeAt.bool_tuple x ⟨_,k1,k2,_,k3⟩ (room_here hu)
   | dict=>rw[L2.nd] at hb;cases hb
 | int x t =>
   cases rb with
   | none=>exact RcNeAt.int_none x t
   | bool y=>exact RcNeAt.int_bool x t y
   | int y u=>exact RcNeAt.int_int x t y u
   | str y u=>exact RcNeAt.int_str x t y u
   | @list l2 o2 ws n2 ys bs k1 k2 k3 k4=>exact RcNeAt.int_list x t ⟨_,k1,k2,_,k3⟩ (room_here hu)
   | @tuple l2 o2 ws n2 ys bs k1 k2 k3 k4=>exact RcNeAt.int_tuple x t ⟨_,k1,k2,_,k3⟩ (room_here hu)
   | dict=>rw[L2.nd] at hb;cases hb
 | str x t =>
   cases rb with
   | none=>exact RcNeAt.str_none x t
   | bool y=>exact RcNeAt.str_bool x t y
   | int y u=>exact RcNeAt.str_int x t y u
   | str y u=>exact RcNeAt.str_str x t y u
   | @list l2 o2 ws n2 ys bs k1 k2 k3 k4=>exact RcNeAt.str_list x t ⟨_,k1,k2,_,k3⟩ (room_here hu)
   | @tuple l2 o2 ws n2 ys bs k1 k2 k3 k4=>exact RcNeAt.str_tuple x t ⟨_,k1,k2,_,k3⟩ (room_here hu)
   | dict=>rw[L2.nd] at hb;cases hb
 | @list l o vs n xs as h1 h2 h3 h4 =>
   cases rb with
   | none=>exact RcNeAt.list_none ⟨_,h1,h2,_,h3⟩ (room_here hu)
   | bool y=>exact RcNeAt.list_bool y ⟨_,h1,h2,_,h3⟩ (room_here hu)
   | int y u=>exact RcNeAt.list_int y u ⟨_,h1,h2,_,h3⟩ (room_here hu)
   | str y u=>exact RcNeAt.list_str y u ⟨_,h1,h2,_,h3⟩ (room_here hu)
   | @list l2 o2 ws n2 ys bs k1 k2 k3 k4 =>
     have l1:vs.size=xs.length:=by simpa using L8 h4
     have l2:ws.size=ys.length:=by simpa using L8 k4
     rw[L2.nd] at ha hb
     rw[PyData.depth,PyData.depth] at hu
     have hi:∀ j (h1:j<vs.size) (h2:j<ws.size),EqAt A.in1 s vs[j] ws[j] (pairEq xs ys j):=fun j h1 h2=>by
      have q:=qd4 xs ys A.in1 s _ _ _ _ h4 k4 ha hb (room_in hu) j (by simpa using h1) (by simpa using h2)
      rw[Array.getElem_toList,Array.getElem_toList] at q
      exact q
     have hu':A.units<cLine:=room_here hu
     rw[show PyData.eqv (.list xs) (.list ys)=PyData.eqvAll xs ys by rw[PyData.eqv]]
     by_cases hz:xs.length=ys.length
     ·have q:=RcNeAt.lists (A:=A) (s:=s) (e:=pairEq xs ys) ⟨_,h1,h2,_,h3⟩ ⟨_,k1,k2,_,k3⟩ (by omega) hu' hi
      rw[l1,eqvAll_same_length hz] at q
      exact q
     ·rw[eqvAll_other_length hz]
      exact RcNeAt.lists_lengths ⟨_,h1,h2,_,h3⟩ ⟨_,k1,k2,_,k3⟩ (by simp;omega) hu'
   | @tuple l2 o2 ws n2 ys bs k1 k2 k3 k4=>exact RcNeAt.list_tuple ⟨_,h1,h2,_,h3⟩ ⟨_,k1,k2,_,k3⟩ (room_here hu)
   | dict=>rw[L2.nd] at hb;cases hb
 | @tuple l o vs n xs as h1 h2 h3 h4 =>
   cases rb with
   | none=>exact RcNeAt.tuple_none ⟨_,h1,h2,_,h3⟩ (room_here hu)
   | bool y=>exact RcNeAt.tuple_bool y ⟨_,h1,h2,_,h3⟩ (room_here hu)
   | int y u=>exact RcNeAt.tuple_int y u ⟨_,h1,h2,_,h3⟩ (room_here hu)
   | str y u=>exact RcNeAt.tuple_str y u ⟨_,h1,h2,_,h3⟩ (room_here hu)
   | @list l2 o2 ws n2 ys bs k1 k2 k3 k4=>exact RcNeAt.tuple_list ⟨_,h1,h2,_,h3⟩ ⟨_,k1,k2,_,k3⟩ (room_here hu)
   | @tuple l2 o2 ws n2 ys bs k1 k2 k3 k4 =>
     have l1:vs.size=xs.length:=by simpa using L8 h4
     have l2:ws.size=ys.length:=by simpa using L8 k4
     rw[L2.nd] at ha hb
     rw[PyData.depth,PyData.depth] at hu
     have hi:∀ j (h1:j<vs.size) (h2:j<ws.size),EqAt A.in1 s vs[j] ws[j] (pairEq xs ys j):=fun j h1 h2=>by
      have q:=qd4 xs ys A.in1 s _ _ _ _ h4 k4 ha hb (room_in hu) j (by simpa using h1) (by simpa using h2)
      rw[Array.getElem_toList,Array.getElem_toList] at q
      exact q
     have hu':A.units<cLine:=room_here hu
     rw[show PyData.eqv (.tuple xs) (.tuple ys)=PyData.eqvAll xs ys by rw[PyData.eqv]]
     have q:=RcNeAt.tuples (A:=A) (s:=s) (e:=pairEq xs ys) ⟨_,h1,h2,_,h3⟩ ⟨_,k1,k2,_,k3⟩ hu' hi
     rw[l1,l2,eqvAll_eq xs ys] at q
     exact q
   | dict=>rw[L2.nd] at hb;cases hb
 | dict=>rw[L2.nd] at ha;cases ha
theorem qh2(r:qi5 k A):A.units+190<cLine:=by have:=r.un;omega
def X3(K:Fg):R2:=fun x y H Q=>rEq x y H Q\/∃ d e,Dv K H d x/\Dv K H e y/\min d.depth e.depth<=190/\Q (.bl (PyData.eqv d e)) H
def xq4(K:Fg):R2:=fun x y H Q=>rNe x y H Q\/∃ d e,Dv K H d x/\Dv K H e y/\min d.depth e.depth<=190/\Q (.bl (!PyData.eqv d e)) H
theorem P6(hu:X.A.units+190<cLine):OpR X (compareOp .Eq) (X3 X.K):=by
 refine zw4.or ?_
 intro pins s σ H x y v u Q I rx ry h
 obtain⟨d,e,hx,hy,hz,q⟩:=h
 obtain⟨as,ra⟩:=Dv.reads I d x v hx rx
 obtain⟨bs,rb⟩:=Dv.reads I e y u hy ry
 have hroom:X.A.units+min d.depth e.depth<cLine:=Nat.lt_of_le_of_lt (Nat.add_le_add_left hz _) hu
 exact zr3 ra rb (Dv.nd d x hx) (Dv.nd e y hy) hroom X.prog X.w X.xe _ ⟨.bl _,H,I,rfl,q⟩
theorem yf2(hu:X.A.units+190<cLine):OpR X (compareOp .NotEq) (xq4 X.K):=by
 refine zw5.or ?_
 intro pins s σ H x y v u Q I rx ry h
 obtain⟨d,e,hx,hy,hz,q⟩:=h
 obtain⟨as,ra⟩:=Dv.reads I d x v hx rx
 obtain⟨bs,rb⟩:=Dv.reads I e y u hy ry
 have hroom:X.A.units+min d.depth e.depth<cLine:=Nat.lt_of_le_of_lt (Nat.add_le_add_left hz _) hu
 exact yx1 ra rb (Dv.nd d x hx) (Dv.nd e y hy) hroom X.prog X.w X.xe _ ⟨.bl _,H,I,rfl,q⟩
def D2(K:Fg):R2:=fun x y H Q=>rI0 (fun i j=>.int (i+j)) x y H Q\/(∃ i j,x=.str i/\y=.str j/\i.length+j.length<=sizeLine/\Q (.str (i++j)) H)\/zx6 x y H Q\/zm8 K x y H Q
theorem B5:OpR X (binaryOp .Add) (D2 X.K):=zp6.or (yd8.or (zq4.or zg3))
def zn0:R2:=fun x y H Q=>∃ z n,x=.str z/\y=.int n/\0<=n/\n<=1000/\z.length<=1000/\Q (.str (PySem.Txt.mul z n)) H
theorem yf3:OpR X (binaryOp .Mult) zn0:=by
 intro pins s σ H x y v u Q I rx ry h
 obtain⟨z,n,rfl,rfl,h0,h1,h2,q⟩:=h
 obtain⟨t,rfl⟩:=rx
 obtain⟨t',rfl⟩:=ry
 refine wpAny_with_toks (n:=1) I.tk (SB.mul ⟨?_,fun hn _=>?_,fun hn _=>?_⟩ fun t' k ht=>⟨.str _,H,I.tok _ ht,⟨_,rfl⟩,q⟩)
 ·rw[decide_eq_false (by omega),decide_eq_false (by omega)];rfl
 ·have e1:(2 ^ 63-1:Int) / n>=(2 ^ 63-1) / 1000:=by
   have hp:(0:Int)<n:=by omega
   apply Int.le_ediv_of_mul_le hp
   have:(2 ^ 63-1:Int) / 1000*n<=(2 ^ 63-1) / 1000*1000:=Int.mul_le_mul_of_nonneg_left h1 (by decide)
   have e:(2 ^ 63-1:Int) / 1000*1000<=2 ^ 63-1:=by decide
   omega
  have e2:(2 ^ 63-1:Int) / 1000>=1000:=by decide
  omega
 ·have:z.length*n.toNat<=1000*1000:=Nat.mul_le_mul h2 (by omega)
  have hs:sizeLine=16777216:=sizeLine_eq
  unfold Builtin.Str.tooLong
  exact decide_eq_false (by omega)
def qr9:R2:=fun x y H Q=>rI yv3 (fun i j=>.int (i*j)) x y H Q\/zn0 x y H Q\/zx7 x y H Q
theorem qe8:OpR X (binaryOp .Mult) qr9:=zp7.or (yf3.or zq5)
def Ac1:R2:=fun x y H Q=>∃ i j:Str,x=.str i/\y=.str j/\Q (.bl (decide (i.cps.toList<j.cps.toList))) H
def zy3:R2:=fun x y H Q=>∃ i j:Str,x=.str i/\y=.str j/\Q (.bl (!decide (j.cps.toList<i.cps.toList))) H
def zy4:R2:=fun x y H Q=>∃ i j:Str,x=.str i/\y=.str j/\Q (.bl (decide (j.cps.toList<i.cps.toList))) H
def zy5:R2:=fun x y H Q=>∃ i j:Str,x=.str i/\y=.str j/\Q (.bl (!decide (i.cps.toList<j.cps.toList))) H
theorem yq8:OpR X (compareOp .LtE) zy3:=by
 intro pins s σ H x y v u Q I rx ry h
 obtain⟨i,j,rfl,rfl,q⟩:=h
 obtain⟨t,rfl⟩:=rx
 obtain⟨t',rfl⟩:=ry
 exact PySem.P.le_str ⟨.bl _,H,I,rfl,q⟩
theorem yq9:OpR X (compareOp .Gt) zy4:=by
 intro pins s σ H x y v u Q I rx ry h
 obtain⟨i,j,rfl,rfl,q⟩:=h
 obtain⟨t,rfl⟩:=rx
 obtain⟨t',rfl⟩:=ry
 exact PySem.P.gt_str ⟨.bl _,H,I,rfl,q⟩
theorem yr0:OpR X (compareOp .GtE) zy5:=by
 intro pins s σ H x y v u Q I rx ry h
 obtain⟨i,j,rfl,rfl,q⟩:=h
 obtain⟨t,rfl⟩:=rx
 obtain⟨t',rfl⟩:=ry
 exact PySem.P.ge_str ⟨.bl _,H,I,rfl,q⟩
def yf4:R2:=fun x y H Q=>rI0 (fun i j=>.bl (decide (i<j))) x y H Q\/Ac1 x y H Q
def yf5:R2:=fun x y H Q=>rI0 (fun i j=>.bl (decide (i<=j))) x y H Q\/zy3 x y H Q
def wt5:R2:=fun x y H Q=>rI0 (fun i j=>.bl (decide (j<i))) x y H Q\/zy4 x y H Q
def zh2:R2:=fun x y H Q=>rI0 (fun i j=>.bl (decide (j<=i))) x y H Q\/zy5 x y H Q
theorem xd6:OpR X (compareOp .Lt) yf4:=zw6.or yp7
theorem xq5:OpR X (compareOp .LtE) yf5:=zw7.or yq8
theorem qo9:OpR X (compareOp .Gt) wt5:=zw8.or yq9
theorem zr4:OpR X (compareOp .GtE) zh2:=zw9.or yr0
def Ac2(neg:Bool):R2:=fun x y H Q=>∃ i j:Str,x=.str i/\y=.str j/\Q (.bl (if neg then !(!(Builtin.Str.occurrences j i 0 j.length 1).isEmpty) else !(Builtin.Str.occurrences j i 0 j.length 1).isEmpty)) H
def yx2(K:Fg)(neg:Bool):R2:=fun x y H Q=>rIn K neg x y H Q\/Ac2 neg x y H Q
theorem zr5:OpR X (compareOp .In) (yx2 X.K false):=yq5.or yp8
theorem yr1:OpR X (compareOp .NotIn) (yx2 X.K true):=xp6.or xp7
def xw7:R2:=fun x y H Q=>y=.non/\Q (.bl (decide (x=.non))) H
def wh5:R2:=fun x y H Q=>y=.non/\Q (.bl (!decide (x=.non))) H
theorem wm0:OpR X (compareOp .Is) xw7:=zp8
theorem qv9:OpR X (compareOp .IsNot) wh5:=zf7
def L5(K:Fg):List V->Hp->VK->Prop:=fun xs H Q=>(∃ p ys,xs=[.ref p]/\(SqL K H p ys\/SqT K H p ys)/\Q (.int ys.length) H)\/(∃ z,xs=[.str z]/\z.length<=sizeLine/\Q (.int z.length) H) \/
 ∃ a kvs,xs=[V.ref a]/\H a=some (.dK kvs)/\Q (.int kvs.length) H
theorem C4:qe5 X (.builtin "len") (L5 X.K):=xp8.or (xp9.or yq7)
def yx3(K:Fg):List V->Hp->VK->Prop:=fun xs H Q=>∃ p ys,xs=[.ref p]/\(SqL K H p ys\/SqT K H p ys)/\∀ l,H l=none->Q (.ref l) (upd H l (.lst ys))
theorem yf6:qe5 X (.type "list") (yx3 X.K):=xq0
def qn0(K:Fg):List V->Hp->VK->Prop:=fun xs H Q=>∃ p ys,xs=[.ref p]/\((SqL K H p ys/\∀ l,H l=none->Q (.ref l) (upd H l (.tup ys)))\/(SqT K H p ys/\Q (.ref p) H))
theorem U4:qe5 X (.type "tuple") (qn0 X.K):=xj0
def xw8:List V->Hp->VK->Prop:=fun xs H Q=>(∃ i,xs=[.int i]/\Q (.int i) H)\/∃ k,xs=[.bl k]/\Q (.int (if k then 1 else 0)) H
theorem wh6:qe5 X (.type "int") xw8:=yp9
theorem xd7:∀ {xs:List Str} {us:List Value},G7 (B7 xs) us->StrsAre us xs
 | [],_,h=>by cases h;exact .nil
 | x :: xs,_,h=>by
   have h:G7 (V.str x::B7 xs) _:=h
   cases h with
   | cons r t =>
     obtain⟨t',rfl⟩:=r
     exact .cons x t' (xd7 t)
def zn1(K:Fg):V->List V->Hp->VK->Prop:=fun x vs H Q=>∃ z p ys,x=.str z/\vs=[.ref p]/\(SqL K H p (B7 ys)\/SqT K H p (B7 ys))/\(ys.map (·.length)).sum+ys.length*z.length<=16777216/\Q (.str (PySem.Txt.join z ys)) H
theorem zh3:MtR X "str.join" (zn1 X.K):=by
 intro pins s σ H x vs v us Q I rx rv h
 obtain⟨z,p,ys,rfl,rfl,hq,hs,q⟩:=h
 obtain⟨t,rfl⟩:=rx
 obtain⟨u,rfl,ru⟩:=rv.one
 cases ru
 rcases hq with hq|hq
 ·obtain⟨its,r,pl,hz⟩:=I.list hq
  exact wpAny_with_toks (n:=1) I.tk (join_list pl.isList (by simpa using xd7 r) hs fun t' k ht=>⟨.str _,H,I.tok _ ht,⟨_,rfl⟩,q⟩)
 ·obtain⟨its,r,pl,hz⟩:=I.tuple hq
  exact wpAny_with_toks (n:=1) I.tk (join_tuple pl (by simpa using xd7 r) hs fun t' k ht=>⟨.str _,H,I.tok _ ht,⟨_,rfl⟩,q⟩)
def wj0(K:Fg)(tl:TE):TI:=fun σ H R=>tl σ H fun x H1=>∃ a,x=.ref a/\(((∃ xs,SqL K H1 a xs)/\R (Itl K a) H1)\/((∃ xs,SqT K H1 a xs)/\R (Itt K a) H1))
variable{tl:TE}
theorem qe9{tg l:Expr}(hl:PE X l tl):PI X tg l (wj0 X.K tl):=by
 intro pins s σ H R I h
 refine thn (hl pins s σ H _ I h) fun v s1 zq=>?_
 obtain⟨x,H1,I1,r1,q1⟩:=zq
 obtain⟨a,e,q⟩:=q1
 subst e
 cases r1
 rcases q with⟨⟨xs,hq⟩,q⟩|⟨⟨xs,hq⟩,q⟩
 ·obtain⟨its,rv,p,hz⟩:=I1.list hq
  refine wpAny_pyIter_list p.isList ?_
  refine⟨s1.heap.objs.size,[s1.heap.objs.size],_,_,H1,rfl,I1.kept (t':=s1.toks) fun b o e=>Heap.get?_push_of_some _ e,yp4 a _,⟨_,Heap.get?_push_size _ rfl,rfl,rfl⟩,fun b hb=>?_,q⟩
  have e:b=s1.heap.objs.size:=by simpa using hb
  subst e
  exact I1.fpOk (Nat.le_refl _) (I1.hok.fresh (Nat.le_refl _))
 ·obtain⟨its,rv,p,hz⟩:=I1.tuple hq
  refine wpAny_pyIter_tuple (show s1.heap.IsTuple a its.toArray from p) ?_
  refine⟨s1.heap.objs.size,[s1.heap.objs.size],_,_,H1,rfl,I1.kept (t':=s1.toks) fun b o e=>Heap.get?_push_of_some _ e,yd4 a _,⟨_,Heap.get?_push_size _ rfl,rfl,rfl⟩,fun b hb=>?_,q⟩
  have e:b=s1.heap.objs.size:=by simpa using hb
  subst e
  exact I1.fpOk (Nat.le_refl _) (I1.hok.fresh (Nat.le_refl _))
theorem yx4 (h:wi σ H fun J H1=>∃ W:Nat->Nat->St->Hp->Prop,(∃ m,W 0 m σ H1)/\∀ i m σ H,W i m σ H ->
 (J.stop i H/\D.nx σ H)\/(J.go i H/\∃ N:St->Hp->Prop,(∀ σ' H',N σ' H'->∃ m',m'<m/\W (i+1) m' σ' H')/\∀ x H',J.yld i H x H'->g x σ H' fun σ2 H2=>tb {D with nx:=N,ct:=N,bk:=D.nx} σ2 H2)):qm8 wi g tb D σ H:=h
abbrev wm1(g:TG)(tb:TS)(D:qe3)(σ:St)(J:It)(H1:Hp):Prop:=∃ W:Nat->Nat->St->Hp->Prop,(∃ m,W 0 m σ H1)/\∀ i m σ H,W i m σ H ->
 (J.stop i H/\D.nx σ H)\/(J.go i H/\∃ N:St->Hp->Prop,(∀ σ' H',N σ' H'->∃ m',m'<m/\W (i+1) m' σ' H')/\∀ x H',J.yld i H x H'->g x σ H' fun σ2 H2=>tb {D with nx:=N,ct:=N,bk:=D.nx} σ2 H2)
theorem yl2(hq:SqL K H a xs\/SqT K H a xs)(Pv:Nat->St->Hp->Prop)(h0:Pv 0 σ H)(hl:SqL K H a xs->∀ i σ H,i<=xs.length->Pv i σ H->SqL K H a xs)(ht:SqT K H a xs->∀ i σ H,i<=xs.length->Pv i σ H->SqT K H a xs)(hs:∀ i x σ H,xs[i]?=some x->Pv i σ H->g x σ H fun σ2 H2=>tb {D with nx:=PAt Pv (i+1),ct:=PAt Pv (i+1),bk:=D.nx} σ2 H2)(hd:∀ σ H,Pv xs.length σ H->D.nx σ H) :
 ∃ b,V.ref a=.ref b/\(((∃ xs,SqL K H b xs)/\wm1 g tb D σ (Itl K b) H)\/((∃ xs,SqT K H b xs)/\wm1 g tb D σ (Itt K b) H)):=by
 refine⟨a,rfl,?_⟩
 rcases hq with hq|hq
 ·exact .inl ⟨⟨xs,hq⟩,xc6 Pv h0 (hl hq) hs hd⟩
 ·exact .inr ⟨⟨xs,hq⟩,xp2 Pv h0 (ht hq) hs hd⟩
theorem wp4{n:Int}(h0:0<=n)(hn:n<2 ^ 62)(Pv:Nat->St->Hp->Prop)(p0:Pv 0 σ H)(hs:∀ (i:Nat) σ H,(i:Int)<n->Pv i σ H->g (.int i) σ H fun σ2 H2=>tb {D with nx:=PAt Pv (i+1),ct:=PAt Pv (i+1),bk:=D.nx} σ2 H2)(hd:∀ σ H,Pv n.toNat σ H->D.nx σ H) :
 ∃ j:Int,[V.int n]=[.int j]/\-(2 ^ 62)<=j/\j<2 ^ 62/\wm1 g tb D σ (Itr 0 j.toNat) H :=
 ⟨n,rfl,by omega,hn,xl8 (lo:=0) (n:=n.toNat) Pv p0 (fun i σ H hi p=>by rw[Int.zero_add];exact hs i σ H (by omega) p) hd⟩
theorem yx5{lo hi:Int}(h1:-(2 ^ 62)<=lo)(h2:lo<=hi)(h3:hi<2 ^ 62)(Pv:Nat->St->Hp->Prop)(p0:Pv 0 σ H)(hs:∀ (i:Nat) σ H,lo+i<hi->Pv i σ H->g (.int (lo+i)) σ H fun σ2 H2=>tb {D with nx:=PAt Pv (i+1),ct:=PAt Pv (i+1),bk:=D.nx} σ2 H2)(hd:∀ σ H,Pv (hi-lo).toNat σ H->D.nx σ H) :
 ∃ i j:Int,[V.int lo,V.int hi]=[.int i,.int j]/\(-(2 ^ 62)<=i/\i<2 ^ 62/\-(2 ^ 62)<=j/\j<2 ^ 62)/\wm1 g tb D σ (Itr i (j-i).toNat) H :=
 ⟨lo,hi,rfl,⟨h1,by omega,by omega,h3⟩,xl8 (lo:=lo) (n:=(hi-lo).toNat) Pv p0 (fun i σ H hi p=>hs i σ H (by omega) p) hd⟩
abbrev wk1(g:TG)(tt:TT)(te:TE)(σ':St)(Q:VK)(J:It)(H1:Hp):Prop:=∃ W:Nat->Nat->List V->Hp->Prop,(∃ m,W 0 m [] H1)/\∀ i m ys H,W i m ys H->ys.length<=sizeLine /\
 ((J.stop i H/\∀ p,H p=none->Q (.ref p) (upd H p (.lst ys))) \/
  (J.go i H/\∃ NN:List V->Hp->Prop,(∀ ys' H',NN ys' H'->∃ m',m'<m/\W (i+1) m' ys' H')/\∀ x H',J.yld i H x H'->g x σ' H' fun σ2 H2=>tt σ2 H2 fun b H3 =>
   if b=true then te σ2 H3 fun y H4=>NN (ys++[y]) H4 else NN ys H3))
theorem zh4{Q:VK}(h:wi σ H (wk1 g tt te (we3 fr σ) Q)):wk0 fr wi g tt te σ H Q:=h
variable{σ':St}
theorem xb8{Q:VK}(item:Nat->V->Prop)(Pv:Nat->List V->Hp->Prop)(h0:Pv 0 [] H)(hlen:∀ i ys H,i<=n->Pv i ys H->ys.length<=sizeLine)(hgo:∀ i ys H,i<n->Pv i ys H->J.go i H)(hy:∀ i ys H x H',i<n->Pv i ys H->J.yld i H x H'->H'=H/\item i x)(hst:∀ ys H,Pv n ys H->J.stop n H)(hs:∀ i x ys H,i<n->item i x->Pv i ys H->g x σ' H fun σ2 H2=>tt σ2 H2 fun b H3=>if b=true then te σ2 H3 fun y H4=>PAt Pv (i+1) (ys++[y]) H4 else PAt Pv (i+1) ys H3)(hd:∀ ys H,Pv n ys H->∀ p,H p=none->Q (.ref p) (upd H p (.lst ys))):wk1 g tt te σ' Q J H:=by
 refine⟨fun i m ys H=>m=n-i/\i<=n/\Pv i ys H,⟨n,by simp,Nat.zero_le _,h0⟩,?_⟩
 rintro i m ys H ⟨rfl,hi,p⟩
 refine⟨hlen i ys H hi p,?_⟩
 by_cases hlt:i<n
 ·refine .inr ⟨hgo i ys H hlt p,Pv (i+1),fun ys' H' q=>⟨n-(i+1),by omega,rfl,hlt,q⟩,fun x H' y=>?_⟩
  obtain⟨rfl,hx⟩:=hy i ys H x H' hlt p y
  exact hs i x ys _ hlt hx p
 ·have e:i=n:=by omega
  subst e
  exact .inl ⟨hst ys H p,hd ys H p⟩
theorem xw9{Q:VK}(hq:SqL K H a xs\/SqT K H a xs)(Pv:Nat->List V->Hp->Prop)(h0:Pv 0 [] H)(hlen:∀ i ys H,i<=xs.length->Pv i ys H->ys.length<=sizeLine)(hl:SqL K H a xs->∀ i ys H,i<=xs.length->Pv i ys H->SqL K H a xs)(ht:SqT K H a xs->∀ i ys H,i<=xs.length->Pv i ys H->SqT K H a xs)(hs:∀ i x ys H,xs[i]?=some x->Pv i ys H->g x σ' H fun σ2 H2=>tt σ2 H2 fun b H3=>if b=true then te σ2 H3 fun y H4=>PAt Pv (i+1) (ys++[y]) H4 else PAt Pv (i+1) ys H3)(hd:∀ ys H,Pv xs.length ys H->∀ p,H p=none->Q (.ref p) (upd H p (.lst ys))) :
 ∃ b,V.ref a=.ref b/\(((∃ xs,SqL K H b xs)/\wk1 g tt te σ' Q (Itl K b) H)\/((∃ xs,SqT K H b xs)/\wk1 g tt te σ' Q (Itt K b) H)):=by
 refine⟨a,rfl,?_⟩
 have get:∀ i,i<xs.length->∃ x,xs[i]?=some x:=fun i hi=>⟨xs[i],by simp[hi]⟩
 rcases hq with hq|hq
 ·refine .inl ⟨⟨xs,hq⟩,xb8 (n:=xs.length) (fun i x=>xs[i]?=some x) Pv h0 hlen (fun i ys H hi p=>?_) (fun i ys H x H' hi p y=>?_) (fun ys H p=>?_) (fun i x ys H _ hx p=>hs i x ys H hx p) hd⟩
  ·obtain⟨x,hx⟩:=get i hi
   exact⟨xs,x,hl hq i ys H (Nat.le_of_lt hi) p,hx⟩
  ·exact⟨y.1,y.2 xs (hl hq i ys H (Nat.le_of_lt hi) p)⟩
  ·exact⟨xs,hl hq _ ys H (Nat.le_refl _) p,Nat.le_refl _⟩
 ·refine .inr ⟨⟨xs,hq⟩,xb8 (n:=xs.length) (fun i x=>xs[i]?=some x) Pv h0 hlen (fun i ys H hi p=>?_) (fun i ys H x H' hi p y=>?_) (fun ys H p=>?_) (fun i x ys H _ hx p=>hs i x ys H hx p) hd⟩
  ·obtain⟨x,hx⟩:=get i hi
   exact⟨xs,x,ht hq i ys H (Nat.le_of_lt hi) p,hx⟩
  ·exact⟨y.1,y.2 xs (ht hq i ys H (Nat.le_of_lt hi) p)⟩
  ·exact⟨xs,ht hq _ ys H (Nat.le_refl _) p,Nat.le_refl _⟩
theorem xm7{Q:VK}(hq:SqL K H a xs)(Pv:Nat->List V->Hp->Prop)(h0:Pv 0 [] H)(hlen:∀ i ys H,i<=xs.length->Pv i ys H->ys.length<=sizeLine)(hl:∀ i ys H,i<=xs.length->Pv i ys H->SqL K H a xs)(hs:∀ i x ys H,xs[i]?=some x->Pv i ys H->g x σ' H fun σ2 H2=>tt σ2 H2 fun b H3=>if b=true then te σ2 H3 fun y H4=>PAt Pv (i+1) (ys++[y]) H4 else PAt Pv (i+1) ys H3)(hd:∀ ys H,Pv xs.length ys H->∀ p,H p=none->Q (.ref p) (upd H p (.lst ys))) :
 ∃ b,V.ref a=.ref b/\(((∃ xs,SqL K H b xs)/\wk1 g tt te σ' Q (Itl K b) H)\/((∃ xs,SqT K H b xs)/\wk1 g tt te σ' Q (Itt K b) H)):=by
 refine⟨a,rfl,.inl ⟨⟨xs,hq⟩,xb8 (n:=xs.length) (fun i x=>xs[i]?=some x) Pv h0 hlen (fun i ys H hi p=>?_) (fun i ys H x H' hi p y=>?_) (fun ys H p=>?_) (fun i x ys H _ hx p=>hs i x ys H hx p) hd⟩⟩
 ·exact⟨xs,xs[i],hl i ys H (Nat.le_of_lt hi) p,by simp[hi]⟩
 ·exact⟨y.1,y.2 xs (hl i ys H (Nat.le_of_lt hi) p)⟩
 ·exact⟨xs,hl _ ys H (Nat.le_refl _) p,Nat.le_refl _⟩
theorem we4(hq:SqL K H a xs)(Pv:Nat->St->Hp->Prop)(h0:Pv 0 σ H)(hl:∀ i σ H,i<=xs.length->Pv i σ H->SqL K H a xs)(hs:∀ i x σ H,xs[i]?=some x->Pv i σ H->g x σ H fun σ2 H2=>tb {D with nx:=PAt Pv (i+1),ct:=PAt Pv (i+1),bk:=D.nx} σ2 H2)(hd:∀ σ H,Pv xs.length σ H->D.nx σ H) :
 ∃ b,V.ref a=.ref b/\(((∃ xs,SqL K H b xs)/\wm1 g tb D σ (Itl K b) H)\/((∃ xs,SqT K H b xs)/\wm1 g tb D σ (Itt K b) H)) :=
 ⟨a,rfl,.inl ⟨⟨xs,hq⟩,xc6 Pv h0 hl hs hd⟩⟩
section
variable{Q:VK}
theorem qb1{t u:TS}(h:t {D with nx:=u D} σ H):C1 t u D σ H:=h
theorem yl3(h:D.nx σ H):O8 D σ H:=h
theorem zr6(h:te σ H fun x H1=>g x σ H1 D.nx):E1 te g D σ H:=h
theorem E5{i:Nat}{R:St->Hp->Prop}(h:R (σ.set i (some v)) H):B1 i v σ H R:=h
theorem xq6{i:Nat}(e:σ[i]?=some (some v))(h:Q v H):A3 i σ H Q:=⟨v,e,h⟩
theorem zr7(h:Q v H):tC v σ H Q:=h
theorem yx6{r:R2}{tb:TE}(h:ta σ H fun x H1=>tb σ H1 fun y H2=>r x y H2 Q):tOp r ta tb σ H Q:=h
theorem zy6{r:V->Hp->VK->Prop}(h:ta σ H fun x H1=>r x H1 Q):tUn r ta σ H Q:=h
theorem zr8(h:te σ H D.rt):L6 te D σ H:=h
theorem zh5(h:D.rt .non H):yj8 D σ H:=h
theorem zh6(h:te σ H fun _ H1=>D.nx σ H1):I0 te D σ H:=h
theorem wy7{c:TT}{t u:TS}(h:c σ H fun b H1=>if b=true then t D σ H1 else u D σ H1):S3 c t u D σ H:=h
theorem zr9{c:TT}{tb:TE}(h:c σ H fun b H1=>if b=true then ta σ H1 Q else tb σ H1 Q):tIf c ta tb σ H Q:=h
theorem yl4{t:TE}{R:Bool->Hp->Prop}(h:t σ H fun x H'=>∃ k,x=.bl k/\R k H'):G0 t σ H R:=h
theorem Ac3{t:TE}{R:Bool->Hp->Prop}(h:t σ H fun x H'=>∃ k,x=.bl k/\R k H'):tB t σ H R:=h
theorem zn2{b:Bool}{R:Bool->Prop}(h:R b):∃ k,V.bl b=.bl k/\R k:=⟨b,rfl,h⟩
theorem yf7{t u:TT}{R:Bool->Hp->Prop}(h:t σ H fun c H1=>if c=true then u σ H1 R else R false H1):xp0 t u σ H R:=h
theorem zy7{t u:TT}{R:Bool->Hp->Prop}(h:t σ H fun c H1=>if c=true then R true H1 else u σ H1 R):tOr t u σ H R:=h
theorem zs0{t:TT}{R:Bool->Hp->Prop}(h:t σ H fun c H1=>R (!c) H1):zf4 t σ H R:=h
theorem zh7{tb:TE}(h:ta σ H fun x H1=>∃ c,x=.bl c/\if c=true then tb σ H1 Q else Q (.bl false) H1):yj7 ta tb σ H Q:=h
theorem zh8(h:ta σ H fun x H1=>∃ c,x=.bl c/\Q (.bl (!c)) H1):yu5 ta σ H Q:=h
theorem zs1{R:List V->Hp->Prop}(h:R [] H):A8 σ H R:=h
theorem zh9{tr:TA}{R:List V->Hp->Prop}(h:ta σ H fun x H1=>tr σ H1 fun xs H2=>R (x::xs) H2):A1 ta tr σ H R:=h
theorem zs2(h:t σ H fun xs H1=>xs.length<=sizeLine/\∀ p,H1 p=none->Q (.ref p) (upd H1 p (.tup xs))):M5 t σ H Q:=h
theorem zs3(h:t σ H fun xs H1=>xs.length<=sizeLine/\∀ p,H1 p=none->Q (.ref p) (upd H1 p (.lst xs))):qb5 t σ H Q:=h
theorem zi0{E:XK}(h:t σ H fun vs H1=>sp (vs++dvs) H1 Q E):D3 sp dvs E t σ H Q:=h
theorem zy8{r:List V->Hp->VK->Prop}(h:t σ H fun vs H1=>r vs H1 Q):tCB r t σ H Q:=h
theorem zy9{R:Bool->Hp->Prop}(h:R true H):tTT σ H R:=h
theorem yx7(h:D.bk σ H):yd0 D σ H:=h
theorem yx8(h:tl σ H fun x H1=>∃ a,x=.ref a/\(((∃ xs,SqL K H1 a xs)/\R (Itl K a) H1)\/((∃ xs,SqT K H1 a xs)/\R (Itt K a) H1))):wj0 K tl σ H R:=h
theorem zi1{ta:TA}(h:ta σ H fun vs H1=>∃ j:Int,vs=[.int j]/\-(2 ^ 62)<=j/\j<2 ^ 62/\R (Itr 0 j.toNat) H1):xl7 ta σ H R:=h
theorem zi2{ta:TA}(h:ta σ H fun vs H1=>∃ i j:Int,vs=[.int i,.int j]/\(-(2 ^ 62)<=i/\i<2 ^ 62/\-(2 ^ 62)<=j/\j<2 ^ 62)/\R (Itr i (j-i).toNat) H1):yv1 ta σ H R:=h
theorem zs4{t:yu9}{R:St->Hp->Prop}(h:to σ H fun o H1=>ti σ H1 fun i H2=>t o i v H2 fun H3=>R σ H3):yv0 to ti t v σ H R:=h
theorem zz0{r:V->List V->Hp->VK->Prop}(h:to σ H fun x H1=>tyV K T x H1/\t σ H1 fun xs H2=>r x xs H2 Q):tBM K T r to t σ H Q:=h
theorem yx9{r r':R2}{tb:TE}(h:ta σ H fun x H1=>tb σ H1 fun y H2=>r x y H2 fun z H3=>∃ k,z=.bl k/\(if k=true then tc σ H3 fun w' H4=>r' y w' H4 Q else Q (.bl false) H3)):xp3 r r' ta tb tc σ H Q:=h
end
variable{z:Str}
section
variable{Q:VK}
theorem xd8(h:Q (.int (i+j)) H):D2 K (.int i) (.int j) H Q:=.inl ⟨i,j,rfl,rfl,h⟩
theorem T1{i j:Str}(hz:i.length+j.length<=sizeLine)(h:Q (.str (i++j)) H):D2 K (.str i) (.str j) H Q:=.inr (.inl ⟨i,j,rfl,rfl,hz,h⟩)
theorem yy0(h1:H a=some (.lst xs))(h2:H b=some (.lst ys))(hz:xs.length+ys.length<=sizeLine)(h:∀ p,H p=none->Q (.ref p) (upd H p (.lst (xs++ys)))):D2 K (.ref a) (.ref b) H Q:=.inr (.inr (.inl ⟨a,b,xs,ys,rfl,rfl,h1,h2,hz,h⟩))
theorem zs5(h:Q (.int (i-j)) H):rI0 (fun i j=>.int (i-j)) (.int i) (.int j) H Q:=⟨i,j,rfl,rfl,h⟩
theorem qy8(c:yv3 i j)(h:Q (.int (i*j)) H):qr9 (.int i) (.int j) H Q:=.inl ⟨i,j,rfl,rfl,c,h⟩
theorem yy1{n:Int}(h0:0<=n)(h1:n<=1000)(h2:z.length<=1000)(h:Q (.str (PySem.Txt.mul z n)) H):qr9 (.str z) (.int n) H Q:=.inr (.inl ⟨z,n,rfl,rfl,h0,h1,h2,h⟩)
theorem zs6(c:yd6 i j)(h:Q (.int (i / j)) H):rI yd6 (fun i j=>.int (i / j)) (.int i) (.int j) H Q:=⟨i,j,rfl,rfl,c,h⟩
theorem yl5(c:0<j)(h:Q (.int (i % j)) H):rI (fun _ j=>0<j) (fun i j=>.int (i % j)) (.int i) (.int j) H Q:=⟨i,j,rfl,rfl,c,h⟩
theorem zz1(h:Q (.bl (decide (i<j))) H):yf4 (.int i) (.int j) H Q:=.inl ⟨i,j,rfl,rfl,h⟩
theorem zz2(h:Q (.bl (decide (i<=j))) H):yf5 (.int i) (.int j) H Q:=.inl ⟨i,j,rfl,rfl,h⟩
theorem zz3(h:Q (.bl (decide (j<i))) H):wt5 (.int i) (.int j) H Q:=.inl ⟨i,j,rfl,rfl,h⟩
theorem zn3(h:Q (.bl (decide (j<=i))) H):zh2 (.int i) (.int j) H Q:=.inl ⟨i,j,rfl,rfl,h⟩
theorem zn4{i j:Str}(h:Q (.bl (!decide (j.cps.toList<i.cps.toList))) H):yf5 (.str i) (.str j) H Q:=.inr ⟨i,j,rfl,rfl,h⟩
theorem xx0{x:V}(c:zf6 x y=true)(h:Q (.bl (decide (x=y))) H):X3 K x y H Q:=.inl ⟨c,h⟩
theorem zz4{x:V}(c:zf6 x y=true)(h:Q (.bl (!decide (x=y))) H):xq4 K x y H Q:=.inl ⟨c,h⟩
theorem zz5{x:V}{e:PyData}(h1:Dv K H d x)(h2:Dv K H e y)(hz:min d.depth e.depth<=190)(h:Q (.bl (PyData.eqv d e)) H):X3 K x y H Q:=.inr ⟨d,e,h1,h2,hz,h⟩
theorem zz6{x:V}{e:PyData}(h1:Dv K H d x)(h2:Dv K H e y)(hz:min d.depth e.depth<=190)(h:Q (.bl (!PyData.eqv d e)) H):xq4 K x y H Q:=.inr ⟨d,e,h1,h2,hz,h⟩
theorem Ac4{x:V}(h:Q (.bl (decide (x=.non))) H):xw7 x .non H Q:=⟨rfl,h⟩
theorem zi3{x:V}(h:Q (.bl (!decide (x=.non))) H):wh5 x .non H Q:=⟨rfl,h⟩
theorem M1(h1:SqL K H p xs)(e:atI xs i=some v)(h:Q v H):rIx K (.ref p) (.int i) H Q:=.inl ⟨p,xs,i,v,rfl,rfl,h1,e,h⟩
theorem U5(h1:SqT K H p xs)(e:atI xs i=some v)(h:Q v H):rIx K (.ref p) (.int i) H Q:=.inr (.inl ⟨p,xs,i,v,rfl,rfl,h1,e,h⟩)
theorem zn5{c:Nat}(hz:z.length<=sizeLine)(e:atI z.cps.toList i=some c)(h:Q (.str ⟨#[c]⟩) H):rIx K (.str z) (.int i) H Q:=.inr (.inr ⟨z,i,c,rfl,rfl,hz,e,h⟩)
theorem yr2{x:V}(h1:SqL K H p xs\/SqT K H p xs)(fx:qv8 x=true)(fs:xs.all qv8=true)(h:Q (.bl (inV x xs)) H):yx2 K false x (.ref p) H Q:=.inl ⟨p,xs,rfl,h1,fx,fs,h⟩
theorem yl6{x:V}(h1:SqL K H p xs\/SqT K H p xs)(fx:qv8 x=true)(fs:xs.all qv8=true)(h:Q (.bl (!inV x xs)) H):yx2 K true x (.ref p) H Q:=.inl ⟨p,xs,rfl,h1,fx,fs,h⟩
theorem P7(h1:SqL K H p xs\/SqT K H p xs)(h:Q (.int xs.length) H):L5 K [.ref p] H Q:=.inl ⟨p,xs,rfl,h1,h⟩
theorem yf8(hz:z.length<=sizeLine)(h:Q (.int z.length) H):L5 K [.str z] H Q:=.inr (.inl ⟨z,rfl,hz,h⟩)
theorem yf9{k:Int}{j:Nat}{R:Hp->Prop}(h1:H p=some (.lst xs))(e:ixN xs.length k=some j)(h:R (upd H p (.lst (xs.set j v)))):yw2 (.ref p) (.int k) v H R:=⟨p,xs,k,j,rfl,rfl,h1,e,h⟩
theorem M8(h1:H p=some (.lst xs))(hz:xs.length<sizeLine)(h:Q .non (upd H p (.lst (xs++[y])))):I9 (.ref p) [y] H Q:=⟨p,xs,y,rfl,rfl,h1,hz,h⟩
end
def Itv(n:Nat):It:=⟨fun i _=>i<n,fun i H x H'=>H'=H/\x=.int ((n:Int)-1-i),fun i _=>n<=i⟩
theorem yy2{tg:Expr}(it:Addr)(n:Nat):wz6 P w K tg (Itv n) [it] it (fun i h=>IsRangeIter h it ((n:Int)-1+(i:Nat)*(-1)) ((n:Int)-(i:Nat)) (-1)) where
 mem:=by simp
 obj:=fun i h st b hb=>by
  have e:b=it:=by simpa using hb
  subst e
  exact⟨_,st,fun v z=>by
   have z':Data.fields _=Data.cell v:=z
   cases z'⟩
 keep:=fun i h h' st k=>k it (by simp) _ st
 item:=by
  intro X hP hw hK hc i pins s σ H E I hf st hg
  subst hP hw hK
  obtain⟨f0,f1,f2,f3,f4,f5⟩:=hf it (by simp)
  have W:=Walks.range (prog:=X.prog) (w:=X.w) (I.ok.hd hc) it ((n:Int)-1) (-1) n
  refine wpAny_with_toks (n:=1) I.tk (W.item i s _ _ hg st fun v h' tk hv st' kk ht=>?_)
  have ht:0<tk:=ht
  obtain⟨t,rfl⟩:=hv
  have I1:Inv X pins σ H {s with heap:=h',toks:=tk}:=I.turned (fun b o hb e=>kk b o (by simpa using hb) e) f0 f1 f3 f4 f5
  refine⟨_,rfl,xc4 (s:={s with heap:=h',toks:=tk}) (n := "range_iterator") st' rfl rfl (by decide) ⟨.int ((n:Int)-1-i),H,I1,⟨t,?_⟩,⟨rfl,rfl⟩,st',fun b hb=>(hf b hb).1⟩⟩
  have e:(n:Int)-1+(i:Int)*(-1)=(n:Int)-1-i:=by omega
  rw[e]
 done:=by
  intro X hP hw hK hc i pins s σ H E I hf st hg
  subst hP hw hK
  obtain⟨f0,f1,f2,f3,f4,f5⟩:=hf it (by simp)
  exact wpAny_pyNext_range_end (I.ok.hd hc) st (by have:n<=i:=hg;omega) fun h' eb=>⟨rfl,I.turned (t':=s.toks) (fun b o hb e=>eb b o hb e) f0 f1 f3 f4 f5⟩
 self:=fun _ _ _ _ _ st h=>wpAny_pyIter_rangeiter st h
theorem zi4(hn:(n:Int)<2 ^ 62)(Pv:Nat->St->Hp->Prop)(p0:Pv 0 σ H)(hs:∀ (i:Nat) σ H,i<n->Pv i σ H->g (.int ((n:Int)-1-i)) σ H fun σ2 H2=>tb {D with nx:=PAt Pv (i+1),ct:=PAt Pv (i+1),bk:=D.nx} σ2 H2)(hd:∀ σ H,Pv n σ H->D.nx σ H) :
 ∃ m:Nat,[V.int n]=[.int m]/\(m:Int)<2 ^ 62/\wm1 g tb D σ (Itv m) H:=by
 refine⟨n,rfl,hn,fun i m σ H=>m=n-i/\i<=n/\Pv i σ H,⟨n,by simp,Nat.zero_le _,p0⟩,?_⟩
 rintro i m σ H ⟨rfl,hi,p⟩
 by_cases hlt:i<n
 ·refine .inr ⟨hlt,Pv (i+1),fun σ' H' p'=>⟨n-(i+1),by omega,rfl,hlt,p'⟩,fun x H' y=>?_⟩
  obtain⟨e,y⟩:=y
  subst e y
  exact hs i σ _ hlt p
 ·have e:i=n:=by omega
  subst e
  exact .inl ⟨Nat.le_refl _,hd σ H p⟩
def yl7:yu9:=fun o i v H Q=>yw2 o i v H Q\/∃ a H',o=.ref a/\zy1 H a i v H'/\Q H'
theorem xd9(hu:X.A.units+1<cLine):zp4 X yl7:=by
 intro pins s σ H o i v ov iv u Q I ro ri rv h
 rcases h with h|⟨a,H',rfl,g,q⟩
 ·exact yw3 pins s σ H o i v ov iv u Q I ro ri rv h
 ·cases ro
  exact yq6 hu I g ri rv fun s' I'=>⟨H',I',q⟩
def L1(K:Fg):R2:=rIx K
theorem B8(hu:X.A.units+1<cLine):IxR X (L1 X.K):=zq2
def Ac5(neg:Bool):R2:=fun x y H Q=>∃ a o,y=.ref a/\zq6 H a x o/\Q (.bl (if neg then !o.isSome else o.isSome)) H
def xj2(K:Fg)(neg:Bool):R2:=fun x y H Q=>yx2 K neg x y H Q\/Ac5 neg x y H Q
theorem wt6(hu:X.A.units+1<cLine):OpR X (compareOp .In) (xj2 X.K false):=by
 refine zr5.or ?_
 intro pins s σ H x y v u Q I rx ry h
 obtain⟨a,o,rfl,g,q⟩:=h
 cases ry
 exact Ac0 hu I g rx fun s' I'=>⟨.bl o.isSome,H,I',rfl,q⟩
theorem xm8(hu:X.A.units+1<cLine):OpR X (compareOp .NotIn) (xj2 X.K true):=by
 refine yr1.or ?_
 intro pins s σ H x y v u Q I rx ry h
 obtain⟨a,o,rfl,g,q⟩:=h
 cases ry
 exact zh0 hu I g rx fun s' I'=>⟨.bl (!o.isSome),H,I',rfl,q⟩
def yy3(K:Fg):List V->Hp->VK->Prop:=fun xs H Q=>(∃ (x:V) (T:String) (t:Value) (b:Bool),xs=[x,.ty T]/\wo6 K H x t/\PySem.W.kitOne K t (.type T)=some b/\Q (.bl b) H) \/
 ∃ (a:Addr) (ys:List V) (T:String) (b:Bool),xs=[.ref a,.ty T]/\SqT K H a ys/\PySem.W.kitOne K (.type "tuple") (.type T)=some b/\Q (.bl b) H
theorem wt7:qe5 X (.builtin "isinstance") (yy3 X.K):=by
 intro pins s σ H xs us Q I r h
 rcases h with⟨x,T,t,b,rfl,ty,e,q⟩|⟨a,ys,T,b,rfl,hq,e,q⟩
 ·obtain⟨u,w',rfl,r1,r2⟩:=xw0 r
  cases r2
  exact wpAny_with_toks (n:=1) I.tk (yq2 I r1 ty e fun tk ht=>⟨.bl b,H,I.tok _ ht,rfl,q⟩)
 ·obtain⟨u,w',rfl,r1,r2⟩:=xw0 r
  cases r2
  cases r1
  obtain⟨its,rv,pl,hz⟩:=I.tuple hq
  obtain⟨o,h1,h2,_⟩:=pl
  exact wpAny_with_toks (n:=1) I.tk (PySem.W.kia_one PySem.W.kitx_tuple I.kIn ⟨o,h1,h2⟩ e (fun z=>nomatch z) fun tk ht=>⟨.bl b,H,I.tok _ ht,rfl,q⟩)
theorem zz7{Q:VK}{x:V}{t:Value}{b:Bool}(ty:wo6 K H x t)(e:PySem.W.kitOne K t (.type T)=some b)(h:Q (.bl b) H):yy3 K [x,.ty T] H Q:=.inl ⟨x,T,t,b,rfl,ty,e,h⟩
theorem zs7{Q:VK}{b:Bool}(hq:SqT K H a ys)(e:PySem.W.kitOne K (.type "tuple") (.type T)=some b)(h:Q (.bl b) H):yy3 K [.ref a,.ty T] H Q:=.inr ⟨a,ys,T,b,rfl,hq,e,h⟩
example (K:Fg):PySem.W.kitOne K (.type "str") (.type "str")=some true:=by rfl
example (K:Fg):PySem.W.kitOne K (.type "bool") (.type "int")=some true:=by rfl
example (K:Fg):PySem.W.kitOne K (.type "int") (.type "bool")=some false:=by rfl
example (K:Fg):PySem.W.kitOne K (.type "list") (.type "list")=some true:=by rfl
section
variable{σ:List (Option V)}
theorem Inv.turnLaid{ch:List Addr}(I:Inv X pins σ H s)(hf:∀ b∈ch,xi8 X pins H b)(k:∀ b u,b∉ch->s.heap.get? b=some u->h'.get? b=some u)(hp:s.heap.objs.size<=a)(new:T7 X.prog X.w (upd H a o) h' a o)(ht:0<t') :
 Inv X pins σ (upd H a o) {s with heap:=h',toks:=t'}:=by
 have hn:H a=none:=I.hok.fresh hp
 have nit:∀ b u,H b=some u->b∉ch:=fun b u e z=>by rw[(hf b z).1] at e;cases e
 have up:∀ {b:Addr} {u:HO},H b=some u->upd H a o b=some u:=fun{b u} e=>by rw[B9 (U6 e hn)];exact e
 have neA:∀ b u,s.heap.get? b=some u->b≠a:=fun b u e=>Nat.ne_of_lt (Nat.lt_of_lt_of_le (Heap.lt_size e) hp)
 refine I.step (g':=s.gens) (d':=s.drawn) (ch:=ch) (fun b hb=>?_) (fun b u _ _ hc e _=>k b u hc e) (fun b u _ _ hc e _=>⟨u.slots,k b u hc e⟩) (fun b u _ e n=>by rw[B9 (neA b u e)];exact n)
  (fun b u hc e=>⟨u,k b u hc e⟩) (fun _ _ e=>up e) (fun _ _ _ e=>up e) (fun b ps e=>⟨#[],by rw[up e];simp⟩) (fun m hm=>?_) (fun b u e=>?_) I.bare ht
 ·obtain⟨f0,f1,f2,f3,f4,f5⟩:=hf b hb
  exact⟨f3,f1,f4,f5⟩
 ·obtain⟨ob,es,ep,ho,r⟩:=hm
  exact⟨ob,es,ep,k _ ob (fun z=>(hf _ z).2.1 rfl) ho,r⟩
 ·by_cases hb:b=a
  ·subst hb;rw[A5] at e;cases e;exact new
  ·rw[B9 hb] at e
   refine(I.hok b u e).stay (fun c v hc q=>k c v ?_ q) (fun _ q=>up q) fun _ _ q=>up q
   rcases hc with z|z
   ·rw[z];exact nit b u e
   ·exact nit c _ z
end
def Itx(n:Nat)(V':Nat->V->Prop):It:=⟨fun i _=>i<n,fun i H x H'=>H'=H/\V' i x,fun i _=>n<=i⟩
theorem yg0{tg:Expr}{Pv:Nat->Value->Prop}{St:Nat->Heap->Prop}{V':Nat->V->Prop}{vs:Nat->Array Value}(W:∀ A:Around,A.handled=none->Walks P w A it [it] [it] n Pv St)(hV:∀ i v,Pv i v->∃ x,J9 x v/\V' i x)(hO:∀ i h,St i h->∃ o,h.get? it=some o/\o.cls=.type T/\o.data=.fields (vs i))(hT:["enumerate","zip","dict_itemiterator","dict_reverseitemiterator","odict_iterator","itertools.zip_longest","itertools.pairwise"].contains T=false)(hS:∀ (A:Around) (i:Nat) (s:Shared) (Q:Value->Shared->Prop) (E:Value->Shared->Prop),St i s.heap->Q (.ref it) s->wpAny (model P w) A (pyIter (.ref it)) Q E s) :
 wz6 P w K tg (Itx n V') [it] it (fun i h=>i<=n/\St i h) where
 mem:=by simp
 obj:=fun i h st b hb=>by
  have e:b=it:=by simpa using hb
  subst e
  obtain⟨o,e,_,d⟩:=hO i h st.2
  exact⟨o,e,fun v z=>by rw[d] at z;cases z⟩
 keep:=fun i h h' st k=>⟨st.1,(W {} rfl).frame i h h' st.2 k⟩
 item:=by
  intro X hP hw hK hc i pins s σ H E I hf st hg
  subst hP hw hK
  obtain⟨f0,f1,f2,f3,f4,f5⟩:=hf it (by simp)
  refine wpAny_with_toks (n:=1) I.tk ((W X.A (I.ok.hd hc)).item i s _ _ hg st.2 fun v h' tk hv st' kk ht=>?_)
  have ht:0<tk:=ht
  obtain⟨x,rx,vx⟩:=hV i v hv
  have I1:Inv X pins σ H {s with heap:=h',toks:=tk}:=I.turned (fun b o hb e=>kk b o (by simpa using hb) e) f0 f1 f3 f4 f5
  obtain⟨o,e,c,d⟩:=hO _ _ st'
  exact⟨v,rfl,xc4 (s:={s with heap:=h',toks:=tk}) e c d hT ⟨x,H,I1,rx,⟨rfl,vx⟩,⟨hg,st'⟩,fun b hb=>(hf b hb).1⟩⟩
 done:=by
  intro X hP hw hK hc i pins s σ H E I hf st hg
  subst hP hw hK
  obtain⟨f0,f1,f2,f3,f4,f5⟩:=hf it (by simp)
  have hi:i=n:=Nat.le_antisymm st.1 hg
  subst hi
  exact wpAny_with_toks (n:=1) I.tk ((W X.A (I.ok.hd hc)).done s _ _ st.2 fun h' tk eb ht=>⟨rfl,I.turned (fun b o hb e=>eb b o (by simpa using hb) e) f0 f1 f3 f4 f5 ht⟩)
 self:=fun A i s Q E st h=>hS A i s Q E st.2 h
section
variable{σ:List (Option V)}
theorem Inv.turnedL{ch:List Addr}(I:Inv X pins σ H s)(hf:∀ b∈ch,xi8 X pins H b)(k:∀ b u,b∉ch->s.heap.get? b=some u->h'.get? b=some u)(ht:0<t') :
 Inv X pins σ H {s with heap:=h',toks:=t'}:=by
 have nit:∀ b u,H b=some u->b∉ch:=fun b u e z=>by rw[(hf b z).1] at e;cases e
 refine I.step (g':=s.gens) (d':=s.drawn) (ch:=ch) (fun b hb=>?_) (fun b u _ _ hc e _=>k b u hc e) (fun b u _ _ hc e _=>⟨u.slots,k b u hc e⟩) (fun _ _ _ _ n=>n)
  (fun b u hc e=>⟨u,k b u hc e⟩) (fun _ _ e=>e) (fun _ _ _ e=>e) (fun b ps e=>⟨#[],by rw[e];simp⟩) (fun m hm=>?_) (fun b u e=>?_) I.bare ht
 ·obtain⟨f0,f1,f2,f3,f4,f5⟩:=hf b hb
  exact⟨f3,f1,f4,f5⟩
 ·obtain⟨ob,es,ep,ho,r⟩:=hm
  exact⟨ob,es,ep,k _ ob (fun z=>(hf _ z).2.1 rfl) ho,r⟩
 ·refine(I.hok b u e).stay (fun c v hc q=>k c v ?_ q) (fun _ q=>q) fun _ _ q=>q
  rcases hc with z|z
  ·rw[z];exact nit b u e
  ·exact nit c _ z
end
def Itp(n:Nat)(V':Nat->List V->Prop):It:=⟨fun i _=>i<n,fun i H x H'=>∃ p xs,x=.ref p/\H p=none/\V' i xs/\H'=upd H p (.tup xs),fun i _=>n<=i⟩
variable{elts:List Expr}
theorem xx1{fp wr:List Addr}{Pt:Nat->Array Value->Prop}{St:Nat->Heap->Prop}{Mid:Nat->Addr->Heap->Prop}{V':Nat->List V->Prop}(W:∀ A:Around,A.handled=none->WalksT P w A it fp wr n Pt St Mid)(hmem:it∈fp)(hV:∀ i vs,Pt i vs->∃ xs,G7 xs vs.toList/\V' i xs/\xs.length<=64)(hO:∀ i h,St i h->∀ b∈fp,∃ o,h.get? b=some o/\∀ v,o.data≠.cell v)(hS:∀ (A:Around) (i:Nat) (s:Shared) (Q:Value->Shared->Prop) (E:Value->Shared->Prop),St i s.heap->Q (.ref it) s->wpAny (model P w) A (pyIter (.ref it)) Q E s) :
 wz6 P w K (.Tuple elts k pos) (Itp n V') fp it (fun i h=>i<=n/\St i h) where
 mem:=hmem
 obj:=fun i h st b hb=>hO i h st.2 b hb
 keep:=fun i h h' st kk=>⟨st.1,(W {} rfl).frame i h h' st.2 kk⟩
 item:=by
  intro X hP hw hK hc i pins s σ H E I hf st hg
  subst hP hw hK
  have W:=W X.A (I.ok.hd hc)
  refine wpAny_with_toks (n:=1) I.tk (W.item i s _ _ hg st.2 fun T vs h' tk hv hT htup hmid kk ht=>?_)
  have ht:0<tk:=ht
  obtain⟨xs,rx,vx,hz⟩:=hV i vs hv
  have hap:=W.apart i T h' hmid
  refine⟨_,rfl,W.go elts k pos i T {s with heap:=h',toks:=tk} _ _ hmid fun h2 st2 k2=>?_⟩
  have htup2:IsTup h2 T vs.toList.toArray:=by
   obtain⟨o,e,c⟩:=htup
   exact⟨o,k2 T o hap e,by simpa using c⟩
  have I1:Inv X pins σ (upd H T (.tup xs)) {s with heap:=h2,toks:=tk}:=I.turnLaid (ch:=wr) (fun b hb=>hf b (W.sub b hb)) (fun b u hb e=>k2 b u hb (kk b u hb e)) hT ⟨by rw[sizeLine_eq];omega,vs.toList,rx,htup2⟩ ht
  refine⟨.ref T,_,I1,rfl,⟨T,xs,rfl,I.hok.fresh hT,vx,rfl⟩,⟨hg,st2⟩,fun b hb=>?_⟩
  obtain⟨o,e,_⟩:=hO i _ st.2 b hb
  rw[B9 (Nat.ne_of_lt (Nat.lt_of_lt_of_le (Heap.lt_size e) hT))]
  exact(hf b hb).1
 done:=by
  intro X hP hw hK hc i pins s σ H E I hf st hg
  subst hP hw hK
  have W:=W X.A (I.ok.hd hc)
  have hi:i=n:=Nat.le_antisymm st.1 hg
  subst hi
  exact wpAny_with_toks (n:=1) I.tk (W.done s _ _ st.2 fun h' tk eb ht=>⟨rfl,I.turnedL (ch:=wr) (fun b hb=>hf b (W.sub b hb)) eb ht⟩)
 self:=fun A i s Q E st h=>hS A i s Q E st.2 h
theorem yr3(hh:A.handled=none)(it:Addr)(x:Str)(t:Tok) :
 Draws P w A it [it] x.cps.size (fun i v=>∃ c u,x.cps[i]?=some c/\v=.str ⟨#[c]⟩ u) (fun i h=>h.IsStrIter it (strIterType x) x t i):=by
 unfold strIterType
 split
 ·exact Draws.strAscii hh it x t
 ·exact Draws.strWide hh it x t
theorem yr4(hh:A.handled=none)(it:Addr)(x:Str)(t:Tok):Walks P w A it [it] [it] x.cps.size (SignAt x) (fun i h=>h.IsStrIter it (strIterType x) x t i):=by
 unfold strIterType
 split
 ·exact Walks.strAscii hh it x t
 ·exact Walks.strWide hh it x t
theorem xx2{t:Tok}{i:Nat}(hit:s.heap.IsStrIter it (strIterType x) x t i)(h:Q (.ref it) s) :
 wpAny (model P w) A (pyIter (.ref it)) Q E s:=by
 unfold strIterType at hit
 split at hit
 ·exact wpAny_pyIter_striter_ascii hit h
 ·exact wpAny_pyIter_striter_wide hit h
def xx3(z:Str)(i:Nat)(x:V):Prop:=∃ c,z.cps.toList[i]?=some c/\x=.str ⟨#[c]⟩
theorem yy4(i:Nat)(v:Value)(h:SignAt z i v):∃ x,J9 x v/\xx3 z i x:=by
 obtain⟨c,u,e,rfl⟩:=h
 exact⟨.str ⟨#[c]⟩,⟨u,rfl⟩,c,by simpa using e,rfl⟩
theorem yy5{tg:Expr}(it:Addr)(z:Str)(t:Tok):wz6 P w K tg (Itx z.cps.size (xx3 z)) [it] it (fun i h=>i<=z.cps.size/\h.IsStrIter it (strIterType z) z t i):=by
 refine yg0 (T:=strIterType z) (vs:=fun i=>#[.str z t,.int i 0]) (fun A hA=>yr4 hA it z t) yy4 (fun i h st=>?_) ?_ (fun A i s Q E st h=>xx2 st h)
 ·obtain⟨o,e,c,d⟩:=st
  exact⟨o,e,c,d⟩
 ·unfold strIterType
  split <;> decide
def zi5(tl:TE):TI:=fun σ H R=>tl σ H fun x H1=>∃ z,x=.str z/\R (Itx z.cps.size (xx3 z)) H1
theorem yl8{tg l:Expr}(hl:PE X l tl):PI X tg l (zi5 tl):=by
 intro pins s σ H R I h
 refine thn (hl pins s σ H _ I h) fun v s1 zq=>?_
 obtain⟨x,H1,I1,r1,q1⟩:=zq
 obtain⟨z,e,q⟩:=q1
 subst e
 obtain⟨t,rfl⟩:=r1
 refine wpAny_pyIter_strU ?_
 refine⟨s1.heap.objs.size,[s1.heap.objs.size],_,_,H1,rfl,I1.kept (t':=s1.toks) fun b o e=>Heap.get?_push_of_some _ e,yy5 _ z t,⟨Nat.zero_le _,_,Heap.get?_push_size _ rfl,rfl,rfl⟩,fun b hb=>?_,q⟩
 have e:b=s1.heap.objs.size:=by simpa using hb
 subst e
 exact I1.fpOk (Nat.le_refl _) (I1.hok.fresh (Nat.le_refl _))
def yg1(ta:TA):TI:=fun σ H R=>ta σ H fun vs H1=>∃ z,vs=[.str z]/\R (Itp z.cps.size fun i xs=>∃ c,z.cps.toList[i]?=some c/\xs=[.int i,.str ⟨#[c]⟩]) H1
theorem yy6{p:Pos}{l:Expr}{ta:TA}(hg:Gl X "enumerate")(hm:X.mg "enumerate"=none)(ha:PA X [l] ta)(hs:autoParam (starEach [l] X.env=[(false,eval l X.env)]) zAr) :
 PI X (.Tuple elts k tpos) (.Call (.Name "enumerate" p) [l] [] pos) (yg1 ta):=by
 intro pins s σ H R I h
 refine Call_ (qu5 I hg hm boot_enumerate (PyProof.Rows.callWith_type1 (thn (ha pos pins s σ H _ I h) fun us s1 zq=>?_) hs rfl))
 obtain⟨vs,H1,I1,r1,q1⟩:=zq
 obtain⟨z,e,q⟩:=q1
 subst e
 obtain⟨v,rfl,rv⟩:=qr6 r1
 obtain⟨t,rfl⟩:=rv
 refine call_enumerate_str fun h' he hit hz hk=>?_
 have I2:Inv X pins σ H1 {s1 with heap:=h'}:=I1.kept (t':=s1.toks) hk
 refine wpAny_pyIter_enum he ?_
 have ne:s1.heap.objs.size+1≠s1.heap.objs.size:=by omega
 refine⟨s1.heap.objs.size+1,_,_,_,H1,rfl,I2,xx1 (V':=fun i xs=>∃ c,z.cps.toList[i]?=some c/\xs=[.int i,.str ⟨#[c]⟩]) (fun A hA=>WalksT.enumerateD (yr3 (show A.in1.handled=none from hA) s1.heap.objs.size z t) (s1.heap.objs.size+1) ne (by simpa using ne) (by simp)) (by simp) ?_ ?_ ?_,⟨Nat.zero_le _,⟨_,he⟩,hit⟩,fun b hb=>?_,q⟩
 ·rintro i vs ⟨t1,v,⟨c,u,e,rfl⟩,rfl⟩
  exact⟨[.int i,.str ⟨#[c]⟩],.cons ⟨t1,rfl⟩ (.cons ⟨u,rfl⟩ .nil),⟨c,by simpa using e,rfl⟩,by simp⟩
 ·rintro i h ⟨⟨old,e1⟩,o2,e2,_,d2⟩ b hb
  have hb:b=s1.heap.objs.size+1\/b=s1.heap.objs.size:=by simpa using hb
  rcases hb with rfl|rfl
  ·exact⟨_,e1,fun v z=>by cases (show Data.fields _=Data.cell v from z)⟩
  ·exact⟨_,e2,fun v z=>by rw[d2] at z;cases z⟩
 ·rintro A i s Q E ⟨⟨old,e1⟩,_⟩ h
  exact wpAny_pyIter_enum e1 h
 ·have hb:b=s1.heap.objs.size+1\/b=s1.heap.objs.size:=by simpa using hb
  rcases hb with rfl|rfl
  ·exact I1.fpOk (Nat.le_succ _) (I1.hok.fresh (Nat.le_succ _))
  ·exact I1.fpOk (Nat.le_refl _) (I1.hok.fresh (Nat.le_refl _))
def xm9(te:TE)(y z:Str):TE:=fun σ H Q=>te σ H fun x H1=>∃ a,x=.str a/\a.length<=1048576/\Q (.str (PySem.Txt.replace a y z)) H1
variable{j1 j2:Nat}{p1:Pos}
theorem xb9{o:Expr}{y:Str}(ho:PE X o te)(hz:autoParam (z.length<=14) zAd)(hyz:autoParam ((y == z)=false) zAd)(hbase:autoParam (attributeBase o "replace" X.env (eval o X.env)=eval o X.env) zAr) (hfew:((backTo cpos (starEach [.Constant (.str y) j1 p1,.Constant (.str z) j2 p2] X.env)).all (fun x=>!x.1) && (backToKw cpos (keywordEach [] X.env)).all (fun x=>x.1.isSome)
  && decide (([.Constant (.str y) j1 p1,.Constant (.str z) j2 p2]:List Expr).length+([]:List Keyword).length+(if([]:List Keyword).isEmpty then 0 else 1)<30))=true:=by rfl) (hline:autoParam ((apos.endLine == cpos.line)=true) zAr) (hs:autoParam (starEach [.Constant (.str y) j1 p1,.Constant (.str z) j2 p2] X.env=[(false,eval (.Constant (.str y) j1 p1) X.env),(false,eval (.Constant (.str z) j2 p2) X.env)]) zAr) :
 PE X (.Call (.Attribute o "replace" apos) [.Constant (.str y) j1 p1,.Constant (.str z) j2 p2] [] cpos) (xm9 te y z):=by
 intro pins s σ H Q I h
 refine wpAny_Call_method_late hbase hfew hline rfl (thn (ho pins s σ H _ I h) fun v s1 zq=>?_)
 obtain⟨x,H1,I1,r1,q1⟩:=zq
 obtain⟨a,rfl,hl,q⟩:=q1
 obtain⟨h1,h2⟩:=yf0 (T := "str") I1 r1 (show tyV X.K "str" (.str a) H1 from rfl)
 refine⟨"str","str.replace",PySem.F.plainAttrs_str,PySem.F.slot_str_replace,PySem.F.type_str_replace,h1,h2,?_⟩
 obtain⟨t,rfl⟩:=r1
 rw[hs]
 refine Calls.callWith_builtin rfl (Calls.evalArgs_plain ?_)
 refine Calls.spliced_cons (Calls.Constant_str (k:=j1) (pos:=p1) (Calls.spliced_cons (Calls.Constant_str (k:=j2) (pos:=p2) (Calls.spliced_nil ?_))))
 exact wpAny_with_toks (n:=1) (s:={s1 with toks:=s1.toks+1+1}) (Nat.succ_pos _) (PySem.SC.replaceW (Nat.ne_of_gt I1.tk) (Nat.succ_ne_zero _) (by show s1.toks≠s1.toks+1;omega) hyz hl hz fun t' k ht=>⟨.str _,H1,I1.tok _ ht,⟨_,rfl⟩,q⟩)
def qf0(x:Str)(lo hi:Option Int):Str:=⟨((x.cps.toList.drop (HT.sIx x.cps.toList.length 0 lo)).take (HT.sIx x.cps.toList.length x.cps.toList.length hi-HT.sIx x.cps.toList.length 0 lo)).toArray⟩
def zz8:V->Option Int->Option Int->Hp->VK->Prop:=fun x lo hi H Q=>∃ z,x=.str z/\z.length<=sizeLine/\Q (.str (qf0 z lo hi)) H
theorem yr5(x:Str)(lo hi:Option Int):(⟨((Builtin.Str.strSliceIndices lo hi 1 x.length).filterMap (x.cps[·]?)).toArray⟩:Str)=qf0 x lo hi:=by
 obtain⟨h1,h2,h3⟩:=qy7 lo hi x.length
 have e:Builtin.Str.strSliceIndices lo hi 1 x.length=sliceRange (sliceBounds lo hi none x.length).1 (sliceBounds lo hi none x.length).2.1 (sliceBounds lo hi none x.length).2.2:=rfl
 rw[e,h1,h2,h3]
 unfold qf0
 rw[sliceRange_one,pick_run]
 rfl
theorem ye6(n d:Nat)(o:Option Int)(h:d<=n):HT.sIx n d o<=n:=by
 cases o with
 | none=>exact h
 | some v =>
   show(if v<0 then(v+(n:Int)).toNat else min v.toNat n)<=n
   split <;> omega
theorem zs8:SlR X zz8:=by
 intro pins s σ H x v vl vu lo hi sl Q I rx hs pl pu h
 obtain⟨z,rfl,hz,q⟩:=h
 obtain⟨t,rfl⟩:=rx
 refine⟨"str",_,PySem.F.slot_str_getitem.lookup,typeIs_str _ _ _,?_⟩
 have part:∀ {v:Value} {k:Option Int},IsPart v k->∃ l:Option (Int×Tok),v=partValue l/\l.map (·.1)=k:=fun{v k} h=>by
  cases h with
  | none=>exact⟨none,rfl,rfl⟩
  | int i t=>exact⟨some (i,t),rfl,rfl⟩
 obtain⟨l,rfl,el⟩:=part pl
 obtain⟨u,rfl,eu⟩:=part pu
 refine wpAny_getItem_str_slice (l:=l) (u:=u) (st:=none) hs rfl ?_
 have ep:slicePicked z l u none=Builtin.Str.strSliceIndices lo hi 1 z.length:=by unfold slicePicked;rw[el,eu];rfl
 have ec:=yr5 z lo hi
 unfold sliceMade
 rw[ep]
 split
 ·rename_i hc
  have hlen:(Builtin.Str.strSliceIndices lo hi 1 z.length).length=z.length:=by simpa using hc
  have:qf0 z lo hi=z:=by
   obtain⟨h1,h2,h3⟩:=qy7 lo hi z.length
   have e:Builtin.Str.strSliceIndices lo hi 1 z.length=sliceRange (sliceBounds lo hi none z.length).1 (sliceBounds lo hi none z.length).2.1 (sliceBounds lo hi none z.length).2.2:=rfl
   rw[e,h1,h2,h3,sliceRange_one,List.length_map,List.length_range] at hlen
   have hb:=ye6 z.length z.length hi (Nat.le_refl _)
   have el:z.cps.toList.length=z.length:=Array.length_toList
   obtain⟨⟨l⟩⟩:=z
   unfold qf0
   rw[el,hlen]
   by_cases h0:HT.sIx (Str.length ⟨⟨l⟩⟩) 0 lo=0
   ·rw[h0,List.drop_zero,List.take_of_length_le (Nat.le_of_eq el)]
   ·have:Str.length ⟨⟨l⟩⟩=0:=by omega
    rw[this,List.take_zero]
    have:l=[]:=List.eq_nil_of_length_eq_zero (by rw[<-this];exact el.symm▸rfl)
    rw[this]
  rw[this] at q
  exact⟨.str z,H,I,⟨_,rfl⟩,q⟩
 ·rw[ec]
  refine⟨?_,.str _,H,I.tok _,⟨_,rfl⟩,q⟩
  have:(qf0 z lo hi).length<=z.length:=by
   unfold qf0 Str.length
   simp only[List.size_toArray,List.length_take,List.length_drop,Array.length_toList]
   omega
  omega
def wm2(K:Fg):V->Option Int->Option Int->Hp->VK->Prop:=fun x lo hi H Q=>zz8 x lo hi H Q\/zx1 K x lo hi H Q\/zx5 K x lo hi H Q
theorem ql3:SlR X (wm2 X.K):=zs8.or (zp9.or zg6)
variable{hi lo:Option Int}
section
variable{Q:VK}
theorem xn0(hz:z.length<=sizeLine)(h:Q (.str (qf0 z lo hi)) H):wm2 K (.str z) lo hi H Q:=.inl ⟨z,rfl,hz,h⟩
theorem xx4(hx:SqL K H a xs)(h:∀ p,H p=none->Q (.ref p) (upd H p (.lst (qe7 xs lo hi)))):wm2 K (.ref a) lo hi H Q:=.inr (.inr ⟨a,xs,rfl,hx,h⟩)
theorem zz9{tl:TO}(h:te σ H fun x H1=>tl σ H1 fun l H2=>th σ H2 fun u H3=>r x l u H3 Q):tSl r te tl th σ H Q:=h
theorem zi6{t:TE}{R:Option Int->Hp->Prop}(h:t σ H fun x H1=>∃ i,x=.int i/\R (some i) H1):W1 t σ H R:=h
theorem yr6{R:Option Int->Hp->Prop}(h:R none H):qc3 σ H R:=h
theorem zs9{R:Int->Prop}(h:R i):∃ j,V.int i=.int j/\R j:=⟨i,rfl,h⟩
theorem zi7{y:Str}(h:te σ H fun x H1=>∃ a,x=.str a/\a.length<=1048576/\Q (.str (PySem.Txt.replace a y z)) H1):xm9 te y z σ H Q:=h
theorem yy7{ta:TA}(h:ta σ H fun vs H1=>∃ z,vs=[.str z]/\R (Itp z.cps.size fun i xs=>∃ c,z.cps.toList[i]?=some c/\xs=[.int i,.str ⟨#[c]⟩]) H1):yg1 ta σ H R:=h
theorem zi8(h:tl σ H fun x H1=>∃ z,x=.str z/\R (Itx z.cps.size (xx3 z)) H1):zi5 tl σ H R:=h
theorem yg2(Pv:Nat->List V->Hp->Prop)(h0:Pv 0 [] H)(hlen:∀ i ys H,i<=z.cps.size->Pv i ys H->ys.length<=sizeLine)(hs:∀ (i c:Nat) (p:Addr) ys H,z.cps.toList[i]?=some c->H p=none->Pv i ys H->g (.ref p) σ' (upd H p (.tup [.int i,.str ⟨#[c]⟩])) fun σ2 H2=>tt σ2 H2 fun b H3=>if b=true then te σ2 H3 fun y H4=>PAt Pv (i+1) (ys++[y]) H4 else PAt Pv (i+1) ys H3)(hd:∀ ys H,Pv z.cps.size ys H->∀ p,H p=none->Q (.ref p) (upd H p (.lst ys))) :
 ∃ z',[V.str z]=[.str z']/\wk1 g tt te σ' Q (Itp z'.cps.size fun i xs=>∃ c,z'.cps.toList[i]?=some c/\xs=[.int i,.str ⟨#[c]⟩]) H:=by
 refine⟨z,rfl,fun i m ys H=>m=z.cps.size-i/\i<=z.cps.size/\Pv i ys H,⟨z.cps.size,by simp,Nat.zero_le _,h0⟩,?_⟩
 rintro i m ys H ⟨rfl,hi,p⟩
 refine⟨hlen i ys H hi p,?_⟩
 by_cases hlt:i<z.cps.size
 ·refine .inr ⟨hlt,Pv (i+1),fun ys' H' p'=>⟨z.cps.size-(i+1),by omega,rfl,hlt,p'⟩,fun x H' y=>?_⟩
  obtain⟨a,xs,rfl,ha,⟨c,ec,rfl⟩,rfl⟩:=y
  exact hs i c a ys H ec ha p
 ·have e:i=z.cps.size:=by omega
  subst e
  exact .inl ⟨Nat.le_refl _,hd ys H p⟩
theorem yl9{y:Str}(h:Q (.bl (decide (x=y))) H):X3 K (.str x) (.str y) H Q:=by
 refine xx0 rfl ?_
 have e:(decide ((V.str x)=V.str y))=decide (x=y):=by simp
 rw[e];exact h
theorem yy8{y:Str}(h:Q (.bl (!decide (x=y))) H):xq4 K (.str x) (.str y) H Q:=by
 refine zz4 rfl ?_
 have e:(decide ((V.str x)=V.str y))=decide (x=y):=by simp
 rw[e];exact h
theorem zn6{x y:Int}(h:Q (.bl (decide (x=y))) H):X3 K (.int x) (.int y) H Q:=by
 refine xx0 rfl ?_
 have e:(decide ((V.int x)=V.int y))=decide (x=y):=by simp
 rw[e];exact h
end
section
open PySem.Builtin PySem.Builtin.Str
def xn1(x y:Str)(i j:Int):Int:=match occurrences x y (fromIndex x.length i) (min (fromIndex x.length j) x.length) 1 with|k::_=>(k:Int) | []=>-1
theorem xx5(x y:Str)(i j:Int)(t u v v':Tok):Gives («str.find» ⟨[.str x t,.str y u,.int i v,.int j v'],[]⟩) (.int (xn1 x y i j)):=by
 unfold xn1
 show Gives (match occurrences x y (fromIndex x.length i) (min (fromIndex x.length j) x.length) 1 with|k::_=>retInt k | []=>(do rule "str.find.not-found";retInt (-1))) _
 cases occurrences x y (fromIndex x.length i) (min (fromIndex x.length j) x.length) 1 with
 | nil=>exact .rule (.of_eq rfl)
 | cons k _=>exact .of_eq rfl
theorem G7.three{x z:V}(r:G7 [x,y,z] us):∃ u v w',us=[u,v,w']/\J9 x u/\J9 y v/\J9 z w':=by
 cases r with
 | cons r1 r2=>obtain⟨v,w',rfl,a,b⟩:=xw0 r2;exact⟨_,_,_,rfl,r1,a,b⟩
def xq7:V->List V->Hp->VK->Prop:=fun x vs H Q=>∃ (z y:Str) (i:Int),x=.str z/\vs=[.str y,.int i]/\Q (.int (PySem.Txt.find3 z y i)) H
theorem xe0:MtR X "str.find" xq7:=by
 intro pins s σ H x vs v us Q I rx rv h
 obtain⟨z,y,i,rfl,rfl,q⟩:=h
 obtain⟨t,rfl⟩:=rx
 obtain⟨u,w',rfl,⟨t1,rfl⟩,⟨t2,rfl⟩⟩:=xw0 rv
 exact SC.find3 ⟨.int _,H,I.tok _,⟨_,rfl⟩,q⟩
def yy9:V->List V->Hp->VK->Prop:=fun x vs H Q=>∃ (z y:Str) (i j:Int),x=.str z/\vs=[.str y,.int i,.int j]/\Q (.int (xn1 z y i j)) H
theorem yz0:MtR X "str.find" yy9:=by
 intro pins s σ H x vs v us Q I rx rv h
 obtain⟨z,y,i,j,rfl,rfl,q⟩:=h
 obtain⟨t,rfl⟩:=rx
 obtain⟨u,w',w2,rfl,⟨t1,rfl⟩,⟨t2,rfl⟩,⟨t3,rfl⟩⟩:=G7.three rv
 exact call_gives F.slot_str_find (typeIs_str _ _ _) F.entry_str_find (F.args_str_find_4 _ _ _ _) (xx5 z y i j t t1 t2 t3) ⟨.int _,H,I.tok _,⟨_,rfl⟩,q⟩
def ym0:V->List V->Hp->VK->Prop:=fun x vs H Q=>∃ (z y:Str) (i:Int),x=.str z/\vs=[.str y,.int i]/\Q (.bl (PySem.Txt.startswith3 z y i)) H
theorem yr7:MtR X "str.startswith" ym0:=by
 intro pins s σ H x vs v us Q I rx rv h
 obtain⟨z,y,i,rfl,rfl,q⟩:=h
 obtain⟨t,rfl⟩:=rx
 obtain⟨u,w',rfl,⟨t1,rfl⟩,⟨t2,rfl⟩⟩:=xw0 rv
 exact SC.startswith3 ⟨.bl _,H,I,rfl,q⟩
theorem yg3:∀ {bs:List Bool} {us:List Value},G7 (bs.map V.bl) us->us=bs.map Value.bool
 | [],_,h=>by cases h;rfl
 | b::bs,_,h=>by
   have h:G7 (V.bl b::bs.map V.bl) _:=h
   cases h with
   | cons r t=>rw[yg3 t];cases (show _=Value.bool b from r);rfl
theorem yr8(bs:List Bool):(List.range bs.length).all (fun i=>(bs[i]?).getD false)=bs.all id:=by
 rw[Bool.eq_iff_iff,List.all_eq_true,List.all_eq_true]
 constructor
 ·intro h b hb
  obtain⟨i,hi,e⟩:=List.getElem_of_mem hb
  have:=h i (List.mem_range.mpr hi)
  rw[List.getElem?_eq_getElem hi,e] at this
  exact this
 ·intro h i hi
  have hi:=List.mem_range.mp hi
  rw[List.getElem?_eq_getElem hi]
  exact h _ (List.getElem_mem hi)
theorem yr9(bs:List Bool):(List.range bs.length).any (fun i=>(bs[i]?).getD false)=bs.any id:=by
 rw[Bool.eq_iff_iff,List.any_eq_true,List.any_eq_true]
 constructor
 ·rintro⟨i,hi,h⟩
  have hi:=List.mem_range.mp hi
  rw[List.getElem?_eq_getElem hi] at h
  exact⟨_,List.getElem_mem hi,h⟩
 ·rintro⟨b,hb,h⟩
  obtain⟨i,hi,e⟩:=List.getElem_of_mem hb
  exact⟨i,List.mem_range.mpr hi,by rw[List.getElem?_eq_getElem hi,e];exact h⟩
def yz1(K:Fg):List V->Hp->VK->Prop:=fun xs H Q=>∃ (p:Addr) (bs:List Bool),xs=[.ref p]/\SqL K H p (bs.map V.bl)/\Q (.bl (bs.all id)) H
def yz2(K:Fg):List V->Hp->VK->Prop:=fun xs H Q=>∃ (p:Addr) (bs:List Bool),xs=[.ref p]/\SqL K H p (bs.map V.bl)/\Q (.bl (bs.any id)) H
theorem ys0(hc:X.calm=true):qe5 X (.builtin "all") (yz1 X.K):=by
 intro pins s σ H xs us Q I r h
 obtain⟨p,bs,rfl,hq,q⟩:=h
 obtain⟨u,rfl,ru⟩:=qr6 r
 cases ru
 obtain⟨its,rv,pl,hz⟩:=I.list hq
 have ei:=yg3 rv
 subst ei
 refine wpAny_with_toks (n:=1) I.tk (call_all_walk (wpAny_pyIter_list pl.isList ?_))
 have ne:p≠s.heap.objs.size:=Nat.ne_of_lt (by obtain⟨o,e,_⟩:=pl.isList;exact Heap.lt_size e)
 refine⟨_,_,_,_,_,_,fun i=>(bs[i]?).getD false,rfl,Walks.list (show X.A.in1.handled=none from I.ok.hd hc) s.heap.objs.size p ne _,⟨⟨_,Heap.get?_push_size _ rfl,rfl,rfl⟩,pl.isList.at fun o e=>Heap.get?_push_of_some _ e⟩,?_,fun h' tk hk ht=>?_⟩
 ·intro i v s Q E hP hQ
  have hP:(bs.map Value.bool)[i]?=some v:=by simpa using hP
  rw[List.getElem?_map] at hP
  obtain⟨b,hb,rfl⟩:=Option.map_eq_some_iff.mp hP
  have hQ:Q ((bs[i]?).getD false) s:=hQ
  rw[hb] at hQ
  exact wpAny_pure hQ
 ·refine⟨.bl (bs.all id),H,I.kept (fun b o e=>hk b o ?_ (Heap.get?_push_of_some _ e)) ht,?_,q⟩
  ·intro z
   have:b=s.heap.objs.size:=by simpa using z
   exact absurd (Heap.lt_size e) (by rw[this];exact Nat.lt_irrefl _)
  ·show Value.bool _=Value.bool _
   rw[<-yr8 bs]
   congr 2
   simp
theorem ys1(hc:X.calm=true):qe5 X (.builtin "any") (yz2 X.K):=by
 intro pins s σ H xs us Q I r h
 obtain⟨p,bs,rfl,hq,q⟩:=h
 obtain⟨u,rfl,ru⟩:=qr6 r
 cases ru
 obtain⟨its,rv,pl,hz⟩:=I.list hq
 have ei:=yg3 rv
 subst ei
 refine wpAny_with_toks (n:=1) I.tk (call_any_walk (wpAny_pyIter_list pl.isList ?_))
 have ne:p≠s.heap.objs.size:=Nat.ne_of_lt (by obtain⟨o,e,_⟩:=pl.isList;exact Heap.lt_size e)
 refine⟨_,_,_,_,_,_,fun i=>(bs[i]?).getD false,rfl,Walks.list (show X.A.in1.handled=none from I.ok.hd hc) s.heap.objs.size p ne _,⟨⟨_,Heap.get?_push_size _ rfl,rfl,rfl⟩,pl.isList.at fun o e=>Heap.get?_push_of_some _ e⟩,?_,fun h' tk hk ht=>?_⟩
 ·intro i v s Q E hP hQ
  have hP:(bs.map Value.bool)[i]?=some v:=by simpa using hP
  rw[List.getElem?_map] at hP
  obtain⟨b,hb,rfl⟩:=Option.map_eq_some_iff.mp hP
  have hQ:Q ((bs[i]?).getD false) s:=hQ
  rw[hb] at hQ
  exact wpAny_pure hQ
 ·refine⟨.bl (bs.any id),H,I.kept (fun b o e=>hk b o ?_ (Heap.get?_push_of_some _ e)) ht,?_,q⟩
  ·intro z
   have:b=s.heap.objs.size:=by simpa using z
   exact absurd (Heap.lt_size e) (by rw[this];exact Nat.lt_irrefl _)
  ·show Value.bool _=Value.bool _
   rw[<-yr9 bs]
   congr 2
   simp
section
variable{Q:VK}
theorem Aa0{bs:List Bool}(h:SqL K H p (bs.map V.bl))(q:Q (.bl (bs.all id)) H):yz1 K [.ref p] H Q:=⟨p,bs,rfl,h,q⟩
theorem Aa1{bs:List Bool}(h:SqL K H p (bs.map V.bl))(q:Q (.bl (bs.any id)) H):yz2 K [.ref p] H Q:=⟨p,bs,rfl,h,q⟩
theorem xx6(Pv:Nat->List V->Hp->Prop)(h0:Pv 0 [] H)(hlen:∀ i ys H,i<=z.cps.size->Pv i ys H->ys.length<=sizeLine)(hs:∀ (i c:Nat) ys H,z.cps.toList[i]?=some c->Pv i ys H->g (.str ⟨#[c]⟩) σ' H fun σ2 H2=>tt σ2 H2 fun b H3=>if b=true then te σ2 H3 fun y H4=>PAt Pv (i+1) (ys++[y]) H4 else PAt Pv (i+1) ys H3)(hd:∀ ys H,Pv z.cps.size ys H->∀ p,H p=none->Q (.ref p) (upd H p (.lst ys))) :
 ∃ z',V.str z=.str z'/\wk1 g tt te σ' Q (Itx z'.cps.size (xx3 z')) H:=by
 refine⟨z,rfl,fun i m ys H=>m=z.cps.size-i/\i<=z.cps.size/\Pv i ys H,⟨z.cps.size,by simp,Nat.zero_le _,h0⟩,?_⟩
 rintro i m ys H ⟨rfl,hi,p⟩
 refine⟨hlen i ys H hi p,?_⟩
 by_cases hlt:i<z.cps.size
 ·refine .inr ⟨hlt,Pv (i+1),fun ys' H' p'=>⟨z.cps.size-(i+1),by omega,rfl,hlt,p'⟩,fun x H' y=>?_⟩
  obtain⟨rfl,c,ec,rfl⟩:=y
  exact hs i c ys _ ec p
 ·have e:i=z.cps.size:=by omega
  subst e
  exact .inl ⟨Nat.le_refl _,hd ys H p⟩
end
end
section
variable{Q:VK}
theorem zt0{r:V->List V->Hp->VK->Prop}(h:to σ H fun x H1=>tyV K T x H1/\r x [] H1 Q):zg7 K T r to σ H Q:=h
theorem zn7(h1:H p=some (.lst (xs++[y])))(h:Q y (upd H p (.lst xs))):zg8 (.ref p) [] H Q :=
 ⟨p,xs++[y],y,rfl,rfl,h1,by simp,by rw[List.dropLast_concat];exact h⟩
end
variable{items:Array Value}
theorem wj1{t sl:Addr}{vl vu:Value}(ht:IsTup s.heap t items)(hs:s.heap.IsSliceOf sl vl vu .none)(pl:IsPart vl lo)(pu:IsPart vu hi)(hw:HT.sIx items.size 0 lo=0/\HT.sIx items.size items.size hi=items.size)(h:Q (.ref t) s):wpAny (model prog w) A (getItem (.ref t) (.ref sl)) Q E s:=by
 obtain⟨os,hos,hcs,hds⟩:=id hs
 have hTs:s.TypeIs (.ref sl) "slice":=⟨os,hos,hcs⟩
 unfold getItem
 try with_reducible refine wpAny_holding ?_
 first|refine wpAny_bind (wpAny_pure ?_)|skip
 refine wpAny_bind (wpAny_sequenceKey ht.typeIs (by decide) ?_)
 refine wpAny_bind (wpAny_callSpecial?_slot (name:=Str.ofString "__getitem__") ht.typeIs PyProof.Rows.slot_tuple_getitem
  (wpAny_call_entry PyProof.Rows.slot_tuple_getitem ht.typeIs entry_tuple_getitem ?_ (args_tuple_getitem _ _)))
 show wpAny _ _ (Builtin.Tuple.tupleItemsOf (.ref t) >>= _) _ _ s
 refine wpAny_bind (tupleItemsOf_ ht ?_)
 refine wpAny_bind (wpAny_typeOf hTs ?_)
 rw[if_pos (by decide)]
 refine wpAny_bind (HT.qv7 hs pl pu ?_)
 have hyes:((((HT.sIx items.size 0 lo:Nat):Int) == 0 && (1:Int) == 1 && (HT.sIx items.size items.size hi-HT.sIx items.size 0 lo) == items.size)=true):=by
  rw[hw.1,hw.2];simp
 show wpAny _ _ (if(((HT.sIx items.size 0 lo:Nat):Int) == 0 && (1:Int) == 1 && (HT.sIx items.size items.size hi-HT.sIx items.size 0 lo) == items.size)=true then _ else _) _ _ s
 rw[if_pos hyes]
 refine wpAny_bind (m:=Builtin.Tuple.tupleIsExact (.ref t)) ?_
 unfold Builtin.Tuple.tupleIsExact
 refine wpAny_bind (wpAny_typeOf ht.typeIs (wpAny_pure ?_))
 rw[if_pos (by decide)]
 first
  | exact wpAny_bind (wpAny_rule (wpAny_bind (wpAny_pure ⟨_,rfl,wpAny_pure h⟩)))
  | exact wpAny_bind (wpAny_rule (wpAny_pure ⟨_,rfl,wpAny_pure h⟩))
  | exact wpAny_bind (wpAny_rule (wpAny_pure (wpAny_pure ⟨_,rfl,wpAny_pure h⟩)))
def Aa2(K:Fg):V->Option Int->Option Int->Hp->VK->Prop:=fun x lo hi H Q=>∃ a xs,x=.ref a/\SqT K H a xs/\(HT.sIx xs.length 0 lo=0/\HT.sIx xs.length xs.length hi=xs.length)/\Q (.ref a) H
theorem zi9:SlR X (Aa2 X.K):=by
 intro pins s σ H x v vl vu lo hi sl Q I rx hs pl pu h
 obtain⟨a,xs,rfl,hx,hw,q⟩:=h
 cases rx
 obtain⟨its,r,ht,hz⟩:=I.tuple hx
 have hlen:its.toArray.size=xs.length:=by rw[List.size_toArray];exact r.length.symm
 refine⟨"tuple",_,PyProof.Rows.slot_tuple_getitem.lookup,ht.typeIs,?_⟩
 exact wj1 ht hs pl pu (by rw[hlen];exact hw) ⟨.ref a,H,I,rfl,q⟩
def yg4(K:Fg):V->Option Int->Option Int->Hp->VK->Prop:=fun x lo hi H Q=>wm2 K x lo hi H Q\/Aa2 K x lo hi H Q
theorem wp5:SlR X (yg4 X.K):=ql3.or zi9
def zn8(K:Fg):R2:=fun x y H Q=>∃ a b ys,x=.ref a/\y=.ref b/\SqT K H a []/\SqT K H b ys/\Q (.ref b) H
theorem zj0:OpR X (binaryOp .Add) (zn8 X.K):=by
 intro pins s σ H x y v u Q I rx ry h
 obtain⟨a,b,ys,rfl,rfl,ha,hb,q⟩:=h
 cases rx
 cases ry
 obtain⟨its,r1,p1,_⟩:=I.tuple ha
 obtain⟨its2,r2,p2,_⟩:=I.tuple hb
 cases r1
 obtain⟨⟨cls,dd,data,sl⟩,ho,hc,n,hd⟩:=id p1
 obtain⟨⟨cls2,dd2,data2,sl2⟩,ho2,hc2,n2,hd2⟩:=id p2
 simp only at hc hd hc2 hd2
 subst hc hd hc2 hd2
 exact concat_meets ⟨_,ho,rfl⟩ ⟨_,ho2,rfl⟩ noFill_tuple_add seq_tuple_add PySem.F.slot_tuple_add PySem.F.entry_tuple_add (PySem.F.args_tuple_add_2 _ _)
  (tuple_addW0 a b _ its2.toArray n n2 dd dd2 sl sl2 (by simp)) ⟨ho,ho2,⟨.ref b,H,I,rfl,q⟩⟩
def qw0(K:Fg):R2:=fun x y H Q=>D2 K x y H Q\/zn8 K x y H Q
theorem Y0:OpR X (binaryOp .Add) (qw0 X.K):=B5.or zj0
section
variable{Q:VK}
theorem wm3(h1:SqT K H a xs)(h2:SqT K H b ys)(hz:xs.length+ys.length<=sizeLine)(h:∀ p H',A6 H H'->SqT K H' p (xs++ys)->Q (.ref p) H'):qw0 K (.ref a) (.ref b) H Q:=by
 by_cases hx:xs=[]
 ·subst hx
  exact .inr ⟨a,b,ys,rfl,rfl,h1,h2,h b H (fun _ _ e=>e) h2⟩
 ·refine .inl (.inr (.inr (.inr ⟨a,b,xs,ys,rfl,rfl,h1,h2,hx,hz,fun hy=>?_,fun hy p hp=>h p _ (A6.new hp _) (SqT.of A5)⟩)))
  subst hy
  exact h a H (fun _ _ e=>e) (by rw[List.append_nil];exact h1)
theorem xx7(h1:SqT K H a xs)(h:∀ p H',A6 H H'->SqT K H' p (qe7 xs lo hi)->Q (.ref p) H'):yg4 K (.ref a) lo hi H Q:=by
 by_cases hw:HT.sIx xs.length 0 lo=0/\HT.sIx xs.length xs.length hi=xs.length
 ·refine .inr ⟨a,xs,rfl,h1,hw,h a H (fun _ _ e=>e) ?_⟩
  unfold qe7
  rw[hw.1,hw.2,List.drop_zero,Nat.sub_zero,List.take_length];exact h1
 ·exact .inl (.inr (.inl ⟨a,xs,rfl,h1,hw,fun p hp=>h p _ (A6.new hp _) (SqT.of A5)⟩))
theorem zn9(c:0<=j)(h:Q (.int (i / 2 ^ j.toNat)) H):rI (fun _ j=>0<=j) (fun i j=>.int (i / 2 ^ j.toNat)) (.int i) (.int j) H Q:=⟨i,j,rfl,rfl,c,h⟩
theorem zo0(c:yv2 i j)(h:Q (.int (i*2 ^ j.toNat)) H):rI yv2 (fun i j=>.int (i*2 ^ j.toNat)) (.int i) (.int j) H Q:=⟨i,j,rfl,rfl,c,h⟩
end
def yz3(ta:TA):TI:=fun σ H R=>ta σ H fun vs H1=>∃ n:Nat,vs=[.int ((n:Int)-1),.int (-1),.int (-1)]/\(n:Int)<2 ^ 62/\R (Itv n) H1
theorem xn2(n:Nat):Builtin.Range.rangeSize ((n:Int)-1) (-1) (-1)=n:=by
 unfold Builtin.Range.rangeSize
 rw[if_neg (by decide)]
 have e:(- (-1):Int)=1:=by decide
 rw[e,Int.ediv_one]
 split <;> omega
theorem ys2 {tg:Expr} {a b:Expr} {ta:TA} {p:Pos} (hg:Gl X "range") (hm:X.mg "range"=none) (ha:PA X [a,b,c] ta) (hs:autoParam (starEach [a,b,c] X.env=(false,eval a X.env)::starEach [b,c] X.env) zAr) (hs2:autoParam (starEach [b,c] X.env=[(false,eval b X.env),(false,eval c X.env)]) zAr) :
 PI X tg (.Call (.Name "range" p) [a,b,c] [] pos) (yz3 ta):=by
 intro pins s σ H R I h
 refine Call_ (qu5 I hg hm boot_range (PyProof.Rows.callWith_type1 (thn (ha pos pins s σ H _ I h) fun us s1 zq=>?_) hs (by rw[hs2];rfl)))
 obtain⟨vs,H1,I1,r1,q1⟩:=zq
 obtain⟨n,e,q1,q⟩:=q1
 subst e
 cases r1 with
 | cons r rr =>
   cases rr with
   | cons r' rr =>
     cases rr with
     | cons r'' rr =>
       cases rr
       obtain⟨t,rfl⟩:=r
       obtain⟨t',rfl⟩:=r'
       obtain⟨t'',rfl⟩:=r''
       refine call_range_3 (by decide) ?_ (Or.inl (PyProof.noPylong_small (by decide)))
       have I2:Inv X pins σ H1 {s1 with heap:=s1.heap.push {cls:=.type "range",data:=.fields #[.int ((n:Int)-1) t,.int (-1) t',.int (-1) t'']},toks:=s1.toks}:=I1.kept (t':=s1.toks) fun b o e=>Heap.get?_push_of_some _ e
       refine wpAny_pyIter_range (IsRange.new ..) ?_ ?_
       ·unfold Builtin.Range.small
        rw[xn2]
        simp only[Builtin.Range.rangeFitsLong,Bool.and_eq_true,Bool.or_eq_true,decide_eq_true_eq,beq_iff_eq,show ¬((-1:Int) > 0) by decide,if_false]
        omega
       refine⟨_,[_],_,_,H1,rfl,I2.kept (t':=s1.toks) fun b o e=>Heap.get?_push_of_some _ e,yy2 _ n,?_,fun b hb=>?_,q⟩
       ·have e1:(n:Int)-1+((0:Nat):Int)*(-1)=(n:Int)-1:=by simp
        have e2:(n:Int)-((0:Nat):Int)=n:=by simp
        rw[e1,e2]
        have:=Heap.get?_push_size (s1.heap.push {cls:=.type "range",data:=.fields #[.int ((n:Int)-1) t,.int (-1) t',.int (-1) t'']}) (o:={cls:=.type "range_iterator",data:=.fields #[rawInt ((n:Int)-1),rawInt (Builtin.Range.rangeSize ((n:Int)-1) (-1) (-1)),rawInt (-1)]}) rfl
        rw[xn2] at this ⊢
        exact this
       ·have e:b=(s1.heap.push {cls:=.type "range",data:=.fields #[.int ((n:Int)-1) t,.int (-1) t',.int (-1) t'']}).objs.size:=by simpa using hb
        subst e
        exact I2.fpOk (Nat.le_refl _) (I2.hok.fresh (Nat.le_refl _))
theorem zj1{ta:TA}(h:ta σ H fun vs H1=>∃ n:Nat,vs=[.int ((n:Int)-1),.int (-1),.int (-1)]/\(n:Int)<2 ^ 62/\R (Itv n) H1):yz3 ta σ H R:=h
theorem wp6{i:Nat}{items}{x:Value}(hit:s.heap.IsTupleIter it l i)(hl:s.heap.IsTuple l items)(hx:items[i]?=some x)(hQ:∀ h',h'.IsTupleIter it l (i+1)->Heap.SameBut it s.heap h'->Q x {s with heap:=h'}) :
 wpAny (model prog w) A (Builtin.SmallTypes.nextOf (.ref it)) Q E s:=by
 obtain⟨o,ho,hc,hd⟩:=id hit
 obtain⟨ol,hol,_,nl,hdl⟩:=hl
 unfold Builtin.SmallTypes.nextOf
 refine wpAny_bind (wpAny_callSpecial?_slot (name:=Str.ofString "__next__") hit.typeIs F.slot_tuple_iterator_next
  (wpAny_call_entry F.slot_tuple_iterator_next hit.typeIs F.entry_tuple_iterator_next ?_ (F.args_tuple_iterator_next_1 _)))
 show wpAny _ _ (field (.ref it) 0 >>= _) _ _ s
 refine wpAny_bind (wpAny_field ho hd (x:=.ref l) rfl ?_)
 show wpAny _ _ (if(Value.ref l == Value.none)=true then _ else _) _ _ s
 rw[if_neg (show ¬((Value.ref l == Value.none)=true) from Bool.false_ne_true)]
 show wpAny _ _ (field (.ref it) 1 >>= _) _ _ s
 refine wpAny_bind (wpAny_field ho hd (x:=.int i 0) rfl ?_)
 show wpAny _ _ (seqItems? (.ref l) >>= _) _ _ s
 refine wpAny_bind (wpAny_seqItems hol hdl ?_)
 simp only[Int.toNat_natCast,hx]
 refine wpAny_bind (wpAny_setField ho hd (by simp) (wpAny_pure ⟨x,rfl,wpAny_pure (hQ _ ?_ (Heap.SameBut.update ..))⟩))
 exact⟨_,Heap.get?_update_self _ ho (Obj.isFreed_of_fields (Obj.data_mapFields hd _)),(Obj.cls_mapFields ..).trans hc,by
  rw[Obj.data_mapFields hd];simp[rawInt]⟩
theorem qw1{i:Nat}{items}(hh:A.handled=none)(hit:s.heap.IsTupleIter it l i)(hl:s.heap.IsTuple l items)(hx:items[i]?=none)(hE:∀ h' e,Heap.ExtBut it s.heap h'->(∃ o,h'.get? e=some o/\o.cls=.type "StopIteration")->E (.ref e) {s with heap:=h'}) :
 wpAny (model prog w) A (Builtin.SmallTypes.nextOf (.ref it)) Q E s:=by
 obtain⟨o,ho,hc,hd⟩:=id hit
 obtain⟨ol,hol,_,nl,hdl⟩:=hl
 unfold Builtin.SmallTypes.nextOf
 refine wpAny_bind (wpAny_callSpecial?_slot (name:=Str.ofString "__next__") hit.typeIs F.slot_tuple_iterator_next
  (wpAny_call_entry F.slot_tuple_iterator_next hit.typeIs F.entry_tuple_iterator_next ?_ (F.args_tuple_iterator_next_1 _)))
 show wpAny _ _ (field (.ref it) 0 >>= _) _ _ s
 refine wpAny_bind (wpAny_field ho hd (x:=.ref l) rfl ?_)
 show wpAny _ _ (if(Value.ref l == Value.none)=true then _ else _) _ _ s
 rw[if_neg (show ¬((Value.ref l == Value.none)=true) from Bool.false_ne_true)]
 show wpAny _ _ (field (.ref it) 1 >>= _) _ _ s
 refine wpAny_bind (wpAny_field ho hd (x:=.int i 0) rfl ?_)
 show wpAny _ _ (seqItems? (.ref l) >>= _) _ _ s
 refine wpAny_bind (wpAny_seqItems hol hdl ?_)
 simp only[Int.toNat_natCast,hx]
 refine wpAny_bind (wpAny_rule (wpAny_bind (wpAny_setField ho hd (by simp) ?_)))
 show wpAny _ _ (newExc (.type "StopIteration") [] >>= _) _ _ _
 refine wpAny_bind ?_
 simp only[newExc,newTuple]
 refine wpAny_bind (wpAny_newObj_type ?_ (by size_fits))
 refine wpAny_bind (m:=firstArgMember _ _) (wpAny_of_eq (a:=Value.none) (by first|rfl|(simp only[firstArgMember];rfl)) ?_)
 refine wpAny_newObj_type ?_ (by size_fits)
 simp only[raiseNew]
 refine wpAny_bind (wpAny_handled ?_)
 first|rw[show A.in1.handled=none from hh]|rw[hh]
 refine wpAny_bind (wpAny_pure (wpAny_throw ?_))
 exact hE _ _ (((Heap.SameBut.update ..).extBut.push _).push _) ⟨_,Heap.get?_push_size _ rfl,rfl⟩
theorem xx8(hh:A.handled=none)(it l:Addr)(hne:l≠it)(items:Array Value) :
 Draws prog w A it [it,l] items.size (fun i v=>items[i]?=some v) (fun i h=>h.IsTupleIter it l i/\h.IsTuple l items) where
 live:=fun _ _ st=>let ⟨o,ho,_⟩:=st.1;⟨o,ho⟩
 frame:=fun _ _ _ st hk=>⟨st.1.at fun o e=>hk it (by simp) o e,st.2.at fun o e=>hk l (by simp) o e⟩
 item:=fun i s Q E hi st hQ=>by
  refine wp6 st.1 st.2 (x:=items[i]) (by simp[hi]) fun h' hit' hs'=>?_
  exact hQ _ h' s.toks (by simp[hi]) ⟨hit',st.2.extBut hs'.extBut hne⟩ hs'
 done:=fun s Q E st hE=>qw1 hh st.1 st.2 (by simp) hE
set_option maxHeartbeats 1000000 in
theorem we5(l:Addr)(items:Array Value)(n:Nat)(dct:Option Addr)(sl:Array (Option Value)) :
 Meets (Builtin.«enumerate.__new__» ⟨[.type "enumerate",.ref l],[]⟩) (fun _ R s=>s.heap.get? l=some {cls:=.type "tuple",dict:=dct,data:=.seq items n,slots:=sl} /\
  R (.ok (.ret (.ref (s.heap.push {cls:=.type "tuple_iterator",data:=.fields #[.ref l,.int 0 0]}).objs.size)))
   {s with heap:=(s.heap.push {cls:=.type "tuple_iterator",data:=.fields #[.ref l,.int 0 0]}).push {cls:=.type "enumerate",data:=.fields #[.none,.bool false,.ref s.heap.objs.size,rawInt 0,.none,.none]}}) :=
 .of_wp fun prog w A R s h=>by
  obtain⟨hp,g,d,tk,os⟩:=s;obtain⟨hl,h⟩:=h
  have hsub:=sub_enumerate
  have hL:Heap.IsTuple (Shared.heap ⟨hp,g,d,tk,os⟩) l items:=⟨_,hl,rfl,n,rfl⟩
  wp_walk using AutoSeq1.wpAny_loadPart' hl
  refine wpAny_stack_any fun st=>wpAny_pure ?_
  split
  ·rename_i c _ _ _ _ _
   cases (c == Value.type "enumerate")
   ·wp_walk using AutoSeq1.wpAny_loadPart' hl,wpAny_pyIter_tuple hL
    exact⟨_,rfl,h⟩
   ·wp_walk using AutoSeq1.wpAny_loadPart' hl,wpAny_pyIter_tuple hL
    exact⟨_,rfl,h⟩
  ·wp_walk using AutoSeq1.wpAny_loadPart' hl,wpAny_pyIter_tuple hL
   exact⟨_,rfl,h⟩
theorem we6(hL:s.heap.IsTuple l items) (h:∀ h',IsEnum h' (s.heap.objs.size+1) s.heap.objs.size 0 .none->h'.IsTupleIter s.heap.objs.size l 0->h'.objs.size=s.heap.objs.size+2 ->
  (∀ b o,s.heap.get? b=some o->h'.get? b=some o)->Q (.ref (s.heap.objs.size+1)) {s with heap:=h'}) :
 wpAny (model prog w) A (call (.type "enumerate") [.ref l]) Q E s:=by
 obtain⟨⟨c,dct,dt,sl⟩,hl,hc,n,hd⟩:=hL
 replace hc:c=.type "tuple":=hc
 replace hd:dt=.seq items n:=hd
 subst hc hd
 refine callType_new F.called_enumerate (by decide) (F.typeCall_enumerate_1 _) (F.newCall_enumerate_1 _) (fun obj=>F.args_object_init_2 obj _) F.entry_enumerate_new
  (we5 l items n dct sl) ⟨hl,?_⟩
 have hz:(s.heap.push {cls:=.type "tuple_iterator",data:=.fields #[.ref l,.int 0 0]}).objs.size=s.heap.objs.size+1:=Heap.size_push ..
 show _/\_
 rw[hz]
 have he:IsEnum ((s.heap.push {cls:=.type "tuple_iterator",data:=.fields #[.ref l,.int 0 0]}).push
  {cls:=.type "enumerate",data:=.fields #[.none,.bool false,.ref s.heap.objs.size,rawInt 0,.none,.none]}) (s.heap.objs.size+1) s.heap.objs.size 0 .none:=by
  have:=Heap.get?_push_size (s.heap.push {cls:=.type "tuple_iterator",data:=.fields #[.ref l,.int 0 0]})
   (o:={cls:=.type "enumerate",data:=.fields #[.none,.bool false,.ref s.heap.objs.size,rawInt 0,.none,.none]}) rfl
  rw[hz] at this;exact this
 refine⟨⟨_,he,rfl⟩,h _ he ⟨_,Heap.get?_push_of_some _ (Heap.get?_push_size _ rfl),rfl,rfl⟩ (by rw[Heap.size_push,hz]) fun b o y=>Heap.get?_push_of_some _ (Heap.get?_push_of_some _ y)⟩
def Ite(K:Fg)(a:Addr):It:=⟨fun i H=>∃ xs x,SqT K H a xs/\xs[i]?=some x,fun i H x H'=>∃ p y,x=.ref p/\H p=none/\(∀ xs,SqT K H a xs->xs[i]?=some y)/\H'=upd H p (.tup [.int i,y]),fun i H=>∃ xs,SqT K H a xs/\xs.length<=i⟩
theorem yg5(a e it:Addr)(hei:e≠it) :
 wz6 P w K (.Tuple elts k pos) (Ite K a) [e,it] e (fun i h=>(∃ old,IsEnum h e it i old)/\h.IsTupleIter it a i) where
 mem:=by simp
 obj:=by
  rintro i h ⟨⟨old,e1⟩,o2,e2,_,d2⟩ b hb
  have hb:b=e\/b=it:=by simpa using hb
  rcases hb with rfl|rfl
  ·exact⟨_,e1,fun v z=>by cases (show Data.fields _=Data.cell v from z)⟩
  ·exact⟨_,e2,fun v z=>by rw[d2] at z;cases z⟩
 keep:=fun i h h' st kk=>⟨let ⟨old,e1⟩:=st.1;⟨old,kk e (by simp) _ e1⟩,st.2.at fun o q=>kk it (by simp) o q⟩
 item:=by
  intro X hP hw hK hc i pins s σ H E I hf st hg
  subst hP hw hK
  obtain⟨xs,x,hq,hx⟩:=hg
  obtain⟨its,rv,p,hz⟩:=I.tuple hq
  obtain⟨u,hu,ru⟩:=rv.get hx
  have hil:i<its.toArray.size:=by rw[List.size_toArray];exact(List.getElem?_eq_some_iff.mp hu).1
  have pT:s.heap.IsTuple a its.toArray:=p
  have nea:a≠it:=fun z=>by
   obtain⟨o1,h1,c1,_⟩:=pT
   obtain⟨o2,h2,c2,_⟩:=st.2
   rw[z,h2] at h1
   cases h1
   rw[c1] at c2
   exact absurd c2 (by decide)
  have nee:e≠a:=fun z=>by
   obtain⟨o1,h1,c1,_⟩:=pT
   obtain⟨old,h2⟩:=st.1
   rw[<-z] at h1
   have h2:s.heap.get? e=some _:=h2
   rw[h2] at h1
   cases h1
   exact absurd c1 (show ¬(Value.type "enumerate"=Value.type "tuple") by decide)
  have W:=WalksT.enumerateD (prog:=X.prog) (w:=X.w) (A:=X.A) (xx8 (A:=X.A.in1) (show X.A.in1.handled=none from I.ok.hd hc) it a nea its.toArray) e hei (by simp[hei,nee]) (by simp)
  refine wpAny_with_toks (n:=1) I.tk (W.item i s _ _ hil ⟨st.1,st.2,pT⟩ fun T vs h' tk hv hT htup hmid kk ht=>?_)
  have ht:0<tk:=ht
  obtain⟨tk1,y,hy,rfl⟩:=hv
  have hy:its[i]?=some y:=by simpa using hy
  rw[hu] at hy
  injection hy with hy
  subst hy
  have hap:=W.apart i T h' hmid
  refine⟨_,rfl,W.go elts k pos i T {s with heap:=h',toks:=tk} _ _ hmid fun h2 st2 k2=>?_⟩
  have htup2:IsTup h2 T [Value.int i tk1,u].toArray:=by
   obtain⟨o,e,c⟩:=htup
   exact⟨o,k2 T o hap e,by simpa using c⟩
  have I1:Inv X pins σ (upd H T (.tup [.int i,x])) {s with heap:=h2,toks:=tk}:=I.turnLaid (ch:=[e,it]) (fun b hb=>hf b hb) (fun b u hb e=>k2 b u hb (kk b u hb e)) hT ⟨by rw[sizeLine_eq];simp,[Value.int i tk1,u],.cons ⟨tk1,rfl⟩ (.cons ru .nil),htup2⟩ ht
  refine⟨.ref T,_,I1,rfl,⟨T,x,rfl,I.hok.fresh hT,fun ys hy=>by rw[I.tuple_inj hy hq];exact hx,rfl⟩,⟨st2.1,st2.2.1⟩,fun b hb=>?_⟩
  have hb2:∃ o,s.heap.get? b=some o:=by
   have hb:b=e\/b=it:=by simpa using hb
   rcases hb with rfl|rfl
   ·obtain⟨old,e1⟩:=st.1;exact⟨_,e1⟩
   ·obtain⟨o,e1,_⟩:=st.2;exact⟨_,e1⟩
  obtain⟨o,e⟩:=hb2
  rw[B9 (Nat.ne_of_lt (Nat.lt_of_lt_of_le (Heap.lt_size e) hT))]
  exact(hf b hb).1
 done:=by
  intro X hP hw hK hc i pins s σ H E I hf st hg
  subst hP hw hK
  obtain⟨xs,hq,hx⟩:=hg
  obtain⟨its,rv,p,hz⟩:=I.tuple hq
  have pT:s.heap.IsTuple a its.toArray:=p
  have hno:its.toArray[i]?=none:=by
   have:=rv.length
   simp;omega
  obtain⟨old,he⟩:=st.1
  have D:Draws X.prog X.w X.A.in1 it [it,a] 0 (fun _ _=>True) (fun _ h=>h.IsTupleIter it a i/\h.IsTuple a its.toArray) :=
   { live:=fun _ _ st=>let ⟨o,ho,_⟩:=st.1;⟨o,ho⟩
     frame:=fun _ _ _ st hk=>⟨st.1.at fun o e=>hk it (by simp) o e,st.2.at fun o e=>hk a (by simp) o e⟩
     item:=fun j s Q E hj=>absurd hj (Nat.not_lt_zero _)
     done:=fun s Q E st hE=>qw1 (show X.A.in1.handled=none from I.ok.hd hc) st.1 st.2 hno hE}
  exact wpAny_pyNext_enum_endD D he ⟨st.2,pT⟩ fun h' hx=>⟨rfl,I.turnedL (ch:=[e,it]) (t':=s.toks) (fun b hb=>hf b hb) (fun b o hb y=>hx b o (fun z=>hb (by simp[z])) y) I.tk⟩
 self:=fun A i s Q E st h=>let ⟨old,e1⟩:=st.1;wpAny_pyIter_enum e1 h
def xq8(K:Fg)(ta:TA):TI:=fun σ H R=>ta σ H fun vs H1=>∃ a xs,vs=[.ref a]/\SqT K H1 a xs/\R (Ite K a) H1
theorem xx9{p:Pos}{l:Expr}{ta:TA}(hg:Gl X "enumerate")(hm:X.mg "enumerate"=none)(ha:PA X [l] ta)(hs:autoParam (starEach [l] X.env=[(false,eval l X.env)]) zAr) :
 PI X (.Tuple elts k tpos) (.Call (.Name "enumerate" p) [l] [] pos) (xq8 X.K ta):=by
 intro pins s σ H R I h
 refine Call_ (qu5 I hg hm boot_enumerate (PyProof.Rows.callWith_type1 (thn (ha pos pins s σ H _ I h) fun us s1 zq=>?_) hs rfl))
 obtain⟨vs,H1,I1,r1,q1⟩:=zq
 obtain⟨a,xs,e,hq,q⟩:=q1
 subst e
 obtain⟨v,rfl,rv⟩:=qr6 r1
 cases rv
 obtain⟨its,rv,pT,hz⟩:=I1.tuple hq
 refine we6 (show s1.heap.IsTuple a its.toArray from pT) fun h' he hit hz hk=>?_
 have I2:Inv X pins σ H1 {s1 with heap:=h'}:=I1.kept (t':=s1.toks) hk
 refine wpAny_pyIter_enum he ?_
 have ne:s1.heap.objs.size+1≠s1.heap.objs.size:=by omega
 refine⟨s1.heap.objs.size+1,_,_,_,H1,rfl,I2,yg5 a (s1.heap.objs.size+1) s1.heap.objs.size ne,⟨⟨_,he⟩,hit⟩,fun b hb=>?_,q⟩
 have hb:b=s1.heap.objs.size+1\/b=s1.heap.objs.size:=by simpa using hb
 rcases hb with rfl|rfl
 ·exact I1.fpOk (Nat.le_succ _) (I1.hok.fresh (Nat.le_succ _))
 ·exact I1.fpOk (Nat.le_refl _) (I1.hok.fresh (Nat.le_refl _))
theorem yz4{ta:TA}(h:ta σ H fun vs H1=>∃ a xs,vs=[.ref a]/\SqT K H1 a xs/\R (Ite K a) H1):xq8 K ta σ H R:=h
theorem xn3(hq:SqT K H a xs)(Pv:Nat->St->Hp->Prop)(h0:Pv 0 σ H)(hk:∀ i σ H',Pv i σ H'->SqT K H' a xs)(hs:∀ i x σ H p,xs[i]?=some x->Pv i σ H->H p=none->g (.ref p) σ (upd H p (.tup [.int i,x])) fun σ2 H2=>tb {D with nx:=PAt Pv (i+1),ct:=PAt Pv (i+1),bk:=D.nx} σ2 H2)(hd:∀ σ H,Pv xs.length σ H->D.nx σ H) :
 ∃ b ys,[V.ref a]=[.ref b]/\SqT K H b ys/\wm1 g tb D σ (Ite K b) H:=by
 refine⟨a,xs,rfl,hq,fun i m σ H=>m=xs.length-i/\i<=xs.length/\Pv i σ H,⟨xs.length,by simp,Nat.zero_le _,h0⟩,?_⟩
 rintro i m σ H ⟨rfl,hi,p⟩
 have sq:=hk i σ H p
 by_cases hlt:i<xs.length
 ·refine .inr ⟨⟨xs,xs[i],sq,by simp[hlt]⟩,Pv (i+1),fun σ' H' p'=>⟨xs.length-(i+1),by omega,rfl,hlt,p'⟩,fun x H' y=>?_⟩
  obtain⟨t,z,rfl,ht,hz,rfl⟩:=y
  exact hs i z σ H t (hz xs sq) p ht
 ·have e:i=xs.length:=by omega
  subst e
  exact .inl ⟨⟨xs,sq,Nat.le_refl _⟩,hd σ H p⟩
theorem yz5(hn:(n:Int)<2 ^ 62)(Pv:Nat->St->Hp->Prop)(p0:Pv 0 σ H)(hs:∀ (i:Nat) σ H,i<n->Pv i σ H->g (.int ((n:Int)-1-i)) σ H fun σ2 H2=>tb {D with nx:=PAt Pv (i+1),ct:=PAt Pv (i+1),bk:=D.nx} σ2 H2)(hd:∀ σ H,Pv n σ H->D.nx σ H) :
 ∃ m:Nat,[V.int ((n:Int)-1),V.int (-1),V.int (-1)]=[.int ((m:Int)-1),.int (-1),.int (-1)]/\(m:Int)<2 ^ 62/\wm1 g tb D σ (Itv m) H:=by
 obtain⟨m,e,h1,h2⟩:=zi4 hn Pv p0 hs hd
 injection e with e
 injection e with e
 have:n=m:=by omega
 subst this
 exact⟨n,rfl,h1,h2⟩
section
variable{Q:VK}
theorem yz6(h1:H p=some (.lst xs))(h2:H b=some (.lst zs))(hz:xs.length+zs.length<=sizeLine)(h:Q .non (upd H p (.lst (xs++zs)))):xb6 (.ref p) [.ref b] H Q:=⟨p,b,xs,zs,rfl,rfl,h1,h2,hz,h⟩
end
def Itb(K:Fg)(a:Addr)(n:Nat):It :=
 ⟨fun i H=>i<n/\∃ xs x,SqL K H a xs/\xs[n-1-i]?=some x,fun i H x H'=>H'=H/\∀ xs,SqL K H a xs->xs[n-1-i]?=some x,fun i _=>i=n⟩
theorem ys3{tg:Expr}(a it:Addr)(n:Nat):wz6 P w K tg (Itb K a n) [it] it (fun i h=>h.IsRevIter it a ((n:Int)-1-(i:Int))) where
 mem:=by simp
 obj:=fun i h st b hb=>by
  have e:b=it:=by simpa using hb
  subst e
  obtain⟨o,e,c,d⟩:=st
  exact⟨o,e,fun v z=>by rw[d] at z;cases z⟩
 keep:=fun i h h' st k=>st.at fun o e=>k it (by simp) o e
 item:=by
  intro X hP hw hK hc i pins s σ H E I hf st hg
  subst hP hw hK
  obtain⟨hi,xs,x,hq,hx⟩:=hg
  obtain⟨its,rv,p,hz⟩:=I.list hq
  obtain⟨u,hu,ru⟩:=rv.get hx
  obtain⟨f0,f1,f2,f3,f4,f5⟩:=hf it (by simp)
  have e:(n:Int)-1-(i:Int)=((n-1-i:Nat):Int):=by omega
  have st1:=st
  rw[e] at st1
  refine wpAny_pyNext_rev_item st1 p.isList (x:=u) (by simpa using hu) fun h' st' sb=>?_
  have I1:Inv X pins σ H {s with heap:=h'}:=I.turned (t':=s.toks) (fun b o hb e=>(sb.2 b hb).trans e) f0 f1 f3 f4 f5
  obtain⟨o,e',c,d⟩:=id st'
  have e2:((n-1-i:Nat):Int)-1=(n:Int)-1-((i+1:Nat):Int):=by omega
  rw[e2] at st'
  exact⟨u,rfl,xc4 (s:={s with heap:=h'}) e' c d (by decide) ⟨x,H,I1,ru,⟨rfl,fun ys hy=>by rw[I.list_inj hy hq];exact hx⟩,st',fun b hb=>(hf b hb).1⟩⟩
 done:=by
  intro X hP hw hK hc i pins s σ H E I hf st hg
  subst hP hw hK
  have hg:i=n:=hg
  subst hg
  obtain⟨f0,f1,f2,f3,f4,f5⟩:=hf it (by simp)
  have e:(i:Int)-1-(i:Int)=-1:=by omega
  have st1:=st
  rw[e] at st1
  exact wpAny_pyNext_rev_end (I.ok.hd hc) st1 fun h' eb=>⟨rfl,I.turned (t':=s.toks) (fun b o hb e=>eb b o hb e) f0 f1 f3 f4 f5⟩
 self:=fun _ _ _ _ _ st h=>wpAny_pyIter_revIter st h
def xy0(K:Fg)(ta:TA):TI:=fun σ H R=>ta σ H fun vs H1=>∃ a xs,vs=[.ref a]/\SqL K H1 a xs/\R (Itb K a xs.length) H1
theorem xq9{tg:Expr}{l:Expr}{ta:TA}{p:Pos}(hg:Gl X "reversed")(hm:X.mg "reversed"=none)(ha:PA X [l] ta)(hs:autoParam (starEach [l] X.env=[(false,eval l X.env)]) zAr) :
 PI X tg (.Call (.Name "reversed" p) [l] [] pos) (xy0 X.K ta):=by
 intro pins s σ H R I h
 refine Call_ (qu5 I hg hm boot_reversed (PyProof.Rows.callWith_type1 (thn (ha pos pins s σ H _ I h) fun us s1 zq=>?_) hs rfl))
 obtain⟨vs,H1,I1,r1,q1⟩:=zq
 obtain⟨a,xs,e,hq,q⟩:=q1
 subst e
 obtain⟨v,rfl,rv⟩:=qr6 r1
 cases rv
 obtain⟨its,rv,p,hz⟩:=I1.list hq
 refine call_reversed_list p.isList ?_
 have e:((its.toArray.size:Nat):Int)-1=(xs.length:Int)-1-((0:Nat):Int):=by rw[rv.length];simp
 rw[e]
 have hit:Heap.IsRevIter (s1.heap.push (revObj a ((xs.length:Int)-1-((0:Nat):Int)))) s1.heap.objs.size a ((xs.length:Int)-1-((0:Nat):Int)):=⟨_,Heap.get?_push_size _ rfl,rfl,rfl⟩
 refine wpAny_pyIter_revIter hit ?_
 refine⟨s1.heap.objs.size,[s1.heap.objs.size],_,_,H1,rfl,I1.kept (t':=s1.toks) fun b o e=>Heap.get?_push_of_some _ e,ys3 a _ xs.length,hit,fun b hb=>?_,q⟩
 have e:b=s1.heap.objs.size:=by simpa using hb
 subst e
 exact I1.fpOk (Nat.le_refl _) (I1.hok.fresh (Nat.le_refl _))
section
variable{Q:VK}
theorem zj2{ta:TA}(h:ta σ H fun vs H1=>∃ a xs,vs=[.ref a]/\SqL K H1 a xs/\R (Itb K a xs.length) H1):xy0 K ta σ H R:=h
theorem xe1(hq:SqL K H a xs)(Pv:Nat->St->Hp->Prop)(h0:Pv 0 σ H)(hk:∀ i σ H',Pv i σ H'->SqL K H' a xs)(hs:∀ i x σ H,xs[xs.length-1-i]?=some x->i<xs.length->Pv i σ H->g x σ H fun σ2 H2=>tb {D with nx:=PAt Pv (i+1),ct:=PAt Pv (i+1),bk:=D.nx} σ2 H2)(hd:∀ σ H,Pv xs.length σ H->D.nx σ H) :
 ∃ b ys,[V.ref a]=[.ref b]/\SqL K H b ys/\wm1 g tb D σ (Itb K b ys.length) H:=by
 refine⟨a,xs,rfl,hq,fun i m σ H=>m=xs.length-i/\i<=xs.length/\Pv i σ H,⟨xs.length,by simp,Nat.zero_le _,h0⟩,?_⟩
 rintro i m σ H ⟨rfl,hi,p⟩
 have sq:=hk i σ H p
 by_cases hlt:i<xs.length
 ·refine .inr ⟨⟨hlt,xs,xs[xs.length-1-i],sq,List.getElem?_eq_getElem (by omega)⟩,Pv (i+1),fun σ' H' p'=>⟨xs.length-(i+1),by omega,rfl,hlt,p'⟩,fun x H' y=>?_⟩
  obtain⟨rfl,hz⟩:=y
  exact hs i x σ _ (hz xs sq) hlt p
 ·have e:i=xs.length:=by omega
  subst e
  exact .inl ⟨rfl,hd σ H p⟩
end
section
variable{t:TE}
def tFs(c1 c2:Str)(t:TE):TE:=fun σ H Q=>t σ H fun x H1=>∃ z,x=.str z/\z.length<=4096/\Q (.str (c1++z++c2)) H1
theorem zo1{c1 c2:Str}{p3:Pos}(he:PE X e t)(h1:autoParam (c1.length<=4096) zAd)(h2:autoParam (c2.length<=4096) zAd) :
 PE X (.JoinedStr [.Constant (.str c1) j1 p1,.FormattedValue e (-1) none p2,.Constant (.str c2) j2 p3] pos) (tFs c1 c2 t):=by
 intro pins s σ H Q I h
 have e0:Str.empty++c1=c1:=Str.empty_append c1
 have hs:sizeLine=16777216:=sizeLine_eq
 refine JoinedStr_many (joinParts_cons (Calls.Constant_str ?_))
 refine⟨by rw[e0,hs];omega,?_⟩
 rw[e0]
 refine joinParts_cons (FormattedValue_plain (thn (he pins _ σ H _ (I.tok _) h) fun u s1 zq=>?_))
 obtain⟨x,H1,I1,r1,z,e1,hz,q⟩:=zq
 subst e1
 obtain⟨tk,rfl⟩:=r1
 refine wpAny_with_toks (n:=1) I1.tk (formatField_str (fun t' tk'=>?_) (by rw[hs];omega))
 intro htk
 refine⟨by rw[strLen_append,hs];omega,?_⟩
 refine joinParts_consE (joinParts_cons (Calls.Constant_str ?_))
 refine⟨by rw[strLen_append,strLen_append,hs];omega,joinParts_nilE (joinParts_nil ?_ (by rw[strLen_append,strLen_append,hs];omega))⟩
 exact⟨.str (c1++z++c2),H1,I1.tok _,⟨_,rfl⟩,q⟩
end
theorem xn4:Manifest.owners.lookup (String.ofList ['d','e','s','r','e','v','e','r'].reverse)=some Manifest.sig_reversed:=by kernel_rfl
theorem qb6:Slot "reversed" "__next__" "reversed.__next__" :=
 .of (owner := "reversed") (n := "__next__") (by rw[typeLookup_type,builtinLookup_eq_fast];kernel_rfl) (by decide +kernel) (by decide +kernel) (by decide +kernel)
  (by first|exact .inl (by decide +kernel)|exact .inr (by decide +kernel)) (by rw[isSubtype_type];kernel_rfl)
theorem we7:entryFor table "reversed.__next__"=some Builtin.«reversed.__next__»:=entryFor_of_tree (by kernel_rfl)
theorem wb1(a:Value):argsOk "reversed.__next__" ⟨[a],[]⟩:=by
 unfold argsOk;rw[signature?_of (id := "reversed.__next__") (n:=['_','_','t','x','e','n','_','_']) (o:=['d','e','s','r','e','v','e','r']) (by kernel_rfl) xn4];kernel_rfl
theorem wk2:Slot "reversed" "__iter__" "reversed.__iter__" :=
 .of (owner := "reversed") (n := "__iter__") (by rw[typeLookup_type,builtinLookup_eq_fast];kernel_rfl) (by decide +kernel) (by decide +kernel) (by decide +kernel)
  (by first|exact .inl (by decide +kernel)|exact .inr (by decide +kernel)) (by rw[isSubtype_type];kernel_rfl)
theorem wz8(a:Value):argsOk "reversed.__iter__" ⟨[a],[]⟩:=by
 unfold argsOk;rw[signature?_of (id := "reversed.__iter__") (n:=['_','_','r','e','t','i','_','_']) (o:=['d','e','s','r','e','v','e','r']) (by kernel_rfl) xn4];kernel_rfl
theorem xe2:entryFor table "reversed.__iter__"=some Builtin.«dict_keyiterator.__iter__» :=
 entryFor_alias (id' := "dict_keyiterator.__iter__") (by kernel_rfl) (by first | rfl | decide +kernel | (unfold String.splitOn; simp +decide [String.splitOnAux])) (by decide +kernel) (by kernel_rfl)
theorem xj3:Slot "reversed" "__init__" "object.__init__" :=
 .of (owner := "object") (n := "__init__") (by rw[typeLookup_type,builtinLookup_eq_fast];kernel_rfl) (by decide +kernel) (by decide +kernel) (by decide +kernel)
  (by first|exact .inl (by decide +kernel)|exact .inr (by decide +kernel)) (by rw[isSubtype_type];kernel_rfl)
theorem wz9:TypeCalled "reversed" "reversed.__new__" "object.__init__" :=
 ⟨by decide +kernel,by decide +kernel,⟨_,_,F.mro_reversed⟩,F.made_reversed,by decide +kernel,by rw[isSubtype_type];kernel_rfl,xj3⟩
theorem xa0:typeLookup (.type "tuple") "__reversed__"=pure none:=by rw[typeLookup_type,builtinLookup_eq_fast];kernel_rfl
theorem we8:typeLookup (.type "tuple") "__getitem__"=pure (some (.builtin "tuple.__getitem__")):=by rw[typeLookup_type,builtinLookup_eq_fast];kernel_rfl
def yg6(l:Addr)(i:Int):Obj:={cls:=.type "reversed",data:=.fields #[.ref l,rawInt i]}
def we9(h:Heap)(a l:Addr)(i:Int):Prop:=∃ o,h.get? a=some o/\o.cls=.type "reversed"/\o.data=.fields #[.ref l,rawInt i]
theorem we9.typeIs(x:we9 s.heap a l i):s.TypeIs (.ref a) "reversed":=let ⟨o,ho,hc,_⟩:=x;⟨o,ho,hc⟩
theorem we9.at(x:we9 h a l i)(e:∀ o,h.get? a=some o->h'.get? a=some o):we9 h' a l i:=let ⟨o,ho,r⟩:=x;⟨o,e _ ho,r⟩
theorem wj2(l:Addr)(items:Array Value)(hz:(items.size:Int)<2 ^ 63) :
 Meets (Builtin.«reversed.__new__» ⟨[.type "reversed",.ref l],[]⟩) (fun _ R s=>IsTup s.heap l items /\
  R (.ok (.ret (.ref s.heap.objs.size))) {s with heap:=s.heap.push (yg6 l ((items.size:Int)-1)),toks:=s.toks+1+1}) :=
 .of_wp fun prog w A R s h=>by
  obtain⟨ht,h⟩:=h
  unfold Builtin.«reversed.__new__»
  refine wpAny_bind (wpAny_of_eq (newClass_reversed _) ?_)
  try dsimp only
  refine wpAny_bind (wpAny_of_eq (a:=()) (by first|rfl|kernel_rfl) ?_)
  refine wpAny_bind (wpAny_of_eq (a:=()) (by first|rfl|kernel_rfl) ?_)
  try dsimp only
  refine wpAny_bind (wpAny_specialOf ht.typeIs xa0 ?_)
  try dsimp only
  refine wpAny_bind ?_
  show wpAny _ _ (isInstance (.ref l) (.type "dict") >>= _) _ _ _
  refine wpAny_bind (wpAny_isInstance ht.typeIs sub_tuple_dict ?_)
  try dsimp only
  rw[if_neg (by decide)]
  refine wpAny_bind (wpAny_specialOf ht.typeIs we8 ?_)
  try dsimp only
  rw[if_pos (by decide)]
  refine wpAny_pure ?_
  try dsimp only
  rw[if_neg (by decide)]
  refine wpAny_bind (len_tuple ht hz ?_)
  refine wpAny_bind (m:=asInt? _) (wpAny_of_eq (a:=some (items.size:Int)) rfl ?_)
  try dsimp only
  refine wpAny_bind ?_
  show wpAny _ _ (newObj (.type "reversed") (.fields #[.ref l,rawInt ((items.size:Int)-1)]) none) _ _ _
  refine wpAny_newObj_type ?_ (by size_fits)
  exact wpAny_pure ⟨_,rfl,h⟩
theorem wp7(hl:IsTup s.heap l items)(hz:(items.size:Int)<2 ^ 63)(h:Q (.ref s.heap.objs.size) {s with heap:=s.heap.push (yg6 l ((items.size:Int)-1)),toks:=s.toks+1+1}):wpAny (model prog w) A (call (.type "reversed") [.ref l]) Q E s :=
 callType_new wz9 (by decide) (F.typeCall_reversed_1 _) (F.newCall_reversed_1 _) (fun obj=>F.args_object_init_2 obj _) F.entry_reversed_new (wj2 l items hz)
  ⟨hl,⟨_,Heap.get?_push_size _ rfl,rfl⟩,h⟩
theorem xa1{i:Nat}{x:Value}{Q:Option Value->Shared->Prop}(hit:we9 s.heap it l (i:Int))(hl:IsTup s.heap l items)(hi:(i:Int)<2 ^ 63)(hx:items[i]?=some x)(hQ:∀ h' tk,we9 h' it l ((i:Int)-1)->Heap.SameBut it s.heap h'->Q (some x) {s with heap:=h',toks:=tk}):wpAny (model prog w) A (pyNext (.ref it)) Q E s:=by
 obtain⟨o,ho,hc,hd⟩:=id hit
 unfold pyNext
 refine wpAny_bind (wpAny_attempt (wpAny_callSpecial?_slot (name:=Str.ofString "__next__") hit.typeIs qb6
  (wpAny_call_entry qb6 hit.typeIs we7 ?_ (wb1 _))))
 unfold Builtin.«reversed.__next__»
 refine wpAny_bind (wpAny_of_eq (a:=(Value.ref it,[])) rfl ?_)
 try dsimp only
 refine wpAny_bind (wpAny_field ho hd (x:=.ref l) rfl ?_)
 refine wpAny_bind (wpAny_field ho hd (x:=rawInt (i:Int)) rfl ?_)
 show wpAny _ _ (if(i:Int)<0 then _ else _) _ _ s
 rw[if_neg (by omega)]
 refine wpAny_bind (wpAny_specialOf hl.typeIs we8 ?_)
 try dsimp only
 rw[if_neg (by decide)]
 have hil:i<items.size:=(Array.getElem?_eq_some_iff.mp hx).1
 refine wpAny_bind (wpAny_mkInt ?_)
 refine wpAny_bind (wpAny_attempt (getItem_tuple (j:=i) hl (by omega) hi (by unfold seqIndex?;simp;omega) hx ?_))
 try dsimp only
 refine wpAny_bind (wpAny_field (s:={s with toks:=s.toks+1}) ho hd (x:=rawInt (i:Int)) rfl ?_)
 show wpAny _ _ (setField (.ref it) 1 (rawInt ((i:Int)-1)) >>= _) _ _ _
 refine wpAny_bind (wpAny_setField (s:={s with toks:=s.toks+1}) ho hd (by simp) ?_)
 refine wpAny_pure ⟨x,rfl,wpAny_pure (hQ _ _ ?_ (Heap.SameBut.update ..))⟩
 exact⟨_,Heap.get?_update_self _ ho (Obj.isFreed_of_fields (Obj.data_mapFields hd _)),(Obj.cls_mapFields ..).trans hc,by
  rw[Obj.data_mapFields hd];simp⟩
theorem xe3{Q:Option Value->Shared->Prop}(hh:A.handled=none)(hit:we9 s.heap it l (-1))(hQ:∀ h',Heap.ExtBut it s.heap h'->Q none {s with heap:=h'}):wpAny (model prog w) A (pyNext (.ref it)) Q E s:=by
 obtain⟨o,ho,hc,hd⟩:=id hit
 unfold pyNext
 refine wpAny_bind (wpAny_attempt (wpAny_callSpecial?_slot (name:=Str.ofString "__next__") hit.typeIs qb6
  (wpAny_call_entry qb6 hit.typeIs we7 ?_ (wb1 _))))
 unfold Builtin.«reversed.__next__»
 refine wpAny_bind (wpAny_of_eq (a:=(Value.ref it,[])) rfl ?_)
 try dsimp only
 refine wpAny_bind (wpAny_field ho hd (x:=.ref l) rfl ?_)
 refine wpAny_bind (wpAny_field ho hd (x:=rawInt (-1)) rfl ?_)
 show wpAny _ _ (if(-1:Int)<0 then _ else _) _ _ s
 rw[if_pos (by decide)]
 refine wpAny_bind (wpAny_rule ?_)
 refine wpAny_bind ?_
 show wpAny _ _ (setField (.ref it) 1 (rawInt (-1)) >>= _) _ _ _
 refine wpAny_bind (wpAny_setField ho hd (by simp) ?_)
 have h1:=Heap.get?_update_self (Obj.mapFields (·.setIfInBounds 1 (rawInt (-1)))) ho (Obj.isFreed_of_fields (Obj.data_mapFields hd _))
 have d1:=Obj.data_mapFields hd (·.setIfInBounds 1 (rawInt (-1)))
 refine wpAny_setField (s:={s with heap:=_}) h1 d1 (by simp) ?_
 have eb:Heap.ExtBut it s.heap ((s.heap.update it (Obj.mapFields (·.setIfInBounds 1 (rawInt (-1))))).update it (Obj.mapFields (·.setIfInBounds 0 Value.none))):=by
  intro b u hb e
  exact((Heap.SameBut.update _ _ _).2 b hb).trans (((Heap.SameBut.update _ _ _).2 b hb).trans e)
 first
 | show wpAny _ _ (newExc (.type "StopIteration") [] >>= _) _ _ _
 | (refine wpAny_bind ?_;show wpAny _ _ (newExc (.type "StopIteration") [] >>= _) _ _ _)
 refine wpAny_bind ?_
 simp only[newExc,newTuple]
 refine wpAny_bind (wpAny_newObj_type ?_ (by size_fits))
 refine wpAny_bind (m:=firstArgMember _ _) (wpAny_of_eq (a:=Value.none) (by first|rfl|(simp only[firstArgMember];rfl)) ?_)
 refine wpAny_newObj_type ?_ (by size_fits)
 simp only[raiseNew]
 refine wpAny_bind (wpAny_handled ?_)
 first|rw[show A.in1.handled=none from hh]|rw[hh]
 refine wpAny_bind (wpAny_pure (wpAny_throw ?_))
 refine wpAny_bind (wpAny_isInstance (T := "StopIteration") (b:=true) ⟨_,Heap.get?_push_size _ rfl,rfl⟩ isSubtype_stop ?_)
 exact wpAny_pure (hQ _ ((eb.push _).push _))
theorem xe4(hit:we9 s.heap it l i)(h:Q (.ref it) s):wpAny (model prog w) A (pyIter (.ref it)) Q E s:=by
 refine wpAny_pyIter_slot hit.typeIs wk2 (wpAny_call_entry wk2 hit.typeIs xe2 ?_ (wz8 _))
 show wpAny _ _ (ret (.ref it)) _ _ s
 exact wpAny_pure ⟨_,rfl, "reversed",_,hit.typeIs,qb6.lookup,h⟩
def zj3(K:Fg)(a:Addr)(n:Nat):It :=
 ⟨fun i H=>i<n/\∃ xs x,SqT K H a xs/\xs[n-1-i]?=some x,fun i H x H'=>H'=H/\∀ xs,SqT K H a xs->xs[n-1-i]?=some x,fun i _=>i=n⟩
theorem ys4{tg:Expr}(a it:Addr)(n:Nat):wz6 P w K tg (zj3 K a n) [it] it (fun i h=>we9 h it a ((n:Int)-1-(i:Int))) where
 mem:=by simp
 obj:=fun i h st b hb=>by
  have e:b=it:=by simpa using hb
  subst e
  obtain⟨o,e,c,d⟩:=st
  exact⟨o,e,fun v z=>by rw[d] at z;cases z⟩
 keep:=fun i h h' st k=>st.at fun o e=>k it (by simp) o e
 item:=by
  intro X hP hw hK hc i pins s σ H E I hf st hg
  subst hP hw hK
  obtain⟨hi,xs,x,hq,hx⟩:=hg
  obtain⟨its,rv,p,hz⟩:=I.tuple hq
  obtain⟨u,hu,ru⟩:=rv.get hx
  obtain⟨f0,f1,f2,f3,f4,f5⟩:=hf it (by simp)
  have e:(n:Int)-1-(i:Int)=((n-1-i:Nat):Int):=by omega
  have st1:=st
  rw[e] at st1
  have hlt:=(List.getElem?_eq_some_iff.mp hx).1
  have hs:sizeLine=16777216:=sizeLine_eq
  refine wpAny_with_toks (n:=1) I.tk (xa1 st1 p (by omega) (x:=u) (by simpa using hu) fun h' tk st' sb=>?_)
  intro htk
  have I1:Inv X pins σ H {s with heap:=h',toks:=tk}:=I.turned (t':=tk) (fun b o hb e=>(sb.2 b hb).trans e) f0 f1 f3 f4 f5
  obtain⟨o,e',c,d⟩:=id st'
  have e2:((n-1-i:Nat):Int)-1=(n:Int)-1-((i+1:Nat):Int):=by omega
  rw[e2] at st'
  exact⟨u,rfl,xc4 (s:={s with heap:=h',toks:=tk}) e' c d (by decide) ⟨x,H,I1,ru,⟨rfl,fun ys hy=>by rw[I.tuple_inj hy hq];exact hx⟩,st',fun b hb=>(hf b hb).1⟩⟩
 done:=by
  intro X hP hw hK hc i pins s σ H E I hf st hg
  subst hP hw hK
  have hg:i=n:=hg
  subst hg
  obtain⟨f0,f1,f2,f3,f4,f5⟩:=hf it (by simp)
  have e:(i:Int)-1-(i:Int)=-1:=by omega
  have st1:=st
  rw[e] at st1
  exact xe3 (I.ok.hd hc) st1 fun h' eb=>⟨rfl,I.turned (t':=s.toks) (fun b o hb e=>eb b o hb e) f0 f1 f3 f4 f5⟩
 self:=fun _ _ _ _ _ st h=>xe4 st h
def yz7(K:Fg)(ta:TA):TI:=fun σ H R=>ta σ H fun vs H1=>∃ a xs,vs=[.ref a]/\SqT K H1 a xs/\R (zj3 K a xs.length) H1
theorem zj4{tg:Expr}{l:Expr}{ta:TA}{p:Pos}(hg:Gl X "reversed")(hm:X.mg "reversed"=none)(ha:PA X [l] ta)(hs:autoParam (starEach [l] X.env=[(false,eval l X.env)]) zAr) :
 PI X tg (.Call (.Name "reversed" p) [l] [] pos) (yz7 X.K ta):=by
 intro pins s σ H R I h
 refine Call_ (qu5 I hg hm boot_reversed (PyProof.Rows.callWith_type1 (thn (ha pos pins s σ H _ I h) fun us s1 zq=>?_) hs rfl))
 obtain⟨vs,H1,I1,r1,q1⟩:=zq
 obtain⟨a,xs,e,hq,q⟩:=q1
 subst e
 obtain⟨v,rfl,rv⟩:=qr6 r1
 cases rv
 obtain⟨its,rv,p,hz⟩:=I1.tuple hq
 have hsz:sizeLine=16777216:=sizeLine_eq
 have hlen:=rv.length
 refine wp7 p (by simp only[List.size_toArray];omega) ?_
 have e:((its.toArray.size:Nat):Int)-1=(xs.length:Int)-1-((0:Nat):Int):=by rw[rv.length];simp
 rw[e]
 have hit:we9 (s1.heap.push (yg6 a ((xs.length:Int)-1-((0:Nat):Int)))) s1.heap.objs.size a ((xs.length:Int)-1-((0:Nat):Int)):=⟨_,Heap.get?_push_size _ rfl,rfl,rfl⟩
 refine xe4 hit ?_
 refine⟨s1.heap.objs.size,[s1.heap.objs.size],_,_,H1,rfl,I1.kept (t':=s1.toks+1+1) fun b o e=>Heap.get?_push_of_some _ e,ys4 a _ xs.length,hit,fun b hb=>?_,q⟩
 have e:b=s1.heap.objs.size:=by simpa using hb
 subst e
 exact I1.fpOk (Nat.le_refl _) (I1.hok.fresh (Nat.le_refl _))
section
variable{Q:VK}
theorem zj5{ta:TA}(h:ta σ H fun vs H1=>∃ a xs,vs=[.ref a]/\SqT K H1 a xs/\R (zj3 K a xs.length) H1):yz7 K ta σ H R:=h
end
section
variable{Q:VK}
theorem yz8(hq:SqT K H a xs)(Pv:Nat->St->Hp->Prop)(h0:Pv 0 σ H)(hk:∀ i σ H',Pv i σ H'->SqT K H' a xs)(hs:∀ i x σ H,xs[xs.length-1-i]?=some x->i<xs.length->Pv i σ H->g x σ H fun σ2 H2=>tb {D with nx:=PAt Pv (i+1),ct:=PAt Pv (i+1),bk:=D.nx} σ2 H2)(hd:∀ σ H,Pv xs.length σ H->D.nx σ H) :
 ∃ b ys,[V.ref a]=[.ref b]/\SqT K H b ys/\wm1 g tb D σ (zj3 K b ys.length) H:=by
 refine⟨a,xs,rfl,hq,fun i m σ H=>m=xs.length-i/\i<=xs.length/\Pv i σ H,⟨xs.length,by simp,Nat.zero_le _,h0⟩,?_⟩
 rintro i m σ H ⟨rfl,hi,p⟩
 have sq:=hk i σ H p
 by_cases hlt:i<xs.length
 ·refine .inr ⟨⟨hlt,xs,xs[xs.length-1-i],sq,List.getElem?_eq_getElem (by omega)⟩,Pv (i+1),fun σ' H' p'=>⟨xs.length-(i+1),by omega,rfl,hlt,p'⟩,fun x H' y=>?_⟩
  obtain⟨rfl,hz⟩:=y
  exact hs i x σ _ (hz xs sq) hlt p
 ·have e:i=xs.length:=by omega
  subst e
  exact .inl ⟨rfl,hd σ H p⟩
end
def ym1:V->List V->Hp->VK->Prop:=fun x xs H Q=>∃ z c:Str,x=.str z/\xs=[.str c]/\z.length<=1000000/\Q (.str (PySem.Txt.stripChars z c)) H
theorem ys5:MtR X "str.strip" ym1:=by
 intro pins s σ H x vs v us Q I rx rv h
 obtain⟨z,c,rfl,rfl,hz,q⟩:=h
 obtain⟨t,rfl⟩:=rx
 obtain⟨u,rfl,ru⟩:=rv.one
 obtain⟨t',rfl⟩:=ru
 refine wpAny_with_toks (n:=1) I.tk (call_gives F.slot_str_strip (typeIs_str _ _ _) F.entry_str_strip (F.args_str_strip_2 _ _) (gives_str_strip_chars z c t t') (post_val_or_made (fun _=>fits_stripped _ _ _ (by rw[sizeLine_eq];omega)) fun t2 k=>?_))
 intro hk
 exact⟨.str (PySem.Txt.stripChars z c),H,I.tok _ hk,⟨_,rfl⟩,q⟩
section
variable{Q:VK}{f:Str}{E:XK}
theorem G9(h:ta σ H fun x H1=>∃ a C dx fs v,x=.ref a/\H1 a=some (.ins C dx fs)/\Cls K C/\wd8 K C f/\fs.lookup f=some v/\Q v H1):S4 K ta f σ H Q:=h
theorem qj5(h:tv σ H fun y H1=>ta σ H1 fun x H2=>∃ a C dx fs,x=.ref a/\H2 a=some (.ins C dx fs)/\Cls K C/\wd8 K C f/\fs.length<1000/\D.nx σ (upd H2 a (.ins C dx (qk2 f y fs)))):wd9 K ta tv f D σ H:=h
theorem E7(h:ta σ H fun x H1=>∃ a dx fs,x=.ref a/\H1 a=some (.ins C dx fs)/\fs.lookup m=none/\t σ H1 fun vs H2=>sp (x::(vs++dvs)) H2 Q E):N3 C m sp dvs E ta t σ H Q:=h
theorem xr0(h:t σ H fun vs H1=>∀ x dx,H1 x=none->H1 dx=none->dx≠x->sp (.ref x::(vs++dvs)) (upd (upd H1 dx (.own x)) x (.ins C dx [])) (fun v H2=>v=.non/\Q (.ref x) H2) E):xw2 C sp dvs E t σ H Q:=h
end
end L2
local macro_rules | `(tactic| lk) => do
 let a <- ("qb1 qr0 qk3 zr6 E5 zr7 yx6 zy6 zr8 zh5 zh6 wy7 zr9 yl4 Ac3 zn2 yf7 zy7 zs0 zh7 zh8 zs1 zh9 zs2 zs3 zi0 zy8 zy9 yx7 yl3 zs4 zz0 yx9 yx4 zh4 yx8 zi1 zi2 zz9 zi6 yr6 zs9 zi7 yy7 zi8 zt0 zj1 yz4 zj2 xd8 zs5 zz1 zz2 zz3 zn3 zn6 yl9 yy8 Ac4 zi3".splitOn " ").toArray.mapM fun n => `(Lean.Parser.Tactic.tacticSeq| refine $(Lean.mkIdent (.str `L2 n)) ?_)
 `(tactic| (repeat (first | (with_reducible first $[| $a]*) | ((with_reducible refine' L2.xq6 ?ev ?_); (case ev => exact rfl)) | ((with_reducible refine L2.yl5 ?ec ?_); (case ec => first | decide | omega | assumption)) | ((with_reducible refine L2.zs6 ?ec ?_); (case ec => first | exact ⟨by decide, by decide⟩ | exact ⟨by omega, by omega⟩)))))
local macro_rules | `(tactic| x_go) => `(tactic| refine L2.qr0 ?_)
local macro_rules | `(tactic| k_go) => `(tactic| refine L2.qk3 ?_)
namespace My
open PySem L2
variable{H H':Hp}{K:Fg}{Q:VK}{v:V}{x y:Str}{α:Type}{E:XK}{vs:List V}
section
open PyProof.Rows
set_option genInjectivity false in
structure Row where
 name:Str
 sort:Str
 host:Str
 shuts:List Str
 bars:List Str
def Row.da(r:Row):PyData:=.tuple [.str r.name,.str r.sort,.str r.host,.tuple (sDa r.shuts),.tuple (sDa r.bars)]
def oV:Option Str->V
 | some s=>.str s
 | none=>.non
theorem qw2{r:Row}(h:Dv K H r.da v):∃ b sv bv,v=.ref b/\SqT K H b [.str r.name,.str r.sort,.str r.host,sv,bv]/\Dv K H (.tuple (sDa r.shuts)) sv/\Dv K H (.tuple (sDa r.bars)) bv:=by
 obtain⟨b,ys,rfl,hb,h⟩:=D7.mp h
 rw[Dvs] at h;obtain⟨v1,r1,rfl,e1,h⟩:=h
 rw[Dvs] at h;obtain⟨v2,r2,rfl,e2,h⟩:=h
 rw[Dvs] at h;obtain⟨v3,r3,rfl,e3,h⟩:=h
 rw[Dvs] at h;obtain⟨v4,r4,rfl,e4,h⟩:=h
 rw[Dvs] at h;obtain⟨v5,r5,rfl,e5,h⟩:=h
 rw[Dvs] at h;subst h
 rw[E6.mp e1,E6.mp e2,E6.mp e3] at hb
 exact⟨b,v4,v5,rfl,hb,e4,e5⟩
def Rws(K:Fg)(H:Hp)(v:V)(rs:List Row):Prop:=∃ a vs,v=.ref a/\(SqL K H a vs\/SqT K H a vs)/\Dvs K H (rs.map Row.da) vs
theorem zo2 {n:Option Str} (h:Q (.bl (decide (some x=n))) H):X3 K (.str x) (oV n) H Q:=by
 cases n with
 | none => refine xx0 rfl ?_;have e:(decide ((V.str x)=oV none))=decide (some x=none):=by simp[oV]
           rw[e];exact h
 | some y => refine xx0 rfl ?_;have e:(decide ((V.str x)=oV (some y)))=decide (some x=some y):=by simp[oV]
             rw[e];exact h
theorem yl9(h:Q (.bl (decide (x=y))) H):X3 K (.str x) (.str y) H Q:=by
 refine xx0 rfl ?_
 have e:(decide ((V.str x)=V.str y))=decide (x=y):=by simp
 rw[e];exact h
theorem yy8(h:Q (.bl (!decide (x=y))) H):xq4 K (.str x) (.str y) H Q:=by
 refine zz4 rfl ?_
 have e:(decide ((V.str x)=V.str y))=decide (x=y):=by simp
 rw[e];exact h
theorem zn6{x y:Int}(h:Q (.bl (decide (x=y))) H):X3 K (.int x) (.int y) H Q:=by
 refine xx0 rfl ?_
 have e:(decide ((V.int x)=V.int y))=decide (x=y):=by simp
 rw[e];exact h
def Z0(rs:List Row)(n:Option Str):Option Row:=rs.find? fun r=>decide (some r.name=n)
def J0(rs:List Row)(n:Option Str):Option Str:=(Z0 rs n).map (·.sort)
def Q4(rs:List Row)(n:Option Str):Option Str:=(Z0 rs n).bind fun r=>if r.sort=("frame":Str) then some r.host else none
def L3(rs:List Row)(n:Option Str):Option Str:=(rs.find? fun r=>decide (r.sort=("frame":Str)) && decide (some r.host=n)).map (·.name)
def qd7(K:Fg):Sp:=fun vs H Q _=>∃ v n rs,vs=[v,oV n]/\Rws K H v rs/\(Z0 rs n=none->Q .non H)/\∀ r u,Z0 rs n=some r->Dv K H r.da u->Q u H
theorem yg7(K:Fg):∀ vs H Q E,qd7 K vs H Q E->vs.length=["rows","name"].length:=by
 rintro vs H Q E ⟨v,n,rs,rfl,_⟩;rfl
def wp8(K:Fg):TS :=
 (C1 (qm8 (wj0 K (A3 0)) (B1 2)
 (S3 (G0 (tOp (X3 K) (tOp (L1 K) (A3 2) (tC (.int 0))) (A3 1)))
 (L6 (A3 2)) O8))
 (L6 (tC .non)))
theorem qp0{α:Type}{p:α->Bool}:∀ {l:List α} {i:Nat} {x:α},l[i]?=some x->(∀ y∈l.take i,p y=false)->p x=true->l.find? p=some x
 | y::l,0,x,e,_,hp=>by cases e;rw[List.find?_cons,hp]
 | y::l,i+1,x,e,h,hp=>by
   have hy:p y=false:=h y (by simp)
   rw[List.find?_cons,hy]
   exact qp0 (i:=i) (by simpa using e) (fun z hz=>h z (by simp[hz])) hp
theorem xe5{P:α->Prop}{l:List α}{i:Nat}{x:α}(e:l[i]?=some x)(h:∀ y∈l.take i,P y)(hx:P x):∀ y∈l.take (i+1),P y:=by
 intro y hy
 rw[List.take_add_one,e] at hy
 rcases List.mem_append.mp hy with z|z
 ·exact h y z
 ·have:y=x:=by simpa using z
  subst this;exact hx
theorem ys6(h:qd7 K vs H Q E):wp8 K {nx:=fun _ H'=>Q .non H',rt:=Q} (D8 ["rows","name","row"] vs) H:=by
 obtain⟨v,n,rs,rfl,⟨a,xs,rfl,hq,hd⟩,h1,h2⟩:=h
 show wp8 K _ [some (.ref a),some (oV n),none] H
 have hlen:xs.length=rs.length:=by have:=hd.length;simpa using this
 unfold wp8
 refine qb1 (yx4 (yx8 (xq6 rfl ?_)))
 refine yl2 hq (fun i σ H'=>H'=H/\(∃ w,σ=[some (.ref a),some (oV n),w])/\∀ r∈rs.take i,decide (some r.name=n)=false) ⟨rfl,⟨_,rfl⟩,by simp⟩ (fun hl i σ H' _ p=>p.1▸hl) (fun ht i σ H' _ p=>p.1▸ht) ?_ ?_
 ·rintro i x σ H' hx ⟨rfl,⟨w,rfl⟩,hn⟩
  obtain⟨d,hd1,hd2⟩:=hd.get' hx
  rw[List.getElem?_map] at hd1
  obtain⟨r,hr,rfl⟩:=Option.map_eq_some_iff.mp hd1
  obtain⟨b,sv,bv,rfl,hb,hsv,hbv⟩:=qw2 hd2
  refine E5 (wy7 (yl4 (yx6 (yx6 (xq6 rfl (zr7 (U5 hb rfl (xq6 rfl (zo2 ⟨_,rfl,?_⟩)))))))))
  by_cases e:some r.name=n
  ·rw[decide_eq_true e,if_pos rfl]
   refine⟨_,rfl,?_⟩
   exact h2 r _ (qp0 hr hn (decide_eq_true e)) hd2
  ·rw[decide_eq_false e,if_neg Bool.false_ne_true]
   exact yl3 ⟨rfl,⟨_,rfl⟩,xe5 hr hn (decide_eq_false e)⟩
 ·rintro σ H' ⟨rfl,⟨w,rfl⟩,hn⟩
  show Q .non H'
  refine h1 ?_
  unfold Z0
  rw[List.find?_eq_none]
  intro r hr
  rw[hlen,List.take_length] at hn
  simp[hn r hr]
end
variable{rk:Str->Nat}{rs:List Row}{k:Nat}
section
open PyProof.Rows
def X4(K:Fg):Sp:=fun vs H Q _=>∃ v n rs,vs=[v,oV n]/\Rws K H v rs/\Q (oV (J0 rs n)) H
def wt8(K:Fg):TS :=
 (C1 (E1 (D3 (qd7 K) [] E0 (A1 (A3 0) (A1 (A3 1) A8))) (B1 2))
 (L6 (tIf (G0 (tOp xw7 (A3 2) (tC .non))) (tC .non) (tOp (L1 K) (A3 2) (tC (.int 1))))))
theorem yg8(h:X4 K vs H Q E):wt8 K {nx:=fun _ H'=>Q .non H',rt:=Q} (D8 ["book","name","row"] vs) H:=by
 obtain⟨v,n,rs,rfl,hR,q⟩:=h
 show wt8 K _ [some v,some (oV n),none] H
 refine⟨_,rfl,_,rfl,v,n,rs,rfl,hR,fun e=>?_,fun r u e hu=>?_⟩
 ·refine⟨_,rfl,rfl,_,rfl,?_⟩
  show Q .non H
  have:J0 rs n=none:=by unfold J0;rw[e];rfl
  rw[this] at q;exact q
 ·obtain⟨b,sv,bv,rfl,hb,_,_⟩:=qw2 hu
  refine⟨_,rfl,rfl,_,rfl,?_⟩
  show(if decide (V.ref b=V.non)=true then _ else _)
  rw[decide_eq_false (by simp)];refine qk3 ?_
  refine⟨_,rfl,U5 hb rfl ?_⟩
  have:J0 rs n=some r.sort:=by unfold J0;rw[e];rfl
  rw[this] at q;exact q
def qp1(K:Fg):Sp:=fun vs H Q _=>∃ v n rs,vs=[v,oV n]/\Rws K H v rs/\Q (oV (Q4 rs n)) H
def wt9(K:Fg):TS :=
 (C1 (E1 (D3 (qd7 K) [] E0 (A1 (A3 0) (A1 (A3 1) A8))) (B1 2))
 (C1 (S3 (tOr (G0 (tOp xw7 (A3 2) (tC .non))) (G0 (tOp (xq4 K) (tOp (L1 K) (A3 2) (tC (.int 1))) (tC (.str "frame")))))
 (L6 (tC .non)) O8)
 (L6 (tOp (L1 K) (A3 2) (tC (.int 2))))))
theorem yg9(h:qp1 K vs H Q E):wt9 K {nx:=fun _ H'=>Q .non H',rt:=Q} (D8 ["book","name","row"] vs) H:=by
 obtain⟨v,n,rs,rfl,hR,q⟩:=h
 show wt9 K _ [some v,some (oV n),none] H
 refine⟨_,rfl,_,rfl,v,n,rs,rfl,hR,fun e=>?_,fun r u e hu=>?_⟩
 ·refine⟨_,rfl,rfl,_,rfl,?_⟩
  show Q .non H
  have:Q4 rs n=none:=by unfold Q4;rw[e];rfl
  rw[this] at q;exact q
 ·obtain⟨b,sv,bv,rfl,hb,_,_⟩:=qw2 hu
  refine⟨_,rfl,rfl,_,rfl,?_⟩
  show(if decide (V.ref b=V.non)=true then _ else _)
  rw[decide_eq_false (by simp)];refine qk3 ?_
  refine⟨_,rfl,U5 hb rfl (yy8 ⟨_,rfl,?_⟩)⟩
  by_cases hs:r.sort=("frame":Str)
  ·rw[decide_eq_true hs,Bool.not_true];refine qk3 ?_
   refine⟨_,rfl,U5 hb rfl ?_⟩
   have:Q4 rs n=some r.host:=by unfold Q4;rw[e];show(if r.sort=("frame":Str) then some r.host else none)=_;rw[if_pos hs]
   rw[this] at q;exact q
  ·rw[decide_eq_false hs,Bool.not_false];refine qr0 ?_
   show Q .non H
   have:Q4 rs n=none:=by unfold Q4;rw[e];show(if r.sort=("frame":Str) then some r.host else none)=_;rw[if_neg hs]
   rw[this] at q;exact q
def qd8(K:Fg):Sp:=fun vs H Q _=>∃ v n rs,vs=[v,oV n]/\Rws K H v rs/\Q (oV (L3 rs n)) H
def wm4(K:Fg):TS :=
 (C1 (qm8 (wj0 K (A3 0)) (B1 2)
 (S3 (xp0 (G0 (tOp (X3 K) (tOp (L1 K) (A3 2) (tC (.int 1))) (tC (.str "frame")))) (G0 (tOp (X3 K) (tOp (L1 K) (A3 2) (tC (.int 2))) (A3 1))))
 (L6 (tOp (L1 K) (A3 2) (tC (.int 0)))) O8))
 (L6 (tC .non)))
theorem xy3(h:qd8 K vs H Q E):wm4 K {nx:=fun _ H'=>Q .non H',rt:=Q} (D8 ["book","name","row"] vs) H:=by
 obtain⟨v,n,rs,rfl,⟨a,xs,rfl,hq,hd⟩,q⟩:=h
 show wm4 K _ [some (.ref a),some (oV n),none] H
 have hlen:xs.length=rs.length:=by have:=hd.length;simpa using this
 refine⟨_,rfl,yl2 hq (fun i σ H'=>H'=H/\(∃ w,σ=[some (.ref a),some (oV n),w])/\∀ r∈rs.take i,(decide (r.sort=("frame":Str)) && decide (some r.host=n))=false) ⟨rfl,⟨_,rfl⟩,by simp⟩ (fun hl i σ H' _ p=>p.1▸hl) (fun ht i σ H' _ p=>p.1▸ht) ?_ ?_⟩
 ·rintro i x σ H' hx ⟨rfl,⟨w,rfl⟩,hn⟩
  obtain⟨d,hd1,hd2⟩:=hd.get' hx
  rw[List.getElem?_map] at hd1
  obtain⟨r,hr,rfl⟩:=Option.map_eq_some_iff.mp hd1
  obtain⟨b,sv,bv,rfl,hb,hsv,hbv⟩:=qw2 hd2
  refine⟨_,rfl,U5 hb rfl (yl9 ⟨_,rfl,?_⟩)⟩
  by_cases hs:r.sort=("frame":Str)
  ·rw[decide_eq_true hs];refine qr0 ?_
   refine⟨_,rfl,U5 hb rfl ⟨_,rfl,zo2 ⟨_,rfl,?_⟩⟩⟩
   by_cases e:some r.host=n
   ·rw[decide_eq_true e];refine qr0 ?_
    refine⟨_,rfl,U5 hb rfl ?_⟩
    have:L3 rs n=some r.name:=by
     unfold L3
     rw[qp0 hr hn (by rw[decide_eq_true hs,decide_eq_true e];rfl)];rfl
    rw[this] at q;exact q
   ·rw[decide_eq_false e];refine qk3 ?_
    exact⟨rfl,⟨_,rfl⟩,xe5 hr hn (by rw[decide_eq_false e,Bool.and_false])⟩
  ·rw[decide_eq_false hs];refine qk3 ?_
   k_go
   exact⟨rfl,⟨_,rfl⟩,xe5 hr hn (by rw[decide_eq_false hs,Bool.false_and])⟩
 ·rintro σ H' ⟨rfl,⟨w,rfl⟩,hn⟩
  show Q .non H'
  have:L3 rs n=none:=by
   unfold L3
   rw[List.find?_eq_none.mpr]
   ·rfl
   ·intro r hr
    rw[hlen,List.take_length] at hn
    rw[hn r hr];exact Bool.false_ne_true
  rw[this] at q;exact q
def ups(rs:List Row):Nat->Option Str->List Str
 | 0,_=>[]
 | k+1,n=>match L3 rs n with
   | none=>[]
   | some y=>y::ups rs k (some y)
def wp9(rs:List Row)(rk:Str->Nat):Prop:=∀ x y,L3 rs (some x)=some y->rk y<rk x
theorem xe6{rs:List Row}{rk:Str->Nat}(f:wp9 rs rk):∀ (k:Nat) (x:Str),rk x<=k->ups rs k (some x)=ups rs (rk x) (some x)
 | 0, x, h => by have:rk x=0:=by omega
                 rw[this]
 | k + 1,x,h=>by
   cases e:L3 rs (some x) with
   | none =>
     have e1:ups rs (k+1) (some x)=[]:=by rw[ups,e]
     rw[e1]
     cases e2:rk x with
     | zero=>rfl
     | succ m=>rw[ups,e]
   | some y =>
     have hy:=f x y e
     have e1:ups rs (k+1) (some x)=y::ups rs k (some y):=by rw[ups,e]
     rw[e1,xe6 f k y (by omega)]
     cases e2:rk x with
     | zero=>omega
     | succ m =>
       have e3:ups rs (m+1) (some x)=y::ups rs m (some y):=by rw[ups,e]
       rw[e3,xe6 f m y (by omega)]
theorem yz9(f:wp9 rs rk)(e:L3 rs (some x)=some y):ups rs (rk x) (some x)=y::ups rs (rk y) (some y):=by
 have hy:=f x y e
 cases e2:rk x with
 | zero=>omega
 | succ m =>
   have e3:ups rs (m+1) (some x)=y::ups rs m (some y):=by rw[ups,e]
   rw[e3,xe6 f m y (by omega)]
theorem zj6{x:Option Str}(e:L3 rs x=none):ups rs k x=[]:=by
 cases k with
 | zero=>rfl
 | succ m=>rw[ups,e]
def qy9(K:Fg):Sp:=fun vs H Q _=>∃ v n g rs rk,vs=[v,.str n,.str g]/\Rws K H v rs/\wp9 rs rk/\Q (.bl (decide (g∈ups rs (rk n) (some n)))) H
def wu0(K:Fg):TS :=
 (C1 (E1 (D3 (qd8 K) [] E0 (A1 (A3 0) (A1 (A3 1) A8))) (B1 3))
 (C1 (wd7 (G0 (tOp wh5 (A3 3) (tC .non)))
 (C1 (S3 (G0 (tOp (X3 K) (A3 3) (A3 2)))
 (L6 (tC (.bl true))) O8)
 (E1 (D3 (qd8 K) [] E0 (A1 (A3 0) (A1 (A3 3) A8))) (B1 3))))
 (L6 (tC (.bl false)))))
def zj7(rs:List Row)(rk:Str->Nat):Option Str->List Str
 | none=>[]
 | some y=>y::ups rs (rk y) (some y)
theorem xy5(f:wp9 rs rk)(x:Str):ups rs (rk x) (some x)=zj7 rs rk (L3 rs (some x)):=by
 cases e:L3 rs (some x) with
 | none=>rw[zj6 e];rfl
 | some y=>rw[yz9 f e];rfl
theorem yh0(h:qy9 K vs H Q E):wu0 K {nx:=fun _ H'=>Q .non H',rt:=Q} (D8 ["book","name","frame","above"] vs) H:=by
 obtain⟨v,n,g,rs,rk,rfl,hR,f,q⟩:=h
 show wu0 K _ [some v,some (.str n),some (.str g),none] H
 refine⟨_,rfl,_,rfl,v,some n,rs,rfl,hR,?_⟩
 refine xv8 (fun σ H'=>H'=H/\∃ x,σ=[some v,some (.str n),some (.str g),some (oV x)]/\(g∈ups rs (rk n) (some n)↔g∈zj7 rs rk x))
  (fun σ _=>match σ with | [_,_,_,some (.str y)]=>rk y+1|_=>0) ⟨rfl,L3 rs (some n),rfl,by rw[xy5 f]⟩ ?_ ?_
 ·rintro σ H' ⟨rfl,x,rfl,hx⟩
  cases x with
  | none =>
    refine⟨_,rfl,rfl,_,rfl,?_⟩
    show Q (.bl false) H'
    have:¬g∈ups rs (rk n) (some n):=fun z=>by have:=hx.mp z;simp[zj7] at this
    rw[decide_eq_false this] at q;exact q
  | some y =>
    refine⟨_,rfl,rfl,_,rfl,?_⟩
    show(if(!decide (V.str y=V.non))=true then _ else _)
    rw[decide_eq_false (by simp),Bool.not_false];refine qr0 ?_
    refine⟨_,rfl,_,rfl,yl9 ⟨_,rfl,?_⟩⟩
    by_cases e:y=g
    ·rw[decide_eq_true e];refine qr0 ?_
     show Q (.bl true) H'
     have:g∈ups rs (rk n) (some n):=hx.mpr (by subst e;simp[zj7])
     rw[decide_eq_true this] at q;exact q
    ·rw[decide_eq_false e];refine qk3 ?_
     refine⟨_,rfl,_,rfl,v,some y,rs,rfl,hR,?_⟩
     refine⟨⟨rfl,L3 rs (some y),rfl,?_⟩,?_⟩
     ·rw[hx]
      show g∈y::ups rs (rk y) (some y)↔_
      rw[xy5 f,List.mem_cons]
      exact⟨fun z=>z.resolve_left fun z=>e z.symm,Or.inr⟩
     ·show(match [some v,some (V.str n),some (V.str g),some (oV (L3 rs (some y)))] with | [_,_,_,some (.str y)]=>rk y+1|_=>0)<rk y+1
      cases e2:L3 rs (some y) with
      | none=>exact Nat.succ_pos _
      | some z=>have:=f y z e2;show rk z+1<rk y+1;omega
 ·rintro σ H' Q1 Q2 hQ ⟨v1,e1,e2,k,e3,q1⟩
  exact⟨v1,e1,e2,k,e3,hQ _ _ q1⟩
end
variable{i:Int}{c:Nat}{H1 H2 H0:Hp}{p d a:Addr}{xs:List V}{o:HO}{ns:List Int}{D:qe3}{tb:TS}{σ:St}{te:TE}{ds:List PyData}
section
variable{K:Fg}{vs:List V}{H:Hp}{Q:VK}{E:XK}
theorem B4(xs:List Str):(B7 xs).length=xs.length:=List.length_map _
def ch(c:Nat):Str:=⟨#[c]⟩
def Lt:Str := "abcdefghijklmnopqrstuvwxyz"
theorem zt1:∀ j:Nat,j<26->Lt.cps.toList[j]?=some (97+j):=by decide +kernel
theorem zt2:Lt.length=26:=by decide +kernel
theorem Aa3(h0:0<=i)(h1:i<26):atI Lt.cps.toList i=some (97+i.toNat):=by
 have e:i=((i.toNat:Nat):Int):=by omega
 have q:atI Lt.cps.toList ((i.toNat:Nat):Int)=some (97+i.toNat):=O2 (zt1 _ (by omega))
 rw[<-e] at q
 exact q
theorem xr2:∀ bs:List Nat,(PySem.Txt.join ("":Str) (bs.map ch)).cps.toList=bs:=by
 intro bs
 have e:PySem.Txt.join ("":Str) (bs.map ch)=Str.join ("":Str) (bs.map ch):=PySem.StrLaws.glued_eq_join _ _
 rw[e]
 induction bs with
 | nil=>rfl
 | cons b r ih =>
   cases r with
   | nil=>rfl
   | cons c r =>
     show((ch b++("":Str)++Str.join ("":Str) ((c::r).map ch)).cps).toList=_
     have ih:=ih (PySem.StrLaws.glued_eq_join _ _)
     show((ch b).cps++("":Str).cps++(Str.join ("":Str) ((c::r).map ch)).cps).toList=_
     rw[Array.toList_append,Array.toList_append,ih]
     rfl
theorem xe7{n:Int}(h:1<=n):(PySem.Txt.mul (ch c) n).cps.toList=List.replicate n.toNat c:=by
 unfold PySem.Txt.mul
 rw[if_neg (by omega)]
 have f:∀ (k:Nat) (acc:Array Nat),((List.replicate k #[c]).foldl (·++·) acc).toList=acc.toList++List.replicate k c:=by
  intro k
  induction k with
  | zero=>intro acc;simp
  | succ k ih=>intro acc;rw[List.replicate_succ,List.foldl_cons,ih];simp[List.replicate_succ]
 by_cases h1:n=1
 ·subst h1;rfl
 ·have e:(n == 1 || (ch c).length == 0)=false:=by
   have:(n == 1)=false:=by simpa using h1
   rw[this];rfl
  rw[e,if_neg Bool.false_ne_true]
  have:=f n.toNat #[]
  show(List.foldl (fun x1 x2=>x1++x2) #[] (List.replicate n.toNat #[c])).toList=_
  simpa using this
theorem D4{n:Nat}(h:n<=100000):n<=sizeLine:=by rw[sizeLine_eq];omega
theorem A6.tr(a:A6 H H1)(b:A6 H1 H2):A6 H H2:=fun c o e=>b c o (a c o e)
theorem A6.put(s:A6 H H1)(h:H p=none)(o:HO):A6 H (upd H1 p o):=fun b u e=>by
 have nb:b≠p:=fun z=>by rw[z,h] at e;cases e
 rw[B9 nb];exact s b u e
theorem xe8{ys:List V}(h:H d=some (.lst xs)):U8 H (upd H d (.lst ys)) :=
 ⟨fun b zs e=>by rw[B9 (fun z=>by rw[z,h] at e;cases e)];exact e,fun b o zs e=>by rw[B9 (fun z=>by rw[z,h] at e;cases e)];exact e⟩
theorem qn1{b:Addr}(h:H a=some o)(g:H b=none):a≠b:=fun e=>by rw[e,g] at h;cases h
theorem qd9(xs:List Str):(B7 xs).all qv8=true:=by unfold B7;rw[List.all_map];exact List.all_eq_true.mpr fun _ _=>rfl
theorem qf1(x:Str):∀ xs:List Str,inV (.str x) (B7 xs)=decide (x∈xs)
 | []=>by simp[B7,inV]
 | y::ys=>by
   have ih:=qf1 x ys
   unfold inV at ih ⊢
   show(eqV (.str y) (.str x) || (B7 ys).any fun z=>eqV z (.str x))=_
   rw[ih]
   by_cases e:x=y
   ·subst e;simp[eqV]
   ·have e':¬y=x:=fun z=>e z.symm
    simp[eqV,e,e']
def qb7(ns:List Int):List V:=ns.map V.int
theorem qk4(ns:List Int):(qb7 ns).length=ns.length:=List.length_map _
theorem za0(ns:List Int)(x:Int):qb7 ns++[V.int x]=qb7 (ns++[x]):=by simp[qb7]
theorem J8(a b:Str):(a++b).length=a.length+b.length:=PySem.Str.length_append a b
theorem xy6(ns:List Int)(i:Nat)(x:Int):(qb7 ns).set i (.int x)=qb7 (ns.set i x):=by unfold qb7;rw[List.map_set]
theorem ym2{i:Nat}(h:i<ns.length):(qb7 ns)[i]?=some (.int ns[i]):=by unfold qb7;rw[List.getElem?_map,List.getElem?_eq_getElem h];rfl
theorem xy7{n:Nat}(h:1<=n):ixN n (-1)=some (n-1):=by
 unfold ixN
 rw[if_neg (by decide),if_pos (by omega)]
 congr 1
 omega
theorem ym3(h:1<=xs.length)(e:xs[xs.length-1]?=some v):atI xs (-1)=some v:=by
 unfold atI
 rw[xy7 h];exact e
theorem Aa4{n:Nat}(h:1<=n):ixN n 0=some 0:=by
 unfold ixN
 rw[if_pos (by decide),if_pos (by omega)];rfl
theorem za1{g:TG}(hq:SqL K H0 a xs\/SqT K H0 a xs)(s0:A6 H0 H)(Pv:Nat->St->Hp->Prop)(h0:Pv 0 σ H)(hk:∀ i σ H',Pv i σ H'->A6 H0 H')(hs:∀ i x σ H,xs[i]?=some x->Pv i σ H->g x σ H fun σ2 H2=>tb {D with nx:=PAt Pv (i+1),ct:=PAt Pv (i+1),bk:=D.nx} σ2 H2)(hd:∀ σ H,Pv xs.length σ H->D.nx σ H) :
 ∃ b,V.ref a=.ref b/\(((∃ xs,SqL K H b xs)/\wm1 g tb D σ (Itl K b) H)\/((∃ xs,SqT K H b xs)/\wm1 g tb D σ (Itt K b) H)):=by
 rcases hq with hq|hq
 ·exact⟨a,rfl,.inl ⟨⟨xs,s0.sqL hq⟩,xc6 Pv h0 (fun i σ H' _ p=>(hk i σ H' p).sqL hq) hs hd⟩⟩
 ·exact⟨a,rfl,.inr ⟨⟨xs,s0.sqT hq⟩,xp2 Pv h0 (fun i σ H' _ p=>(hk i σ H' p).sqT hq) hs hd⟩⟩
abbrev WlN(tb:TS)(D:qe3)(Pv:St->Hp->Prop)(μ:St->Hp->Nat)(k:Nat)(σ:St)(H1:Hp):Prop :=
 ∃ N:St->Hp->Prop,(∀ σ' H',N σ' H'->∃ m',m'<k/\m'=μ σ' H'/\Pv σ' H')/\tb {D with nx:=N,ct:=N,bk:=D.nx} σ H1
theorem ys7{c:TT}(Pv:St->Hp->Prop)(μ:St->Hp->Nat)(h0:Pv σ H)(hs:∀ σ H,Pv σ H->c σ H fun b H1=>if b=true then WlN tb D Pv μ (μ σ H) σ H1 else D.nx σ H1):wd7 c tb D σ H:=by
 refine⟨fun m σ H=>m=μ σ H/\Pv σ H,⟨_,rfl,h0⟩,?_⟩
 rintro m σ H ⟨rfl,p⟩
 exact hs σ H p
theorem ys8{g:TG}{tt:TT}{σ':St}(hq:SqL K H0 a xs\/SqT K H0 a xs)(s0:A6 H0 H)(Pv:Nat->List V->Hp->Prop)(h0:Pv 0 [] H)(hlen:∀ i ys H,i<=xs.length->Pv i ys H->ys.length<=sizeLine)(hk:∀ i ys H',Pv i ys H'->A6 H0 H')(hs:∀ i x ys H,xs[i]?=some x->Pv i ys H->g x σ' H fun σ2 H2=>tt σ2 H2 fun b H3=>if b=true then te σ2 H3 fun y H4=>PAt Pv (i+1) (ys++[y]) H4 else PAt Pv (i+1) ys H3)(hd:∀ ys H,Pv xs.length ys H->∀ p,H p=none->Q (.ref p) (upd H p (.lst ys))) :
 ∃ b,V.ref a=.ref b/\(((∃ xs,SqL K H b xs)/\wk1 g tt te σ' Q (Itl K b) H)\/((∃ xs,SqT K H b xs)/\wk1 g tt te σ' Q (Itt K b) H)):=by
 rcases hq with hq|hq
 ·exact xm7 (s0.sqL hq) Pv h0 hlen (fun i ys H' _ p=>(hk i ys H' p).sqL hq) hs hd
 ·refine⟨a,rfl,.inr ⟨⟨xs,s0.sqT hq⟩,xb8 (n:=xs.length) (fun i x=>xs[i]?=some x) Pv h0 hlen (fun i ys H hi p=>?_) (fun i ys H x H' hi p y=>?_) (fun ys H p=>?_) (fun i x ys H _ hx p=>hs i x ys H hx p) hd⟩⟩
  ·exact⟨xs,xs[i],(hk i ys H p).sqT hq,by simp[hi]⟩
  ·exact⟨y.1,y.2 xs ((hk i ys H p).sqT hq)⟩
  ·exact⟨xs,(hk _ ys H p).sqT hq,Nat.le_refl _⟩
theorem V5{xs:List Str}{i:Nat}{x:V}(h:(B7 xs)[i]?=some x):∃ y,xs[i]?=some y/\x=.str y:=by
 unfold B7 at h
 rw[List.getElem?_map] at h
 obtain⟨y,hy,e⟩:=Option.map_eq_some_iff.mp h
 exact⟨y,hy,e.symm⟩
theorem wf0(xs:List Str)(x:Str):B7 xs++[V.str x]=B7 (xs++[x]):=by simp[B7]
theorem Dvs.one{d:PyData}(h:Dv K H d v):Dvs K H [d] [v]:=C3 h J4
def za2(ns:List Int):List PyData:=ns.map .int
theorem xe9:∀ {ns:List Int} {vs:List V},Dvs K H (za2 ns) vs↔vs=qb7 ns
 | [],_=>by show Dvs K H [] _↔_=[];rw[Dvs]
 | x::xs,vs=>by
   show Dvs K H (.int x::za2 xs) vs↔vs=V.int x::qb7 xs
   rw[Dvs]
   constructor
   ·rintro⟨v,r,rfl,h1,h2⟩
    rw[O6.mp h1,xe9.mp h2]
   ·rintro rfl
    exact⟨_,_,rfl,O6.mpr rfl,xe9.mpr rfl⟩
theorem Aa5{e:Addr}(h1:Dv K H (.list ds) (.ref p))(h2:H e=some (.lst []))(h:Q (.bl (!ds.isEmpty)) H):xq4 K (.ref p) (.ref e) H Q:=by
 refine zz6 h1 (e:=.list []) (qr7.mpr ⟨e,[],rfl,SqL.of h2,J4⟩) ?_ ?_
 ·exact Nat.le_trans (Nat.min_le_right _ _) (by decide)
 ·cases ds <;> exact h
theorem none_of(s:A6 H H')(h:H' p=none):H p=none:=by
 cases e:H p with
 | none=>rfl
 | some o=>have:=s _ _ e;rw[h] at this;cases this
inductive Tr where
 | tx (s:Str)
 | nd (n:Str) (ps:List Tr)
mutual
def Tr.da:Tr->PyData
 | .tx s=>.str s
 | .nd n ps=>.tuple [.str n,.tuple (Tr.das ps)]
def Tr.das:List Tr->List PyData
 | []=>[]
 | t::ts=>t.da::Tr.das ts
end
theorem T4:∀ ts:List Tr,Tr.das ts=ts.map Tr.da
 | []=>by rw[Tr.das];rfl
 | t::ts=>by rw[Tr.das,T4 ts];rfl
mutual
theorem yh1:∀ t:Tr,fix t.da=true
 | .tx s=>by rw[Tr.da,fix]
 | .nd n ps=>by rw[Tr.da,fix,N9,fix,N9,fix,N9,qc4 ps];rfl
theorem qc4:∀ ts:List Tr,N9 (Tr.das ts)=true
 | []=>by rw[Tr.das,N9]
 | t::ts=>by rw[Tr.das,N9,yh1 t,qc4 ts];rfl
end
def Tr.isTx:Tr->Bool
 | .tx _=>true
 | .nd _ _=>false
mutual
def pre(pl:List Int):Tr->List (List Int×Tr)
 | .tx s=>[(pl,.tx s)]
 | .nd n ps=>(pl,.nd n ps)::Aa6 pl 0 ps
def Aa6(pl:List Int)(k:Nat):List Tr->List (List Int×Tr)
 | []=>[]
 | t::ts=>pre (pl++[(k:Int)]) t++Aa6 pl (k+1) ts
end
theorem xy8:∀ ns:List Int,N9 (za2 ns)=true
 | []=>by show N9 []=true;rw[N9]
 | x::xs=>by show N9 (.int x::za2 xs)=true;rw[N9,xy8 xs,fix];rfl
theorem Q0{α:Type}{f:α->PyData}(h:∀ x,fix (f x)=true):∀ l:List α,N9 (l.map f)=true
 | []=>by show N9 []=true;rw[N9]
 | x::l=>by show N9 (f x::l.map f)=true;rw[N9,h,Q0 h l];rfl
variable{n:Str}{ps:List Tr}
theorem za3(h:Dv K H (Tr.nd n ps).da v):∃ a b us,v=.ref a/\SqT K H a [.str n,.ref b]/\SqT K H b us/\Dvs K H (Tr.das ps) us:=by
 rw[Tr.da] at h
 obtain⟨a,xs,rfl,ha,h⟩:=D7.mp h
 rw[Dvs] at h;obtain⟨v1,r1,rfl,e1,h⟩:=h
 rw[Dvs] at h;obtain⟨v2,r2,rfl,e2,h⟩:=h
 rw[Dvs] at h;subst h
 rw[E6.mp e1] at ha
 obtain⟨b,ys,rfl,hb,h⟩:=D7.mp e2
 exact⟨a,b,ys,rfl,ha,hb,h⟩
variable{s:Str}
theorem Aa7(h:Dv K H (Tr.tx s).da v):v=.str s:=by rw[Tr.da] at h;exact E6.mp h
variable{us:List V}
theorem zj8{ts:List Tr}(h:Dvs K H (Tr.das ts) us){i:Nat}{t:Tr}(e:ts[i]?=some t):∃ u,us[i]?=some u/\Dv K H t.da u :=
 h.get (by rw[T4,List.getElem?_map,e];rfl)
theorem qn2{ts:List Tr}(h:Dvs K H (Tr.das ts) us):us.length=ts.length:=by have:=h.length;rw[T4,List.length_map] at this;exact this
theorem zt3{t:Tr}(h:Dv K H t.da v)(q:Q (.bl t.isTx) H):yy3 K [v,.ty "str"] H Q:=by
 cases t with
 | tx s=>rw[Aa7 h];exact zz7 (.str _) (b:=true) rfl q
 | nd n ps=>obtain⟨a,b,us,rfl,ha,_⟩:=za3 h;exact zs7 ha (b:=false) rfl q
def qz0(K:Fg):Sp:=fun vs H Q _=>∃ (t:Tr) (v:V),vs=[v]/\Dv K H t.da v/\Q (.bl t.isTx) H
def wh7(K:Fg):TS :=
 (L6 (tCB (yy3 K) (A1 (A3 0) (A1 (tC (.ty "str")) A8))))
theorem yh2(h:qz0 K vs H Q E):wh7 K {nx:=fun _ H'=>Q .non H',rt:=Q} (D8 ["part"] vs) H:=by
 obtain⟨t,v,rfl,hd,q⟩:=h
 show wh7 K _ [some v] H
 unfold wh7
 lk
 exact zt3 hd q
theorem Row.fix(r:Row):L2.fix r.da=true:=by
 unfold Row.da
 have hs:∀ xs:List Str,N9 (sDa xs)=true:=fun xs=>Q0 (f:=PyData.str) (fun x=>by rw[L2.fix]) xs
 rw[L2.fix,N9,N9,N9,N9,N9,N9,L2.fix,L2.fix,L2.fix,L2.fix,L2.fix,hs,hs];rfl
variable{r:Addr}
theorem za4{t:Addr}(h1:SqT K H r [.str n,.ref t])(h2:SqT K H t us)(h3:Dvs K H (Tr.das ps) us):Dv K H (Tr.nd n ps).da (.ref r):=by
 rw[Tr.da]
 exact D7.mpr ⟨r,_,rfl,h1,C3 (E6.mpr rfl) (C3 (D7.mpr ⟨t,us,rfl,h2,h3⟩) J4)⟩
mutual
def hgt:Tr->Nat
 | .tx _=>0
 | .nd _ ps=>1+X5 ps
def X5:List Tr->Nat
 | []=>0
 | t::ts=>max (hgt t) (X5 ts)
end
theorem qp2:∀ a b:List Tr,X5 (a++b)=max (X5 a) (X5 b)
 | [],b=>by rw[List.nil_append,X5];omega
 | t::a,b=>by rw[List.cons_append,X5,X5,qp2 a b];omega
structure Cz(K:Fg)(k_Branch:Addr)(k_Reader:Addr):Prop where
 pg_Branch:PySem.W.plainGet K k_Branch Str.empty=true
 hd_Branch:PySem.W.hasDictIn K k_Branch=true
 po_Branch:PySem.W.plainOver K k_Branch=true
 sa_Branch:PySem.W.findIn K (.ref k_Branch) "__setattr__"=some (some (.builtin "object.__setattr__"))
 ns_Branch:PySem.W.nsIn K mainGlobals "Branch"=some (some (.ref k_Branch))
 na_Branch_name:PySem.W.findIn K (.ref k_Branch) "name"=some none
 na_Branch_place:PySem.W.findIn K (.ref k_Branch) "place"=some none
 na_Branch_parts:PySem.W.findIn K (.ref k_Branch) "parts"=some none
 na_Branch_waiting:PySem.W.findIn K (.ref k_Branch) "waiting"=some none
 pg_Reader:PySem.W.plainGet K k_Reader Str.empty=true
 hd_Reader:PySem.W.hasDictIn K k_Reader=true
 po_Reader:PySem.W.plainOver K k_Reader=true
 sa_Reader:PySem.W.findIn K (.ref k_Reader) "__setattr__"=some (some (.builtin "object.__setattr__"))
 ns_Reader:PySem.W.nsIn K mainGlobals "Reader"=some (some (.ref k_Reader))
 na_Reader_book:PySem.W.findIn K (.ref k_Reader) "book"=some none
 na_Reader_branches:PySem.W.findIn K (.ref k_Reader) "branches"=some none
 na_Reader_mends:PySem.W.findIn K (.ref k_Reader) "mends"=some none
 na_Reader_laid:PySem.W.findIn K (.ref k_Reader) "laid"=some none
variable{k_Branch k_Reader:Addr}
theorem Cz.cl_Branch(z:Cz K k_Branch k_Reader):Cls K k_Branch:=⟨z.pg_Branch,z.hd_Branch,z.po_Branch,z.sa_Branch⟩
theorem Cz.cl_Reader(z:Cz K k_Branch k_Reader):Cls K k_Reader:=⟨z.pg_Reader,z.hd_Reader,z.po_Reader,z.sa_Reader⟩
structure Brn where
 n:Str
 pl:List Int
 ps:List Tr
 ws:List Str
structure BA where
 o:Addr
 x:Addr
 p:Addr
 q:Addr
 w:Addr
def BA.fp(a:BA):List Addr:=[a.o,a.q,a.w]
def bF(a:BA)(b:Brn):List (Str×V):=[("name",.str b.n),("place",.ref a.p),("parts",.ref a.q),("waiting",.ref a.w)]
structure BrO(K:Fg)(H:Hp)(kB:Addr)(a:BA)(b:Brn):Prop where
 o:H a.o=some (.ins kB a.x (bF a b))
 p:SqT K H a.p (qb7 b.pl)
 q:∃ us,H a.q=some (.lst us)/\Dvs K H (Tr.das b.ps) us
 w:H a.w=some (.lst (B7 b.ws))
structure Mnd where
 s:Int
 e:Int
 t:Str
 r:Str
def Mnd.da(m:Mnd):PyData:=.tuple [.int m.s,.int m.e,.str m.t,.str m.r]
structure Lad where
 s:Int
 g:Str
 pl:List Int
 a:Int
def Lad.da(m:Lad):PyData:=.tuple [.int m.s,.str m.g,.tuple (za2 m.pl),.int m.a]
theorem Mnd.fix(m:Mnd):L2.fix m.da=true:=by unfold Mnd.da;simp[L2.fix,N9]
theorem Lad.fix(m:Lad):L2.fix m.da=true:=by unfold Lad.da;simp[L2.fix,N9,xy8]
structure Rst where
 bs:List Brn
 ms:List Mnd
 ls:List Lad
structure RAd where
 x:Addr
 L:Addr
 M:Addr
 A:Addr
 as:List BA
def fpA(as:List BA):List Addr:=as.flatMap BA.fp
def RAd.fp(r:Addr)(a:RAd):List Addr:=r::a.L::a.M::a.A::fpA a.as
inductive qi6(K:Fg)(H:Hp)(kB:Addr):List BA->List Brn->Prop
 | nil:qi6 K H kB [] []
 | cons {a:BA} {b:Brn} {as:List BA} {bs:List Brn}:BrO K H kB a b->qi6 K H kB as bs->qi6 K H kB (a::as) (b::bs)
structure RdO(K:Fg)(H:Hp)(kR kB r:Addr)(bv:V)(a:RAd)(st:Rst):Prop where
 kr:PySem.W.nsIn K mainGlobals "Reader"=some (some (.ref kR))
 kb:PySem.W.nsIn K mainGlobals "Branch"=some (some (.ref kB))
 o:H r=some (.ins kR a.x [("book",bv),("branches",.ref a.L),("mends",.ref a.M),("laid",.ref a.A)])
 l:H a.L=some (.lst (a.as.map fun z=>V.ref z.o))
 b:qi6 K H kB a.as st.bs
 m:∃ us,H a.M=some (.lst us)/\Dvs K H (st.ms.map Mnd.da) us
 d:∃ us,H a.A=some (.lst us)/\Dvs K H (st.ls.map Lad.da) us
 nd:(RAd.fp r a).Nodup
def ys9(H:Hp)(p:Addr):Prop:=(∃ xs,H p=some (.lst xs))\/∃ C dx fs,H p=some (.ins C dx fs)
variable{b:Brn}{kB:Addr}{as:List BA}
section
variable{kR kB r:Addr}{bv:V}{a a':RAd}{st st':Rst}{H':Hp}{ps:List Addr}
theorem wf1(bt:But ps H H')(hm:∀ p∈ps,ys9 H p):U8 H H':=by
 have no:∀ c o,H c=some o->(∀ xs,o≠.lst xs)->(∀ C dx fs,o≠.ins C dx fs)->c∉ps:=fun c o e h1 h2 hc=>by
  rcases hm c hc with⟨xs,e2⟩|⟨C,dx,fs,e2⟩
  ·rw[e] at e2;cases e2;exact h1 xs rfl
  ·rw[e] at e2;cases e2;exact h2 C dx fs rfl
 exact⟨fun c xs e=>bt c _ e (no c _ e (fun _ z=>by cases z) fun _ _ _ z=>by cases z),fun c o xs e=>bt c _ e (no c _ e (fun _ z=>by cases z) fun _ _ _ z=>by cases z)⟩
theorem BrO.but{a:BA}(h:BrO K H kB a b)(bt:But ps H H')(tk:U8 H H')(hd:∀ x∈a.fp,x∉ps):BrO K H' kB a b:=by
 obtain⟨us,h1,h2⟩:=h.q
 exact⟨bt _ _ h.o (hd _ (by simp[BA.fp])),tk.sqT h.p,⟨us,bt _ _ h1 (hd _ (by simp[BA.fp])),Dvs.tupK tk _ _ (qc4 _) h2⟩,bt _ _ h.w (hd _ (by simp[BA.fp]))⟩
theorem qi6.but{as:List BA}{bs:List Brn}(h:qi6 K H kB as bs)(bt:But ps H H')(tk:U8 H H')(hd:∀ x∈fpA as,x∉ps):qi6 K H' kB as bs:=by
 induction h with
 | nil=>exact .nil
 | cons h1 h2 ih=>exact .cons (h1.but bt tk fun x hx=>hd x (by unfold fpA;rw[List.flatMap_cons];exact List.mem_append_left _ hx)) (ih fun x hx=>hd x (by unfold fpA;rw[List.flatMap_cons];exact List.mem_append_right _ hx))
theorem qi6.app{as2:List BA}{bs bs2:List Brn}(h:qi6 K H kB as bs)(h2:qi6 K H kB as2 bs2):qi6 K H kB (as++as2) (bs++bs2):=by
 induction h with
 | nil=>exact h2
 | cons h1 _ ih=>exact .cons h1 ih
theorem qi6.len{bs:List Brn}(h:qi6 K H kB as bs):as.length=bs.length:=by
 induction h with
 | nil=>rfl
 | cons _ _ ih=>simp[ih]
theorem qi6.snoc{bs:List Brn}(h:qi6 K H kB as (bs++[b])):∃ as' a,as=as'++[a]/\qi6 K H kB as' bs/\BrO K H kB a b:=by
 induction bs generalizing as with
 | nil=>cases h with|cons h1 h2=>cases h2;exact⟨[],_,rfl,.nil,h1⟩
 | cons c bs ih =>
   cases h with
   | cons h1 h2 =>
     obtain⟨as',a,rfl,h3,h4⟩:=ih h2
     exact⟨_::as',a,rfl,.cons h1 h3,h4⟩
theorem qi6.mut{bs:List Brn}(h:qi6 K H kB as bs):∀ p∈fpA as,ys9 H p:=by
 induction h with
 | nil=>intro p hp;cases hp
 | cons h1 _ ih =>
   intro p hp
   unfold fpA at hp
   rw[List.flatMap_cons] at hp
   rcases List.mem_append.mp hp with hp|hp
   ·simp only[BA.fp,List.mem_cons,List.not_mem_nil,or_false] at hp
    rcases hp with rfl|rfl|rfl
    ·exact .inr ⟨_,_,_,h1.o⟩
    ·obtain⟨us,h2,_⟩:=h1.q;exact .inl ⟨_,h2⟩
    ·exact .inl ⟨_,h1.w⟩
   ·exact ih p hp
theorem RdO.mut(h:RdO K H kR kB r bv a st):∀ p∈RAd.fp r a,ys9 H p:=by
 intro p hp
 simp only[RAd.fp,List.mem_cons] at hp
 rcases hp with rfl|rfl|rfl|rfl|hp
 ·exact .inr ⟨_,_,_,h.o⟩
 ·exact .inl ⟨_,h.l⟩
 ·obtain⟨us,h1,_⟩:=h.m;exact .inl ⟨_,h1⟩
 ·obtain⟨us,h1,_⟩:=h.d;exact .inl ⟨_,h1⟩
 ·exact h.b.mut p hp
structure Rup(K:Fg)(kR kB r:Addr)(bv:V)(H:Hp)(a:RAd)(H':Hp)(a':RAd)(st':Rst):Prop where
 ok:RdO K H' kR kB r bv a' st'
 bt:But (RAd.fp r a) H H'
 fr:∀ x∈RAd.fp r a',x∈RAd.fp r a\/H x=none
theorem Rup.tr{a2:RAd}{st2:Rst}(h1:Rup K kR kB r bv H a H' a' st')(h2:Rup K kR kB r bv H' a' H2 a2 st2)(hd:∀ x,H' x=none->H x=none):Rup K kR kB r bv H a H2 a2 st2 :=
 ⟨h2.ok,fun c o e n=>h2.bt c o (h1.bt c o e n) fun hc=>(h1.fr c hc).elim n fun z=>(by rw[z] at e;cases e),
  fun x hx=>(h2.fr x hx).elim (h1.fr x) fun z=>.inr (hd x z)⟩
theorem Rup.tupK(h:Rup K kR kB r bv H a H' a' st')(h0:RdO K H kR kB r bv a st):U8 H H':=wf1 h.bt h0.mut
theorem RdO.same(h:RdO K H kR kB r bv a st)(s:A6 H H'):RdO K H' kR kB r bv a st:=by
 obtain⟨us,m1,m2⟩:=h.m
 obtain⟨vs,d1,d2⟩:=h.d
 exact⟨h.kr,h.kb,s _ _ h.o,s _ _ h.l,h.b.but (ps:=[]) (fun c o e _=>s c o e) s.tupK (fun _ _ z=>by cases z),⟨us,s _ _ m1,Dvs.same s _ _ m2⟩,⟨vs,s _ _ d1,Dvs.same s _ _ d2⟩,h.nd⟩
end
theorem N1{k k':Addr}(h:PySem.W.nsIn K mainGlobals x=some (some (.ref k)))(h':PySem.W.nsIn K mainGlobals x=some (some (.ref k'))):k=k':=by rw[h] at h';cases h';rfl
theorem zt4(v:V):qk2 ("name":Str) v []=[(("name":Str),v)]:=rfl
theorem zt5(n v:V):qk2 ("place":Str) v [(("name":Str),n)]=[(("name":Str),n),(("place":Str),v)]:=by
 show(if(("name":Str)) = "place" then _ else _)=_
 rw[if_neg (by decide)];rfl
theorem zt6(n p v:V):qk2 ("parts":Str) v [(("name":Str),n),(("place":Str),p)]=[(("name":Str),n),(("place":Str),p),(("parts":Str),v)]:=by
 show(if(("name":Str)) = "parts" then _ else _::(if(("place":Str)) = "parts" then _ else _))=_
 rw[if_neg (by decide),if_neg (by decide)];rfl
theorem zt7(n p q v:V):qk2 ("waiting":Str) v [(("name":Str),n),(("place":Str),p),(("parts":Str),q)]=[(("name":Str),n),(("place":Str),p),(("parts":Str),q),(("waiting":Str),v)]:=by
 show(if(("name":Str)) = "waiting" then _ else _::(if(("place":Str)) = "waiting" then _ else _::(if(("parts":Str)) = "waiting" then _ else _)))=_
 rw[if_neg (by decide),if_neg (by decide),if_neg (by decide)];rfl
variable{u:HO}
theorem Q9{o q:Addr}(h:upd H o u q=none):q≠o/\H q=none:=by
 by_cases e:q=o
 ·subst e;rw[A5] at h;cases h
 ·rw[B9 e] at h;exact⟨e,h⟩
abbrev wq0(K:Fg):TS :=
 (C1 (wd9 K (A3 0) (A3 2) "place")
 (C1 (wd9 K (A3 0) (qb5 A8) "parts")
 (wd9 K (A3 0) (qb5 A8) "waiting")))
def T9(K:Fg):Sp:=fun vs H Q _=>∃ (kB o x p:Addr) (n:Str) (pl:List Int),vs=[.ref o,.str n,.ref p]/\PySem.W.nsIn K mainGlobals "Branch"=some (some (.ref kB))/\H o=some (.ins kB x [])/\SqT K H p (qb7 pl)/\∀ (q w:Addr) (H':Hp),H q=none->H w=none->q≠w->But [o] H H'->BrO K H' kB ⟨o,x,p,q,w⟩ ⟨n,pl,[],[]⟩->(∀ z,H' z=none->H z=none)->Q .non H'
def qc5(K:Fg):TS :=
 (C1 (wd9 K (A3 0) (A3 1) "name")
 (wq0 K))
theorem wu1(cz:Cz K k_Branch k_Reader)(h:T9 K vs H Q E):qc5 K {nx:=fun _ H'=>Q .non H',rt:=Q} (D8 ["self","name","place"] vs) H:=by
 obtain⟨kB,o,x,p,n,pl,rfl,hkB,ho,hp,q⟩:=h
 obtain rfl:=N1 cz.ns_Branch hkB
 show qc5 K _ [some (.ref o),some (.str n),some (.ref p)] H
 unfold qc5
 have c:=cz.cl_Branch
 refine qb1 (qj5 ?_)
 lk
 refine⟨o,_,x,_,rfl,ho,c,cz.na_Branch_name,by simp,?_⟩
 rw[zt4]
 show C1 (wd9 K (A3 0) (A3 2) "place") _ _ _ _
 refine qb1 (qj5 ?_)
 lk
 refine⟨o,_,x,_,rfl,A5,c,cz.na_Branch_place,by simp,?_⟩
 rw[zt5]
 show C1 (wd9 K (A3 0) (qb5 A8) "parts") _ _ _ _
 refine qb1 (qj5 ?_)
 lk
 refine⟨D4 (by z_go),fun q1 hq1=>?_⟩
 lk
 obtain⟨n1,hq2⟩:=Q9 hq1
 obtain⟨_,hq⟩:=Q9 hq2
 refine⟨o,_,x,_,rfl,by rw[B9 (Ne.symm n1),A5],c,cz.na_Branch_parts,by simp,?_⟩
 rw[zt6]
 show wd9 K (A3 0) (qb5 A8) "waiting" _ _ _
 refine qj5 ?_
 lk
 refine⟨D4 (by z_go),fun w1 hw1=>?_⟩
 lk
 obtain⟨n2,hw2⟩:=Q9 hw1
 obtain⟨n3,hw3⟩:=Q9 hw2
 obtain⟨_,hw4⟩:=Q9 hw3
 obtain⟨_,hw⟩:=Q9 hw4
 refine⟨o,_,x,_,rfl,by rw[B9 (Ne.symm n2),A5],c,cz.na_Branch_waiting,by simp,?_⟩
 rw[zt7]
 have bt:∀ z u,H z=some u->z≠o->(upd (upd (upd (upd (upd (upd H o (.ins k_Branch x [(("name":Str),.str n)])) o (.ins k_Branch x [(("name":Str),.str n),(("place":Str),.ref p)])) q1 (.lst [])) o (.ins k_Branch x [(("name":Str),.str n),(("place":Str),.ref p),(("parts":Str),.ref q1)])) w1 (.lst [])) o (.ins k_Branch x [(("name":Str),.str n),(("place":Str),.ref p),(("parts":Str),.ref q1),(("waiting":Str),.ref w1)])) z=some u:=fun z u e no=>by
  have a1:z≠q1:=fun y=>by rw[y,hq] at e;cases e
  have a2:z≠w1:=fun y=>by rw[y,hw] at e;cases e
  rw[B9 no,B9 a2,B9 no,B9 a1,B9 no,B9 no];exact e
 have b1:But [o] H _:=fun z u e nz=>bt z u e (by simpa using nz)
 refine q q1 w1 _ hq hw (Ne.symm n3) b1 ⟨A5,(wf1 b1 fun z hz=>?_).sqT hp,⟨[],by rw[B9 n1,B9 (Ne.symm n3),B9 n1,A5],by rw[Tr.das];exact J4⟩,by rw[B9 n2,A5];rfl⟩ fun z hz=>?_
 ·rw[List.mem_singleton.mp hz];exact .inr ⟨_,_,_,ho⟩
 ·obtain⟨a1,hz⟩:=Q9 hz
  obtain⟨_,hz⟩:=Q9 hz
  obtain⟨_,hz⟩:=Q9 hz
  obtain⟨_,hz⟩:=Q9 hz
  obtain⟨_,hz⟩:=Q9 hz
  exact(Q9 hz).2
theorem wh8{xs:List α}{v:α}{n:Nat}(hn:xs.length=n+1)(e:xs[n]?=some v):atI xs (-1)=some v:=by
 unfold atI ixN
 rw[if_neg (by decide),if_pos (by omega)]
 show xs[((xs.length:Int) + -1).toNat]?=some v
 rw[show((xs.length:Int) + -1).toNat=n by omega];exact e
section
variable{kR kB r:Addr}{bv:V}{a:RAd}{st:Rst}
theorem RdO.apart(h:RdO K H kR kB r bv a st):r≠a.L/\r≠a.M/\r≠a.A/\a.L≠a.M/\a.L≠a.A/\a.M≠a.A/\r∉fpA a.as/\a.L∉fpA a.as/\a.M∉fpA a.as/\a.A∉fpA a.as/\(fpA a.as).Nodup:=by
 have:=h.nd
 simp only[RAd.fp,List.nodup_cons,List.mem_cons,not_or] at this
 obtain⟨⟨a1,a2,a3,a4⟩,⟨b1,b2,b3⟩,⟨c1,c2⟩,d1,e1⟩:=this
 exact⟨a1,a2,a3,b1,b2,c1,a4,b3,c2,d1,e1⟩
theorem But.upd1:But [p] H (upd H p o):=fun z u e n=>by rw[B9 (by simpa using n)];exact e
theorem O7(h:ys9 H p):U8 H (upd H p o):=wf1 (ps:=[p]) But.upd1 fun z hz=>by rw[List.mem_singleton.mp hz];exact h
theorem RdO.setM{ms:List Mnd}(h:RdO K H kR kB r bv a st)(hd:Dvs K H (ms.map Mnd.da) us):RdO K (upd H a.M (.lst us)) kR kB r bv a {st with ms:=ms}:=by
 obtain⟨a1,a2,a3,b1,b2,c1,d1,d2,d3,d4,e1⟩:=h.apart
 obtain⟨us0,m1,_⟩:=h.m
 obtain⟨vs,l1,l2⟩:=h.d
 have tk:U8 H (upd H a.M (.lst us)):=O7 (.inl ⟨_,m1⟩)
 exact⟨h.kr,h.kb,by rw[B9 a2];exact h.o,by rw[B9 b1];exact h.l,h.b.but But.upd1 tk fun x hx z=>d3 (by rw[List.mem_singleton.mp z] at hx;exact hx),⟨us,A5,Dvs.tupK tk _ _ (Q0 Mnd.fix ms) hd⟩,⟨vs,by rw[B9 (Ne.symm c1)];exact l1,Dvs.tupK tk _ _ (Q0 Lad.fix _) l2⟩,h.nd⟩
theorem RdO.setA{ls:List Lad}(h:RdO K H kR kB r bv a st)(hd:Dvs K H (ls.map Lad.da) us):RdO K (upd H a.A (.lst us)) kR kB r bv a {st with ls:=ls}:=by
 obtain⟨a1,a2,a3,b1,b2,c1,d1,d2,d3,d4,e1⟩:=h.apart
 obtain⟨us0,m1,m2⟩:=h.m
 obtain⟨vs,l1,_⟩:=h.d
 have tk:U8 H (upd H a.A (.lst us)):=O7 (.inl ⟨_,l1⟩)
 exact⟨h.kr,h.kb,by rw[B9 a3];exact h.o,by rw[B9 b2];exact h.l,h.b.but But.upd1 tk fun x hx z=>d4 (by rw[List.mem_singleton.mp z] at hx;exact hx),⟨us0,by rw[B9 c1];exact m1,Dvs.tupK tk _ _ (Q0 Mnd.fix _) m2⟩,⟨us,A5,Dvs.tupK tk _ _ (Q0 Lad.fix ls) hd⟩,h.nd⟩
def C2(H H':Hp):Prop:=∀ z,H' z=none->H z=none
theorem A6.grow(s:A6 H H'):C2 H H':=fun z hz=>by
 cases e:H z with
 | none=>rfl
 | some u=>rw[s z u e] at hz;cases hz
theorem C2.upd:C2 H (upd H p o):=fun z hz=>(Q9 hz).2
theorem C2.tr(g1:C2 H H1)(g2:C2 H1 H2):C2 H H2:=fun z hz=>g1 z (g2 z hz)
theorem Rup.keep{st':Rst}(ok:RdO K H' kR kB r bv a st')(bt:But (RAd.fp r a) H H'):Rup K kR kB r bv H a H' a st':=⟨ok,bt,fun x hx=>.inl hx⟩
end
def L9(K:Fg):Sp:=fun vs H Q _=>∃ (kR kB r:Addr) (bv:V) (a:RAd) (st:Rst) (i:Int) (g rule:Str),vs=[.ref r,.int i,.str g,.str rule]/\RdO K H kR kB r bv a st/\st.ms.length<=9000000/\g.length<=1000000/\∀ H',Rup K kR kB r bv H a H' a {st with ms:=st.ms++[⟨i,i+g.length, "",rule⟩]}->C2 H H'->Q .non H'
def qc6(K:Fg):TS :=
 (I0 (tBM K "list" I9 (S4 K (A3 0) "mends") (A1 (M5 (A1 (A3 1) (A1 (tOp (D2 K) (A3 1) (tCB (L5 K) (A1 (A3 2) A8))) (A1 (tC (.str "")) (A1 (A3 3) A8))))) A8)))
theorem wu2(cz:Cz K k_Branch k_Reader)(h:L9 K vs H Q E):qc6 K {nx:=fun _ H'=>Q .non H',rt:=Q} (D8 ["self","start","signs","rule"] vs) H:=by
 obtain⟨kR,kB,r,bv,a,st,i,g,rule,rfl,h,hl,hg,q⟩:=h
 obtain rfl:=N1 cz.ns_Reader h.kr
 show qc6 K _ [some (.ref r),some (.int i),some (.str g),some (.str rule)] H
 unfold qc6
 obtain⟨us,m1,m2⟩:=h.m
 have hul:us.length=st.ms.length:=by have:=m2.length;rw[List.length_map] at this;exact this
 lk
 refine G9 ?_
 lk
 refine⟨r,_,a.x,_,_,rfl,h.o,cz.cl_Reader,cz.na_Reader_mends,rfl,?_⟩
 lk
 refine⟨.inl ⟨rfl,_,SqL.of m1⟩,?_⟩
 lk
 refine .inr (.inl ⟨g,rfl,by rw[sizeLine_eq];omega,?_⟩)
 lk
 refine⟨D4 (by z_go),fun p hp=>?_⟩
 have s1:=A6.new hp (.tup [.int i,.int (i+g.length),.str "",.str rule])
 have e1:(upd H p (.tup [.int i,.int (i+g.length),.str "",.str rule])) p=some (.tup [.int i,.int (i+g.length),.str "",.str rule]):=A5
 generalize upd H p (.tup [.int i,.int (i+g.length),.str "",.str rule])=H1 at *
 have h1:=h.same s1
 lk
 refine M8 (s1 _ _ m1) (by rw[sizeLine_eq];omega) ?_
 refine q _ (.keep (h1.setM ?_) fun c o e n=>?_) (C2.tr (A6.grow s1) C2.upd)
 ·rw[List.map_append]
  refine Dvs.append (Dvs.same s1 _ _ m2) (Dvs.one (D7.mpr ⟨p,_,rfl,SqT.of e1,C3 (O6.mpr rfl) (C3 (O6.mpr rfl) (C3 (E6.mpr rfl) (C3 (E6.mpr rfl) J4)))⟩))
 ·rw[B9 (fun z=>n (by rw[z];simp[RAd.fp]))];exact s1 c o e
section
variable{kR kB r:Addr}{bv:V}{a:RAd}{st:Rst}
theorem R0(as bs:List BA):fpA (as++bs)=fpA as++fpA bs:=by unfold fpA;rw[List.flatMap_append]
theorem RdO.dom(h:RdO K H kR kB r bv a st):∀ p∈RAd.fp r a,H p≠none:=fun p hp e=>by
 rcases h.mut p hp with⟨xs,e2⟩|⟨C,dx,fs,e2⟩ <;> rw[e] at e2 <;> cases e2
theorem RdO.push{H4:Hp}{x:BA}{b:Brn}(h:RdO K H kR kB r bv a st)(s:A6 H H4)(hb:BrO K H4 kB x b)(hn:∀ z∈x.fp,H z=none)(hd:x.fp.Nodup) :
 RdO K (upd H4 a.L (.lst ((a.as++[x]).map fun z=>V.ref z.o))) kR kB r bv {a with as:=a.as++[x]} {st with bs:=st.bs++[b]}:=by
 have h4:=h.same s
 obtain⟨a1,a2,a3,b1,b2,c1,d1,d2,d3,d4,e1⟩:=h.apart
 obtain⟨us,m1,m2⟩:=h4.m
 obtain⟨vs,l1,l2⟩:=h4.d
 have tk:U8 H4 (upd H4 a.L (.lst ((a.as++[x]).map fun z=>V.ref z.o))):=O7 (.inl ⟨_,h4.l⟩)
 have nx:∀ z∈RAd.fp r a,z∉x.fp:=fun z hz hx=>h.dom z hz (hn z hx)
 have nL:∀ z∈x.fp,z≠a.L:=fun z hz e=>nx a.L (by simp[RAd.fp]) (e▸hz)
 refine⟨h.kr,h.kb,by rw[B9 a1];exact h4.o,A5,(h4.b.but But.upd1 tk fun z hz w=>d2 (by rw[List.mem_singleton.mp w] at hz;exact hz)).app (.cons (hb.but But.upd1 tk fun z hz w=>nL z hz (List.mem_singleton.mp w)) .nil),⟨us,by rw[B9 (Ne.symm b1)];exact m1,Dvs.tupK tk _ _ (Q0 Mnd.fix _) m2⟩,⟨vs,by rw[B9 (Ne.symm b2)];exact l1,Dvs.tupK tk _ _ (Q0 Lad.fix _) l2⟩,?_⟩
 have e:RAd.fp r {a with as:=a.as++[x]}=RAd.fp r a++x.fp:=by
  unfold RAd.fp
  show r::a.L::a.M::a.A::fpA (a.as++[x])=_
  rw[R0]
  show _=r::a.L::a.M::a.A::(fpA a.as++x.fp)
  have:fpA [x]=x.fp:=by unfold fpA;rw[List.flatMap_cons,List.flatMap_nil,List.append_nil]
  rw[this]
 rw[e,List.nodup_append]
 exact⟨h.nd,hd,fun p hp q hq e=>nx p hp (e▸hq)⟩
end
abbrev wm5(K:Fg)(k_Branch:Addr):TS :=
 (I0 (tBM K "list" I9 (S4 K (A3 0) "branches") (A1 (xw2 k_Branch (T9 K) [] E0 (A1 (A3 1) (A1 (tOp (qw0 K) (S4 K (A3 2) "place") (M5 (A1 (tCB (L5 K) (A1 (S4 K (A3 2) "parts") A8)) A8))) A8))) A8)))
def S6(K:Fg):Sp:=fun vs H Q _=>∃ (kR kB r:Addr) (bv:V) (a:RAd) (st:Rst) (n:Str) (bs:List Brn) (b0:Brn),vs=[.ref r,.str n]/\RdO K H kR kB r bv a st/\st.bs=bs++[b0]/\bs.length<=1000/\b0.pl.length<=1000/\b0.ps.length<=9000000/\∀ a' H',Rup K kR kB r bv H a H' a' {st with bs:=st.bs++[⟨n,b0.pl++[(b0.ps.length:Int)],[],[]⟩]}->C2 H H'->Q .non H'
def Y1(K:Fg)(k_Branch:Addr):TS :=
 (C1 (E1 (tOp (L1 K) (S4 K (A3 0) "branches") (tUn (rU fun i=>.int (-i)) (tC (.int 1)))) (B1 2))
 (wm5 K k_Branch))
theorem wq3(cz:Cz K k_Branch k_Reader)(h:S6 K vs H Q E):Y1 K k_Branch {nx:=fun _ H'=>Q .non H',rt:=Q} (D8 ["self","name","above"] vs) H:=by
 obtain⟨kR,kB,r,bv,a,st,n,bs,b0,rfl,h,eb,hl,hp,hz,q⟩:=h
 obtain rfl:=N1 cz.ns_Reader h.kr
 obtain rfl:=N1 cz.ns_Branch h.kb
 show Y1 K _ _ [some (.ref r),some (.str n),none] H
 unfold Y1
 have hb:=h.b
 rw[eb] at hb
 obtain⟨as',x,ea,hb1,hx⟩:=hb.snoc
 obtain⟨us,q1,q2⟩:=hx.q
 have hul:=qn2 q2
 have hal:=hb1.len
 have hLl:(a.as.map fun z=>V.ref z.o).length=as'.length+1:=by rw[ea];simp
 lk
 refine G9 ?_
 lk
 refine⟨r,_,a.x,_,_,rfl,h.o,cz.cl_Reader,cz.na_Reader_branches,rfl,?_⟩
 lk
 refine⟨1,rfl,?_⟩
 refine M1 (SqL.of h.l) (v:=.ref x.o) (wh8 hLl (by rw[ea];simp)) ?_
 lk
 refine G9 ?_
 lk
 refine⟨r,_,a.x,_,_,rfl,h.o,cz.cl_Reader,cz.na_Reader_branches,rfl,?_⟩
 lk
 refine⟨.inl ⟨rfl,_,SqL.of h.l⟩,?_⟩
 lk
 refine xr0 ?_
 lk
 refine G9 ?_
 lk
 refine⟨x.o,_,x.x,_,_,rfl,hx.o,cz.cl_Branch,cz.na_Branch_place,rfl,?_⟩
 lk
 refine G9 ?_
 lk
 refine⟨x.o,_,x.x,_,_,rfl,hx.o,cz.cl_Branch,cz.na_Branch_parts,rfl,?_⟩
 lk
 refine P7 (.inl (SqL.of q1)) ?_
 rw[hul]
 lk
 refine⟨D4 (by z_go),fun p1 h1=>?_⟩
 have s1:=A6.new h1 (.tup [.int b0.ps.length])
 refine wm3 (s1.sqT hx.p) (SqT.of A5) (by rw[qk4];exact D4 (by show _+1<=_;omega)) fun p2 H2 s2 hp2=>?_
 rw[show qb7 b0.pl++[V.int b0.ps.length]=qb7 (b0.pl++[(b0.ps.length:Int)]) by simp[qb7]] at hp2
 have s12:=A6.tr s1 s2
 lk
 intro o dx ho hdx ne
 have s3:A6 H2 (upd (upd H2 dx (.own o)) o (.ins k_Branch dx [])):=fun z u e=>by rw[B9 (fun y=>by rw[y,ho] at e;cases e),B9 (fun y=>by rw[y,hdx] at e;cases e)];exact e
 have g3:C2 H2 (upd (upd H2 dx (.own o)) o (.ins k_Branch dx [])):=C2.tr C2.upd C2.upd
 have e3:(upd (upd H2 dx (.own o)) o (.ins k_Branch dx [])) o=some (.ins k_Branch dx []):=A5
 generalize upd (upd H2 dx (.own o)) o (.ins k_Branch dx [])=H3 at *
 refine⟨k_Branch,o,dx,p2,n,_,rfl,cz.ns_Branch,e3,s3.sqT hp2,fun qq ww H4 hq hw hqw bt hB g4=>⟨rfl,?_⟩⟩
 have s4:A6 H2 H4:=fun z u e=>bt z u (s3 z u e) (by simp;intro y;rw[y,ho] at e;cases e)
 have s14:=A6.tr s12 s4
 lk
 refine M8 (s14 _ _ h.l) (by rw[hLl,sizeLine_eq];omega) ?_
 have nH:∀ z,H2 z=none->H z=none:=A6.grow s12
 have fq:∀ z∈BA.fp ⟨o,dx,p2,qq,ww⟩,H z=none:=fun z hz=>by
  simp only[BA.fp,List.mem_cons,List.not_mem_nil,or_false] at hz
  rcases hz with rfl|rfl|rfl
  ·exact nH _ ho
  ·exact nH _ (g3 _ hq)
  ·exact nH _ (g3 _ hw)
 have nd:(BA.fp ⟨o,dx,p2,qq,ww⟩).Nodup:=by
  have n1:o≠qq:=fun y=>by rw[<-y,e3] at hq;cases hq
  have n2:o≠ww:=fun y=>by rw[<-y,e3] at hw;cases hw
  simp[BA.fp,n1,n2,hqw]
 have hp:=h.push s14 hB fq nd
 rw[List.map_append] at hp
 refine q _ _ ⟨hp,fun c u e nc=>?_,fun z hz=>?_⟩ (C2.tr (C2.tr (C2.tr (A6.grow s12) g3) g4) C2.upd)
 ·rw[B9 (fun y=>nc (by rw[y];simp[RAd.fp]))];exact s14 c u e
 ·have:z∈RAd.fp r a\/z∈BA.fp ⟨o,dx,p2,qq,ww⟩:=by
   simp only[RAd.fp,R0,List.mem_cons,List.mem_append] at hz ⊢
   rcases hz with h|h|h|h|h|h
   ·exact .inl (.inl h)
   ·exact .inl (.inr (.inl h))
   ·exact .inl (.inr (.inr (.inl h)))
   ·exact .inl (.inr (.inr (.inr (.inl h))))
   ·exact .inl (.inr (.inr (.inr (.inr h))))
   ·exact .inr (by simpa [fpA] using h)
  exact this.imp id fun h=>fq z h
def L4(K:Fg):Sp:=fun vs H Q _=>∃ (a:Addr) (ns:List Int) (k:Int),vs=[.ref a,.int k]/\SqL K H a (ns.map V.int)/\0<=k/\∀ n:Int,Q (.int n) H
def qf2(K:Fg):TS :=
 (C1 (S3 (G0 (tOp yf4 (A3 1) (tCB (L5 K) (A1 (A3 0) A8))))
 (L6 (tOp (L1 K) (A3 0) (A3 1))) O8)
 (L6 (tC (.int 0))))
theorem xa2(h:L4 K vs H Q E):qf2 K {nx:=fun _ H'=>Q .non H',rt:=Q} (D8 ["_law_script","_law_k"] vs) H:=by
 obtain⟨a,ns,k,rfl,hS,h0,q⟩:=h
 show qf2 K _ [some (.ref a),some (.int k)] H
 unfold qf2
 lk
 refine P7 (.inl hS) ?_
 lk
 rw[List.length_map]
 by_cases hk:k<(ns.length:Int)
 ·rw[decide_eq_true hk];refine qr0 ?_
  have hk':k.toNat<ns.length:=by omega
  lk
  refine M1 hS (v:=.int ns[k.toNat]) ?_ (q _)
  have ek:k=((k.toNat:Nat):Int):=by omega
  have e:atI (ns.map V.int) ((k.toNat:Nat):Int)=some (.int ns[k.toNat]):=O2 (by rw[List.getElem?_map,List.getElem?_eq_getElem hk'] <;> rfl)
  rw[<-ek] at e
  exact e
 ·rw[decide_eq_false hk];refine qk3 ?_
  exact q 0
end
theorem ym4{α:Type}[BEq α][LawfulBEq α]:∀ {l m:List α},l.Nodup->(∀ x∈l,x∈m)->l.length<=m.length
 | [],_,_,_=>Nat.zero_le _
 | x::l,m,hn,hs=>by
   rw[List.nodup_cons] at hn
   have hm:=hs x (by simp)
   have h2:∀ y∈l,y∈m.erase x:=fun y hy=>(List.mem_erase_of_ne (fun e=>hn.1 (by rw[<-e];exact hy))).mpr (hs y (by simp[hy]))
   have:=ym4 hn.2 h2
   have e:=List.length_erase_of_mem hm
   have hp:=List.length_pos_of_mem hm
   rw[List.length_cons];omega
def V8(K:Fg):Sp:=fun vs H Q _=>∃ c k:Int,vs=[.int c,.int k]/\0<=k/\k<=1000/\∀ n:Int,0<=n->Q (.int n) H
def qn3(K:Fg):TS :=
 (C1 (E1 (tOp (rI yd6 fun i j=>.int (i / j)) (A3 0) (tC (.int 2))) (B1 2))
 (C1 (S3 (G0 (tOp (X3 K) (tOp (rI (fun _ j=>0<j) fun i j=>.int (i % j)) (A3 0) (tC (.int 2))) (tC (.int 0))))
 (L6 (tOp (rI (fun _ j=>0<j) fun i j=>.int (i % j)) (tOp (rI (fun _ j=>0<=j) fun i j=>.int (i / 2 ^ j.toNat)) (A3 2) (tOp qr9 (tC (.int 64)) (A3 1))) (tOp (rI yv2 fun i j=>.int (i*2 ^ j.toNat)) (tC (.int 1)) (tC (.int 64))))) O8)
 (C1 (E1 (tOp (D2 K) (tOp (rI (fun _ j=>0<j) fun i j=>.int (i % j)) (A3 2) (tC (.int 2147483647))) (tOp qr9 (tC (.int 48271)) (tOp (D2 K) (A3 1) (tC (.int 1))))) (B1 3))
 (C1 (E1 (tOp (rI (fun _ j=>0<j) fun i j=>.int (i % j)) (tOp (D2 K) (tOp qr9 (A3 3) (A3 3)) (tOp qr9 (tC (.int 69621)) (A3 1))) (tC (.int 2147483647))) (B1 3))
 (L6 (tOp (rI (fun _ j=>0<j) fun i j=>.int (i % j)) (tOp (D2 K) (tOp (D2 K) (tOp qr9 (A3 3) (A3 3)) (tOp qr9 (tC (.int 16807)) (A3 1))) (tC (.int 1))) (tC (.int 2147483629))))))))
theorem xj4(h:V8 K vs H Q E):qn3 K {nx:=fun _ H'=>Q .non H',rt:=Q} (D8 ["_law_cell","_law_k","_law_half","_law_number"] vs) H:=by
 obtain⟨c,k,rfl,hk0,hk1,q⟩:=h
 show qn3 K _ [some (.int c),some (.int k),none,none] H
 unfold qn3
 lk
 by_cases hc:c % 2=0
 ·rw[decide_eq_true hc];refine qr0 ?_
  lk
  refine qy8 (.inl ⟨by decide,by decide⟩) ?_
  refine zn9 (by omega) ?_
  lk
  refine zo0 ⟨by decide,by decide,by decide⟩ ?_
  refine yl5 (by decide) ?_
  exact q _ (Int.emod_nonneg _ (by decide))
 ·rw[decide_eq_false hc];refine qk3 ?_
  lk
  refine qy8 (.inl ⟨by decide,by decide⟩) ?_
  lk
  have a0:=Int.emod_nonneg (c / 2) (show(2147483647:Int)≠0 by decide)
  have a1:=Int.emod_lt_of_pos (c / 2) (show(0:Int)<2147483647 by decide)
  generalize hm:c / 2 % 2147483647+48271*(k+1)=m at *
  refine qy8 (.inl ⟨by omega,by omega⟩) ?_
  lk
  refine qy8 (.inl ⟨by decide,by decide⟩) ?_
  lk
  have b0:=Int.emod_nonneg (m*m+69621*k) (show(2147483647:Int)≠0 by decide)
  have b1:=Int.emod_lt_of_pos (m*m+69621*k) (show(0:Int)<2147483647 by decide)
  generalize hm2:(m*m+69621*k) % 2147483647=m2 at *
  refine qy8 (.inl ⟨by omega,by omega⟩) ?_
  lk
  refine qy8 (.inl ⟨by decide,by decide⟩) ?_
  lk
  exact q _ (Int.emod_nonneg _ (by decide))
def Sg(ns:List Int):Prop:=(∀ x∈ns,0<=x/\x<26)/\1<=ns.length/\ns.length<=8
def S0(K:Fg):Sp:=fun vs H Q _=>∃ n:Int,vs=[.int n]/\∀ (p:Addr) (ns:List Int) (H':Hp),A6 H H'->H p=none->H' p=some (.lst (qb7 ns))->Sg ns->Q (.ref p) H'
def qf3(K:Fg):TS :=
 (C1 (E1 (qb5 A8) (B1 1))
 (C1 (E1 (tOp (D2 K) (tC (.int 1)) (tOp (rI (fun _ j=>0<j) fun i j=>.int (i % j)) (A3 0) (tC (.int 8)))) (B1 2))
 (C1 (E1 (tOp (rI yd6 fun i j=>.int (i / j)) (A3 0) (tC (.int 8))) (B1 0))
 (C1 (qm8 (xl7 (A1 (A3 2) A8)) (B1 3)
 (C1 (I0 (tBM K "list" I9 (A3 1) (A1 (tOp (rI (fun _ j=>0<j) fun i j=>.int (i % j)) (A3 0) (tC (.int 26))) A8)))
 (E1 (tOp (rI yd6 fun i j=>.int (i / j)) (A3 0) (tC (.int 26))) (B1 0))))
 (L6 (A3 1))))))
theorem xa3(h:S0 K vs H Q E):qf3 K {nx:=fun _ H'=>Q .non H',rt:=Q} (D8 ["_law_number","_law_signs","_law_width","_law_j"] vs) H:=by
 obtain⟨n,rfl,q⟩:=h
 show qf3 K _ [some (.int n),none,none,none] H
 unfold qf3
 lk
 refine⟨D4 (by z_go),fun d hd=>?_⟩
 lk
 have a0:=Int.emod_nonneg n (show(8:Int)≠0 by decide)
 have a1:=Int.emod_lt_of_pos n (show(0:Int)<8 by decide)
 generalize hm:(1:Int)+n % 8=m at *
 refine wp4 (by omega) (by omega) (fun i σ H'=>∃ (y:Int) (a:Option V) (ns:List Int),σ=[some (.int y),some (.ref d),some (.int m),a]/\A6 H H'/\H' d=some (.lst (qb7 ns))/\ns.length=i/\∀ x∈ns,0<=x/\x<26) ⟨_,none,[],rfl,A6.new hd _,A5,rfl,by simp⟩ ?_ ?_
 ·rintro i σ H' hi ⟨y,a,ns,rfl,s1,h1,hl,hns⟩
  lk
  refine⟨.inl ⟨rfl,_,SqL.of h1⟩,?_⟩
  lk
  refine M8 h1 (by rw[qk4,sizeLine_eq];omega) ?_
  lk
  refine⟨_,_,ns++[y % 26],rfl,A6.put s1 hd _,by rw[<-za0];exact A5,by simp[hl],fun x hx=>?_⟩
  rcases List.mem_append.mp hx with h|h
  ·exact hns x h
  ·rw[List.mem_singleton.mp h];exact⟨Int.emod_nonneg _ (by decide),Int.emod_lt_of_pos _ (by decide)⟩
 ·rintro σ H' ⟨y,a,ns,rfl,s1,h1,hl,hns⟩
  lk
  exact q d ns H' s1 hd h1 ⟨hns,by omega,by omega⟩
def xr3(K:Fg):TS :=
 (C1 (E1 (tBM K "str" (zn1 K) (tC (.str "")) (A1 (wk0 [some 1,none] (wj0 K (A3 4)) (B1 1) tTT (tOp (L1 K) (A3 0) (A3 1))) A8)) (B1 5))
 (C1 (E1 (wk0 [some 2,none] (zi5 (A3 1)) (B1 1) (G0 (tOp (xj2 K true) (tOp qr9 (A3 1) (tC (.int 8))) (A3 0))) (tOp qr9 (A3 1) (tC (.int 8)))) (B1 6))
 (I0 (tBM K "list" I9 (A3 2) (A1 (tOp (L1 K) (qb5 (A1 (A3 5) (A1 (tOp (L1 K) (A3 6) (tC (.int 0))) A8))) (tCB xw8 (A1 (tOp (xj2 K false) (A3 5) (tOp (D2 K) (A3 2) (qb5 (A1 (tC (.str "bars")) (A1 (tC (.str "shuts")) A8))))) A8))) A8)))))
def xr4(K:Fg):TS :=
 (C1 (S3 (G0 (tOp (X3 K) (tOp (rI (fun _ j=>0<j) fun i j=>.int (i % j)) (A3 0) (tC (.int 4))) (tC (.int 3))))
 (C1 (E1 (tSl (wm2 K) (D3 (S0 K) [] E0 (A1 (tOp (D2 K) (tC (.int 7)) (tOp qr9 (tC (.int 8)) (D3 (V8 K) [] E0 (A1 (A3 0) (A1 (tC (.int 2)) A8))))) A8)) qc3 (W1 (tOp (D2 K) (tOp (rI (fun _ j=>0<j) fun i j=>.int (i % j)) (A3 3) (tC (.int 8))) (tC (.int 1))))) (B1 4))
 (E1 (tOp (rI (fun _ j=>0<j) fun i j=>.int (i % j)) (tOp (D2 K) (tOp (L1 K) (A3 4) (tC (.int 0))) (tCB xw8 (A1 (tOp wt5 (A3 3) (tC (.int 7))) A8))) (tC (.int 26))) (yv0 (A3 4) (tC (.int 0)) yl7))) O8)
 (xr3 K))
structure Nms(names:List Str):Prop where
 nd:names.Nodup
 ne:∀ x∈names,x≠("":Str)
 le:∀ x∈names,x.length<=8
 lt:∀ x∈names,∀ c∈x.cps.toList,97<=c/\c<=122
theorem zj9(c:Nat):PySem.Txt.mul (ch c) 8≠("":Str):=fun e=>by
 have h1:(PySem.Txt.mul (ch c) 8).cps.toList=List.replicate 8 c:=xe7 (by decide)
 rw[e] at h1
 cases h1
theorem za5{d:Nat}(e:PySem.Txt.mul (ch c) 8=PySem.Txt.mul (ch d) 8):c=d:=by
 have h1:(PySem.Txt.mul (ch c) 8).cps.toList=List.replicate 8 c:=xe7 (by decide)
 have h2:(PySem.Txt.mul (ch d) 8).cps.toList=List.replicate 8 d:=xe7 (by decide)
 rw[e,h2] at h1
 injection h1 with h1
 exact h1.symm
def ql4(names:List Str)(cs:List Nat):List Str:=(cs.map fun c=>PySem.Txt.mul (ch c) 8).filter fun x=>!decide (x∈names)
theorem za6:Lt.cps.toList.Nodup:=by decide +kernel
theorem wk3{α β:Type}{f:α->β}(hf:∀ x y,f x=f y->x=y):∀ {l:List α},l.Nodup->(l.map f).Nodup
 | [],_=>by simp
 | x::l,h=>by
   rw[List.nodup_cons] at h
   rw[List.map_cons,List.nodup_cons]
   refine⟨fun hm=>?_,wk3 hf h.2⟩
   obtain⟨y,hy,e⟩:=List.mem_map.mp hm
   exact h.1 (by rw[<-hf _ _ e];exact hy)
variable{names:List Str}
theorem yt0(h:names.length<26):ql4 names Lt.cps.toList≠[]:=fun e=>by
 unfold ql4 at e
 rw[List.filter_eq_nil_iff] at e
 have hs:∀ x∈Lt.cps.toList.map (fun c=>PySem.Txt.mul (ch c) 8),x∈names:=fun x hx=>by
  have:=e x hx
  simpa using this
 have:=ym4 (wk3 (fun _ _=>za5) za6) hs
 rw[List.length_map] at this
 have l26:Lt.cps.toList.length=26:=by decide +kernel
 omega
def wrd(ns:List Int):Str:=PySem.Txt.join ("":Str) (ns.map fun x=>ch (97+x.toNat))
theorem zt8(h:1<=ns.length):wrd ns≠("":Str):=fun e=>by
 have e2:(wrd ns).cps.toList=ns.map fun x=>97+x.toNat:=by
  unfold wrd
  have:=xr2 (ns.map fun x=>97+x.toNat)
  rw[List.map_map] at this
  exact this
 rw[e] at e2
 cases ns with
 | nil=>simp at h
 | cons x l=>cases e2
theorem zt9:∀ e∈Lt.cps.toList,97<=e/\e<=122:=by decide +kernel
theorem zu0(hS:Sg ns):∀ c∈(wrd ns).cps.toList,97<=c/\c<=122:=by
 have e2:(wrd ns).cps.toList=ns.map fun x=>97+x.toNat:=by
  unfold wrd
  have:=xr2 (ns.map fun x=>97+x.toNat)
  rw[List.map_map] at this
  exact this
 rw[e2]
 intro c hc
 obtain⟨x,hx,rfl⟩:=List.mem_map.mp hc
 have:=hS.1 x hx
 exact⟨by omega,by omega⟩
theorem za7(c:Nat):(PySem.Txt.mul (ch c) 8).length=8:=by
 show(PySem.Txt.mul (ch c) 8).cps.size=8
 rw[<-Array.length_toList,xe7 (by decide)];rfl
theorem zk0:(wrd ns).length=ns.length:=by
 show(wrd ns).cps.size=_
 rw[<-Array.length_toList]
 unfold wrd
 have:=xr2 (ns.map fun x=>97+x.toNat)
 rw[List.map_map] at this
 rw[show(PySem.Txt.join ("":Str) (ns.map fun x=>ch (97+x.toNat))).cps.toList=_ from this,List.length_map]
variable{a5 a6:Option V}
theorem wy8{c:Int}(s0:A6 H0 H)(hd0:H0 d=none)(hd:H d=some (.lst (B7 names)))(hp:H p=some (.lst (qb7 ns)))(hS:Sg ns)(hN:Nms names)(hl:names.length<12)(q:∀ (x:Str) (b1 b2:Option V) (H':Hp),A6 H0 H'->H' d=some (.lst (B7 (names++[x])))->Nms (names++[x])->D.nx [some (.int c),some (.str Lt),some (.ref d),some (.int k),some (.ref p),b1,b2] H') :
 xr3 K D [some (.int c),some (.str Lt),some (.ref d),some (.int k),some (.ref p),a5,a6] H:=by
 unfold xr3
 lk
 refine⟨rfl,?_⟩
 lk
 refine xm7 (xs:=qb7 ns) (SqL.of hp) (fun i ys H'=>H'=H/\ys=B7 ((ns.take i).map fun x=>ch (97+x.toNat))) ⟨rfl,rfl⟩ ?_ ?_ ?_ ?_
 ·rintro i ys H' hi ⟨rfl,rfl⟩
  rw[B4,List.length_map,List.length_take]
  have:=hS.2.2
  exact D4 (by omega)
 ·rintro i ys H' hi ⟨rfl,rfl⟩
  exact SqL.of hp
 ·rintro i x ys H' hx ⟨rfl,rfl⟩
  unfold qb7 at hx
  rw[List.getElem?_map] at hx
  obtain⟨y,hy,rfl⟩:=Option.map_eq_some_iff.mp hx
  obtain⟨y0,y1⟩:=hS.1 y (List.mem_of_getElem? hy)
  lk
  refine zn5 (D4 (by rw[zt2];decide)) (Aa3 y0 y1) ?_
  refine⟨rfl,?_⟩
  rw[List.take_add_one,hy]
  simp[B7,ch]
 ·rintro ys H' ⟨rfl,rfl⟩ l hl'
  rw[qk4,List.take_length]
  lk
  refine⟨"",l,ns.map fun x=>ch (97+x.toNat),rfl,rfl,.inl (SqL.of A5),?_,?_⟩
  ·rw[List.map_map,show("":Str).length=0 from rfl,Nat.mul_zero,Nat.add_zero]
   have:(ns.map ((fun x=>x.length)∘fun x=>ch (97+x.toNat))).sum=ns.length:=by
    clear hp hS hl' q hd
    induction ns with
    | nil=>rfl
    | cons x l ih=>rw[List.map_cons,List.sum_cons,ih,List.length_cons];show 1+_=_;omega
   rw[this]
   have:=hS.2.2
   omega
  have e1:PySem.Txt.join ("":Str) (ns.map fun x=>ch (97+x.toNat))=wrd ns:=rfl
  rw[e1]
  lk
  have hd1:(upd H' l (.lst (B7 (ns.map fun x=>ch (97+x.toNat))))) d=some (.lst (B7 names)):=by rw[B9 (qn1 hd hl')];exact hd
  have s1:A6 H0 (upd H' l (.lst (B7 (ns.map fun x=>ch (97+x.toNat))))):=A6.tr s0 (A6.new hl' _)
  generalize upd H' l (.lst (B7 (ns.map fun x=>ch (97+x.toNat))))=H1 at *
  refine xx6 (z:=Lt) (fun i ys H'=>H'=H1/\ys=B7 (ql4 names (Lt.cps.toList.take i))) ⟨rfl,rfl⟩ ?_ ?_ ?_
  ·rintro i ys H' hi ⟨rfl,rfl⟩
   rw[B4]
   have h1:(ql4 names (Lt.cps.toList.take i)).length<=26:=by
    unfold ql4
    refine Nat.le_trans (List.length_filter_le _ _) ?_
    rw[List.length_map,List.length_take]
    have l26:Lt.cps.toList.length=26:=by decide +kernel
    omega
   exact D4 (by omega)
  ·rintro i e ys H' he ⟨rfl,rfl⟩
   have hsp:ql4 names (Lt.cps.toList.take (i+1))=ql4 names (Lt.cps.toList.take i)++(if PySem.Txt.mul (ch e) 8∈names then[] else[PySem.Txt.mul (ch e) 8]):=by
    unfold ql4
    rw[List.take_add_one,he,List.map_append,List.filter_append]
    congr 1
    by_cases hm:PySem.Txt.mul (ch e) 8∈names <;> simp[hm]
   lk
   refine yy1 (by decide) (by decide) (show(1:Nat)<=1000 by decide) ?_
   lk
   refine .inl (yl6 (.inl (SqL.of hd1)) rfl (qd9 _) ?_)
   rw[qf1]
   lk
   by_cases hm:PySem.Txt.mul (ch e) 8∈names
   ·rw[show(⟨#[e]⟩:Str)=ch e from rfl,decide_eq_true hm]
    k_go
    refine⟨rfl,?_⟩
    rw[hsp,if_pos hm,List.append_nil]
   ·rw[show(⟨#[e]⟩:Str)=ch e from rfl,decide_eq_false hm]
    x_go
    lk
    refine yy1 (by decide) (by decide) (show(1:Nat)<=1000 by decide) ?_
    refine⟨rfl,?_⟩
    rw[hsp,if_neg hm];simp[B7]
  rintro ys H' ⟨rfl,rfl⟩ t ht
  have hls:Lt.cps.toList.take Lt.cps.size=Lt.cps.toList:=List.take_of_length_le (by rw[Array.length_toList];exact Nat.le_refl _)
  rw[hls]
  have hne:=yt0 (names:=names) (by omega)
  obtain⟨x0,xr,hx0⟩:∃ x r,ql4 names Lt.cps.toList=x::r:=by
   cases h:ql4 names Lt.cps.toList with
   | nil=>exact absurd h hne
   | cons x r=>exact⟨x,r,rfl⟩
  have hx0m:x0∈ql4 names Lt.cps.toList:=by rw[hx0];simp
  unfold ql4 at hx0m
  rw[List.mem_filter] at hx0m
  have hx0n:x0∉names:=by simpa using hx0m.2
  have hx0e:x0≠("":Str):=by
   obtain⟨e,_,he⟩:=List.mem_map.mp hx0m.1
   rw[<-he];exact zj9 e
  have hx0l:x0.length<=8:=by
   obtain⟨e,_,he⟩:=List.mem_map.mp hx0m.1
   rw[<-he,za7];exact Nat.le_refl _
  have hx0t:∀ c∈x0.cps.toList,97<=c/\c<=122:=by
   obtain⟨e,he1,he⟩:=List.mem_map.mp hx0m.1
   intro c hc
   rw[<-he,xe7 (by decide)] at hc
   rw[(List.mem_replicate.mp hc).2]
   exact zt9 e he1
  rw[hx0]
  lk
  have hd2:(upd H' t (.lst (B7 (x0::xr)))) d=some (.lst (B7 names)):=by rw[B9 (qn1 hd1 ht)];exact hd1
  refine⟨.inl ⟨rfl,_,SqL.of hd2⟩,?_⟩
  lk
  refine M1 (SqL.of A5) (v:=.str x0) (O2 (j:=0) rfl) ?_
  lk
  refine⟨D4 (by z_go),fun t2 ht2=>?_⟩
  lk
  refine⟨D4 (by z_go),fun t3 ht3=>?_⟩
  lk
  have n32:t3≠t2:=fun e=>by rw[e,A5] at ht3;cases ht3
  have hd3:(upd (upd (upd H' t (.lst (B7 (x0::xr)))) t2 (.lst [.str (wrd ns),.str x0])) t3 (.lst [.str "bars",.str "shuts"])) d=some (.lst (B7 names)):=by
   rw[B9 (qn1 (by rw[B9 (qn1 hd2 ht2)];exact hd2) ht3),B9 (qn1 hd2 ht2)];exact hd2
  refine yy0 hd3 A5 (by rw[B4];exact D4 (by simp;omega)) fun t4 ht4=>?_
  have ex:B7 names++[V.str "bars",V.str "shuts"]=B7 (names++[("bars":Str),("shuts":Str)]):=by simp[B7]
  refine .inl (yr2 (.inl (SqL.of A5)) rfl (by rw[ex];exact qd9 _) ?_)
  rw[ex,qf1]
  lk
  have n42:t2≠t4:=fun e=>by rw[<-e,B9 n32.symm,A5] at ht4;cases ht4
  have hd4:(upd (upd (upd (upd H' t (.lst (B7 (x0::xr)))) t2 (.lst [.str (wrd ns),.str x0])) t3 (.lst [.str "bars",.str "shuts"])) t4 (.lst (B7 (names++[("bars":Str),("shuts":Str)])))) d=some (.lst (B7 names)):=by
   rw[B9 (qn1 hd3 ht4)];exact hd3
  have hq2:(upd (upd (upd (upd H' t (.lst (B7 (x0::xr)))) t2 (.lst [.str (wrd ns),.str x0])) t3 (.lst [.str "bars",.str "shuts"])) t4 (.lst (B7 (names++[("bars":Str),("shuts":Str)])))) t2=some (.lst [.str (wrd ns),.str x0]):=by
   rw[B9 n42,B9 n32.symm];exact A5
  have s4:A6 H0 (upd (upd (upd (upd H' t (.lst (B7 (x0::xr)))) t2 (.lst [.str (wrd ns),.str x0])) t3 (.lst [.str "bars",.str "shuts"])) t4 (.lst (B7 (names++[("bars":Str),("shuts":Str)])))) :=
   A6.tr s1 (A6.tr (A6.new ht _) (A6.tr (A6.new ht2 _) (A6.tr (A6.new ht3 _) (A6.new ht4 _))))
  generalize (upd (upd (upd (upd H' t (.lst (B7 (x0::xr)))) t2 (.lst [.str (wrd ns),.str x0])) t3 (.lst [.str "bars",.str "shuts"])) t4 (.lst (B7 (names++[("bars":Str),("shuts":Str)]))))=H4 at *
  have app:∀ x:Str,x∉names->x≠("":Str)->x.length<=8->(∀ c∈x.cps.toList,97<=c/\c<=122)->Nms (names++[x]):=fun x hx hxe hxl hxt=>⟨by
   rw[List.nodup_append];refine⟨hN.nd,by simp,?_⟩
   intro a ha b hb e
   rw[List.mem_singleton.mp hb] at e
   exact hx (e▸ha),fun y hy=>by
   rcases List.mem_append.mp hy with h|h
   ·exact hN.ne y h
   ·rw[List.mem_singleton.mp h];exact hxe,fun y hy=>by
   rcases List.mem_append.mp hy with h|h
   ·exact hN.le y h
   ·rw[List.mem_singleton.mp h];exact hxl,fun y hy=>by
   rcases List.mem_append.mp hy with h|h
   ·exact hN.lt y h
   ·rw[List.mem_singleton.mp h];exact hxt⟩
  have fin:∀ x:Str,x∉names->x≠("":Str)->x.length<=8->(∀ c∈x.cps.toList,97<=c/\c<=122)->I9 (.ref d) [.str x] H4 (fun _ H1=>D.nx [some (.int c),some (.str Lt),some (.ref d),some (.int k),some (.ref p),some (.str (wrd ns)),some (.ref t)] H1):=fun x hx hxe hxl hxt=>by
   refine M8 hd4 (by rw[B4,sizeLine_eq];omega) ?_
   exact q x _ _ _ (A6.put s4 hd0 _) (by rw[show B7 (names++[x])=B7 names++[V.str x] by simp[B7]];exact A5) (app x hx hxe hxl hxt)
  by_cases hm:wrd ns∈names++[("bars":Str),("shuts":Str)]
  ·rw[decide_eq_true hm]
   refine .inr ⟨true,rfl,?_⟩
   refine M1 (SqL.of hq2) (v:=.str x0) (O2 (j:=1) rfl) ?_
   lk
   exact fin x0 hx0n hx0e hx0l hx0t
  ·rw[decide_eq_false hm]
   refine .inr ⟨false,rfl,?_⟩
   refine M1 (SqL.of hq2) (v:=.str (wrd ns)) (O2 (j:=0) rfl) ?_
   lk
   exact fin _ (fun h=>hm (List.mem_append_left _ h)) (zt8 hS.2.1) (by rw[zk0];exact hS.2.2) (zu0 hS)
theorem Sg.set(h:Sg ns)(i:Nat){x:Int}(h0:0<=x)(h1:x<26):Sg (ns.set i x):=by
 refine⟨fun y hy=>?_,by rw[List.length_set];exact h.2.1,by rw[List.length_set];exact h.2.2⟩
 rcases List.mem_or_eq_of_mem_set hy with h' | h'
 ·exact h.1 y h'
 ·rw[h'];exact⟨h0,h1⟩
theorem wy9{c:Int}(s0:A6 H0 H)(hd0:H0 d=none)(hd:H d=some (.lst (B7 names)))(hp:H p=some (.lst (qb7 ns)))(hS:Sg ns)(hN:Nms names)(hl:names.length<12)(q:∀ (x:Str) (b0 b1 b2:Option V) (H':Hp),A6 H0 H'->H' d=some (.lst (B7 (names++[x])))->Nms (names++[x])->D.nx [some (.int c),some (.str Lt),some (.ref d),some (.int k),b0,b1,b2] H') :
 xr4 K D [some (.int c),some (.str Lt),some (.ref d),some (.int k),some (.ref p),a5,a6] H:=by
 unfold xr4
 lk
 by_cases h4:c % 4=3
 ·rw[decide_eq_true h4];refine qr0 ?_
  lk
  refine⟨c,2,rfl,by decide,by decide,fun m hm=>?_⟩
  refine qy8 (.inl ⟨by decide,by decide⟩) ?_
  lk
  refine⟨_,rfl,fun p1 ns1 H1 s1 hp1 h1 hS1=>?_⟩
  lk
  refine .inr (.inr ⟨p1,_,rfl,SqL.of h1,fun p2 hp2=>?_⟩)
  obtain⟨u,hu⟩:∃ u:Nat,(k:Int) % 8+1=(u:Int)/\1<=u:=⟨((k:Int) % 8+1).toNat,by omega,by omega⟩
  have ec:qe7 (qb7 ns1) none (some ((k:Int) % 8+1))=qb7 (ns1.take u):=by
   unfold qe7
   rw[hu.1,HT.qj3]
   show((qb7 ns1).drop 0).take (min u (qb7 ns1).length-0)=_
   rw[List.drop_zero,Nat.sub_zero]
   unfold qb7
   rw[List.map_take,List.length_map]
   by_cases hh:u<=ns1.length
   ·rw[Nat.min_eq_left hh]
   ·rw[Nat.min_eq_right (by omega),List.take_of_length_le (by rw[List.length_map];exact Nat.le_refl _),List.take_of_length_le (by rw[List.length_map];omega)]
  rw[ec]
  have hS2:Sg (ns1.take u):=⟨fun x hx=>hS1.1 x (List.mem_of_mem_take hx),by rw[List.length_take];have:=hS1.2.1;omega,by rw[List.length_take];have:=hS1.2.2;omega⟩
  generalize ns1.take u=ns2 at *
  have hd2:(upd H1 p2 (.lst (qb7 ns2))) d=some (.lst (B7 names)):=by rw[B9 (qn1 (s1 _ _ hd) hp2)];exact s1 _ _ hd
  have npd:p2≠d:=(qn1 (s1 _ _ hd) hp2).symm
  lk
  refine M1 (SqL.of A5) (v:=.int (ns2[0]'hS2.2.1)) (O2 (j:=0) (ym2 hS2.2.1)) ?_
  lk
  refine .inr ⟨_,rfl,?_⟩
  lk
  refine .inl (yf9 A5 (j:=0) (Aa4 (by rw[qk4];exact hS2.2.1)) ?_)
  rw[xy6]
  refine wy8 (H0:=H0) ?_ hd0 ?_ A5 (hS2.set 0 (Int.emod_nonneg _ (by decide)) (Int.emod_lt_of_pos _ (by decide))) hN hl fun x b1 b2 H'=>q x _ b1 b2 H'
  ·exact A6.put (A6.tr s0 (A6.tr s1 (A6.new hp2 _))) (A6.free s0 (A6.free s1 hp2)) _
  ·rw[B9 npd.symm];exact hd2
 ·rw[decide_eq_false h4];refine qk3 ?_
  lk
  exact wy8 s0 hd0 hd hp hS hN hl fun x b1 b2 H'=>q x _ b1 b2 H'
def qj6(K:Fg):Sp:=fun vs H Q _=>∃ c:Int,vs=[.int c]/\∀ (d:Addr) (names:List Str) (H':Hp),A6 H H'->H d=none->H' d=some (.lst (B7 names))->names.length=12->Nms names->Q (.ref d) H'
def qn4(K:Fg):TS :=
 (C1 (E1 (tC (.str "abcdefghijklmnopqrstuvwxyz")) (B1 1))
 (C1 (E1 (qb5 A8) (B1 2))
 (C1 (qm8 (xl7 (A1 (tC (.int 12)) A8)) (B1 3)
 (C1 (E1 (D3 (S0 K) [] E0 (A1 (tOp (rI (fun _ j=>0<j) fun i j=>.int (i % j)) (tOp (rI (fun _ j=>0<=j) fun i j=>.int (i / 2 ^ j.toNat)) (tOp (rI yd6 fun i j=>.int (i / j)) (A3 0) (tC (.int 2))) (tOp qr9 (tC (.int 41)) (A3 3))) (tOp (rI yv2 fun i j=>.int (i*2 ^ j.toNat)) (tC (.int 1)) (tC (.int 41)))) A8)) (B1 4))
 (C1 (S3 (G0 (tOp (X3 K) (tOp (rI (fun _ j=>0<j) fun i j=>.int (i % j)) (A3 0) (tC (.int 2))) (tC (.int 1))))
 (C1 (E1 (D3 (S0 K) [] E0 (A1 (D3 (V8 K) [] E0 (A1 (A3 0) (A1 (tC (.int 1)) A8))) A8)) (B1 4))
 (E1 (tOp (rI (fun _ j=>0<j) fun i j=>.int (i % j)) (tOp (D2 K) (tOp (L1 K) (A3 4) (tUn (rU fun i=>.int (-i)) (tC (.int 1)))) (A3 3)) (tC (.int 26))) (yv0 (A3 4) (tUn (rU fun i=>.int (-i)) (tC (.int 1))) yl7))) O8)
 (xr4 K))))
 (L6 (A3 2)))))
theorem xj5(h:qj6 K vs H Q E):qn4 K {nx:=fun _ H'=>Q .non H',rt:=Q} (D8 ["_law_cell","_law_letters_here","_law_names_here","_law_k","_law_signs","_law_name","_law_spare"] vs) H:=by
 obtain⟨c,rfl,q⟩:=h
 show qn4 K _ [some (.int c),none,none,none,none,none,none] H
 unfold qn4
 lk
 refine⟨D4 (by z_go),fun d hd=>?_⟩
 lk
 refine wp4 (by decide) (by decide) (fun i σ H'=>∃ (a3 a4 a5 a6:Option V) (names:List Str),σ=[some (.int c),some (.str Lt),some (.ref d),a3,a4,a5,a6]/\A6 H H'/\H' d=some (.lst (B7 names))/\names.length=i/\Nms names) ⟨none,none,none,none,[],rfl,A6.new hd _,A5,rfl,⟨by simp,by simp,by simp,by simp⟩⟩ ?_ ?_
 ·rintro i σ H' hi ⟨a3,a4,a5,a6,names,rfl,s1,h1,hl,hN⟩
  lk
  refine qy8 (.inl ⟨by decide,by decide⟩) ?_
  refine zn9 (by omega) ?_
  lk
  refine zo0 ⟨by decide,by decide,by decide⟩ ?_
  refine yl5 (by decide) ?_
  lk
  refine⟨_,rfl,fun p ns H2 s2 hp hp2 hS=>?_⟩
  lk
  have fin:∀ (x:Str) (b0 b1 b2:Option V) (H':Hp),A6 H H'->H' d=some (.lst (B7 (names++[x])))->Nms (names++[x])->(fun σ H'=>∃ (a3 a4 a5 a6:Option V) (names:List Str),σ=[some (.int c),some (.str Lt),some (.ref d),a3,a4,a5,a6]/\A6 H H'/\H' d=some (.lst (B7 names))/\names.length=i+1/\Nms names) [some (.int c),some (.str Lt),some (.ref d),some (.int i),b0,b1,b2] H' :=
   fun x b0 b1 b2 H' s h n=>⟨_,_,_,_,_,rfl,s,h,by simp[hl],n⟩
  by_cases h2:c % 2=1
  ·rw[decide_eq_true h2];refine qr0 ?_
   lk
   refine⟨c,1,rfl,by decide,by decide,fun m hm=>?_⟩
   lk
   refine⟨_,rfl,fun p1 ns1 H3 s3 hp1 h3 hS1=>?_⟩
   have hd3:=s3 _ _ (s2 _ _ h1)
   have npd:p1≠d:=(qn1 (s2 _ _ h1) hp1).symm
   lk
   refine⟨1,rfl,?_⟩
   refine M1 (SqL.of h3) (ym3 (by rw[qk4];exact hS1.2.1) (by rw[qk4];exact ym2 (by have:=hS1.2.1;omega))) ?_
   lk
   refine⟨1,rfl,?_⟩
   refine .inl (yf9 h3 (xy7 (by rw[qk4];exact hS1.2.1)) ?_)
   rw[xy6]
   refine wy9 (H0:=H) ?_ hd ?_ A5 (hS1.set _ (Int.emod_nonneg _ (by decide)) (Int.emod_lt_of_pos _ (by decide))) hN (by omega) fin
   ·exact A6.put (A6.tr s1 (A6.tr s2 s3)) (A6.free s1 (A6.free s2 hp1)) _
   ·rw[B9 npd.symm];exact hd3
  ·rw[decide_eq_false h2];refine qk3 ?_
   lk
   exact wy9 (H0:=H) (A6.tr s1 s2) hd (s2 _ _ h1) hp2 hS hN (by omega) fin
 ·rintro σ H' ⟨a3,a4,a5,a6,names,rfl,s1,h1,hl,hN⟩
  lk
  exact q d names H' s1 hd h1 hl hN
def gd(l:List Str)(i:Nat):Str:=l.getD i ("":Str)
def zu1(x:Str):Prop:=x=("bare":Str)\/x=("plain":Str)\/x=("anew":Str)\/x=("room":Str)\/x=("frame":Str)
theorem wm7{l:List Str}{i:Nat}(h:i<l.length):l[i]?=some (gd l i):=by
 unfold gd;rw[List.getD_eq_getElem?_getD];simp[h]
theorem qu7{l:List Str}{i:Nat}(h:i<l.length):gd l i∈l:=List.mem_of_getElem? (wm7 h)
theorem qb2{xs:List Str}{i:Nat}(h:i<xs.length):atI (B7 xs) ((i:Nat):Int)=some (.str (gd xs i)):=O2 (by unfold B7;rw[List.getElem?_map,wm7 h];rfl)
def xz0(js:List Nat):List V:=js.map fun(j:Nat)=>.int (j:Int)
def Aa8(x:Str):Prop:=x=("plain":Str)\/x=("frame":Str)
instance (x:Str):Decidable (Aa8 x):=inferInstanceAs (Decidable (_\/_))
theorem xz1:∀ xs:List Str,N9 (sDa xs)=true
 | []=>by show N9 []=true;rw[N9]
 | x::xs=>by show N9 (.str x::sDa xs)=true;rw[N9,xz1 xs,fix];rfl
theorem zk1(r:Row):fix r.da=true:=by
 unfold Row.da
 simp[fix,N9,xz1]
theorem xz2:∀ rs:List Row,N9 (rs.map Row.da)=true
 | []=>by show N9 []=true;rw[N9]
 | r::rs=>by show N9 (r.da::rs.map Row.da)=true;rw[N9,zk1,xz2 rs];rfl
structure Boo(rs:List Row):Prop where
 l1:1<=rs.length
 l2:rs.length<=12
 nd:(rs.map (·.name)).Nodup
 ne:∀ r∈rs,r.name≠("":Str)
 rk:∃ rk:Str->Nat,(∀ r∈rs,rk r.name<12)/\∀ r∈rs,r.sort=("frame":Str)->(∃ r'∈rs,r'.name=r.host/\Aa8 r'.sort)/\rk r.name<rk r.host
 noh:∀ r∈rs,r.sort≠("frame":Str)->r.host=("":Str)
 uq:∀ r∈rs,∀ r'∈rs,r.sort=("frame":Str)->r'.sort=("frame":Str)->r.host=r'.host->r.name=r'.name
 srt:∀ r∈rs,zu1 r.sort
 nosh:∀ r∈rs,∀ x∈r.shuts,∀ f∈rs,f.sort=("frame":Str)->f.host≠x
variable{j:Nat}
theorem yh3(hn:names.Nodup)(hj:j<names.length):names.idxOf (gd names j)=j:=by
 have e:gd names j=names[j]:=by have:=wm7 hj;rw[List.getElem?_eq_getElem hj] at this;exact(Option.some.inj this).symm
 rw[e];exact hn.idxOf_getElem j hj
theorem Rws.same(h:Rws K H v rs)(s:A6 H H'):Rws K H' v rs:=by
 obtain⟨a,vs,rfl,hq,hd⟩:=h
 exact⟨a,vs,rfl,hq.imp s.sqL s.sqT,Dvs.same s _ _ hd⟩
theorem wq4{r:Row}(h:Z0 rs (some n)=some r):r∈rs/\r.name=n:=by
 refine⟨List.mem_of_find?_eq_some h,?_⟩
 have:=List.find?_some h
 simpa using this
theorem yh4(h:∃ r∈rs,r.name=n):∃ r,Z0 rs (some n)=some r/\r∈rs/\r.name=n:=by
 cases e:Z0 rs (some n) with
 | none =>
   obtain⟨r,hr,hn⟩:=h
   have:=List.find?_eq_none.mp e r hr
   simp[hn] at this
 | some r=>exact⟨r,rfl,wq4 e⟩
def V9(rs:List Row)(n:Str):Bool:=match Z0 rs (some n) with|none=>false|some r=>decide (r.sort∈[("room":Str),("frame":Str)])
def qb8(rs:List Row)(ns:List Str):List Str:=ns.foldl (fun acc n=>if V9 rs n then[] else acc++[n]) []
theorem wu5(rs:List Row)(ns:List Str)(n:Str):qb8 rs (ns++[n])=if V9 rs n then[] else qb8 rs ns++[n]:=by
 unfold qb8;rw[List.foldl_append];rfl
theorem qw3(rs:List Row):∀ (k:Nat) (ns:List Str),ns.length=k->(qb8 rs ns).length<=k
 | 0,ns,h=>by rw[List.length_eq_zero_iff.mp h];exact Nat.le_refl _
 | k+1,ns,h=>by
   have hp:ns≠[]:=fun e=>by rw[e] at h;cases h
   rw[<-List.dropLast_concat_getLast hp,wu5]
   have:=qw3 rs k ns.dropLast (by rw[List.length_dropLast];omega)
   split
   ·exact Nat.zero_le _
   ·rw[List.length_append,List.length_singleton];omega
theorem xr5{r:Row}(h:Dv K H r.da v):∃ b ps pb,v=.ref b/\SqT K H b [.str r.name,.str r.sort,.str r.host,.ref ps,.ref pb]/\SqT K H ps (B7 r.shuts)/\SqT K H pb (B7 r.bars):=by
 obtain⟨b,sv,bv,rfl,hb,h1,h2⟩:=qw2 h
 obtain⟨ps,vs,rfl,q1,d1⟩:=D7.mp h1
 obtain⟨pb,ws,rfl,q2,d2⟩:=D7.mp h2
 rw[qr8.mp d1] at q1
 rw[qr8.mp d2] at q2
 exact⟨b,ps,pb,rfl,hb,q1,q2⟩
def J5(ys:List Str):Str:=gd ys (ys.length-1)
def downs(rs:List Row):Nat->Option Str->List Str
 | 0,_=>[]
 | k+1,n=>match Q4 rs n with
   | none=>[]
   | some y=>y::downs rs k (some y)
def zu2(rs:List Row)(rk:Str->Nat):Prop:=∀ x y,Q4 rs (some x)=some y->rk x<rk y/\rk y<12
theorem Boo.rise(B:Boo rs):∃ rk,zu2 rs rk:=by
 obtain⟨rk,h1,h2⟩:=B.rk
 refine⟨rk,fun x y e=>?_⟩
 unfold Q4 at e
 cases er:Z0 rs (some x) with
 | none=>rw[er] at e;cases e
 | some r =>
   rw[er] at e
   obtain⟨hr,hn⟩:=wq4 er
   by_cases hf:r.sort=("frame":Str)
   ·have e:some r.host=some y:=by simpa [hf] using e
    injection e with e
    obtain⟨⟨r',hr',en,_⟩,h⟩:=h2 r hr hf
    subst e hn
    exact⟨h,by rw[<-en];exact h1 r' hr'⟩
   ·simp[hf] at e
theorem xf2{rs:List Row}{rk:Str->Nat}(f:zu2 rs rk):∀ (k m:Nat) (x:Str),12-rk x<=k->k<=m->downs rs m (some x)=downs rs k (some x)
 | k, 0, x, h, hm => by have:k=0:=by omega
                        rw[this]
 | k,m+1,x,h,hm=>by
   cases e:Q4 rs (some x) with
   | none =>
     have e1:∀ k,downs rs k (some x)=[]:=fun k=>by cases k with|zero=>rfl|succ k=>rw[downs,e]
     rw[e1,e1]
   | some y =>
     obtain⟨hy,hy2⟩:=f x y e
     cases k with
     | zero=>omega
     | succ k =>
       rw[downs,e,downs,e]
       show y::downs rs m (some y)=y::downs rs k (some y)
       rw[xf2 f k m y (by omega) (by omega)]
def E4(rs:List Row)(x:Str):List Str:=downs rs 12 (some x)
theorem qi7(rs:List Row):∀ (k:Nat) (n:Option Str),(downs rs k n).length<=k
 | 0,_=>Nat.le_refl _
 | k+1,n=>by
   rw[downs]
   split
   ·exact Nat.zero_le _
   ·rw[List.length_cons];have:=qi7 rs k;exact Nat.succ_le_succ (this _)
theorem qz1(e:Q4 rs (some x)=none):E4 rs x=[]:=by
 unfold E4;rw[downs,e]
theorem xf3(f:zu2 rs rk)(e:Q4 rs (some x)=some y):E4 rs x=y::E4 rs y:=by
 unfold E4
 rw[downs,e]
 show y::downs rs 11 (some y)=y::downs rs 12 (some y)
 obtain⟨h1,h2⟩:=f x y e
 rw[xf2 f 11 12 y (by omega) (by omega)]
def O9(K:Fg):Sp:=fun vs H Q _=>∃ (a:Addr) (ys:List Str),vs=[.ref a]/\(SqL K H a (B7 ys)\/SqT K H a (B7 ys))/\Q (.str (J5 ys)) H
def Y2(K:Fg):TS :=
 (L6 (tIf (G0 (tOp wt5 (tCB (L5 K) (A1 (A3 0) A8)) (tC (.int 0)))) (tOp (L1 K) (A3 0) (tUn (rU fun i=>.int (-i)) (tC (.int 1)))) (tC (.str ""))))
theorem wq5(h:O9 K vs H Q E):Y2 K {nx:=fun _ H'=>Q .non H',rt:=Q} (D8 ["names"] vs) H:=by
 obtain⟨a,ys,rfl,hq,q⟩:=h
 show Y2 K _ [some (.ref a)] H
 unfold Y2
 lk
 refine P7 hq ?_
 rw[B4]
 lk
 by_cases h0:(0:Int)<(ys.length:Int)
 ·rw[decide_eq_true h0]
  x_go
  lk
  refine⟨1,rfl,?_⟩
  have e1:(B7 ys)[(B7 ys).length-1]?=some (.str (J5 ys)):=by
   rw[B4];unfold B7 J5;rw[List.getElem?_map,wm7 (by omega)];rfl
  have e2:=ym3 (by rw[B4];omega) e1
  rcases hq with hq|hq
  ·exact M1 hq e2 q
  ·exact U5 hq e2 q
 ·rw[decide_eq_false h0]
  k_go
  lk
  have:ys=[]:=List.length_eq_zero_iff.mp (by omega)
  subst this
  exact q
def V6(K:Fg):Sp:=fun vs H Q _=>∃ (v:V) (x:Str) (rs:List Row),vs=[v,.str x]/\Rws K H v rs/\Boo rs/\∀ (p:Addr) (H':Hp),A6 H H'->SqT K H' p (B7 (E4 rs x))->Q (.ref p) H'
def qf4(K:Fg):TS :=
 (C1 (E1 (qb5 A8) (B1 2))
 (C1 (E1 (D3 (qp1 K) [] E0 (A1 (A3 0) (A1 (A3 1) A8))) (B1 3))
 (C1 (wd7 (G0 (tOp wh5 (A3 3) (tC .non)))
 (C1 (I0 (tBM K "list" I9 (A3 2) (A1 (A3 3) A8)))
 (E1 (D3 (qp1 K) [] E0 (A1 (A3 0) (A1 (A3 3) A8))) (B1 3))))
 (L6 (tCB (qn0 K) (A1 (A3 2) A8))))))
theorem xa4(h:V6 K vs H Q E):qf4 K {nx:=fun _ H'=>Q .non H',rt:=Q} (D8 ["book","name","hosts","host"] vs) H:=by
 obtain⟨v,x,rs,rfl,hR,B,q⟩:=h
 show qf4 K _ [some v,some (.str x),none,none] H
 unfold qf4
 obtain⟨rk,f⟩:=B.rise
 lk
 refine⟨D4 (by z_go),fun d hd=>?_⟩
 lk
 refine⟨v,some x,rs,rfl,hR.same (A6.new hd _),?_⟩
 lk
 refine xv8 (fun σ H'=>∃ (n:Option Str) (ys:List Str),σ=[some v,some (.str x),some (.ref d),some (oV n)]/\A6 H H'/\H' d=some (.lst (B7 ys))/\E4 rs x=ys++(match n with|none=>[]|some y=>y::E4 rs y)/\ys.length<=12/\∀ y,n=some y->∃ x,Q4 rs (some x)=some y)
  (fun σ _=>match σ with | [_,_,_,some (.str y)]=>13-rk y|_=>0) ?_ ?_ ?_
 ·refine⟨Q4 rs (some x),[],rfl,A6.new hd _,A5,?_,Nat.zero_le _,fun y e=>⟨x,e⟩⟩
  cases e:Q4 rs (some x) with
  | none=>rw[qz1 e];rfl
  | some y=>rw[xf3 f e];rfl
 ·rintro σ H' ⟨n,ys,rfl,s1,h1,eh,hl,hn⟩
  have hlen:(E4 rs x).length<=12:=qi7 rs 12 _
  cases n with
  | none =>
    refine⟨_,rfl,rfl,_,rfl,?_⟩
    show(if(!decide (V.non=V.non))=true then _ else _)
    rw[decide_eq_true rfl,Bool.not_true];refine qk3 ?_
    lk
    refine⟨d,_,rfl,.inl ⟨SqL.of h1,fun p hp=>?_⟩⟩
    have:E4 rs x=ys:=by rw[eh];exact List.append_nil _
    exact q p _ (A6.tr s1 (A6.new hp _)) (by rw[this];exact SqT.of A5)
  | some y =>
    refine⟨_,rfl,rfl,_,rfl,?_⟩
    show(if(!decide (V.str y=V.non))=true then _ else _)
    rw[decide_eq_false (by simp),Bool.not_false];refine qr0 ?_
    have hl2:ys.length+1<=12:=by
     rw[eh,List.length_append] at hlen
     simp at hlen;omega
    lk
    refine⟨.inl ⟨rfl,_,SqL.of h1⟩,?_⟩
    lk
    refine M8 h1 (by rw[B4,sizeLine_eq];omega) ?_
    rw[show(oV (some y))=V.str y from rfl,wf0]
    lk
    refine⟨v,some y,rs,rfl,hR.same (A6.put s1 hd _),?_⟩
    lk
    refine⟨⟨Q4 rs (some y),ys++[y],rfl,A6.put s1 hd _,A5,?_,by rw[List.length_append,List.length_singleton];omega,fun z e=>⟨y,e⟩⟩,?_⟩
    ·rw[eh,List.append_assoc]
     congr 1
     cases e:Q4 rs (some y) with
     | none=>show y::E4 rs y=_;rw[qz1 e];rfl
     | some z=>show y::E4 rs y=_;rw[xf3 f e];rfl
    ·show(match [some v,some (V.str x),some (V.ref d),some (oV (Q4 rs (some y)))] with | [_,_,_,some (.str y)]=>13-rk y|_=>0)<13-rk y
     obtain⟨w,hw⟩:=hn y rfl
     have:=(f _ _ hw).2
     cases e2:Q4 rs (some y) with
     | none=>show 0<13-rk y;omega
     | some z=>have:=f y z e2;show 13-rk z<13-rk y;omega
 ·rintro σ H' Q1 Q2 hQ ⟨v1,e1,e2,k,e3,q1⟩
  exact⟨v1,e1,e2,k,e3,hQ _ _ q1⟩
def qn5(K:Fg):Sp:=fun vs H Q _=>∃ (v:V) (a:Addr) (ys:List Str) (rs:List Row),vs=[v,.ref a]/\Rws K H v rs/\Boo rs/\(SqL K H a (B7 ys)\/SqT K H a (B7 ys))/\(20<ys.length+(E4 rs (J5 ys)).length->∀ H',A6 H H'->Q .non H')/\(¬20<ys.length+(E4 rs (J5 ys)).length->∀ (p:Addr) (H':Hp),A6 H H'->SqT K H' p (B7 (E4 rs (J5 ys)))->Q (.ref p) H')
def qs0(K:Fg):TS :=
 (C1 (E1 (D3 (V6 K) [] E0 (A1 (A3 0) (A1 (D3 (O9 K) [] E0 (A1 (A3 1) A8)) A8))) (B1 2))
 (L6 (tIf (G0 (tOp wt5 (tOp (D2 K) (tCB (L5 K) (A1 (A3 1) A8)) (tCB (L5 K) (A1 (A3 2) A8))) (tC (.int 20)))) (tC .non) (A3 2))))
theorem xr6(h:qn5 K vs H Q E):qs0 K {nx:=fun _ H'=>Q .non H',rt:=Q} (D8 ["book","names","hosts"] vs) H:=by
 obtain⟨v,a,ys,rs,rfl,hR,B,hq,q1,q2⟩:=h
 show qs0 K _ [some v,some (.ref a),none] H
 unfold qs0
 lk
 refine⟨a,ys,rfl,hq,?_⟩
 lk
 refine⟨v,_,rs,rfl,hR,B,fun p H1 s1 hp=>?_⟩
 lk
 refine P7 (hq.imp s1.sqL s1.sqT) ?_
 rw[B4]
 lk
 refine P7 (.inr hp) ?_
 rw[B4]
 lk
 by_cases h:20<ys.length+(E4 rs (J5 ys)).length
 ·rw[decide_eq_true (by omega)]
  x_go
  lk
  exact q1 h _ s1
 ·rw[decide_eq_false (by omega)]
  k_go
  lk
  exact q2 h p _ s1 hp
variable{ys:List Str}
theorem xf4(k:Nat):qe7 (B7 ys) none (some ((k:Nat):Int))=B7 (ys.take k):=by
 unfold qe7
 rw[HT.qj3]
 show((B7 ys).drop 0).take (min k (B7 ys).length-0)=_
 rw[List.drop_zero,Nat.sub_zero]
 unfold B7
 rw[List.map_take,List.length_map]
 by_cases hh:k<=ys.length
 ·rw[Nat.min_eq_left hh]
 ·rw[Nat.min_eq_right (by omega),List.take_of_length_le (by rw[List.length_map];exact Nat.le_refl _),List.take_of_length_le (by rw[List.length_map];omega)]
theorem xn5(e:L3 rs (some x)=some y):∃ r∈rs,r.name=y/\r.sort=("frame":Str)/\r.host=x:=by
 unfold L3 at e
 obtain⟨r,hr,rfl⟩:=Option.map_eq_some_iff.mp e
 have hm:=List.mem_of_find?_eq_some hr
 have hp:=List.find?_some hr
 rw[Bool.and_eq_true,decide_eq_true_eq,decide_eq_true_eq] at hp
 exact⟨r,hm,rfl,hp.1,Option.some.inj hp.2⟩
def bel(rs:List Row)(rk:Str->Nat)(y x:Str):Bool:=decide (x∈ups rs (rk y) (some y))
def clo(rs:List Row)(rk:Str->Nat)(ys:List Str)(x:Str):Nat->Option Nat
 | 0=>none
 | k+1=>if gd ys k=x then some k else if V9 rs (gd ys k) && !(bel rs rk (gd ys k) x) then none else clo rs rk ys x k
def nV:Option Nat->V
 | some k=>.int (k:Int)
 | none=>.non
theorem zk2(xs:List Str):inV .non (B7 xs)=false:=by
 induction xs with
 | nil=>rfl
 | cons x l ih =>
   unfold inV at ih ⊢
   show(eqV (.str x) .non || (B7 l).any fun z=>eqV z .non)=false
   rw[ih];rfl
def qd5(K:Fg):Sp:=fun vs H Q _=>∃ v n rs,vs=[v,.str n]/\Rws K H v rs/\Q (.bl (V9 rs n)) H
def wh9(K:Fg)(c_WALL_SORTS:Addr):TS :=
 (L6 (tOp (xj2 K false) (D3 (X4 K) [] E0 (A1 (A3 0) (A1 (A3 1) A8))) (tC (.ref c_WALL_SORTS))))
theorem yh5{c_WALL_SORTS:Addr}(q_WALL_SORTS:∀ H:Hp,SqT K H c_WALL_SORTS [.str "room",.str "frame"])(h:qd5 K vs H Q E):wh9 K c_WALL_SORTS {nx:=fun _ H'=>Q .non H',rt:=Q} (D8 ["book","name"] vs) H:=by
 obtain⟨v,n,rs,rfl,hR,q⟩:=h
 show wh9 K c_WALL_SORTS _ [some v,some (.str n)] H
 unfold wh9
 lk
 refine⟨v,some n,rs,rfl,hR,?_⟩
 lk
 have hw:V9 rs n=inV (oV (J0 rs (some n))) (B7 [("room":Str),("frame":Str)]):=by
  unfold V9 J0
  cases Z0 rs (some n) with
  | none=>exact(zk2 _).symm
  | some r=>exact(qf1 _ _).symm
 refine .inl (yr2 (xs:=B7 [("room":Str),("frame":Str)]) (.inr (q_WALL_SORTS H)) ?_ (qd9 _) ?_)
 ·cases J0 rs (some n) <;> rfl
 ·rw[<-hw];exact q
def qp3(K:Fg):Sp:=fun vs H Q _=>∃ (v:V) (a:Addr) (ys:List Str) (x:Str) (rs:List Row) (rk:Str->Nat),vs=[v,.ref a,.str x]/\Rws K H v rs/\wp9 rs rk/\(SqL K H a (B7 ys)\/SqT K H a (B7 ys))/\ys.length<=1000/\Q (nV (clo rs rk ys x ys.length)) H
def wi0(K:Fg):TS :=
 (C1 (qm8 (yz3 (A1 (tOp (rI0 fun i j=>.int (i-j)) (tCB (L5 K) (A1 (A3 1) A8)) (tC (.int 1))) (A1 (tUn (rU fun i=>.int (-i)) (tC (.int 1))) (A1 (tUn (rU fun i=>.int (-i)) (tC (.int 1))) A8)))) (B1 3)
 (C1 (S3 (G0 (tOp (X3 K) (tOp (L1 K) (A3 1) (A3 3)) (A3 2)))
 (L6 (A3 3)) O8)
 (S3 (xp0 (tB (D3 (qd5 K) [] E0 (A1 (A3 0) (A1 (tOp (L1 K) (A3 1) (A3 3)) A8)))) (zf4 (tB (D3 (qy9 K) [] E0 (A1 (A3 0) (A1 (tOp (L1 K) (A3 1) (A3 3)) (A1 (A3 2) A8)))))))
 (L6 (tC .non)) O8)))
 (L6 (tC .non)))
theorem yh6(h:qp3 K vs H Q E):wi0 K {nx:=fun _ H'=>Q .non H',rt:=Q} (D8 ["book","names","name","number"] vs) H:=by
 obtain⟨v,a,ys,x,rs,rk,rfl,hR,f,hq,hl,q⟩:=h
 show wi0 K _ [some v,some (.ref a),some (.str x),none] H
 unfold wi0
 lk
 refine P7 hq ?_
 rw[B4]
 lk
 refine⟨1,rfl,?_⟩
 lk
 refine⟨1,rfl,?_⟩
 lk
 refine yz5 (by omega) (fun i σ H'=>H'=H/\(∃ w,σ=[some v,some (.ref a),some (.str x),w])/\clo rs rk ys x ys.length=clo rs rk ys x (ys.length-i)) ⟨rfl,⟨_,rfl⟩,rfl⟩ ?_ ?_
 ·rintro i σ H' hi ⟨rfl,⟨w,rfl⟩,hc⟩
  obtain⟨k,hk⟩:∃ k:Nat,ys.length-i=k+1:=⟨ys.length-i-1,by omega⟩
  have ek:(ys.length:Int)-1-(i:Int)=((k:Nat):Int):=by omega
  have hk2:ys.length-(i+1)=k:=by omega
  have ix:∀ Q':VK,Q' (.str (gd ys k)) H'->L1 K (.ref a) (.int ((k:Nat):Int)) H' Q':=fun Q' h=>by
   rcases hq with hq|hq
   ·exact M1 hq (qb2 (by omega)) h
   ·exact U5 hq (qb2 (by omega)) h
  rw[hk,clo] at hc
  rw[ek]
  lk
  refine ix _ ?_
  lk
  by_cases e:gd ys k=x
  ·rw[decide_eq_true e]
   x_go
   lk
   rw[hc,if_pos e] at q
   exact q
  ·rw [decide_eq_false e]
   k_go
   rw[if_neg e] at hc
   lk
   refine ix _ ?_
   lk
   refine⟨v,_,rs,rfl,hR,?_⟩
   lk
   cases hw:V9 rs (gd ys k) with
   | false =>
     rw[hw,Bool.false_and,if_neg Bool.false_ne_true] at hc
     k_go
     k_go
     lk
     exact⟨rfl,⟨_,rfl⟩,by rw[hk2];exact hc⟩
   | true =>
     rw[hw,Bool.true_and] at hc
     x_go
     lk
     refine ix _ ?_
     lk
     refine⟨v,_,x,rs,rk,rfl,hR,f,?_⟩
     show ∃ k_1,V.bl (bel rs rk (gd ys k) x)=V.bl k_1/\_
     lk
     cases hb:bel rs rk (gd ys k) x with
     | true =>
       rw[hb,Bool.not_true,if_neg Bool.false_ne_true] at hc
       rw[Bool.not_true]
       k_go
       lk
       exact⟨rfl,⟨_,rfl⟩,by rw[hk2];exact hc⟩
     | false =>
       rw[hb,Bool.not_false,if_pos rfl] at hc
       rw[Bool.not_false]
       x_go
       lk
       rw[hc] at q
       exact q
 ·rintro σ H' ⟨rfl,⟨w,rfl⟩,hc⟩
  lk
  rw[Nat.sub_self] at hc
  rw[hc] at q
  exact q
def qn6(rs:List Row)(x:Str):List Str:=match Z0 rs (some x) with|none=>[]|some r=>r.shuts
def wf2(rs:List Row)(x:Str):List Str:=match Z0 rs (some x) with|none=>[]|some r=>r.bars
def kpt(ys sh:List Str):Nat->Nat->Nat
 | k,0=>k
 | k,m+1=>if gd ys k∈sh then k else kpt ys sh (k+1) m
theorem za8(ys sh:List Str):∀ m k,kpt ys sh k m<=k+m
 | 0,k=>Nat.le_refl _
 | m+1,k=>by
   rw[kpt]
   split
   ·omega
   ·have:=za8 ys sh m (k+1);omega
def wz0(rs:List Row)(ys:List Str)(x:Str):Nat:=kpt ys (qn6 rs x) (ys.length-(qb8 rs ys).length) (qb8 rs ys).length
def ql5(rs:List Row)(ys:List Str)(x:Str):Nat×List Str:=if E4 rs (J5 ys)=[] then(wz0 rs ys x,[x]) else(ys.length,E4 rs (J5 ys)++[x])
def wq6(rs:List Row)(rk:Str->Nat)(ys:List Str)(rec:Str->Nat×List Str)(x:Str):Nat×List Str :=
 match L3 rs (some x) with
 | none=>ql5 rs ys x
 | some y=>match clo rs rk ys y ys.length with
   | some k=>(k+1,[x])
   | none=>((rec y).1,(rec y).2++[x])
def M9(rs:List Row)(rk:Str->Nat)(ys:List Str):Nat->Str->Nat×List Str
 | 0=>wq6 rs rk ys fun _=>(0,[])
 | n+1=>wq6 rs rk ys (M9 rs rk ys n)
theorem xf5{rs:List Row}{rk:Str->Nat}{ys:List Str}{x:Str}:∀ {m k:Nat},clo rs rk ys x m=some k->k<m
 | 0,k,h=>by cases h
 | m+1,k,h=>by
   rw[clo] at h
   split at h
   ·injection h with h;omega
   ·split at h
    ·cases h
    ·have:=xf5 h;omega
theorem qw4 {rs:List Row} (B:Boo rs):∀ (m:Nat) (n:Option Str),∀ z∈downs rs m n,∃ r∈rs,r.name=z
 | 0,_,z,h=>by cases h
 | m + 1,n,z,h=>by
   rw[downs] at h
   split at h
   ·cases h
   ·rename_i y e
    rcases List.mem_cons.mp h with h|h
    ·subst h
     unfold Q4 at e
     cases er:Z0 rs n with
     | none=>rw[er] at e;cases e
     | some r =>
       rw[er] at e
       have hr:r∈rs:=List.mem_of_find?_eq_some er
       by_cases hf:r.sort=("frame":Str)
       ·have e:some r.host=some z:=by simpa [hf] using e
        injection e with e
        obtain⟨rk,_,h2⟩:=B.rk
        obtain⟨⟨r',hr',en,_⟩,_⟩:=h2 r hr hf
        exact⟨r',hr',by rw[en,e]⟩
       ·simp[hf] at e
    ·exact qw4 B m _ z h
structure Wok(rs:List Row)(ys:List Str)(n:Nat)(w:Nat×List Str):Prop where
 k:w.1<=ys.length
 m:∀ z∈w.2,∃ r∈rs,r.name=z
 l:w.2.length<=13+n
theorem za9(rs:List Row)(ys:List Str)(x:Str):wz0 rs ys x<=ys.length:=by
 have:=za8 ys (qn6 rs x) (qb8 rs ys).length (ys.length-(qb8 rs ys).length)
 have:=qw3 rs ys.length ys rfl
 unfold wz0
 omega
theorem zb0(B:Boo rs)(hx:∃ r∈rs,r.name=x)(n:Nat):Wok rs ys n (ql5 rs ys x):=by
 unfold ql5
 split
 ·exact⟨za9 rs ys x,fun z hz=>by rw[List.mem_singleton.mp hz];exact hx,by simp;omega⟩
 ·refine⟨Nat.le_refl _,fun z hz=>?_,?_⟩
  ·rcases List.mem_append.mp hz with h|h
   ·exact qw4 B 12 _ z h
   ·rw[List.mem_singleton.mp h];exact hx
  ·show(E4 rs (J5 ys)++[x]).length<=_
   rw[List.length_append,List.length_singleton]
   have:(E4 rs (J5 ys)).length<=12:=qi7 rs 12 _
   omega
theorem wi1 {rs:List Row} (B:Boo rs) {rk:Str->Nat} (f:wp9 rs rk) {ys:List Str}:∀ (n:Nat) (x:Str),(∃ r∈rs,r.name=x)->rk x<=n->Wok rs ys n (M9 rs rk ys n x)
 | n, x, hx,hn=>by
   have go:∀ rec:Str->Nat×List Str,(∀ y,L3 rs (some x)=some y->∃ m,n=m+1/\Wok rs ys m (rec y))->Wok rs ys n (wq6 rs rk ys rec x):=by
    intro rec hrec
    unfold wq6
    cases e:L3 rs (some x) with
    | none=>exact zb0 B hx n
    | some y =>
      dsimp only
      cases ec:clo rs rk ys y ys.length with
      | some k =>
        have:=xf5 ec
        exact⟨by show k+1<=_;omega,fun z hz=>by rw[List.mem_singleton.mp hz];exact hx,by simp;omega⟩
      | none =>
        obtain⟨m,rfl,w⟩:=hrec y e
        refine⟨w.k,fun z hz=>?_,?_⟩
        ·rcases List.mem_append.mp hz with h|h
         ·exact w.m z h
         ·rw[List.mem_singleton.mp h];exact hx
        ·show((rec y).2++[x]).length<=_
         rw[List.length_append,List.length_singleton];have:=w.l;omega
   cases n with
   | zero=>exact go _ fun y e=>absurd (f x y e) (by omega)
   | succ m=>exact go _ fun y e=>⟨m,rfl,wi1 B f m y (let ⟨r,h1,h2,_⟩:=xn5 e;⟨r,h1,h2⟩) (by have:=f x y e;omega)⟩
def bar(rs:List Row):List Str->List Str->Bool
 | _,[]=>false
 | there,x::xs=>(qb8 rs there).any (fun y=>decide (y∈wf2 rs x)) || bar rs (there++[x]) xs
def xf6(rs:List Row)(rk:Str->Nat)(ys:List Str)(x:Str):PyData :=
 if bar rs (ys.take (M9 rs rk ys 13 x).1) (M9 rs rk ys 13 x).2=true then .tuple [.str "drop",.str "barred"]
 else if 20<(M9 rs rk ys 13 x).1+(M9 rs rk ys 13 x).2.length then .tuple [.str "drop",.str "deep"]
 else .tuple [.str "open",.int (M9 rs rk ys 13 x).1,.tuple (sDa (M9 rs rk ys 13 x).2)]
def qi8(K:Fg):Sp:=fun vs H Q _=>∃ v a ys rs,vs=[v,.ref a]/\Rws K H v rs/\SqT K H a (B7 ys)/\ys.length<=1000/\∀ p H',A6 H H'->SqT K H' p (B7 (qb8 rs ys))->Q (.ref p) H'
def wi2(K:Fg):TS :=
 (C1 (E1 (tC (.int 0)) (B1 2))
 (C1 (qm8 (xq8 K (A1 (A3 1) A8)) (yd2 K 2 (qr4 (B1 3) (qr4 (B1 4) yd1)))
 (S3 (tB (D3 (qd5 K) [] E0 (A1 (A3 0) (A1 (A3 4) A8))))
 (E1 (tOp (qw0 K) (A3 3) (tC (.int 1))) (B1 2)) O8))
 (L6 (tCB (qn0 K) (A1 (tSl (yg4 K) (A3 1) (W1 (A3 2)) qc3) A8)))))
theorem yh7(h:qi8 K vs H Q E):wi2 K {nx:=fun _ H'=>Q .non H',rt:=Q} (D8 ["book","names","start","number","name"] vs) H:=by
 obtain⟨v,a,ys,rs,rfl,hR,hq,hl,q⟩:=h
 show wi2 K _ [some v,some (.ref a),none,none,none] H
 unfold wi2
 lk
 refine xn3 hq (fun i σ H'=>A6 H H'/\∃ (st:Nat) (a3 a4:Option V),σ=[some v,some (.ref a),some (.int st),a3,a4]/\st<=i/\qb8 rs (ys.take i)=(ys.take i).drop st) ⟨A6.refl _,0,none,none,rfl,Nat.le_refl _,rfl⟩ (fun i σ H' p=>p.1.sqT hq) ?_ ?_
 ·rintro i x σ H' p hx ⟨s1,st,a3,a4,rfl,hst,hnr⟩ hp
  obtain⟨y,hy,rfl⟩:=V5 hx
  have il:=(List.getElem?_eq_some_iff.mp hy).1
  have etk:ys.take (i+1)=ys.take i++[y]:=by rw[List.take_add_one,hy];rfl
  have s2:A6 H (upd H' p (.tup [.int (i:Int),.str y])):=A6.tr s1 (A6.new hp _)
  refine⟨p,_,rfl,SqT.of A5,rfl,_,_,rfl,E5 ⟨_,_,rfl,E5 ⟨rfl,?_⟩⟩⟩
  lk
  refine⟨v,y,rs,rfl,hR.same s2,?_⟩
  lk
  cases hw:V9 rs y with
  | true =>
    x_go
    lk
    refine .inl (xd8 ?_)
    lk
    refine⟨s2,i+1,_,_,rfl,Nat.le_refl _,?_⟩
    rw[etk,wu5,if_pos hw,List.drop_eq_nil_of_le (by rw[List.length_append,List.length_take,List.length_singleton];omega)]
  | false =>
    k_go
    lk
    refine⟨s2,st,_,_,rfl,by omega,?_⟩
    rw[etk,wu5,if_neg (by rw[hw];exact Bool.false_ne_true),hnr,List.drop_append_of_le_length (by rw[List.length_take];omega)]
 ·rintro σ H' ⟨s1,st,a3,a4,rfl,hst,hnr⟩
  rw[B4,List.take_length] at hnr
  lk
  refine xx7 (s1.sqT hq) fun p H2 s2 hp=>?_
  have e:qe7 (B7 ys) (some (st:Int)) none=B7 (qb8 rs ys):=by
   unfold qe7
   rw[HT.qj3]
   show((B7 ys).drop (min st (B7 ys).length)).take ((B7 ys).length-min st (B7 ys).length)=_
   rw[B4] at hst ⊢
   rw[Nat.min_eq_left hst,List.take_of_length_le (by rw[List.length_drop,B4];exact Nat.le_refl _),hnr]
   unfold B7
   rw[List.map_drop]
  rw[e] at hp
  lk
  refine⟨p,_,rfl,.inr ⟨hp,?_⟩⟩
  exact q p H2 (A6.tr s1 s2) hp
def V7(K:Fg):Sp:=fun vs H Q _=>∃ (a b:Addr) (ys zs:List Str),vs=[.ref a,.ref b]/\SqT K H a (B7 ys)/\SqT K H b (B7 zs)/\ys.length<=1000/\∀ H',A6 H H'->Q (.bl (ys.any fun y=>decide (y∈zs))) H'
def qf5(K:Fg):TS :=
 (L6 (tCB (yz2 K) (A1 (wk0 [some 1,none] (wj0 K (A3 0)) (B1 1) tTT (tOp (xj2 K false) (A3 1) (A3 0))) A8)))
theorem xa5(h:V7 K vs H Q E):qf5 K {nx:=fun _ H'=>Q .non H',rt:=Q} (D8 ["names","others"] vs) H:=by
 obtain⟨a,b,ys,zs,rfl,ha,hb,hl,q⟩:=h
 show qf5 K _ [some (.ref a),some (.ref b)] H
 unfold qf5
 lk
 refine ys8 (H0:=H) (.inr ha) (A6.refl _) (fun i us H'=>H'=H/\us=((ys.take i).map fun y=>decide (y∈zs)).map V.bl) ⟨rfl,rfl⟩ ?_ (fun i us H' p=>p.1▸A6.refl _) ?_ ?_
 ·rintro i us H' hi ⟨_,rfl⟩
  rw[List.length_map,List.length_map,List.length_take];exact D4 (by omega)
 ·rintro i x us H' hx ⟨rfl,rfl⟩
  obtain⟨y,hy,rfl⟩:=V5 hx
  lk
  refine .inl (yr2 (.inr hb) rfl (qd9 _) ?_)
  rw[qf1]
  refine⟨rfl,?_⟩
  rw[List.take_add_one,hy]
  simp
 ·rintro us H' ⟨rfl,rfl⟩ p hp
  rw[B4,List.take_length]
  lk
  refine Aa1 (SqL.of A5) ?_
  rw[List.any_map]
  exact q _ (A6.new hp _)
def Y3(K:Fg):Sp:=fun vs H Q _=>∃ v a ys x rs,vs=[v,.ref a,.str x]/\Rws K H v rs/\SqT K H a (B7 ys)/\ys.length<=1000/\(∃ r∈rs,Row.name r=x)/\∀ H',A6 H H'->Q (.int (wz0 rs ys x)) H'
def qc7(K:Fg):TS :=
 (C1 (E1 (tOp (L1 K) (D3 (qd7 K) [] E0 (A1 (A3 0) (A1 (A3 2) A8))) (tC (.int 3))) (B1 3))
 (C1 (E1 (tOp (rI0 fun i j=>.int (i-j)) (tCB (L5 K) (A1 (A3 1) A8)) (tCB (L5 K) (A1 (D3 (qi8 K) [] E0 (A1 (A3 0) (A1 (A3 1) A8))) A8))) (B1 4))
 (C1 (qm8 (yv1 (A1 (A3 4) (A1 (tCB (L5 K) (A1 (A3 1) A8)) A8))) (B1 5)
 (S3 (G0 (tOp (xj2 K false) (tOp (L1 K) (A3 1) (A3 5)) (A3 3)))
 (L6 (A3 5)) O8))
 (L6 (tCB (L5 K) (A1 (A3 1) A8))))))
theorem wu8(h:Y3 K vs H Q E):qc7 K {nx:=fun _ H'=>Q .non H',rt:=Q} (D8 ["book","names","name","shuts","first_near","number"] vs) H:=by
 obtain⟨v,a,ys,x,rs,rfl,hR,hq,hl,hx,q⟩:=h
 show qc7 K _ [some v,some (.ref a),some (.str x),none,none,none] H
 unfold qc7
 obtain⟨r,er,mr,nr⟩:=yh4 hx
 have hsh:qn6 rs x=r.shuts:=by unfold qn6;rw[er]
 lk
 refine⟨v,some x,rs,rfl,hR,fun e=>(by rw[er] at e;cases e),fun r2 u e hu=>?_⟩
 rw[er] at e
 injection e with e
 subst e
 obtain⟨b,ps,pb,rfl,hb,h1,h2⟩:=xr5 hu
 lk
 refine U5 hb rfl ?_
 lk
 refine P7 (.inr hq) ?_
 rw[B4]
 lk
 refine⟨v,a,ys,rs,rfl,hR,hq,hl,fun p H1 s1 hp=>?_⟩
 have nl:=qw3 rs ys.length ys rfl
 lk
 refine P7 (.inr hp) ?_
 rw[B4]
 lk
 refine P7 (.inr (s1.sqT hq)) ?_
 rw[B4]
 have e1:(ys.length:Int)-((qb8 rs ys).length:Int)=((ys.length-(qb8 rs ys).length:Nat):Int):=by omega
 rw[e1]
 refine yx5 (by omega) (by omega) (by omega) (fun i σ H'=>H'=H1/\(∃ w,σ=[some v,some (.ref a),some (.str x),some (.ref ps),some (.int ((ys.length-(qb8 rs ys).length:Nat):Int)),w])/\wz0 rs ys x=kpt ys r.shuts (ys.length-(qb8 rs ys).length+i) ((qb8 rs ys).length-i)) ⟨rfl,⟨_,rfl⟩,by unfold wz0;rw[hsh];rfl⟩ ?_ ?_
 ·rintro i σ H' hi ⟨rfl,⟨w,rfl⟩,hk⟩
  obtain⟨m,hm⟩:∃ m:Nat,(qb8 rs ys).length-i=m+1:=⟨(qb8 rs ys).length-i-1,by omega⟩
  have e2:((ys.length-(qb8 rs ys).length:Nat):Int)+(i:Int)=((ys.length-(qb8 rs ys).length+i:Nat):Int):=by omega
  rw[hm,kpt] at hk
  rw[e2]
  lk
  refine U5 (s1.sqT hq) (qb2 (by omega)) ?_
  lk
  refine .inl (yr2 (.inr (s1.sqT h1)) rfl (qd9 _) ?_)
  rw[qf1]
  lk
  by_cases hs:gd ys (ys.length-(qb8 rs ys).length+i)∈r.shuts
  ·rw[decide_eq_true hs]
   x_go
   lk
   rw[if_pos hs] at hk
   rw[hk] at q
   exact q _ s1
  ·rw[decide_eq_false hs]
   k_go
   lk
   rw[if_neg hs] at hk
   exact⟨rfl,⟨_,rfl⟩,by rw[hk,show(qb8 rs ys).length-(i+1)=m by omega];rfl⟩
 ·rintro σ H' ⟨rfl,⟨w,rfl⟩,hk⟩
  lk
  refine P7 (.inr (s1.sqT hq)) ?_
  rw[B4]
  have e3:(((ys.length:Int)-((ys.length-(qb8 rs ys).length:Nat):Int))).toNat=(qb8 rs ys).length:=by omega
  rw[e3,Nat.sub_self,kpt,show ys.length-(qb8 rs ys).length+(qb8 rs ys).length=ys.length by omega] at hk
  rw[hk] at q
  exact q _ s1
def qn7(K:Fg):Sp:=fun vs H Q _=>∃ v a b ks ps rs,vs=[v,.ref a,.ref b]/\Rws K H v rs/\SqT K H a (B7 ks)/\SqT K H b (B7 ps)/\ks.length<=100/\ps.length<=100/\(∀ z∈ps,∃ r∈rs,Row.name r=z)/\∀ H',A6 H H'->Q (.bl (bar rs ks ps)) H'
def qs1(K:Fg):TS :=
 (C1 (qm8 (xq8 K (A1 (A3 2) A8)) (yd2 K 2 (qr4 (B1 3) (qr4 (B1 4) yd1)))
 (C1 (E1 (D3 (qi8 K) [] E0 (A1 (A3 0) (A1 (tOp (qw0 K) (A3 1) (tSl (yg4 K) (A3 2) qc3 (W1 (A3 3)))) A8))) (B1 5))
 (S3 (tB (D3 (V7 K) [] E0 (A1 (A3 5) (A1 (tOp (L1 K) (D3 (qd7 K) [] E0 (A1 (A3 0) (A1 (A3 4) A8))) (tC (.int 4))) A8))))
 (L6 (tC (.bl true))) O8)))
 (L6 (tC (.bl false))))
theorem xr7(h:qn7 K vs H Q E):qs1 K {nx:=fun _ H'=>Q .non H',rt:=Q} (D8 ["book","kept","put","number","name","near"] vs) H:=by
 obtain⟨v,a,b,ks,ps,rs,rfl,hR,ha,hb,hlk,hlp,hps,q⟩:=h
 show qs1 K _ [some v,some (.ref a),some (.ref b),none,none,none] H
 unfold qs1
 lk
 refine xn3 hb (fun i σ H'=>A6 H H'/\∃ (a3 a4 a5:Option V),σ=[some v,some (.ref a),some (.ref b),a3,a4,a5]/\bar rs ks ps=bar rs (ks++ps.take i) (ps.drop i)) ⟨A6.refl _,none,none,none,rfl,by simp⟩ (fun i σ H' p=>p.1.sqT hb) ?_ ?_
 ·rintro i x σ H' p hx ⟨s1,a3,a4,a5,rfl,hbr⟩ hp
  obtain⟨y,hy,rfl⟩:=V5 hx
  have il:=(List.getElem?_eq_some_iff.mp hy).1
  have etk:ps.take (i+1)=ps.take i++[y]:=by rw[List.take_add_one,hy];rfl
  have edr:ps.drop i=y::ps.drop (i+1):=by
   obtain⟨hil,he⟩:=List.getElem?_eq_some_iff.mp hy
   rw[List.drop_eq_getElem_cons hil,he]
  rw[edr,bar] at hbr
  have s2:A6 H (upd H' p (.tup [.int (i:Int),.str y])):=A6.tr s1 (A6.new hp _)
  obtain⟨r,er,mr,nr⟩:=yh4 (hps y (List.mem_of_getElem? hy))
  have hba:wf2 rs y=r.bars:=by unfold wf2;rw[er]
  refine⟨p,_,rfl,SqT.of A5,rfl,_,_,rfl,E5 ⟨_,_,rfl,E5 ⟨rfl,?_⟩⟩⟩
  lk
  refine xx7 (s2.sqT hb) fun p3 H3 s3 hp3=>?_
  rw[xf4] at hp3
  have s23:=A6.tr s2 s3
  refine wm3 (s23.sqT ha) hp3 (by rw[B4,B4,List.length_take];exact D4 (by omega)) fun p4 H4 s4 hp4=>?_
  have e4:B7 ks++B7 (ps.take i)=B7 (ks++ps.take i):=by simp[B7]
  rw[e4] at hp4
  have s24:=A6.tr s23 s4
  lk
  refine⟨v,p4,ks++ps.take i,rs,rfl,hR.same s24,hp4,by rw[List.length_append,List.length_take];omega,fun p5 H5 s5 hp5=>?_⟩
  have s25:=A6.tr s24 s5
  have nl:=qw3 rs _ (ks++ps.take i) rfl
  rw[List.length_append,List.length_take] at nl
  lk
  refine⟨v,some y,rs,rfl,hR.same s25,fun e=>(by rw[er] at e;cases e),fun r2 u e hu=>?_⟩
  rw[er] at e
  injection e with e
  subst e
  obtain⟨b6,p6,p7,rfl,hb6,_,h7⟩:=xr5 hu
  lk
  refine U5 hb6 rfl ?_
  lk
  refine⟨p5,p7,qb8 rs (ks++ps.take i),r.bars,rfl,hp5,h7,by omega,fun H8 s8=>?_⟩
  have s28:=A6.tr s25 s8
  lk
  rw[hba] at hbr
  cases hc:(qb8 rs (ks++ps.take i)).any (fun z=>decide (z∈r.bars)) with
  | true =>
    x_go
    lk
    rw[hc,Bool.true_or] at hbr
    rw[hbr] at q
    exact q _ s28
  | false =>
    k_go
    lk
    rw[hc,Bool.false_or] at hbr
    exact⟨s28,_,_,_,rfl,by rw[hbr,etk,List.append_assoc]⟩
 ·rintro σ H' ⟨s1,a3,a4,a5,rfl,hbr⟩
  lk
  rw[B4,List.drop_length,bar] at hbr
  rw[hbr] at q
  exact q _ s1
def U9(K:Fg):Sp:=fun vs H Q _=>∃ v a ys x rs,vs=[v,.ref a,.str x]/\Rws K H v rs/\Boo rs/\SqT K H a (B7 ys)/\ys.length<=1000/\(∃ r∈rs,Row.name r=x)/\∀ p p2 H',A6 H H'->SqT K H' p [.int (ql5 rs ys x).1,.ref p2]->SqT K H' p2 (B7 (ql5 rs ys x).2)->Q (.ref p) H'
def W2(K:Fg):TS :=
 (C1 (E1 (D3 (V6 K) [] E0 (A1 (A3 0) (A1 (D3 (O9 K) [] E0 (A1 (A3 1) A8)) A8))) (B1 3))
 (C1 (S3 (G0 (tOp wt5 (tCB (L5 K) (A1 (A3 3) A8)) (tC (.int 0))))
 (L6 (M5 (A1 (tCB (L5 K) (A1 (A3 1) A8)) (A1 (tOp (qw0 K) (A3 3) (M5 (A1 (A3 2) A8))) A8)))) O8)
 (L6 (M5 (A1 (D3 (Y3 K) [] E0 (A1 (A3 0) (A1 (A3 1) (A1 (A3 2) A8)))) (A1 (M5 (A1 (A3 2) A8)) A8))))))
theorem wm9(h:U9 K vs H Q E):W2 K {nx:=fun _ H'=>Q .non H',rt:=Q} (D8 ["book","names","name","hosts"] vs) H:=by
 obtain⟨v,a,ys,x,rs,rfl,hR,B,hq,hl,hx,q⟩:=h
 show W2 K _ [some v,some (.ref a),some (.str x),none] H
 unfold W2
 lk
 refine⟨a,ys,rfl,.inr hq,?_⟩
 lk
 refine⟨v,_,rs,rfl,hR,B,fun p H1 s1 hp=>?_⟩
 have hlen:(E4 rs (J5 ys)).length<=12:=qi7 rs 12 _
 lk
 refine P7 (.inr hp) ?_
 rw[B4]
 lk
 by_cases h0:E4 rs (J5 ys)=[]
 ·rw[decide_eq_false (by rw[h0];simp)]
  k_go
  have eg:ql5 rs ys x=(wz0 rs ys x,[x]):=by unfold ql5;rw[if_pos h0]
  lk
  refine⟨v,a,ys,x,rs,rfl,hR.same s1,s1.sqT hq,hl,hx,fun H2 s2=>?_⟩
  lk
  refine⟨D4 (by z_go),fun p3 hp3=>?_⟩
  lk
  refine⟨D4 (by z_go),fun p4 hp4=>?_⟩
  rw[eg] at q
  exact q p4 p3 _ (A6.tr s1 (A6.tr s2 (A6.tr (A6.new hp3 _) (A6.new hp4 _)))) (SqT.of A5) ((A6.new hp4 _).sqT (SqT.of A5))
 ·rw[decide_eq_true (by have:=List.length_pos_iff.mpr h0;omega)]
  x_go
  have eg:ql5 rs ys x=(ys.length,E4 rs (J5 ys)++[x]):=by unfold ql5;rw[if_neg h0]
  lk
  refine P7 (.inr (s1.sqT hq)) ?_
  rw[B4]
  lk
  refine⟨D4 (by z_go),fun p3 hp3=>?_⟩
  refine wm3 ((A6.new hp3 _).sqT hp) (SqT.of A5) (by rw[B4];exact D4 (by simp;omega)) fun p4 H4 s4 hp4=>?_
  rw[wf0] at hp4
  lk
  refine⟨D4 (by z_go),fun p5 hp5=>?_⟩
  rw[eg] at q
  exact q p5 p4 _ (A6.tr s1 (A6.tr (A6.new hp3 _) (A6.tr s4 (A6.new hp5 _)))) (SqT.of A5) ((A6.new hp5 _).sqT hp4)
def qp4(n:Nat)(K:Fg):Sp:=fun vs H Q _=>∃ v a ys x rs rk,vs=[v,.ref a,.str x]/\Rws K H v rs/\Boo rs/\wp9 rs rk/\SqT K H a (B7 ys)/\ys.length<=1000/\(∃ r∈rs,Row.name r=x)/\rk x<=n/\n<=50/\∀ p p2 H',A6 H H'->SqT K H' p [.int (M9 rs rk ys n x).1,.ref p2]->SqT K H' p2 (B7 (M9 rs rk ys n x).2)->Q (.ref p) H'
def xn6(K:Fg):Sp:=qp4 13 K
def qk5(K:Fg):Nat->Sp
 | 0=>fun _ _ _ _=>False
 | n+1=>qp4 n K
def wf3(K:Fg)(spr:Sp):TS :=
 (C1 (E1 (D3 (qd8 K) [] E0 (A1 (A3 0) (A1 (A3 2) A8))) (B1 3))
 (C1 (S3 (G0 (tOp xw7 (A3 3) (tC .non)))
 (L6 (D3 (U9 K) [] E0 (A1 (A3 0) (A1 (A3 1) (A1 (A3 2) A8))))) O8)
 (C1 (E1 (D3 (qp3 K) [] E0 (A1 (A3 0) (A1 (A3 1) (A1 (A3 3) A8)))) (B1 4))
 (C1 (S3 (G0 (tOp wh5 (A3 4) (tC .non)))
 (L6 (M5 (A1 (tOp (qw0 K) (A3 4) (tC (.int 1))) (A1 (M5 (A1 (A3 2) A8)) A8)))) O8)
 (C1 (E1 (D3 spr [] E0 (A1 (A3 0) (A1 (A3 1) (A1 (A3 3) A8)))) (B1 5))
 (L6 (M5 (A1 (tOp (L1 K) (A3 5) (tC (.int 0))) (A1 (tOp (qw0 K) (tOp (L1 K) (A3 5) (tC (.int 1))) (M5 (A1 (A3 2) A8))) A8)))))))))
theorem xn7(n:Nat)(h:qp4 n K vs H Q E):wf3 K (qk5 K n) {nx:=fun _ H'=>Q .non H',rt:=Q} (D8 ["book","names","name","frame","number","plan"] vs) H:=by
 obtain⟨v,a,ys,x,rs,rk,rfl,hR,B,f,hq,hl,hx,hn,hn50,q⟩:=h
 show wf3 K _ _ [some v,some (.ref a),some (.str x),none,none,none] H
 unfold wf3
 have ew:∃ rec,M9 rs rk ys n x=wq6 rs rk ys rec x/\∀ m,n=m+1->rec=M9 rs rk ys m:=by
  cases n with
  | zero=>exact⟨_,rfl,fun m h=>by cases h⟩
  | succ m=>exact⟨_,rfl,fun k h=>by injection h with h;rw[h]⟩
 obtain⟨rec,ew,hrec⟩:=ew
 rw[ew] at q
 unfold wq6 at q
 lk
 refine⟨v,some x,rs,rfl,hR,?_⟩
 lk
 cases ef:L3 rs (some x) with
 | none =>
   rw[ef] at q
   dsimp only at q
   rw[decide_eq_true (show oV none=V.non from rfl)]
   x_go
   lk
   exact⟨v,a,ys,x,rs,rfl,hR,B,hq,hl,hx,q⟩
 | some y =>
   rw[ef] at q
   dsimp only at q
   have hyx:=f x y ef
   obtain⟨ry,my,ny,_⟩:=xn5 ef
   rw[decide_eq_false (show ¬oV (some y)=V.non by simp[oV])]
   k_go
   lk
   refine⟨v,a,ys,y,rs,rk,rfl,hR,f,.inr hq,hl,?_⟩
   lk
   cases ec:clo rs rk ys y ys.length with
   | some k =>
     rw[ec] at q
     dsimp only at q
     rw[decide_eq_false (show ¬nV (some k)=V.non by simp[nV]),Bool.not_false]
     x_go
     lk
     refine .inl (xd8 ?_)
     lk
     refine⟨D4 (by z_go),fun p3 hp3=>?_⟩
     lk
     refine⟨D4 (by z_go),fun p4 hp4=>?_⟩
     exact q p4 p3 _ (A6.tr (A6.new hp3 _) (A6.new hp4 _)) (SqT.of A5) ((A6.new hp4 _).sqT (SqT.of A5))
   | none =>
     rw[ec] at q
     dsimp only at q
     rw[decide_eq_true (show nV none=V.non from rfl),Bool.not_true]
     k_go
     obtain⟨m,rfl⟩:∃ m,n=m+1:=⟨n-1,by omega⟩
     rw[hrec m rfl] at q
     have wk:=wi1 B f (ys:=ys) m y ⟨ry,my,ny⟩ (by omega)
     lk
     refine⟨v,a,ys,y,rs,rk,rfl,hR,B,f,hq,hl,⟨ry,my,ny⟩,by omega,by omega,fun p p2 H1 s1 hp hp2=>?_⟩
     lk
     refine U5 hp rfl ?_
     lk
     refine U5 hp rfl ?_
     lk
     refine⟨D4 (by z_go),fun p3 hp3=>?_⟩
     refine wm3 ((A6.new hp3 _).sqT hp2) (SqT.of A5) (by rw[B4];exact D4 (by have:=wk.l;simp;omega)) fun p4 H4 s4 hp4=>?_
     rw[wf0] at hp4
     lk
     refine⟨D4 (by z_go),fun p5 hp5=>?_⟩
     exact q p5 p4 _ (A6.tr s1 (A6.tr (A6.new hp3 _) (A6.tr s4 (A6.new hp5 _)))) (SqT.of A5) ((A6.new hp5 _).sqT hp4)
def qz2(K:Fg):Sp:=fun vs H Q _=>∃ v a ys x rs rk,vs=[v,.ref a,.str x]/\Rws K H v rs/\Boo rs/\wp9 rs rk/\SqT K H a (B7 ys)/\ys.length<=50/\(∃ r∈rs,Row.name r=x)/\rk x<=13/\∀ p H',A6 H H'->Dv K H' (xf6 rs rk ys x) (.ref p)->Q (.ref p) H'
def wi3(K:Fg):TS :=
 (C1 (E1 (D3 (xn6 K) [] E0 (A1 (A3 0) (A1 (A3 1) (A1 (A3 2) A8)))) (B1 3))
 (C1 (E1 (tCB (qn0 K) (A1 (tSl (yg4 K) (A3 1) qc3 (W1 (tOp (L1 K) (A3 3) (tC (.int 0))))) A8)) (B1 4))
 (C1 (E1 (tOp (L1 K) (A3 3) (tC (.int 1))) (B1 5))
 (C1 (S3 (tB (D3 (qn7 K) [] E0 (A1 (A3 0) (A1 (A3 4) (A1 (A3 5) A8)))))
 (L6 (M5 (A1 (tC (.str "drop")) (A1 (tC (.str "barred")) A8)))) O8)
 (C1 (S3 (G0 (tOp wt5 (tOp (qw0 K) (tCB (L5 K) (A1 (A3 4) A8)) (tCB (L5 K) (A1 (A3 5) A8))) (tC (.int 20))))
 (L6 (M5 (A1 (tC (.str "drop")) (A1 (tC (.str "deep")) A8)))) O8)
 (L6 (M5 (A1 (tC (.str "open")) (A1 (tCB (L5 K) (A1 (A3 4) A8)) (A1 (A3 5) A8))))))))))
theorem yh8(h:qz2 K vs H Q E):wi3 K {nx:=fun _ H'=>Q .non H',rt:=Q} (D8 ["book","names","name","plan","kept","put"] vs) H:=by
 obtain⟨v,a,ys,x,rs,rk,rfl,hR,B,f,hq,hl,hx,hn,q⟩:=h
 show wi3 K _ [some v,some (.ref a),some (.str x),none,none,none] H
 unfold wi3
 have wk:=wi1 B f (ys:=ys) 13 x hx hn
 lk
 refine⟨v,a,ys,x,rs,rk,rfl,hR,B,f,hq,by omega,hx,hn,by decide,fun p p2 H1 s1 hp hp2=>?_⟩
 have wkk:=wk.k
 have wkl:=wk.l
 have il:(ys.take (M9 rs rk ys 13 x).1).length=(M9 rs rk ys 13 x).1:=by rw[List.length_take];omega
 unfold xf6 at q
 generalize M9 rs rk ys 13 x=W at *
 lk
 refine U5 hp rfl ?_
 lk
 refine xx7 (s1.sqT hq) fun p3 H3 s3 hp3=>?_
 rw[xf4] at hp3
 lk
 refine⟨p3,_,rfl,.inr ⟨hp3,?_⟩⟩
 lk
 refine U5 (s3.sqT hp) rfl ?_
 lk
 refine⟨v,p3,p2,_,_,rs,rfl,hR.same (A6.tr s1 s3),hp3,s3.sqT hp2,by omega,by omega,wk.m,fun H4 s4=>?_⟩
 have s14:=A6.tr s1 (A6.tr s3 s4)
 lk
 cases hb:bar rs (ys.take W.1) W.2 with
 | true =>
   rw[hb,if_pos rfl] at q
   x_go
   lk
   refine⟨D4 (by z_go),fun p5 hp5=>?_⟩
   exact q p5 _ (A6.tr s14 (A6.new hp5 _)) (D7.mpr ⟨p5,_,rfl,SqT.of A5,C3 (E6.mpr rfl) (C3 (E6.mpr rfl) J4)⟩)
 | false =>
   rw[hb,if_neg Bool.false_ne_true] at q
   k_go
   lk
   refine P7 (.inr (s4.sqT hp3)) ?_
   rw[B4,il]
   lk
   refine P7 (.inr ((A6.tr s3 s4).sqT hp2)) ?_
   rw[B4]
   refine .inl (xd8 ?_)
   lk
   by_cases h20:20<W.1+W.2.length
   ·rw[if_pos h20] at q
    rw[decide_eq_true (by omega)]
    x_go
    lk
    refine⟨D4 (by z_go),fun p5 hp5=>?_⟩
    exact q p5 _ (A6.tr s14 (A6.new hp5 _)) (D7.mpr ⟨p5,_,rfl,SqT.of A5,C3 (E6.mpr rfl) (C3 (E6.mpr rfl) J4)⟩)
   ·rw[if_neg h20] at q
    rw[decide_eq_false (by omega)]
    k_go
    lk
    refine P7 (.inr (s4.sqT hp3)) ?_
    rw[B4,il]
    lk
    refine⟨D4 (by z_go),fun p5 hp5=>?_⟩
    have s5:=A6.new hp5 (.tup [.str "open",.int (W.1:Int),.ref p2])
    exact q p5 _ (A6.tr s14 s5) (D7.mpr ⟨p5,_,rfl,SqT.of A5,C3 (E6.mpr rfl) (C3 (O6.mpr rfl) (C3 (D7.mpr ⟨p2,_,rfl,(A6.tr (A6.tr s3 s4) s5).sqT hp2,qr8.mpr rfl⟩) J4))⟩)
namespace TX
open PySem PySem.StrLaws PySem.Builtin PySem.Builtin.Str
def rep(Y Z:List Nat):Nat->List Nat->List Nat
 | _,[]=>[]
 | k+1,_::l=>rep Y Z k l
 | 0,c::l=>if Y.isPrefixOf (c::l)=true then Z++rep Y Z (Y.length-1) l else c::rep Y Z 0 l
theorem xz7(Y Z:List Nat):∀ (k:Nat) (l:List Nat),rep Y Z k l=rep Y Z 0 (l.drop k)
 | 0,l=>by simp
 | k+1,[]=>by simp[rep]
 | k+1,_::l=>by rw[rep,xz7 Y Z k l];simp
theorem rep_yes{Y Z l:List Nat}(h0:1<=Y.length)(h:Y <+: l):rep Y Z 0 l=Z++rep Y Z 0 (l.drop Y.length):=by
 cases l with
 | nil=>rw[List.prefix_nil] at h;subst h;simp at h0
 | cons c l =>
   rw[rep,if_pos (List.isPrefixOf_iff_prefix.mpr h),xz7]
   congr 2
   cases Y with
   | nil=>simp at h0
   | cons y Y=>simp
theorem rep_no{Y Z l:List Nat}{c:Nat}(h:¬Y <+: c::l):rep Y Z 0 (c::l)=c::rep Y Z 0 l:=by
 rw[rep,if_neg (by rw[List.isPrefixOf_iff_prefix];exact h)]
theorem xz8{Y Z:List Nat}:∀ (l:List Nat),(∀ j,j<l.length->¬Y <+: l.drop j)->rep Y Z 0 l=l
 | [],_=>rfl
 | c::l,h=>by
   rw[rep_no (h 0 (by simp)),xz8 l fun j hj=>by have:=h (j+1) (by simpa using hj);simpa using this]
theorem zb1{Y Z:List Nat}(h0:1<=Y.length):∀ (d:Nat) (l:List Nat),(∀ j,j<d->¬Y <+: l.drop j)->Y <+: l.drop d->rep Y Z 0 l=l.take d++Z++rep Y Z 0 (l.drop (d+Y.length))
 | 0,l,_,h=>by simpa using rep_yes h0 (by simpa using h)
 | d+1,[],_,h=>by rw[List.drop_nil,List.prefix_nil] at h;subst h;simp at h0
 | d+1,c::l,hn,h=>by
   rw[rep_no (hn 0 (by omega)),zb1 h0 d l (fun j hj=>by have:=hn (j+1) (by omega);simpa using this) (by simpa using h)]
   have e:d+1+Y.length=(d+Y.length)+1:=by omega
   rw[e]
   simp
theorem yh9{x y:Str}(h0:1<=y.length)(k:Nat):At x y x.length k↔y.cps.toList <+: x.cps.toList.drop k:=by
 have hn:x.cps.toList.length=x.length:=by simp[Str.length]
 have hy:y.cps.toList.length=y.length:=by simp[Str.length]
 unfold At
 rw[subAt_eq,beq_iff_eq,List.prefix_iff_eq_take,hy]
 constructor
 ·rintro⟨_,h⟩;exact h.symm
 ·intro h
  refine⟨?_,h.symm⟩
  have:=congrArg List.length h
  rw[List.length_take,List.length_drop,hy,hn] at this
  omega
theorem zb2(sep a y:Str)(r:List Str):Str.join sep (a::y::r)=a++sep++Str.join sep (y::r):=by
 rfl
theorem xn8{x y z:Str}(h0:1<=y.length):∀ (cuts:List Nat) (a f:Nat),ChainG x y x.length a cuts f->(∀ k,f<=k->¬At x y x.length k) ->
 (Str.join z (partsFrom x y.length a cuts)).cps.toList=rep y.cps.toList z.cps.toList 0 (x.cps.toList.drop a)
 | [],a,f,h,hn=>by
   have e:f=a:=h
   subst e
   have hx:x.cps.toList.length=x.length:=by simp[Str.length]
   rw[xz8 _ fun j hj hp=>hn (f+j) (by omega) ((yh9 h0 _).mpr (by rw[<-List.drop_drop];exact hp))]
   show(strSub x f x.length).cps.toList=_
   rw[strSub_toList,List.take_of_length_le (by rw[List.length_drop,hx];exact Nat.le_refl _)]
 | c::r,a,f,h,hn=>by
   obtain⟨h1,h2,h3,h4⟩:=h
   have hy:y.cps.toList.length=y.length:=by simp[Str.length]
   have hp:y.cps.toList <+: (x.cps.toList.drop a).drop (c-a):=by
    rw[List.drop_drop,show a+(c-a)=c by omega]
    exact(yh9 h0 c).mp h2
   rw[zb1 (by rw[hy];exact h0) (c-a) _ (fun j hj hq=>h3 (a+j) (by omega) (by omega) ((yh9 h0 _).mpr (by rw[<-List.drop_drop];exact hq))) hp]
   rw[List.drop_drop,hy,show a+(c-a+y.length)=c+y.length by omega,<-xn8 h0 r (c+y.length) f h4 hn]
   obtain⟨p,q,e⟩:=partsFrom_ne x y.length (c+y.length) r
   show(Str.join z (strSub x a c::partsFrom x y.length (c+y.length) r)).cps.toList=_
   rw[e,zb2]
   simp only[Str.cps_append,Array.toList_append,strSub_toList]
theorem replace_rep(x y z:Str)(h0:1<=y.length):(Txt.replace x y z).cps.toList=rep y.cps.toList z.cps.toList 0 x.cps.toList:=by
 obtain⟨f,h1,h2⟩:=occ_tight x y h0
 have hy:(y.length == 0)=false:=by simp;omega
 have key:=xn8 (z:=z) h0 _ 0 f h1 h2
 rw[List.drop_zero] at key
 unfold Txt.replace
 rw[hy,Bool.false_and,Bool.or_false]
 cases ho:occurrences x y 0 x.length (x.length+1) with
 | nil =>
   rw[if_pos (by simp),<-key,ho]
   show _=(strSub x 0 x.length).cps.toList
   rw[sub_whole]
 | cons c r =>
   rw[if_neg (by simp),glued_eq_join,partsBetween_eq,<-ho,key]
abbrev El:List Nat:=[38,108,59]
abbrev Ea:List Nat:=[38,97,59]
def told:Nat->List Nat->List Nat
 | _,[]=>[]
 | k+1,_::l=>told k l
 | 0,c::l=>if El.isPrefixOf (c::l)=true then 60::told 2 l else if Ea.isPrefixOf (c::l)=true then 38::told 2 l else c::told 0 l
theorem wu9:∀ (k:Nat) (l:List Nat),told k l=told 0 (l.drop k)
 | 0,l=>by simp
 | k+1,[]=>by simp[told]
 | k+1,_::l=>by rw[told,wu9 k l];simp
theorem zu3{l:List Nat}:told 0 (38::108::59::l)=60::told 0 l:=by
 rw[told,if_pos (by simp[List.isPrefixOf]),wu9];rfl
theorem zu4{l:List Nat}:told 0 (38::97::59::l)=38::told 0 l:=by
 rw[told,if_neg (by simp[List.isPrefixOf]),if_pos (by simp[List.isPrefixOf]),wu9];rfl
theorem told_n{c:Nat}{l:List Nat}(h1:¬El <+: c::l)(h2:¬Ea <+: c::l):told 0 (c::l)=c::told 0 l:=by
 rw[told,if_neg (by rw[List.isPrefixOf_iff_prefix];exact h1),if_neg (by rw[List.isPrefixOf_iff_prefix];exact h2)]
theorem yt1{a b c:Nat}{l:List Nat}:[a,b,c] <+: l↔∃ r,l=a::b::c::r:=by
 constructor
 ·rintro⟨r,e⟩;exact⟨r,e.symm⟩
 ·rintro⟨r,rfl⟩;exact⟨r,rfl⟩
theorem ne_pre{a b c d:Nat}{l:List Nat}(h:d≠a):¬[a,b,c] <+: d::l:=by
 rw[yt1];rintro⟨r,e⟩;injection e with e _;exact h e
theorem xz9{c:Nat}{l r:List Nat}(hc:c≠60)(h:rep El [60] 0 l=c::r):∃ l',l=c::l'/\r=rep El [60] 0 l':=by
 cases l with
 | nil=>cases h
 | cons d l =>
   by_cases hp:El <+: d::l
   ·rw[rep_yes (by simp) hp] at h
    injection h with e _
    exact absurd e.symm hc
   ·rw[rep_no hp] at h
    injection h with e1 e2
    subst e1
    exact⟨l,rfl,e2.symm⟩
theorem two_reps:∀ (n:Nat) (l:List Nat),l.length<=n->rep Ea [38] 0 (rep El [60] 0 l)=told 0 l
 | _,[],_=>rfl
 | 0,_::_,h=>by simp at h
 | n + 1,c::l,h=>by
   have h:l.length<=n:=by simpa using h
   by_cases h1:El <+: c::l
   ·obtain⟨r,e⟩:=yt1.mp h1
    rw[e] at h1 ⊢
    have hr:r.length<=n:=by
     injection e with _ e
     rw[e] at h
     simp at h;omega
    rw[rep_yes (by simp) h1,zu3]
    show rep Ea [38] 0 (60::rep El [60] 0 r)=_
    rw[rep_no (ne_pre (by decide)),two_reps n r hr]
   ·rw[rep_no h1]
    by_cases h2:Ea <+: c::l
    ·obtain⟨r,e⟩:=yt1.mp h2
     have hr:r.length<=n:=by
      injection e with _ e
      rw[e] at h
      simp at h;omega
     injection e with ec e
     subst ec e
     rw[zu4,rep_no (Y:=El) (Z:=[60]) (c:=97) (l:=59::r) (ne_pre (by decide)),rep_no (Y:=El) (Z:=[60]) (c:=59) (l:=r) (ne_pre (by decide)),rep_yes (Y:=Ea) (Z:=[38]) (by simp) (yt1.mpr ⟨_,rfl⟩)]
     show 38::rep Ea [38] 0 (rep El [60] 0 r)=_
     rw[two_reps n r hr]
    ·rw[told_n h1 h2,rep_no fun hp=>?_,two_reps n l h]
     obtain⟨r,e⟩:=yt1.mp hp
     injection e with ec e
     obtain⟨l',rfl,e2⟩:=xz9 (by decide) e
     obtain⟨l'',rfl,e3⟩:=xz9 (by decide) e2.symm
     subst ec
     exact h2 (yt1.mpr ⟨l'',rfl⟩)
end TX
namespace TX
open PySem
def letter(c:Nat):Bool:=decide (97<=c) && decide (c<=122)
def nm(d:List Nat):Option Nat:=if 1<=(d.takeWhile letter).length/\(d.takeWhile letter).length<=8/\d[(d.takeWhile letter).length]?=some 62 then some (d.takeWhile letter).length else none
def nst(l:List Nat)(k:Nat):Nat:=if l[k+1]?=some 47 then k+2 else k+1
def tagAt(l:List Nat)(k:Nat):Option (Nat×Nat):=if l[k]?=some 60 then(nm (l.drop (nst l k))).map fun n=>(nst l k,nst l k+n+1) else none
theorem nst_gt(l:List Nat)(k:Nat):k<nst l k:=by unfold nst;split <;> omega
theorem zb3{p:Nat->Bool}:∀ (d:List Nat) (n:Nat),(∀ i,i<n->∃ c,d[i]?=some c/\p c=true)->(∀ c,d[n]?=some c->p c=false)->(d.takeWhile p).length=n
 | [],0,_,_=>rfl
 | [],n+1,h,_=>by obtain⟨c,e,_⟩:=h 0 (by omega);simp at e
 | c::d,0,_,h=>by rw[List.takeWhile_cons,h c rfl];rfl
 | c::d,n+1,h,h2=>by
   obtain⟨c',e,hc⟩:=h 0 (by omega)
   have:c=c':=by simpa using e
   subst this
   rw[List.takeWhile_cons,hc]
   simp only[if_true,List.length_cons]
   rw[zb3 d n (fun i hi=>by have:=h (i+1) (by omega);simpa using this) (fun c e=>h2 c (by simpa using e))]
theorem zb4{p:Nat->Bool}:∀ (d:List Nat) (i:Nat),i<(d.takeWhile p).length->∃ c,d[i]?=some c/\p c=true
 | [],i,h=>by simp at h
 | c::d,0,h=>by
   rw[List.takeWhile_cons] at h
   cases hc:p c with
   | true=>exact⟨c,rfl,hc⟩
   | false=>rw[hc] at h;simp at h
 | c::d,i+1,h=>by
   rw[List.takeWhile_cons] at h
   cases hc:p c with
   | true=>rw[hc] at h;simp at h;obtain⟨c',e,h'⟩:=zb4 d i h;exact⟨c',by simpa using e,h'⟩
   | false=>rw[hc] at h;simp at h
theorem yi0:letter 62=false:=by decide
theorem nm_iff{d:List Nat}{n:Nat}:nm d=some n↔1<=n/\n<=8/\(∀ i,i<n->∃ c,d[i]?=some c/\letter c=true)/\d[n]?=some 62:=by
 constructor
 ·intro h
  unfold nm at h
  split at h
  ·rename_i hc
   have e:(d.takeWhile letter).length=n:=by simpa using h
   rw[e] at hc
   exact⟨hc.1,hc.2.1,fun i hi=>zb4 d i (by rw[e];exact hi),hc.2.2⟩
  ·cases h
 ·rintro⟨h1,h2,h3,h4⟩
  have e:(d.takeWhile letter).length=n:=zb3 d n h3 fun c e=>by rw[h4] at e;cases e;exact yi0
  unfold nm
  rw[e,if_pos ⟨h1,h2,h4⟩]
theorem tagAt_gt{l:List Nat}{k f e:Nat}(h:tagAt l k=some (f,e)):k<e/\e<=l.length/\f=nst l k/\f<e-1/\l[k]?=some 60/\nm (l.drop f)=some (e-1-f):=by
 unfold tagAt at h
 split at h
 ·rename_i h60
  obtain⟨n,hn,e1⟩:=Option.map_eq_some_iff.mp h
  injection e1 with ef ee
  subst ef ee
  obtain⟨h1,h2,h3,h4⟩:=nm_iff.mp hn
  have:=nst_gt l k
  rw[List.getElem?_drop] at h4
  have:=(List.getElem?_eq_some_iff.mp h4).1
  exact⟨by omega,by omega,rfl,by omega,h60,by rw[hn];congr 1;omega⟩
 ·cases h
def ofL(xs:List Nat):Str:=⟨xs.toArray⟩
def runD(l:List Nat)(a b:Nat):PyData:=.tuple [.str "run",.int a,.int b,.str (ofL (told 0 ((l.drop a).take (b-a))))]
def tagD(l:List Nat)(k f e:Nat):PyData:=.tuple [.str (if f=k+1 then "open" else "close"),.int k,.int e,.str (ofL ((l.drop f).take (e-1-f)))]
def runs(l:List Nat)(a b:Nat):List PyData:=if a<b then[runD l a b] else[]
def cutAt(l:List Nat):Nat->Nat->Nat->List PyData
 | 0,_,s=>runs l s l.length
 | n+1,k,s=>if l.length<=k then runs l s l.length else match tagAt l k with
   | none=>cutAt l n (k+1) s
   | some (f,e)=>runs l s k++tagD l k f e::cutAt l n e e
def toks(l:List Nat)(k s:Nat):List PyData:=cutAt l (l.length-k) k s
theorem qz3(l:List Nat):∀ (n m k s:Nat),l.length-k<=n->n<=m->cutAt l m k s=cutAt l n k s
 | 0,0,_,_,_,_=>rfl
 | 0,m+1,k,s,h,_=>by show(if l.length<=k then _ else _)=runs l s l.length;rw[if_pos (by omega)]
 | n+1,0,_,_,_,h=>by omega
 | n+1,m+1,k,s,h,hm=>by
   rw[cutAt,cutAt]
   split
   ·rfl
   ·cases ht:tagAt l k with
    | none=>exact qz3 l n m (k+1) s (by omega) (by omega)
    | some fe =>
      obtain⟨f,e⟩:=fe
      have:=(tagAt_gt ht).1
      show _++_::cutAt l m e e=_++_::cutAt l n e e
      rw[qz3 l n m e e (by omega) (by omega)]
theorem toks_end{l:List Nat}{k s:Nat}(h:l.length<=k):toks l k s=runs l s l.length:=by
 unfold toks
 rw[show l.length-k=0 by omega];rfl
theorem toks_none{l:List Nat}{k s:Nat}(h:k<l.length)(ht:tagAt l k=none):toks l k s=toks l (k+1) s:=by
 unfold toks
 obtain⟨n,hn⟩:∃ n,l.length-k=n+1:=⟨l.length-k-1,by omega⟩
 rw[hn,cutAt,if_neg (by omega),ht]
 exact(qz3 l _ _ _ _ (by omega) (by omega))
theorem toks_some{l:List Nat}{k s f e:Nat}(ht:tagAt l k=some (f,e)):toks l k s=runs l s k++tagD l k f e::toks l e e:=by
 obtain⟨h1,h2,_⟩:=tagAt_gt ht
 unfold toks
 obtain⟨n,hn⟩:∃ n,l.length-k=n+1:=⟨l.length-k-1,by omega⟩
 rw[hn,cutAt,if_neg (by omega),ht]
 show _++_::cutAt l n e e=_
 rw[qz3 l (l.length-e) n e e (by omega) (by omega)]
theorem toks_skip{l:List Nat}{s:Nat}:∀ (d k:Nat),k+d<=l.length->(∀ j,k<=j->j<k+d->l[j]?≠some 60)->toks l k s=toks l (k+d) s
 | 0,k,_,_=>rfl
 | d+1,k,h,hn=>by
   rw[toks_none (by omega) (by unfold tagAt;rw[if_neg (hn k (Nat.le_refl _) (by omega))]),toks_skip d (k+1) (by omega) fun j h1 h2=>hn j (by omega) (by omega)]
   congr 1;omega
end TX
theorem A6.refl(H:Hp):A6 H H:=fun _ _ e=>e
theorem W3(x y:Str):x=y↔x.cps.toList=y.cps.toList:=⟨fun e=>by rw[e],fun e=>PySem.Str.ext' (Array.toList_inj.mp e)⟩
variable{z:Str}
theorem qz4{a b:Int}{i:Nat}(ha:a=(i:Int))(hb:b=(j:Int)):(qf0 z (some a) (some b)).cps.toList=(z.cps.toList.drop i).take (j-i):=by
 subst ha hb
 unfold qf0
 rw[HT.qj3,HT.qj3]
 show(z.cps.toList.drop (min i z.cps.toList.length)).take _=_
 by_cases hi:i<=z.cps.toList.length
 ·rw[Nat.min_eq_left hi]
  by_cases hj:j<=z.cps.toList.length
  ·rw[Nat.min_eq_left hj]
  ·rw[Nat.min_eq_right (by omega),List.take_of_length_le (by rw[List.length_drop];exact Nat.le_refl _),List.take_of_length_le (by rw[List.length_drop];omega)]
 ·rw[Nat.min_eq_right (Nat.le_of_lt (Nat.lt_of_not_le hi)),List.drop_eq_nil_of_le (Nat.le_refl _),List.drop_eq_nil_of_le (Nat.le_of_lt (Nat.lt_of_not_le hi))]
  simp
theorem xc0(Y Z:List Nat):∀ (k:Nat) (l:List Nat),(TX.rep Y Z k l).length<=l.length*(Z.length+1)
 | _,[]=>by simp[TX.rep]
 | k+1,_::l=>by
   rw[TX.rep,List.length_cons,Nat.succ_mul]
   exact Nat.le_trans (xc0 Y Z k l) (Nat.le_add_right _ _)
 | 0,c::l=>by
   have h1:=xc0 Y Z (Y.length-1) l
   have h2:=xc0 Y Z 0 l
   rw[TX.rep,List.length_cons,Nat.succ_mul]
   split
   ·rw[List.length_append];omega
   ·rw[List.length_cons];omega
theorem ya0(x y z:Str)(h0:1<=y.length):(PySem.Txt.replace x y z).length<=x.length*(z.length+1):=by
 have e:=TX.replace_rep x y z h0
 have h:=xc0 y.cps.toList z.cps.toList 0 x.cps.toList
 rw[<-e,Array.length_toList,Array.length_toList,Array.length_toList] at h
 exact h
def ya1(l:List Nat)(i:Nat):Bool:=decide (l[i]?=some 60) || (decide (l[i]?=some 38) && (!decide ((l.drop (i+1)).take 2=[108,59]) && !decide ((l.drop (i+1)).take 2=[97,59])))
def qe0(l:List Nat)(i:Nat):List Nat:=(List.range i).filter (ya1 l)
theorem yi1(l:List Nat)(i:Nat):qe0 l (i+1)=if ya1 l i=true then qe0 l i++[i] else qe0 l i:=by
 unfold qe0
 rw[List.range_succ,List.filter_append]
 by_cases h:ya1 l i=true
 ·rw[if_pos h];simp[h]
 ·rw[if_neg h];simp[h]
theorem wv0(l:List Nat)(i:Nat):(qe0 l i).length<=i:=by
 unfold qe0
 exact Nat.le_trans (List.length_filter_le _ _) (Nat.le_of_eq (List.length_range))
variable{l:List Nat}
theorem wv1{i:Nat}(h:l[i]?=some c):l.drop i=c::l.drop (i+1):=by
 obtain⟨hi,e⟩:=List.getElem?_eq_some_iff.mp h
 rw[List.drop_eq_getElem_cons hi,e]
theorem zk3{i:Nat}{a b:Int}(h:z.cps.toList[i]?=some c)(ha:a=(i:Int))(hb:b=((i+3:Nat):Int)) :
 (decide ((⟨#[c]⟩:Str)∈(["<","&"]:List Str)) && !decide (qf0 z (some a) (some b)∈(["&l;","&a;"]:List Str)))=ya1 z.cps.toList i:=by
 have e:=qz4 (z:=z) ha hb
 rw[show i+3-i=3 by omega,wv1 h,List.take_succ_cons] at e
 have e1:(⟨#[c]⟩:Str) = "<"↔c=60:=by
  rw[W3];show[c]=[60]↔_;simp
 have e2:(⟨#[c]⟩:Str) = "&"↔c=38:=by
  rw[W3];show[c]=[38]↔_;simp
 have e3:qf0 z (some a) (some b) = "&l;"↔c=38/\(z.cps.toList.drop (i+1)).take 2=[108,59]:=by
  rw[W3,e];show c::_=[38,108,59]↔_;simp
 have e4:qf0 z (some a) (some b) = "&a;"↔c=38/\(z.cps.toList.drop (i+1)).take 2=[97,59]:=by
  rw[W3,e];show c::_=[38,97,59]↔_;simp
 unfold ya1
 rw[h]
 simp only[List.mem_cons,List.not_mem_nil,or_false,e1,e2,e3,e4,Option.some.injEq]
 by_cases h1:c=60
 ·subst h1;simp
 ·by_cases h2:c=38
  ·subst h2;simp
  ·simp[h1,h2]
def qz5(K:Fg):Sp:=fun vs H Q _=>∃ z:Str,vs=[.str z]/\z.length<=100000/\∀ w:Str,w.cps.toList=TX.told 0 z.cps.toList->Q (.str w) H
def wi4(K:Fg):TS :=
 (L6 (xm9 (xm9 (A3 0) ("&l;":Str) ("<":Str)) ("&a;":Str) ("&":Str)))
theorem yi2(h:qz5 K vs H Q E):wi4 K {nx:=fun _ H'=>Q .non H',rt:=Q} (D8 ["run"] vs) H:=by
 obtain⟨z,rfl,hz,q⟩:=h
 show wi4 K _ [some (.str z)] H
 unfold wi4
 lk
 refine⟨z,rfl,by omega,?_⟩
 have l1:=ya0 z "&l;" "<" (by decide)
 rw[show("<":Str).length=1 from rfl] at l1
 refine⟨_,rfl,by omega,?_⟩
 refine q _ ?_
 rw[TX.replace_rep _ _ _ (by decide),TX.replace_rep _ _ _ (by decide)]
 exact TX.two_reps _ _ (Nat.le_refl _)
def qn8(K:Fg):Sp:=fun vs H Q _=>∃ z:Str,vs=[.str z]/\z.length<=100000/\∀ (p:Addr) (H':Hp),A6 H H'->H p=none->H' p=some (.lst (xz0 (qe0 z.cps.toList z.cps.toList.length)))->Q (.ref p) H'
def qs2(K:Fg)(c_TOLD_FOR:Addr)(c_ESCAPED:Addr):TS :=
 (L6 (wk0 [some 0,none,none] (yg1 (A1 (A3 0) A8)) (yd2 K 2 (qr4 (B1 1) (qr4 (B1 2) yd1))) (xp0 (G0 (tOp (xj2 K false) (A3 2) (tC (.ref c_ESCAPED)))) (G0 (tOp (xj2 K true) (tSl (wm2 K) (A3 0) (W1 (A3 1)) (W1 (tOp (D2 K) (A3 1) (tC (.int 3))))) (tC (.ref c_TOLD_FOR))))) (A3 1)))
variable{c_ESCAPED:Addr}
theorem xr8{c_TOLD_FOR:Addr}(q_TOLD_FOR:∀ H:Hp,SqT K H c_TOLD_FOR [.str "&l;",.str "&a;"])(q_ESCAPED:∀ H:Hp,SqT K H c_ESCAPED [.str "<",.str "&"])(h:qn8 K vs H Q E):qs2 K c_TOLD_FOR c_ESCAPED {nx:=fun _ H'=>Q .non H',rt:=Q} (D8 ["run"] vs) H:=by
 obtain⟨z,rfl,hz,q⟩:=h
 show qs2 K _ _ _ [some (.str z)] H
 unfold qs2
 lk
 have hl:z.cps.toList.length=z.cps.size:=Array.length_toList
 have hz':z.cps.size<=100000:=hz
 refine yg2 (fun i ys H'=>A6 H H'/\ys=xz0 (qe0 z.cps.toList i)) ⟨A6.refl H,rfl⟩ ?_ ?_ ?_
 ·rintro i ys H' hi ⟨_,rfl⟩
  have:=wv0 z.cps.toList i
  rw[xz0,List.length_map]
  exact D4 (by omega)
 ·rintro i c p ys H' hc hp ⟨hs,rfl⟩
  refine⟨p,_,rfl,SqT.of A5,rfl,_,_,rfl,E5 ⟨_,_,rfl,E5 ⟨rfl,?_⟩⟩⟩
  have hs2:A6 H (upd H' p (.tup [.int i,.str ⟨#[c]⟩])):=A6.tr hs (A6.new hp _)
  lk
  refine .inl (yr2 (xs:=B7 ["<","&"]) (.inr (q_ESCAPED _)) rfl (qd9 _) ?_)
  rw[qf1]
  lk
  have key:=zk3 hc (a:=(i:Int)) (b:=(i:Int)+3) rfl (by omega)
  simp only[PAt]
  rw[yi1]
  by_cases h1:(⟨#[c]⟩:Str)∈(["<","&"]:List Str)
  ·rw[decide_eq_true h1];refine qr0 ?_
   rw[decide_eq_true h1,Bool.true_and] at key
   lk
   refine xn0 (D4 hz) ?_
   lk
   refine .inl (yl6 (xs:=B7 ["&l;","&a;"]) (.inr (q_TOLD_FOR _)) rfl (qd9 _) ?_)
   rw[qf1,key]
   lk
   by_cases h2:ya1 z.cps.toList i=true
   ·rw[h2];refine qr0 ?_
    rw[if_pos rfl]
    lk
    exact⟨hs2,by simp[xz0]⟩
   ·rw[Bool.eq_false_iff.mpr h2];refine qk3 ?_
    rw[if_neg Bool.false_ne_true]
    exact⟨hs2,rfl⟩
  ·rw[decide_eq_false h1];refine qk3 ?_
   rw[decide_eq_false h1,Bool.false_and] at key
   rw[<-key]
   k_go
   rw[if_neg Bool.false_ne_true]
   exact⟨hs2,rfl⟩
 ·rintro ys H' ⟨hs,rfl⟩ p hp
  refine q p _ (A6.tr hs (A6.new hp _)) ?_ ?_
  ·cases e:H p with
   | none=>rfl
   | some u=>rw[hs _ _ e] at hp;cases hp
  ·rw[hl];exact A5
section
open PySem.StrLaws PySem.Builtin.Str
theorem xc1{n:Nat}(h:i=(k:Int)):fromIndex n i=k:=by
 subst h;unfold fromIndex
 rw[if_neg (by omega)];omega
theorem yi3(x:Str)(c hi i:Nat)(hh:hi<=x.length):At x ⟨#[c]⟩ hi i↔i<hi/\x.cps.toList[i]?=some c:=by
 have h:=subAt_one x c i
 have e:(⟨#[c]⟩:Str).length=1:=rfl
 unfold At
 rw[e] at h ⊢
 constructor
 ·rintro⟨a,b⟩;exact⟨by omega,h.mp ⟨by omega,b⟩⟩
 ·rintro⟨a,b⟩;exact⟨by omega,(h.mpr b).2⟩
theorem zk4{lo n a:Nat}{pre post:List Nat}(e:List.range' lo n=pre++a::post):lo<=a/\a<lo+n/\∀ k,lo<=k->k<a->k∈pre:=by
 have h:=range'_split_from e
 have:a∈List.range' lo n:=by rw[e];simp
 have:=List.mem_range'_1.mp this
 exact⟨h.1,this.2,h.2⟩
theorem zb5(x:Str)(c lo hi:Nat)(hh:hi<=x.length) :
 (occurrences x ⟨#[c]⟩ lo hi 1=[]/\∀ i,lo<=i->i<hi->x.cps.toList[i]?≠some c) \/
 ∃ i r,occurrences x ⟨#[c]⟩ lo hi 1=i::r/\lo<=i/\i<hi/\x.cps.toList[i]?=some c/\∀ k,lo<=k->k<i->x.cps.toList[k]?≠some c:=by
 have go:=occ_first x ⟨#[c]⟩ hi 1 (Nat.le_refl 1) (List.range' lo (hi+1-lo)) lo (fun i hi'=>(List.mem_range'_1.mp hi').1)
 rw[occ_eq]
 rcases go with⟨e,hn⟩|⟨pre,a,post,e,h0,ha,hn⟩
 ·refine .inl ⟨by rw[e],fun i h1 h2 hc=>?_⟩
  exact hn i (List.mem_range'_1.mpr ⟨h1,by omega⟩) ((yi3 x c hi i hh).mpr ⟨h2,hc⟩)
 ·obtain⟨s1,s2,s3⟩:=zk4 e
  obtain⟨a1,a2⟩:=(yi3 x c hi a hh).mp ha
  generalize (forIn (List.range' lo (hi+1-lo)) ((#[]:Array Nat),lo) (occBody x ⟨#[c]⟩ hi 1)).run.fst=arr at h0 ⊢
  have g0:arr.toList[0]?=some a:=by rw[<-h0];simp
  refine .inr ⟨a,arr.toList.tail,?_,s1,a1,a2,fun k k1 k2 hc=>hn k (s3 k k1 k2) ((yi3 x c hi k hh).mpr ⟨by omega,hc⟩)⟩
  cases hL:arr.toList with
  | nil=>rw[hL] at g0;cases g0
  | cons b t=>rw[hL] at g0;simp at g0;rw[g0];rfl
theorem zb6{j:Int}{f g:Nat}(hi:i=(f:Int))(hj:j=(g:Int)) :
 (xn1 z ⟨#[c]⟩ i j=-1/\∀ k,f<=k->k<g->z.cps.toList[k]?≠some c) \/
 ∃ k:Nat,xn1 z ⟨#[c]⟩ i j=(k:Int)/\f<=k/\k<g/\z.cps.toList[k]?=some c/\∀ m,f<=m->m<k->z.cps.toList[m]?≠some c:=by
 have hl:z.cps.toList.length=z.length:=Array.length_toList
 unfold xn1
 rw[xc1 hi,xc1 hj]
 rcases zb5 z c f (min g z.length) (Nat.min_le_right _ _) with⟨e,hn⟩|⟨k,r,e,h1,h2,h3,h4⟩
 ·rw[e]
  refine .inl ⟨rfl,fun k k1 k2 hc=>?_⟩
  have:=(List.getElem?_eq_some_iff.mp hc).1
  exact hn k k1 (by omega) hc
 ·rw[e];exact .inr ⟨k,rfl,h1,by omega,h3,h4⟩
theorem zb7{f:Nat}(hi:i=(f:Int)) :
 (PySem.Txt.find3 z ⟨#[c]⟩ i=-1/\∀ k,f<=k->z.cps.toList[k]?≠some c) \/
 ∃ k:Nat,PySem.Txt.find3 z ⟨#[c]⟩ i=(k:Int)/\f<=k/\z.cps.toList[k]?=some c/\∀ m,f<=m->m<k->z.cps.toList[m]?≠some c:=by
 have hl:z.cps.toList.length=z.length:=Array.length_toList
 unfold PySem.Txt.find3
 rw[xc1 hi]
 rcases zb5 z c f z.length (Nat.le_refl _) with⟨e,hn⟩|⟨k,r,e,h1,h2,h3,h4⟩
 ·rw[e]
  refine .inl ⟨rfl,fun k k1 hc=>?_⟩
  have:=(List.getElem?_eq_some_iff.mp hc).1
  exact hn k k1 (by omega) hc
 ·rw[e];exact .inr ⟨k,rfl,h1,h3,h4⟩
theorem yt2(hi:i=(k:Int))(h:z.cps.toList[k]?=some 60):PySem.Txt.startswith3 z "</" i=decide (z.cps.toList[k+1]?=some 47):=by
 have hl:z.cps.toList.length=z.length:=Array.length_toList
 unfold PySem.Txt.startswith3
 rw[xc1 hi,subAt_eq]
 show(decide (k+2<=z.length) && ((z.cps.toList.drop k).take 2 == [60,47]))=_
 rw[wv1 h]
 have hk:=(List.getElem?_eq_some_iff.mp h).1
 cases h2:z.cps.toList[k+1]? with
 | none =>
   have:z.cps.toList.length<=k+1:=List.getElem?_eq_none_iff.mp h2
   rw[decide_eq_false (by omega)];rfl
 | some c =>
   have:=(List.getElem?_eq_some_iff.mp h2).1
   rw[decide_eq_true (by omega),wv1 h2]
   by_cases e:c=47 <;> simp[e]
def Q5(K:Fg):Sp:=fun vs H Q _=>∃ z:Str,vs=[.str z]/\z.length<=100000/\∀ H',A6 H H'->Q (.bl (decide (1<=z.length) && (decide (z.length<=8) && z.cps.toList.all TX.letter))) H'
def R1(K:Fg):TS :=
 (L6 (yj7 (xp3 yf5 yf5 (tC (.int 1)) (tCB (L5 K) (A1 (A3 0) A8)) (tC (.int 8))) (tCB (yz1 K) (A1 (wk0 [none] (zi5 (A3 0)) (B1 0) tTT (xp3 yf5 yf5 (tC (.str "a")) (A3 0) (tC (.str "z")))) A8))))
theorem qz6(h:Q5 K vs H Q E):R1 K {nx:=fun _ H'=>Q .non H',rt:=Q} (D8 ["word"] vs) H:=by
 obtain⟨z,rfl,hz,q⟩:=h
 show R1 K _ [some (.str z)] H
 unfold R1
 lk
 refine yf8 (D4 hz) ?_
 lk
 by_cases h1:(1:Int)<=z.length
 ·rw [decide_eq_true h1]
  x_go
  rw[decide_eq_true (by omega:1<=z.length),Bool.true_and] at q
  lk
  by_cases h2:(z.length:Int)<=8
  ·rw[decide_eq_true h2]
   x_go
   rw[decide_eq_true (by omega:z.length<=8),Bool.true_and] at q
   lk
   have hl:z.cps.toList.length=z.cps.size:=Array.length_toList
   refine xx6 (fun i ys H'=>H'=H/\ys=((z.cps.toList.take i).map TX.letter).map V.bl) ⟨rfl,rfl⟩ ?_ ?_ ?_
   ·rintro i ys H' hi ⟨_,rfl⟩
    rw[List.length_map,List.length_map,List.length_take]
    exact D4 (by have:z.cps.size<=100000:=hz;omega)
   ·rintro i c ys H' hc ⟨rfl,rfl⟩
    have tk:z.cps.toList.take (i+1)=z.cps.toList.take i++[c]:=by rw[List.take_add_one,hc];rfl
    lk
    refine zn4 ?_
    have e1:(!decide ((⟨#[c]⟩:Str).cps.toList<("a":Str).cps.toList))=decide (97<=c):=by
     show(!decide ([c] < [97]))=_
     rw[lt_cons_cons,lt_nil_nil,Bool.and_false,Bool.or_false]
     by_cases h:97<=c
     ·rw[decide_eq_true h,decide_eq_false (by omega)];rfl
     ·rw[decide_eq_false h,decide_eq_true (by omega)];rfl
    have e2:(!decide (("z":Str).cps.toList<(⟨#[c]⟩:Str).cps.toList))=decide (c<=122):=by
     show(!decide ([122] < [c]))=_
     rw[lt_cons_cons,lt_nil_nil,Bool.and_false,Bool.or_false]
     by_cases h:c<=122
     ·rw[decide_eq_true h,decide_eq_false (by omega)];rfl
     ·rw[decide_eq_false h,decide_eq_true (by omega)];rfl
    rw[e1]
    refine⟨_,rfl,?_⟩
    by_cases hc1:97<=c
    ·rw[decide_eq_true hc1];refine qr0 ?_
     lk
     refine zn4 ?_
     rw[e2]
     exact⟨rfl,by rw[tk];simp[TX.letter,hc1]⟩
    ·rw[decide_eq_false hc1];refine qk3 ?_
     exact⟨rfl,by rw[tk];simp[TX.letter,hc1]⟩
   ·rintro ys H' ⟨rfl,rfl⟩ p hp
    lk
    refine Aa0 (SqL.of A5) ?_
    rw[<-hl,List.take_length]
    have e:(z.cps.toList.map TX.letter).all id=z.cps.toList.all TX.letter:=by rw[List.all_map];rfl
    rw[e]
    exact q _ (A6.new hp _)
  ·rw[decide_eq_false h2]
   k_go
   rw[decide_eq_false (by omega:¬z.length<=8),Bool.false_and] at q
   exact q _ (A6.refl H)
 ·rw[decide_eq_false h1]
  k_go
  refine⟨false,rfl,qk3 ?_⟩
  rw[decide_eq_false (by omega:¬1<=z.length),Bool.false_and] at q
  exact q _ (A6.refl H)
def qb9(K:Fg):Sp:=fun vs H Q _=>∃ (z:Str) (k:Nat),vs=[.str z,.int k]/\z.cps.toList[k]?=some 60/\Q (.int (TX.nst z.cps.toList k)) H
def qn9(K:Fg):TS :=
 (L6 (tIf (tB (tBM K "str" ym0 (A3 0) (A1 (tC (.str "</")) (A1 (A3 1) A8)))) (tOp (D2 K) (A3 1) (tC (.int 2))) (tOp (D2 K) (A3 1) (tC (.int 1)))))
theorem xj9(h:qb9 K vs H Q E):qn9 K {nx:=fun _ H'=>Q .non H',rt:=Q} (D8 ["text","start"] vs) H:=by
 obtain⟨z,k,rfl,h60,q⟩:=h
 show qn9 K _ [some (.str z),some (.int k)] H
 unfold qn9
 lk
 refine⟨rfl,?_⟩
 lk
 refine⟨z, "</",k,rfl,rfl,?_⟩
 rw[yt2 rfl h60]
 lk
 unfold TX.nst at q
 by_cases h:z.cps.toList[k+1]?=some 47
 ·rw[decide_eq_true h];refine qr0 ?_
  rw[if_pos h] at q
  lk
  exact q
 ·rw[decide_eq_false h];refine qk3 ?_
  rw[if_neg h] at q
  lk
  exact q
def qs3(K:Fg):Sp:=fun vs H Q _=>∃ (z:Str) (k:Nat),vs=[.str z,.int k]/\z.length<=100000/\z.cps.toList[k]?=some 60/\(TX.tagAt z.cps.toList k=none->∀ H',A6 H H'->Q .non H') /\
 ∀ (f e:Nat),TX.tagAt z.cps.toList k=some (f,e)->∀ H',A6 H H'->Q (.int e) H'
def qz7(K:Fg):TS :=
 (C1 (E1 (D3 (qb9 K) [] E0 (A1 (A3 0) (A1 (A3 1) A8))) (B1 2))
 (C1 (E1 (tBM K "str" yy9 (A3 0) (A1 (tC (.str ">")) (A1 (A3 2) (A1 (tOp (D2 K) (tOp (D2 K) (A3 2) (tC (.int 8))) (tC (.int 1))) A8)))) (B1 3))
 (C1 (S3 (tOr (G0 (tOp yf4 (A3 3) (tC (.int 0)))) (zf4 (tB (D3 (Q5 K) [] E0 (A1 (tSl (wm2 K) (A3 0) (W1 (A3 2)) (W1 (A3 3))) A8)))))
 (L6 (tC .non)) O8)
 (L6 (tOp (D2 K) (A3 3) (tC (.int 1)))))))
theorem ya3(h:qs3 K vs H Q E):qz7 K {nx:=fun _ H'=>Q .non H',rt:=Q} (D8 ["text","start","first","end"] vs) H:=by
 obtain⟨z,k,rfl,hz,h60,q1,q2⟩:=h
 show qz7 K _ [some (.str z),some (.int k),none,none] H
 unfold qz7
 have hl:z.cps.toList.length=z.length:=Array.length_toList
 lk
 refine⟨z,k,rfl,h60,?_⟩
 lk
 refine⟨rfl,?_⟩
 lk
 refine⟨z, ">",_,_,rfl,rfl,?_⟩
 have tg:TX.tagAt z.cps.toList k=(TX.nm (z.cps.toList.drop (TX.nst z.cps.toList k))).map fun n=>(TX.nst z.cps.toList k,TX.nst z.cps.toList k+n+1):=by unfold TX.tagAt;rw[if_pos h60]
 generalize TX.nst z.cps.toList k=f at *
 have e0:(">":Str)=⟨#[62]⟩:=rfl
 rw[e0]
 rcases zb6 (z:=z) (c:=62) (i:=(f:Int)) (j:=(f:Int)+8+1) (f:=f) (g:=f+9) rfl (by omega) with⟨e,hn⟩|⟨r,e,r1,r2,r3,r4⟩
 ·rw[e]
  lk
  refine qr0 (qr0 ?_)
  lk
  refine q1 ?_ _ (A6.refl H)
  rw[tg]
  cases hm:TX.nm (z.cps.toList.drop f) with
  | none=>rfl
  | some n =>
    obtain⟨n1,n2,n3,n4⟩:=TX.nm_iff.mp hm
    rw[List.getElem?_drop] at n4
    exact absurd n4 (hn (f+n) (by omega) (by omega))
 ·rw [e]
  lk
  rw[decide_eq_false (by omega:¬((r:Nat):Int)<0)];refine qk3 ?_
  lk
  refine xn0 (D4 hz) ?_
  have ct:=qz4 (z:=z) (a:=(f:Int)) (b:=(r:Int)) (i:=f) (j:=r) rfl rfl
  generalize qf0 z (some (f:Int)) (some (r:Int))=nmz at *
  have rl:=(List.getElem?_eq_some_iff.mp r3).1
  have ln:nmz.length=r-f:=by
   have h1:=congrArg List.length ct
   rw[Array.length_toList,List.length_take,List.length_drop] at h1
   show nmz.cps.size=_
   omega
  lk
  refine⟨nmz,rfl,by omega,fun H' s'=>?_⟩
  lk
  have get:∀ i,i<r-f->nmz.cps.toList[i]?=(z.cps.toList.drop f)[i]?:=fun i hi=>by rw[ct,List.getElem?_take_of_lt hi]
  by_cases hb:(decide (1<=nmz.length) && (decide (nmz.length<=8) && nmz.cps.toList.all TX.letter))=true
  ·rw[hb,Bool.not_true];refine qk3 ?_
   lk
   simp only[Bool.and_eq_true,decide_eq_true_eq,List.all_eq_true] at hb
   have hm:TX.nm (z.cps.toList.drop f)=some (r-f):=TX.nm_iff.mpr ⟨by omega,by omega,fun i hi=>by
    have hi2:i<nmz.cps.toList.length:=by rw[Array.length_toList];show i<nmz.length;omega
    refine⟨nmz.cps.toList[i],by rw[<-get i hi,List.getElem?_eq_getElem hi2],hb.2.2 _ (List.getElem_mem hi2)⟩,by rw[List.getElem?_drop,show f+(r-f)=r by omega];exact r3⟩
   have:=q2 f (r+1) (by rw[tg,hm];show some (f,f+(r-f)+1)=_;rw[show f+(r-f)+1=r+1 by omega]) H' s'
   exact this
  ·rw [Bool.eq_false_iff.mpr hb,Bool.not_false];refine qr0 ?_
   lk
   refine q1 ?_ _ s'
   rw[tg]
   cases hm:TX.nm (z.cps.toList.drop f) with
   | none=>rfl
   | some n =>
     exfalso
     apply hb
     obtain⟨n1,n2,n3,n4⟩:=TX.nm_iff.mp hm
     rw[List.getElem?_drop] at n4
     have hr:r=f+n:=by
      rcases Nat.lt_trichotomy r (f+n) with h|h|h
      ·obtain⟨c,hc,hlc⟩:=n3 (r-f) (by omega)
       rw[List.getElem?_drop,show f+(r-f)=r by omega,r3] at hc
       cases hc
       exact absurd hlc (by decide)
      ·exact h
      ·exact absurd n4 (r4 (f+n) (by omega) h)
     simp only[Bool.and_eq_true,decide_eq_true_eq,List.all_eq_true]
     refine⟨by omega,by omega,fun c hc=>?_⟩
     obtain⟨i,hi,e⟩:=List.getElem_of_mem hc
     have hi2:i<r-f:=by rw[Array.length_toList] at hi;have:i<nmz.length:=hi;omega
     obtain⟨c',hc',hl'⟩:=n3 i (by omega)
     rw[<-get i hi2,List.getElem?_eq_getElem hi,e] at hc'
     cases hc'
     exact hl'
def qf6(K:Fg):Sp:=fun vs H Q _=>∃ (z:Str) (k f e:Nat),vs=[.str z,.int k,.int e]/\z.length<=100000/\TX.tagAt z.cps.toList k=some (f,e) /\
 ∀ t,H t=none->Q (.ref t) (upd H t (.tup [.str (if f=k+1 then "open" else "close"),.int k,.int e,.str (TX.ofL ((z.cps.toList.drop f).take (e-1-f)))]))
def qj7(K:Fg):TS :=
 (C1 (E1 (D3 (qb9 K) [] E0 (A1 (A3 0) (A1 (A3 1) A8))) (B1 3))
 (C1 (E1 (tIf (G0 (tOp (X3 K) (A3 3) (tOp (D2 K) (A3 1) (tC (.int 1))))) (tC (.str "open")) (tC (.str "close"))) (B1 4))
 (L6 (M5 (A1 (A3 4) (A1 (A3 1) (A1 (A3 2) (A1 (tSl (wm2 K) (A3 0) (W1 (A3 3)) (W1 (tOp (rI0 fun i j=>.int (i-j)) (A3 2) (tC (.int 1))))) A8))))))))
theorem xf9(h:qf6 K vs H Q E):qj7 K {nx:=fun _ H'=>Q .non H',rt:=Q} (D8 ["text","start","stop","first","kind"] vs) H:=by
 obtain⟨z,k,f,e,rfl,hz,ht,q⟩:=h
 show qj7 K _ [some (.str z),some (.int k),some (.int e),none,none] H
 unfold qj7
 obtain⟨g1,g2,g3,g4,g5,g6⟩:=TX.tagAt_gt ht
 lk
 refine⟨z,k,rfl,g5,?_⟩
 rw[<-g3]
 lk
 have ct:=qz4 (z:=z) (a:=(f:Int)) (b:=(e:Int)-1) (i:=f) (j:=e-1) rfl (by omega)
 have ec:qf0 z (some (f:Int)) (some ((e:Int)-1))=TX.ofL ((z.cps.toList.drop f).take (e-1-f)):=(W3 _ _).mpr ct
 by_cases hf:f=k+1
 ·rw[if_pos hf] at q
  rw[decide_eq_true (by omega:(f:Int)=(k:Int)+1)];refine qr0 ?_
  lk
  refine xn0 (D4 hz) ?_
  rw[ec]
  lk
  exact⟨D4 (by z_go),q⟩
 ·rw[if_neg hf] at q
  rw[decide_eq_false (by omega:¬(f:Int)=(k:Int)+1)];refine qk3 ?_
  lk
  refine xn0 (D4 hz) ?_
  rw[ec]
  lk
  exact⟨D4 (by z_go),q⟩
def S1(K:Fg):Sp:=fun vs H Q _=>∃ (z:Str) (a e:Nat),vs=[.str z,.int a,.int e]/\a<=e/\e<=z.length/\z.length<=100000/\(a=e->∀ p,H p=none->Q (.ref p) (upd H p (.lst []))) /\
 (a<e->∀ (w:Str) (t p:Addr) (H':Hp),w.cps.toList=TX.told 0 ((z.cps.toList.drop a).take (e-a))->A6 H H'->H p=none->H' p=some (.lst [.ref t])->H' t=some (.tup [.str "run",.int a,.int e,.str w])->Q (.ref p) H')
def qf7(K:Fg):TS :=
 (C1 (S3 (G0 (tOp (X3 K) (A3 1) (A3 2)))
 (L6 (qb5 A8)) O8)
 (L6 (qb5 (A1 (M5 (A1 (tC (.str "run")) (A1 (A3 1) (A1 (A3 2) (A1 (D3 (qz5 K) [] E0 (A1 (tSl (wm2 K) (A3 0) (W1 (A3 1)) (W1 (A3 2))) A8)) A8))))) A8))))
theorem xa7(h:S1 K vs H Q E):qf7 K {nx:=fun _ H'=>Q .non H',rt:=Q} (D8 ["text","start","stop"] vs) H:=by
 obtain⟨z,a,e,rfl,hae,hez,hz,q1,q2⟩:=h
 show qf7 K _ [some (.str z),some (.int a),some (.int e)] H
 unfold qf7
 lk
 by_cases h:a=e
 ·rw[decide_eq_true (by rw[h])];refine qr0 ?_
  lk
  exact⟨D4 (by z_go),q1 h⟩
 ·rw[decide_eq_false (by intro h';exact h (by omega))];refine qk3 ?_
  lk
  refine xn0 (D4 hz) ?_
  lk
  have ct:=qz4 (z:=z) (a:=(a:Int)) (b:=(e:Int)) (i:=a) (j:=e) rfl rfl
  have hl:z.cps.toList.length=z.length:=Array.length_toList
  refine⟨_,rfl,?_,fun w hw=>?_⟩
  ·have h1:=congrArg List.length ct
   rw[Array.length_toList,List.length_take,List.length_drop] at h1
   show(qf0 z (some (a:Int)) (some (e:Int))).cps.size<=_
   omega
  ·rw[ct] at hw
   lk
   refine⟨D4 (by z_go),fun t ht=>?_⟩
   lk
   refine⟨D4 (by z_go),fun p hp=>?_⟩
   have hp0:H p=none:=by
    cases e:H p with
    | none=>rfl
    | some u=>rw[A6.new ht _ _ _ e] at hp;cases hp
   have ntp:t≠p:=fun e=>by rw[<-e,A5] at hp;cases hp
   exact q2 (by omega) w t p _ hw (A6.tr (A6.new ht _) (A6.new hp _)) hp0 A5 (by rw[B9 ntp];exact A5)
end
variable{e q P' T' W' M P T W:Nat}{w rule t g kind:Str}{l1 l2 cl:List Brn}{m1 m2:List BA}{b' bb:Brn}{x':BA}{m:Int}{f:List Str->List Str}{ws A B:List Str}{st:Rst}{bv:V}{kR:Addr}
section
variable{K:Fg}{vs:List V}{H:Hp}{Q:VK}{E:XK}
theorem zb8(Pv:St->Hp->Prop)(μ:St->Hp->Nat)(h0:Pv σ H)(i:Nat)(hs:∀ σ H,Pv σ H->∃ k:Int,σ[i]?=some (some (.int k))/\(0<=k->tb {D with nx:=fun σ' H'=>Pv σ' H'/\μ σ' H'<μ σ H,ct:=fun σ' H'=>Pv σ' H'/\μ σ' H'<μ σ H,bk:=D.nx} σ H)/\(¬0<=k->D.nx σ H)) :
 wd7 (G0 (tOp zh2 (A3 i) (tC (.int 0)))) tb D σ H:=by
 refine⟨fun m σ H=>m=μ σ H/\Pv σ H,⟨_,rfl,h0⟩,?_⟩
 rintro m σ H ⟨rfl,p⟩
 obtain⟨k,e,h1,h2⟩:=hs σ H p
 refine⟨_,e,zn3 (zn2 ?_)⟩
 by_cases hk:0<=k
 ·rw[decide_eq_true hk]
  exact⟨_,fun σ' H' ⟨p',l⟩=>⟨_,l,rfl,p'⟩,h1 hk⟩
 ·rw[decide_eq_false hk]
  exact h2 hk
theorem wf4:∀ xs ys:List PyData,N9 (xs++ys)=(N9 xs && N9 ys)
 | [],ys=>by simp[N9]
 | x::xs,ys=>by rw[List.cons_append,N9,N9,wf4 xs ys,Bool.and_assoc]
theorem ym5(l:List Nat)(a e:Nat):N9 (TX.runs l a e)=true:=by
 unfold TX.runs;split
 ·simp[N9,fix,TX.runD]
 ·simp[N9]
theorem xs0(l:List Nat)(k f e:Nat):fix (TX.tagD l k f e)=true:=by simp[N9,fix,TX.tagD]
theorem ya4(l:List Nat)(a e:Nat):(TX.runs l a e).length<=1:=by unfold TX.runs;split <;> simp
theorem zu5{t:Addr}{a:Nat}(hw:w.cps.toList=TX.told 0 ((z.cps.toList.drop a).take (e-a)))(ht:H t=some (.tup [.str "run",.int a,.int e,.str w])):Dv K H (TX.runD z.cps.toList a e) (.ref t):=by
 have ew:w=TX.ofL (TX.told 0 ((z.cps.toList.drop a).take (e-a))):=(W3 _ _).mpr (by rw[hw];rfl)
 rw[<-show TX.runD z.cps.toList a e=_ from rfl]
 unfold TX.runD
 rw[<-ew]
 exact D7.mpr ⟨t,_,rfl,SqT.of ht,C3 (E6.mpr rfl) (C3 (O6.mpr rfl) (C3 (O6.mpr rfl) (C3 (E6.mpr rfl) J4)))⟩
theorem xg0{a:Nat}(hae:a<=e)(hez:e<=z.length)(hz:z.length<=100000)(q:∀ (p:Addr) (zs:List V) (H1:Hp),A6 H H1->H p=none->H1 p=some (.lst zs)->Dvs K H1 (TX.runs z.cps.toList a e) zs->Q (.ref p) H1):S1 K [.str z,.int a,.int e] H Q E:=by
 refine⟨z,a,e,rfl,hae,hez,hz,fun h p hp=>?_,fun h w t p H' hw hs hp h1 ht=>?_⟩
 ·refine q p [] _ (A6.new hp _) hp A5 ?_
  unfold TX.runs;rw[if_neg (by omega)];exact J4
 ·refine q p [.ref t] H' hs hp h1 ?_
  unfold TX.runs;rw[if_pos h]
  exact C3 (zu5 hw ht) J4
theorem yt3{s:Nat}(hq:q<=l.length)(hn:∀ k,q<=k->l[k]?≠some 60):TX.toks l q s=TX.runs l s l.length:=by
 rw[TX.toks_skip (l.length-q) q (by omega) (fun j h1 _=>hn j h1),TX.toks_end (by omega)]
theorem zk5{s:Nat}(hqk:q<=k)(hk:l[k]?=some 60)(hn:∀ m,q<=m->m<k->l[m]?≠some 60):TX.toks l q s=TX.toks l k s:=by
 have:=(List.getElem?_eq_some_iff.mp hk).1
 rw[TX.toks_skip (k-q) q (by omega) (fun j h1 h2=>hn j h1 (by omega)),show q+(k-q)=k by omega]
def TX.glue(l:List Nat):Nat->List (Nat×Nat×Nat)->List PyData
 | s,[]=>TX.runs l s l.length
 | s,t::ts=>TX.runs l s t.1++TX.tagD l t.1 t.2.1 t.2.2::TX.glue l t.2.2 ts
def TX.Ch(l:List Nat):Nat->List (Nat×Nat×Nat)->Prop
 | _,[]=>True
 | q,t::ts=>q<=t.1/\t.1<t.2.2/\t.2.2<=l.length/\TX.Ch l t.2.2 ts
def TX.tg(l:List Nat)(t:Nat×Nat×Nat):PyData:=TX.tagD l t.1 t.2.1 t.2.2
theorem xs1{r:Nat}:∀ {ts:List (Nat×Nat×Nat)},q<=r->TX.Ch l r ts->TX.Ch l q ts
 | [],_,_=>trivial
 | t::ts,h,g=>⟨Nat.le_trans h g.1,g.2⟩
theorem ym6{l:List Nat}:∀ ts:List (Nat×Nat×Nat),N9 (ts.map (TX.tg l))=true
 | []=>rfl
 | t::ts=>by rw[List.map_cons,N9,ym6 ts];exact Bool.and_eq_true_iff.mpr ⟨xs0 _ _ _ _,rfl⟩
def Aa9(z:Str)(q:Nat)(st:Int)(ts:List (Nat×Nat×Nat)):Prop :=
 (st=-1/\TX.Ch z.cps.toList q ts/\∀ s,TX.toks z.cps.toList q s=TX.glue z.cps.toList s ts) \/
 ∃ k:Nat,st=(k:Int)/\ts.length<=k/\z.cps.toList[k]?=some 60/\∀ ts',TX.Ch z.cps.toList k ts'->(∀ s,TX.toks z.cps.toList k s=TX.glue z.cps.toList s ts')->TX.Ch z.cps.toList q (ts++ts')/\∀ s,TX.toks z.cps.toList q s=TX.glue z.cps.toList s (ts++ts')
theorem wv3{r:Nat}{ts:List (Nat×Nat×Nat)}(hi:i=(r:Int))(hr:r<=z.cps.toList.length)(hl:ts.length<=r)(h:∀ ts',TX.Ch z.cps.toList r ts'->(∀ s,TX.toks z.cps.toList r s=TX.glue z.cps.toList s ts')->TX.Ch z.cps.toList q (ts++ts')/\∀ s,TX.toks z.cps.toList q s=TX.glue z.cps.toList s (ts++ts')) :
 Aa9 z q (PySem.Txt.find3 z "<" i) ts/\∀ k:Nat,PySem.Txt.find3 z "<" i=(k:Int)->r<=k:=by
 have e0:("<":Str)=⟨#[60]⟩:=rfl
 rw[e0]
 rcases zb7 (z:=z) (c:=60) hi with⟨e,hn⟩|⟨k,e,h1,h2,h3⟩
 ·rw[e]
  have g:=h [] trivial fun s=>yt3 hr hn
  rw[List.append_nil] at g
  exact⟨.inl ⟨rfl,g.1,g.2⟩,fun k hk=>by omega⟩
 ·rw[e]
  exact⟨.inr ⟨k,rfl,by omega,h2,fun ts' c g=>h ts' (xs1 h1 c) fun s=>by rw[zk5 h1 h2 h3];exact g s⟩,fun m hm=>by omega⟩
def qo0(K:Fg):Sp:=fun vs H Q _=>∃ (z:Str) (q:Nat),vs=[.str z,.int q]/\q<=z.length/\z.length<=100000/\∀ (p:Addr) (us:List V) (H':Hp) (ts:List (Nat×Nat×Nat)),A6 H H'->H p=none->H' p=some (.lst us)->Dvs K H' (ts.map (TX.tg z.cps.toList)) us->TX.Ch z.cps.toList q ts->(∀ s,TX.toks z.cps.toList q s=TX.glue z.cps.toList s ts)->Q (.ref p) H'
def qs4(K:Fg):TS :=
 (C1 (E1 (qb5 A8) (B1 2))
 (C1 (E1 (tBM K "str" xq7 (A3 0) (A1 (tC (.str "<")) (A1 (A3 1) A8))) (B1 3))
 (C1 (wd7 (G0 (tOp zh2 (A3 3) (tC (.int 0))))
 (C1 (E1 (D3 (qs3 K) [] E0 (A1 (A3 0) (A1 (A3 3) A8))) (B1 4))
 (S3 (G0 (tOp xw7 (A3 4) (tC .non)))
 (E1 (tBM K "str" xq7 (A3 0) (A1 (tC (.str "<")) (A1 (tOp (D2 K) (A3 3) (tC (.int 1))) A8))) (B1 3)) (C1 (I0 (tBM K "list" I9 (A3 2) (A1 (D3 (qf6 K) [] E0 (A1 (A3 0) (A1 (A3 3) (A1 (A3 4) A8)))) A8)))
 (E1 (tBM K "str" xq7 (A3 0) (A1 (tC (.str "<")) (A1 (A3 4) A8))) (B1 3))))))
 (L6 (A3 2)))))
theorem xs2(h:qo0 K vs H Q E):qs4 K {nx:=fun _ H'=>Q .non H',rt:=Q} (D8 ["text","searched","tags","start","stop"] vs) H:=by
 obtain⟨z,q0,rfl,hq,hz,q⟩:=h
 show qs4 K _ [some (.str z),some (.int q0),none,none,none] H
 unfold qs4
 have hl:z.cps.toList.length=z.length:=Array.length_toList
 lk
 refine⟨D4 (by z_go),fun d hd=>?_⟩
 lk
 refine⟨rfl,?_⟩
 lk
 refine⟨z, "<",_,rfl,rfl,?_⟩
 lk
 refine zb8 (fun σ H'=>∃ (st:Int) (a:Option V) (us:List V) (ts:List (Nat×Nat×Nat)),σ=[some (.str z),some (.int q0),some (.ref d),some (.int st),a]/\A6 H H'/\H' d=some (.lst us)/\Dvs K H' (ts.map (TX.tg z.cps.toList)) us/\Aa9 z q0 st ts)
  (fun σ _=>match σ with | [_,_,_,some (.int st),_]=>(if st<0 then 0 else z.length+1-st.toNat)|_=>0) ?_ 3 ?_
 ·exact⟨_,none,[],[],rfl,A6.new hd _,A5,J4,(wv3 rfl (by omega) (Nat.zero_le _) fun ts' c g=>⟨c,g⟩).1⟩
 rintro σ H1 ⟨st,a,us,ts,rfl,s1,hd1,dv1,at1⟩
 have hul:us.length=ts.length:=by rw[dv1.length,List.length_map]
 refine⟨st,rfl,fun h0=>?_,fun h0=>?_⟩
 ·rcases at1 with⟨e,_⟩|⟨k,rfl,htk,h60,hts⟩
  ·omega
  have hkl:=(List.getElem?_eq_some_iff.mp h60).1
  lk
  refine⟨z,k,rfl,hz,h60,fun ht H2 s2=>?_,fun f e ht H2 s2=>?_⟩
  ·lk
   x_go
   lk
   refine⟨rfl,?_⟩
   lk
   refine⟨z, "<",_,rfl,rfl,?_⟩
   obtain⟨fa,fb⟩:=wv3 (z:=z) (q:=q0) (r:=k+1) (i:=(k:Int)+1) (ts:=ts) (by omega) (by omega) (by omega) fun ts' c g=>hts ts' (xs1 (by omega) c) fun s=>by rw[TX.toks_none (by omega) ht];exact g s
   lk
   refine⟨⟨_,_,us,ts,rfl,A6.tr s1 s2,s2 _ _ hd1,Dvs.same s2 _ _ dv1,fa⟩,?_⟩
   show(if PySem.Txt.find3 z "<" ((k:Int)+1)<0 then 0 else z.length+1-(PySem.Txt.find3 z "<" ((k:Int)+1)).toNat)<(if(k:Int)<0 then 0 else z.length+1-((k:Int)).toNat)
   rw[if_neg (by omega:¬(k:Int)<0)]
   rcases fa with⟨e,_⟩|⟨k2,e,_⟩
   ·rw[e,if_pos (by decide)];omega
   ·have:=fb k2 e
    rw[e,if_neg (by omega)];omega
  ·obtain⟨g1,g2,g3,g4,g5,g6⟩:=TX.tagAt_gt ht
   have gk:=TX.nst_gt z.cps.toList k
   lk
   have hn0:decide (V.int (e:Int)=V.non)=false:=by simp
   rw[hn0];refine qk3 ?_
   lk
   have hd2:=s2 _ _ hd1
   refine⟨.inl ⟨rfl,_,SqL.of hd2⟩,?_⟩
   lk
   refine⟨z,k,f,e,rfl,hz,ht,fun t ht4=>?_⟩
   have ntd:t≠d:=fun z=>by rw[z,hd2] at ht4;cases ht4
   lk
   refine M8 (by rw[B9 ntd.symm];exact hd2) (by rw[sizeLine_eq];omega) ?_
   have hd5:(upd H2 t (.tup [.str (if f=k+1 then "open" else "close"),.int k,.int e,.str (TX.ofL ((z.cps.toList.drop f).take (e-1-f)))])) d=some (.lst us):=by rw[B9 ntd.symm];exact hd2
   have tk6:=xe8 (ys:=us++[V.ref t]) hd5
   have dvb:=Dvs.tupK tk6 _ _ (ym6 ts) (Dvs.same (A6.new ht4 _) _ _ (Dvs.same s2 _ _ dv1))
   have dvt:Dv K (upd (upd H2 t (.tup [.str (if f=k+1 then "open" else "close"),.int k,.int e,.str (TX.ofL ((z.cps.toList.drop f).take (e-1-f)))])) d (.lst (us++[V.ref t]))) (TX.tg z.cps.toList (k,f,e)) (.ref t) :=
    D7.mpr ⟨t,_,rfl,SqT.of (by rw[B9 ntd];exact A5),C3 (E6.mpr rfl) (C3 (O6.mpr rfl) (C3 (O6.mpr rfl) (C3 (E6.mpr rfl) J4)))⟩
   lk
   refine⟨rfl,?_⟩
   lk
   refine⟨z, "<",_,rfl,rfl,?_⟩
   obtain⟨fa,fb⟩:=wv3 (z:=z) (q:=q0) (r:=e) (i:=(e:Int)) (ts:=ts++[(k,f,e)]) rfl g2 (by rw[List.length_append,List.length_singleton];omega) fun ts' c g=>by
    have:=hts ((k,f,e)::ts') ⟨Nat.le_refl _,g1,g2,c⟩ fun s=>by rw[TX.toks_some ht,g e];rfl
    rw[List.append_assoc];exact this
   lk
   refine⟨⟨_,_,us++[V.ref t],ts++[(k,f,e)],rfl,fun c u eq=>?_,A5,by rw[List.map_append];exact Dvs.append dvb (C3 dvt J4),fa⟩,?_⟩
   ·have nc:c≠d:=fun z=>by rw[z,hd] at eq;cases eq
    rw[B9 nc]
    exact A6.new ht4 _ c u (s2 c u (s1 c u eq))
   ·show(if PySem.Txt.find3 z "<" (e:Int)<0 then 0 else z.length+1-(PySem.Txt.find3 z "<" (e:Int)).toNat)<(if(k:Int)<0 then 0 else z.length+1-((k:Int)).toNat)
    rw[if_neg (by omega:¬(k:Int)<0)]
    rcases fa with⟨e',_⟩|⟨k2,e',_⟩
    ·rw[e',if_pos (by decide)];omega
    ·have:=fb k2 e'
     rw[e',if_neg (by omega)];omega
 ·rcases at1 with⟨e,hc,hts⟩|⟨k,rfl,_⟩
  ·lk
   exact q d us H1 ts s1 hd hd1 dv1 hc hts
  ·omega
def W4(K:Fg):Sp:=fun vs H Q _=>∃ (z:Str) (s q:Nat),vs=[.str z,.int s,.int q]/\s<=q/\q<=z.length/\z.length<=100000/\∀ (p:Addr) (us:List V) (H':Hp) (acc:List PyData) (s':Nat),A6 H H'->H p=none->H' p=some (.lst us)->Dvs K H' acc us->N9 acc=true->s<=s'->s'<=z.length->acc.length<=s'->acc++TX.runs z.cps.toList s' z.cps.toList.length=TX.toks z.cps.toList q s->(acc=[]/\s'=s\/∃ acc0 k f,acc=acc0++[TX.tagD z.cps.toList k f s'])->Q (.ref p) H'
def Y4(K:Fg):TS :=
 (C1 (E1 (qb5 A8) (B1 3))
 (C1 (qm8 (wj0 K (D3 (qo0 K) [] E0 (A1 (A3 0) (A1 (A3 2) A8)))) (B1 4)
 (C1 (I0 (tBM K "list" xb6 (A3 3) (A1 (D3 (S1 K) [] E0 (A1 (A3 0) (A1 (A3 1) (A1 (tOp (L1 K) (A3 4) (tC (.int 1))) A8)))) A8)))
 (C1 (I0 (tBM K "list" I9 (A3 3) (A1 (A3 4) A8)))
 (E1 (tOp (L1 K) (A3 4) (tC (.int 2))) (B1 1)))))
 (L6 (A3 3))))
theorem wq8(h:W4 K vs H Q E):Y4 K {nx:=fun _ H'=>Q .non H',rt:=Q} (D8 ["text","settled","searched","tokens","tag"] vs) H:=by
 obtain⟨z,s0,q0,rfl,hsq,hq,hz,q⟩:=h
 show Y4 K _ [some (.str z),some (.int s0),some (.int q0),none,none] H
 unfold Y4
 have hl:z.cps.toList.length=z.length:=Array.length_toList
 lk
 refine⟨D4 (by z_go),fun d hd=>?_⟩
 lk
 refine⟨z,q0,rfl,hq,hz,fun p1 uts H1 ts s1 hp1 h1 dvt hch hts=>?_⟩
 have hd1:H1 d=some (.lst []):=s1 _ _ A5
 have npd:p1≠d:=fun e=>by rw[e,A5] at hp1;cases hp1
 have sH:A6 H H1:=A6.tr (A6.new hd _) s1
 have utl:uts.length=ts.length:=by rw[dvt.length,List.length_map]
 refine we4 (xs:=uts) (SqL.of h1) (fun i σ H'=>∃ (s':Nat) (a:Option V) (us:List V) (acc:List PyData),σ=[some (.str z),some (.int s'),some (.int q0),some (.ref d),a]/\But [d] H1 H'/\U8 H1 H'/\H' d=some (.lst us)/\Dvs K H' acc us/\N9 acc=true/\s0<=s'/\s'<=z.length/\acc.length<=s'/\TX.Ch z.cps.toList s' (ts.drop i)/\acc++TX.glue z.cps.toList s' (ts.drop i)=TX.toks z.cps.toList q0 s0/\(acc=[]/\s'=s0\/∃ acc0 k f,acc=acc0++[TX.tagD z.cps.toList k f s'])) ?_ ?_ ?_ ?_
 ·exact⟨s0,none,[],[],rfl,But.refl _ _,U8.refl _,hd1,J4,rfl,Nat.le_refl _,by omega,Nat.zero_le _,xs1 hsq hch,(hts s0).symm,.inl ⟨rfl,rfl⟩⟩
 ·rintro i σ H' hi ⟨s',a,us,acc,rfl,bt,_⟩
  exact SqL.of (bt _ _ h1 (by simpa using npd))
 ·rintro i x σ H' hx ⟨s',a,us,acc,rfl,bt,tk,hd',dva,fx,g1,g2,g3,g4,g5,g6⟩
  obtain⟨dd,e1,dvx⟩:=Dvs.get' dvt hx
  rw[List.getElem?_map] at e1
  obtain⟨⟨k,f,e⟩,hti,rfl⟩:∃ t,ts[i]?=some t/\TX.tg z.cps.toList t=dd:=by
   cases h:ts[i]? with
   | none=>rw[h] at e1;cases e1
   | some t=>rw[h] at e1;exact⟨t,rfl,by simpa using e1⟩
  have edrop:ts.drop i=(k,f,e)::ts.drop (i+1):=by
   obtain⟨hil,he⟩:=List.getElem?_eq_some_iff.mp hti
   rw[List.drop_eq_getElem_cons hil,he]
  rw[edrop] at g4 g5
  obtain⟨c1,c2,c3,c4⟩:=g4
  have c1:s'<=k:=c1
  have c2:k<e:=c2
  have c3:e<=z.cps.toList.length:=c3
  have dvx2:=dvx
  obtain⟨t,vs4,rfl,qt,dv4⟩:=D7.mp (show Dv K H1 (.tuple [.str (if f=k+1 then "open" else "close"),.int k,.int e,.str (TX.ofL ((z.cps.toList.drop f).take (e-1-f)))]) x from dvx)
  obtain⟨v1,r1,rfl,w1,dv4⟩:=(show ∃ v r,vs4=v::r/\_ from by rw[Dvs] at dv4;exact dv4)
  obtain⟨v2,r2,rfl,w2,dv4⟩:=(show ∃ v r,r1=v::r/\_ from by rw[Dvs] at dv4;exact dv4)
  obtain⟨v3,r3,rfl,w3,dv4⟩:=(show ∃ v r,r2=v::r/\_ from by rw[Dvs] at dv4;exact dv4)
  have w2:=O6.mp w2
  have w3:=O6.mp w3
  subst w2 w3
  lk
  refine⟨.inl ⟨rfl,_,SqL.of hd'⟩,?_⟩
  lk
  refine U5 (tk.sqT qt) (O2 (j:=1) rfl) ?_
  lk
  refine xg0 c1 (by omega) hz fun p zs H3 s3 hp h3 dv3=>?_
  have hd3:=s3 _ _ hd'
  have rl:=ya4 z.cps.toList s' k
  have zl:zs.length=(TX.runs z.cps.toList s' k).length:=dv3.length
  have ul:=dva.length
  lk
  refine⟨d,p,us,zs,rfl,rfl,hd3,h3,D4 (by omega),?_⟩
  have tk4:=xe8 (ys:=us++zs) hd3
  have dvb:Dvs K (upd H3 d (.lst (us++zs))) (acc++TX.runs z.cps.toList s' k) (us++zs):=Dvs.append (Dvs.tupK tk4 _ _ fx (Dvs.same s3 _ _ dva)) (Dvs.tupK tk4 _ _ (ym5 _ _ _) dv3)
  lk
  refine⟨.inl ⟨rfl,_,SqL.of A5⟩,?_⟩
  lk
  refine M8 A5 (by rw[List.length_append,sizeLine_eq];omega) ?_
  have tk5:=xe8 (H:=upd H3 d (.lst (us++zs))) (ys:=us++zs++[V.ref t]) A5
  have fx2:N9 (acc++TX.runs z.cps.toList s' k)=true:=by rw[wf4,fx,ym5];rfl
  have tkA:U8 H1 (upd (upd H3 d (.lst (us++zs))) d (.lst (us++zs++[V.ref t]))):=tk.trans (s3.tupK.trans (tk4.trans tk5))
  lk
  refine U5 (tkA.sqT qt) (O2 (j:=2) rfl) ?_
  lk
  refine⟨e,_,us++zs++[V.ref t],acc++TX.runs z.cps.toList s' k++[TX.tagD z.cps.toList k f e],rfl,?_,tkA,A5,Dvs.append (Dvs.tupK tk5 _ _ fx2 dvb) (C3 (Dv.tupK tkA _ _ (xs0 _ _ _ _) dvx2) J4),by rw[wf4,fx2];simp[N9,xs0],by omega,by omega,?_,c4,by rw[<-g5,TX.glue];simp,.inr ⟨_,_,_,rfl⟩⟩
  ·intro c u eq hc
   have nc:c≠d:=by simpa using hc
   rw[B9 nc,B9 nc]
   exact s3 _ _ (bt c u eq hc)
  ·by_cases hsk:s'<k
   ·simp only[List.length_append,List.length_singleton];omega
   ·have:(TX.runs z.cps.toList s' k).length=0:=by unfold TX.runs;rw[if_neg hsk];rfl
    simp only[List.length_append,List.length_singleton];omega
 ·rintro σ H' ⟨s',a,us,acc,rfl,bt,tk,hd',dva,fx,g1,g2,g3,g4,g5,g6⟩
  lk
  have e0:ts.drop uts.length=[]:=List.drop_eq_nil_of_le (by omega)
  rw[e0] at g5
  refine q d us H' acc s' (fun c u eq=>?_) hd hd' dva fx g1 g2 g3 g5 g6
  have nc:c≠d:=fun z=>by rw[z,hd] at eq;cases eq
  exact bt c u (sH c u eq) (by simpa using nc)
def qo1(K:Fg):Sp:=fun vs H Q _=>∃ z:Str,vs=[.str z]/\z.length<=100000/\∀ (p:Addr) (us:List V) (H':Hp),A6 H H'->H p=none->H' p=some (.lst us)->Dvs K H' (TX.toks z.cps.toList 0 0) us->Q (.ref p) H'
def qs5(K:Fg):TS :=
 (C1 (E1 (D3 (W4 K) [] E0 (A1 (A3 0) (A1 (tC (.int 0)) (A1 (tC (.int 0)) A8)))) (B1 1))
 (C1 (E1 (tIf (G0 (tOp wt5 (tCB (L5 K) (A1 (A3 1) A8)) (tC (.int 0)))) (tOp (L1 K) (tOp (L1 K) (A3 1) (tUn (rU fun i=>.int (-i)) (tC (.int 1)))) (tC (.int 2))) (tC (.int 0))) (B1 2))
 (L6 (tOp (D2 K) (A3 1) (D3 (S1 K) [] E0 (A1 (A3 0) (A1 (A3 2) (A1 (tCB (L5 K) (A1 (A3 0) A8)) A8))))))))
theorem xs3(h:qo1 K vs H Q E):qs5 K {nx:=fun _ H'=>Q .non H',rt:=Q} (D8 ["text","tokens","settled"] vs) H:=by
 obtain⟨z,rfl,hz,q⟩:=h
 show qs5 K _ [some (.str z),none,none] H
 unfold qs5
 have hl:z.cps.toList.length=z.length:=Array.length_toList
 lk
 refine⟨z,0,0,rfl,Nat.le_refl _,Nat.zero_le _,hz,fun p1 us H1 acc s' s1 hp1 h1 dva fx g1 g2 g3 g5 g6=>?_⟩
 have ul:=dva.length
 lk
 refine P7 (.inl (SqL.of h1)) ?_
 lk
 have last:∀ Q':VK,Q' (.int s') H1->(if decide ((0:Int)<us.length)=true then tOp (L1 K) (tOp (L1 K) (A3 1) (tUn (rU fun i=>.int (-i)) (tC (.int 1)))) (tC (.int 2)) [some (.str z),some (.ref p1),none] H1 Q' else tC (.int 0) [some (.str z),some (.ref p1),none] H1 Q'):=by
  intro Q' hQ
  rcases g6 with⟨rfl,rfl⟩|⟨acc0,k,f,rfl⟩
  ·have:us=[]:=List.length_eq_zero_iff.mp (by rw[ul];rfl)
   subst this
   rw[decide_eq_false (by simp)];refine qk3 ?_
   lk
   exact hQ
  ·have hlen:0<us.length:=by rw[ul,List.length_append,List.length_singleton];omega
   obtain⟨us0,x,rfl⟩:∃ us0 x,us=us0++[x]:=⟨us.dropLast,us.getLast (List.ne_nil_of_length_pos hlen),(List.dropLast_concat_getLast _).symm⟩
   rw[decide_eq_true (by omega)];refine qr0 ?_
   have l0:us0.length=acc0.length:=by
    rw[List.length_append,List.length_append,List.length_singleton,List.length_singleton] at ul;omega
   obtain⟨d',e1,dvx⟩:=Dvs.get' (i:=us0.length) (v:=x) dva (by simp)
   rw[l0] at e1
   have e1:TX.tagD z.cps.toList k f s'=d':=by simpa using e1
   subst e1
   obtain⟨t,vs4,rfl,qt,dv4⟩:=D7.mp (show Dv K H1 (.tuple [.str (if f=k+1 then "open" else "close"),.int k,.int s',.str (TX.ofL ((z.cps.toList.drop f).take (s'-1-f)))]) x from dvx)
   obtain⟨v1,r1,rfl,w1,dv4⟩:=(show ∃ v r,vs4=v::r/\_ from by rw[Dvs] at dv4;exact dv4)
   obtain⟨v2,r2,rfl,w2,dv4⟩:=(show ∃ v r,r1=v::r/\_ from by rw[Dvs] at dv4;exact dv4)
   obtain⟨v3,r3,rfl,w3,dv4⟩:=(show ∃ v r,r2=v::r/\_ from by rw[Dvs] at dv4;exact dv4)
   have w3:=O6.mp w3
   subst w3
   lk
   refine⟨1,rfl,?_⟩
   refine M1 (SqL.of h1) (yw1 _ _) ?_
   lk
   refine U5 qt (O2 (j:=2) rfl) ?_
   exact hQ
 refine last _ ?_
 lk
 refine yf8 (D4 hz) ?_
 lk
 refine xg0 g2 (Nat.le_refl _) hz fun p2 zs H2 s2 hp2 h2 dv2=>?_
 have rl:=ya4 z.cps.toList s' z.length
 have zl:zs.length=(TX.runs z.cps.toList s' z.length).length:=dv2.length
 lk
 refine yy0 (s2 _ _ h1) h2 (by rw[sizeLine_eq];omega) fun p hp=>?_
 have sA:A6 H2 (upd H2 p (.lst (us++zs))):=A6.new hp _
 refine q p (us++zs) _ (A6.tr s1 (A6.tr s2 sA)) (A6.free (A6.tr s1 s2) hp) A5 ?_
 rw[<-g5,hl]
 exact Dvs.same sA _ _ (Dvs.append (Dvs.same s2 _ _ dva) dv2)
def esc:List Nat->List Nat
 | []=>[]
 | c::l=>(if c=60 then TX.El else if c=38 then TX.Ea else[c])++esc l
theorem xc2(y:Nat)(Z:List Nat):∀ l:List Nat,TX.rep [y] Z 0 l=l.flatMap fun c=>if c=y then Z else[c]
 | []=>rfl
 | c::l=>by
   by_cases h:c=y
   ·subst h
    rw[TX.rep_yes (Y:=[c]) (l:=c::l) (by simp) ⟨l,rfl⟩]
    show Z++TX.rep [c] Z 0 l=_
    rw[xc2 c Z l]
    simp
   ·rw[TX.rep_no (by rintro⟨r,e⟩;injection e with e _;exact h e.symm),xc2 y Z l]
    simp[h]
theorem zk6(l:List Nat):TX.rep [60] TX.El 0 (TX.rep [38] TX.Ea 0 l)=esc l:=by
 rw[xc2,xc2]
 induction l with
 | nil=>rfl
 | cons c l ih =>
   rw[List.flatMap_cons,List.flatMap_append,ih,esc]
   congr 1
   by_cases h1:c=38
   ·subst h1;rfl
   ·by_cases h2:c=60
    ·subst h2;rfl
    ·simp[h1,h2]
def yt4(z:Str):Str:=⟨(esc z.cps.toList).toArray⟩
theorem zk7(h:w.cps.toList=esc z.cps.toList):w=yt4 z:=by rw[W3,h];unfold yt4;simp
def opn(n:Str):Str := "<"++n ++ ">"
def cls(n:Str):Str := "</"++n ++ ">"
def qj8(K:Fg):Sp:=fun vs H Q _=>∃ n:Str,vs=[.str n]/\n.length<=4000/\Q (.str (opn n)) H
def qo2(K:Fg):TS :=
 (L6 (tFs ("<":Str) (">":Str) (A3 0)))
theorem xk2(h:qj8 K vs H Q E):qo2 K {nx:=fun _ H'=>Q .non H',rt:=Q} (D8 ["name"] vs) H:=by
 obtain⟨n,rfl,hn,q⟩:=h
 show qo2 K _ [some (.str n)] H
 unfold qo2
 lk
 exact⟨.str n,rfl,n,rfl,by omega,q⟩
def qj9(K:Fg):Sp:=fun vs H Q _=>∃ n:Str,vs=[.str n]/\n.length<=4000/\Q (.str (cls n)) H
def qo3(K:Fg):TS :=
 (L6 (tFs ("</":Str) (">":Str) (A3 0)))
theorem xk3(h:qj9 K vs H Q E):qo3 K {nx:=fun _ H'=>Q .non H',rt:=Q} (D8 ["name"] vs) H:=by
 obtain⟨n,rfl,hn,q⟩:=h
 show qo3 K _ [some (.str n)] H
 unfold qo3
 lk
 exact⟨.str n,rfl,n,rfl,by omega,q⟩
def qz8(K:Fg):Sp:=fun vs H Q _=>∃ z:Str,vs=[.str z]/\z.length<=30000/\Q (.str (yt4 z)) H
def wi5(K:Fg):TS :=
 (L6 (xm9 (xm9 (A3 0) ("&":Str) ("&a;":Str)) ("<":Str) ("&l;":Str)))
theorem yi4(h:qz8 K vs H Q E):wi5 K {nx:=fun _ H'=>Q .non H',rt:=Q} (D8 ["text"] vs) H:=by
 obtain⟨z,rfl,hz,q⟩:=h
 show wi5 K _ [some (.str z)] H
 unfold wi5
 lk
 refine⟨z,rfl,by omega,?_⟩
 have l1:=ya0 z "&" "&a;" (by decide)
 rw[show("&a;":Str).length=3 from rfl] at l1
 refine⟨_,rfl,by omega,?_⟩
 rw[zk7 (z:=z) (w:=PySem.Txt.replace (PySem.Txt.replace z "&" "&a;") "<" "&l;") (by rw[TX.replace_rep _ _ _ (by decide),TX.replace_rep _ _ _ (by decide)];exact zk6 _)]
 exact q
section
variable{kR kB r:Addr}{bv:V}{a:RAd}{st:Rst}{H':Hp}
theorem Q3(x:BA)(as:List BA):fpA (x::as)=x.fp++fpA as:=by unfold fpA;rw[List.flatMap_cons]
theorem qi6.split{x:BA}(h:qi6 K H kB (m1++x::m2) (l1++b::l2))(hl:m1.length=l1.length):qi6 K H kB m1 l1/\BrO K H kB x b/\qi6 K H kB m2 l2:=by
 induction m1 generalizing l1 with
 | nil =>
   cases l1 with
   | nil=>cases h with|cons h1 h2=>exact⟨.nil,h1,h2⟩
   | cons=>simp at hl
 | cons y m1 ih =>
   cases l1 with
   | nil=>simp at hl
   | cons c l1 =>
     cases h with
     | cons h1 h2 =>
       obtain⟨h3,h4,h5⟩:=ih h2 (by simpa using hl)
       exact⟨.cons h1 h3,h4,h5⟩
theorem RdO.swap{x:BA}{b:Brn}(h:RdO K H kR kB r bv a st)(ea:a.as=m1++x::m2)(eb:st.bs=l1++b::l2)(hl:m1.length=l1.length)(bt:But x.fp H H')(hB:BrO K H' kB x' b')(hf:∀ z∈x'.fp,z∈x.fp\/H z=none)(hd:x'.fp.Nodup)(ho:x'.o=x.o) :
 RdO K H' kR kB r bv {a with as:=m1++x'::m2} {st with bs:=l1++b'::l2}:=by
 have hb:=h.b
 rw[ea,eb] at hb
 obtain⟨k1,k2,k3⟩:=hb.split hl
 have tk:U8 H H':=wf1 bt fun p hp=>h.mut p (by
  simp only[RAd.fp,List.mem_cons,ea,R0,Q3,List.mem_append];exact .inr (.inr (.inr (.inr (.inr (.inl hp))))))
 obtain⟨a1,a2,a3,b1,b2,c1,d1,d2,d3,d4,e1⟩:=h.apart
 obtain⟨us,u1,u2⟩:=h.m
 obtain⟨vs,v1,v2⟩:=h.d
 rw[ea,R0,Q3] at d1 d2 d3 d4 e1
 have nf:∀ z,z∉fpA m1++(x.fp++fpA m2)->z∉x.fp:=fun z h1 h2=>h1 (List.mem_append_right _ (List.mem_append_left _ h2))
 rw[List.nodup_append,List.nodup_append] at e1
 obtain⟨e2,⟨e3,e4,e5⟩,e6⟩:=e1
 have f1:∀ z∈fpA m1,z∉x.fp:=fun z hz hx=>e6 z hz z (List.mem_append_left _ hx) rfl
 have f2:∀ z∈fpA m2,z∉x.fp:=fun z hz hx=>e5 z hx z hz rfl
 have old:∀ z∈RAd.fp r a,H z≠none:=h.dom
 have ins:∀ z,z∈r::a.L::a.M::a.A::(fpA m1++(x.fp++fpA m2))->H z≠none:=fun z hz=>old z (by unfold RAd.fp;rw[ea,R0,Q3];exact hz)
 have nx:∀ z,z∈r::a.L::a.M::a.A::(fpA m1++(x.fp++fpA m2))->z∉x.fp->z∉x'.fp:=fun z hz h1 h2=>(hf z h2).elim h1 (ins z hz)
 refine⟨h.kr,h.kb,bt _ _ h.o (nf _ d1),?_,(k1.but bt tk f1).app (.cons hB (k3.but bt tk f2)),⟨us,bt _ _ u1 (nf _ d3),Dvs.tupK tk _ _ (Q0 Mnd.fix _) u2⟩,⟨vs,bt _ _ v1 (nf _ d4),Dvs.tupK tk _ _ (Q0 Lad.fix _) v2⟩,?_⟩
 ·have:=bt _ _ h.l (nf _ d2)
  show H' a.L=_
  rw[this,ea]
  simp[ho]
 ·show(r::a.L::a.M::a.A::fpA (m1++x'::m2)).Nodup
  rw[R0,Q3]
  have g:∀ z,z∈r::a.L::a.M::a.A::(fpA m1++(x.fp++fpA m2))->z∉fpA m1++(x.fp++fpA m2)->z∉fpA m1++(x'.fp++fpA m2):=fun z hz h1 h2=>by
   rcases List.mem_append.mp h2 with h3|h3
   ·exact h1 (List.mem_append_left _ h3)
   ·rcases List.mem_append.mp h3 with h4|h4
    ·exact nx z hz (nf z h1) h4
    ·exact h1 (List.mem_append_right _ (List.mem_append_right _ h4))
  simp only[List.nodup_cons,List.mem_cons,not_or]
  refine⟨⟨a1,a2,a3,g _ (by simp) d1⟩,⟨b1,b2,g _ (by simp) d2⟩,⟨c1,g _ (by simp) d3⟩,g _ (by simp) d4,?_⟩
  rw[List.nodup_append,List.nodup_append]
  refine⟨e2,⟨hd,e4,fun p hp q hq e=>?_⟩,fun p hp q hq e=>?_⟩
  ·subst e
   exact nx p (by simp[hq]) (f2 p hq) hp
  ·subst e
   rcases List.mem_append.mp hq with h4|h4
   ·exact nx p (by simp[hp]) (f1 p hp) h4
   ·exact e6 p hp p (List.mem_append_right _ h4) rfl
theorem zb9{x:BA}{z:Addr}(ea:a.as=m1++x::m2)(hz:z∈x.fp):z∈RAd.fp r a:=by
 simp only[RAd.fp,List.mem_cons,ea,R0,Q3,List.mem_append];exact .inr (.inr (.inr (.inr (.inr (.inl hz)))))
theorem Rup.swap{x:BA}(h:RdO K H kR kB r bv a st)(ea:a.as=m1++x::m2)(eb:st.bs=l1++b::l2)(hl:m1.length=l1.length)(bt:But x.fp H H')(hB:BrO K H' kB x' b')(hf:∀ z∈x'.fp,z∈x.fp\/H z=none)(hd:x'.fp.Nodup)(ho:x'.o=x.o) :
 Rup K kR kB r bv H a H' {a with as:=m1++x'::m2} {st with bs:=l1++b'::l2}:=by
 refine⟨h.swap ea eb hl bt hB hf hd ho,fun c o e n=>bt c o e fun hc=>n (zb9 ea hc),fun z hz=>?_⟩
 simp only[RAd.fp,R0,Q3,List.mem_cons,List.mem_append] at hz
 rcases hz with h1|h1|h1|h1|h1|h1|h1
 ·exact .inl (by simp[RAd.fp,h1])
 ·exact .inl (by simp[RAd.fp,h1])
 ·exact .inl (by simp[RAd.fp,h1])
 ·exact .inl (by simp[RAd.fp,h1])
 ·exact .inl (by simp[RAd.fp,ea,R0,h1])
 ·exact(hf z h1).imp (fun h=>zb9 ea h) id
 ·exact .inl (by simp[RAd.fp,ea,R0,Q3,h1])
theorem RdO.pop{x:BA}{b:Brn}(h:RdO K H kR kB r bv a st)(ea:a.as=m1++[x])(eb:st.bs=l1++[b])(hl:m1.length=l1.length) :
 RdO K (upd H a.L (.lst (m1.map fun z=>V.ref z.o))) kR kB r bv {a with as:=m1} {st with bs:=l1}/\BrO K (upd H a.L (.lst (m1.map fun z=>V.ref z.o))) kB x b:=by
 have hb:=h.b
 rw[ea,eb] at hb
 obtain⟨k1,k2,_⟩:=hb.split hl
 obtain⟨a1,a2,a3,b1,b2,c1,d1,d2,d3,d4,e1⟩:=h.apart
 obtain⟨us,u1,u2⟩:=h.m
 obtain⟨vs,v1,v2⟩:=h.d
 have tk:U8 H (upd H a.L (.lst (m1.map fun z=>V.ref z.o))):=O7 (.inl ⟨_,h.l⟩)
 rw[ea,R0,Q3] at d1 d2 d3 d4 e1
 have nL:∀ z∈fpA m1,z∉[a.L]:=fun z hz e=>d2 (by rw[List.mem_singleton.mp e] at hz;exact List.mem_append_left _ hz)
 have nL2:∀ z∈x.fp,z∉[a.L]:=fun z hz e=>d2 (by rw[List.mem_singleton.mp e] at hz;exact List.mem_append_right _ (List.mem_append_left _ hz))
 refine⟨⟨h.kr,h.kb,by rw[B9 a1];exact h.o,A5,k1.but But.upd1 tk nL,⟨us,by rw[B9 (Ne.symm b1)];exact u1,Dvs.tupK tk _ _ (Q0 Mnd.fix _) u2⟩,⟨vs,by rw[B9 (Ne.symm b2)];exact v1,Dvs.tupK tk _ _ (Q0 Lad.fix _) v2⟩,?_⟩,k2.but But.upd1 tk nL2⟩
 have:=h.nd
 unfold RAd.fp at this ⊢
 rw[ea,R0] at this
 exact this.sublist (by
  refine List.Sublist.cons_cons _ (List.Sublist.cons_cons _ (List.Sublist.cons_cons _ (List.Sublist.cons_cons _ ?_)))
  exact List.sublist_append_left _ _)
theorem RdO.as_split{b:Brn}(h:RdO K H kR kB r bv a st)(eb:st.bs=l1++b::l2):∃ m1 x m2,a.as=m1++x::m2/\m1.length=l1.length/\BrO K H kB x b:=by
 have hb:=h.b
 rw[eb] at hb
 have hn:=hb.len
 rw[List.length_append,List.length_cons] at hn
 have e:a.as=a.as.take l1.length++a.as[l1.length]'(by omega)::a.as.drop (l1.length+1):=by
  rw[List.getElem_cons_drop,List.take_append_drop]
 have hl:(a.as.take l1.length).length=l1.length:=by rw[List.length_take];omega
 rw[e] at hb
 exact⟨_,_,_,e,hl,(hb.split hl).2.1⟩
def BkO(K:Fg)(H:Hp)(v:V)(rs:List Row):Prop:=∃ p vs,v=.ref p/\SqT K H p vs/\Dvs K H (rs.map Row.da) vs
theorem BkO.rws(h:BkO K H v rs):Rws K H v rs:=by
 obtain⟨p,vs,rfl,h1,h2⟩:=h
 exact⟨p,vs,rfl,.inr h1,h2⟩
theorem BkO.tupK(h:BkO K H v rs)(tk:U8 H H'):BkO K H' v rs:=by
 obtain⟨p,vs,rfl,h1,h2⟩:=h
 exact⟨p,vs,rfl,tk.sqT h1,Dvs.tupK tk _ _ (xz2 rs) h2⟩
theorem BkO.same(h:BkO K H v rs)(s:A6 H H'):BkO K H' v rs:=h.tupK s.tupK
end
theorem zu6(v:V):qk2 ("book":Str) v []=[(("book":Str),v)]:=rfl
theorem zu7(n v:V):qk2 ("branches":Str) v [(("book":Str),n)]=[(("book":Str),n),(("branches":Str),v)]:=by
 show(if(("book":Str)) = "branches" then _ else _)=_
 rw[if_neg (by decide)];rfl
theorem zu8(n p v:V):qk2 ("mends":Str) v [(("book":Str),n),(("branches":Str),p)]=[(("book":Str),n),(("branches":Str),p),(("mends":Str),v)]:=by
 show(if(("book":Str)) = "mends" then _ else _::(if(("branches":Str)) = "mends" then _ else _))=_
 rw[if_neg (by decide),if_neg (by decide)];rfl
theorem zu9(n p q v:V):qk2 ("laid":Str) v [(("book":Str),n),(("branches":Str),p),(("mends":Str),q)]=[(("book":Str),n),(("branches":Str),p),(("mends":Str),q),(("laid":Str),v)]:=by
 show(if(("book":Str)) = "laid" then _ else _::(if(("branches":Str)) = "laid" then _ else _::(if(("mends":Str)) = "laid" then _ else _)))=_
 rw[if_neg (by decide),if_neg (by decide),if_neg (by decide)];rfl
theorem BrO.upd{p:Addr}{o:HO}{a:BA}(h:BrO K H kB a b)(hp:ys9 H p\/H p=none)(hn:p∉a.fp):BrO K (upd H p o) kB a b :=
 h.but But.upd1 (hp.elim O7 fun e=>(A6.new e o).tupK) fun z hz e=>hn (by rw[List.mem_singleton.mp e] at hz;exact hz)
theorem E8{q:Addr}(h:H q=some u)(n:q≠p):upd H p o q=some u:=by rw[B9 n];exact h
theorem X6{q:Addr}(h:H p=none)(e:H q=some u):q≠p:=fun z=>by rw[z,h] at e;cases e
theorem xs4{ps:List Addr}(b:But ps H H')(hp:p∈ps\/H p=none):But ps H (upd H' p o):=fun z u e n=>by
 rw[B9 (fun y=>hp.elim (fun h=>n (by rw[y];exact h)) fun h=>by rw[y,h] at e;cases e)];exact b z u e n
abbrev qs6(K:Fg)(k_Branch:Addr):TS :=
 (C1 (wd9 K (A3 0) (qb5 (A1 (xw2 k_Branch (T9 K) [] E0 (A1 (tC (.str "")) (A1 (M5 A8) A8))) A8)) "branches")
 (C1 (wd9 K (A3 0) (qb5 A8) "mends")
 (wd9 K (A3 0) (qb5 A8) "laid")))
def Y5(K:Fg):Sp:=fun vs H Q _=>∃ (kR r x:Addr) (bv:V),vs=[.ref r,bv]/\PySem.W.nsIn K mainGlobals "Reader"=some (some (.ref kR))/\H r=some (.ins kR x [])/\∀ (kB:Addr) (a:RAd) (H':Hp),RdO K H' kR kB r bv a ⟨[⟨"",[],[],[]⟩],[],[]⟩->But [r] H H'->(∀ z∈RAd.fp r a,z=r\/H z=none)->C2 H H'->Q .non H'
def qc8(K:Fg)(k_Branch:Addr):TS :=
 (C1 (wd9 K (A3 0) (A3 1) "book")
 (qs6 K k_Branch))
theorem wv4(cz:Cz K k_Branch k_Reader)(h:Y5 K vs H Q E):qc8 K k_Branch {nx:=fun _ H'=>Q .non H',rt:=Q} (D8 ["self","book"] vs) H:=by
 obtain⟨kR,r,x,bv,rfl,hkR,hr,q⟩:=h
 obtain rfl:=N1 cz.ns_Reader hkR
 show qc8 K _ _ [some (.ref r),some bv] H
 unfold qc8
 have c:=cz.cl_Reader
 refine qb1 (qj5 ?_)
 lk
 refine⟨r,_,x,_,rfl,hr,c,cz.na_Reader_book,by simp,?_⟩
 rw[zu6]
 have bt1:But [r] H (upd H r (.ins k_Reader x [(("book":Str),bv)])):=But.upd1
 have g1:C2 H (upd H r (.ins k_Reader x [(("book":Str),bv)])):=C2.upd
 have e1:(upd H r (.ins k_Reader x [(("book":Str),bv)])) r=_:=A5
 generalize upd H r (.ins k_Reader x [(("book":Str),bv)])=H1 at *
 show qs6 K _ _ _ _
 refine qb1 (qj5 ?_)
 lk
 refine xr0 ?_
 lk
 refine⟨D4 (by z_go),fun p hp=>?_⟩
 have e2:=E8 (o:=.tup []) e1 (X6 hp e1)
 have bt2:But [r] H (upd H1 p (.tup [])):=xs4 bt1 (.inr (g1 _ hp))
 have g2:C2 H (upd H1 p (.tup [])):=C2.tr g1 C2.upd
 have ep:SqT K (upd H1 p (.tup [])) p []:=SqT.of A5
 generalize upd H1 p (.tup [])=H2 at *
 lk
 intro o dx ho hdx ne
 have nor:r≠o:=X6 ho e2
 have e3:(upd (upd H2 dx (.own o)) o (.ins k_Branch dx [])) r=_:=E8 (E8 e2 (X6 hdx e2)) nor
 have bt3:But [r] H (upd (upd H2 dx (.own o)) o (.ins k_Branch dx [])):=xs4 (xs4 bt2 (.inr (g2 _ hdx))) (.inr (g2 _ ho))
 have g3:C2 H (upd (upd H2 dx (.own o)) o (.ins k_Branch dx [])):=C2.tr g2 (C2.tr C2.upd C2.upd)
 have s3:A6 H2 (upd (upd H2 dx (.own o)) o (.ins k_Branch dx [])):=fun z u e=>E8 (E8 e (X6 hdx e)) (X6 ho e)
 have eo:(upd (upd H2 dx (.own o)) o (.ins k_Branch dx [])) o=some (.ins k_Branch dx []):=A5
 generalize upd (upd H2 dx (.own o)) o (.ins k_Branch dx [])=H3 at *
 refine⟨k_Branch,o,dx,p, "",[],rfl,cz.ns_Branch,eo,s3.sqT ep,fun qq ww H4 hq hw hqw bt hB g4=>⟨rfl,?_⟩⟩
 have e4:H4 r=_:=bt _ _ e3 (by simp[nor])
 have bt4:But [r] H H4:=fun z u e n=>bt z u (bt3 z u e n) (by simp;intro y;rw[y] at e;have:=g2 _ ho;rw[e] at this;cases this)
 have g4':C2 H H4:=C2.tr g3 g4
 have nrq:r≠qq:=X6 hq e3
 have nrw:r≠ww:=X6 hw e3
 have noq:o≠qq:=X6 hq eo
 have now:o≠ww:=X6 hw eo
 have fp:BA.fp ⟨o,dx,p,qq,ww⟩=[o,qq,ww]:=rfl
 lk
 refine⟨D4 (by z_go),fun L hL=>?_⟩
 lk
 have nL:L∉BA.fp ⟨o,dx,p,qq,ww⟩:=fun hz=>by
  rcases(qi6.cons hB .nil).mut L (by rw[Q3];exact List.mem_append_left _ hz) with⟨xs,e⟩|⟨C,d,fs,e⟩ <;> rw[hL] at e <;> cases e
 have hB5:=hB.upd (o:=.lst [.ref o]) (.inr hL) nL
 have e5:=E8 (o:=.lst [.ref o]) e4 (X6 hL e4)
 have eL5:(upd H4 L (.lst [.ref o])) L=_:=A5
 have bt5:But [r] H (upd H4 L (.lst [.ref o])):=xs4 bt4 (.inr (g4' _ hL))
 have g5:C2 H (upd H4 L (.lst [.ref o])):=C2.tr g4' C2.upd
 have hLr:r≠L:=X6 hL e4
 have hL0:=g4' _ hL
 generalize upd H4 L (.lst [.ref o])=H5 at *
 refine⟨r,_,x,_,rfl,e5,c,cz.na_Reader_branches,by simp,?_⟩
 rw[zu7]
 have nr:r∉BA.fp ⟨o,dx,p,qq,ww⟩:=by rw[fp];simp[nor,nrq,nrw]
 have hB6:=hB5.upd (o:=.ins k_Reader x [(("book":Str),bv),(("branches":Str),.ref L)]) (.inl (.inr ⟨_,_,_,e5⟩)) nr
 have e6:(upd H5 r (.ins k_Reader x [(("book":Str),bv),(("branches":Str),.ref L)])) r=_:=A5
 have eL6:=E8 (o:=.ins k_Reader x [(("book":Str),bv),(("branches":Str),.ref L)]) eL5 (Ne.symm hLr)
 have bt6:But [r] H (upd H5 r (.ins k_Reader x [(("book":Str),bv),(("branches":Str),.ref L)])):=xs4 bt5 (.inl (by simp))
 have g6:C2 H (upd H5 r (.ins k_Reader x [(("book":Str),bv),(("branches":Str),.ref L)])):=C2.tr g5 C2.upd
 generalize upd H5 r (.ins k_Reader x [(("book":Str),bv),(("branches":Str),.ref L)])=H6 at *
 show C1 (wd9 K (A3 0) (qb5 A8) "mends") _ _ _ _
 refine qb1 (qj5 ?_)
 lk
 refine⟨D4 (by z_go),fun M hM=>?_⟩
 lk
 have nM:M∉BA.fp ⟨o,dx,p,qq,ww⟩:=fun hz=>by
  rcases(qi6.cons hB6 .nil).mut M (by rw[Q3];exact List.mem_append_left _ hz) with⟨xs,e⟩|⟨C,d,fs,e⟩ <;> rw[hM] at e <;> cases e
 have hB7:=hB6.upd (o:=.lst []) (.inr hM) nM
 have hMr:r≠M:=X6 hM e6
 have hML:L≠M:=X6 hM eL6
 have hM0:=g6 _ hM
 refine⟨r,_,x,_,rfl,E8 e6 hMr,c,cz.na_Reader_mends,by simp,?_⟩
 rw[zu8]
 have e8:(upd (upd H6 M (.lst [])) r (.ins k_Reader x [(("book":Str),bv),(("branches":Str),.ref L),(("mends":Str),.ref M)])) r=_:=A5
 have eL8:=E8 (o:=.ins k_Reader x [(("book":Str),bv),(("branches":Str),.ref L),(("mends":Str),.ref M)]) (E8 (o:=.lst []) eL6 hML) (Ne.symm hLr)
 have eM8:=E8 (o:=.ins k_Reader x [(("book":Str),bv),(("branches":Str),.ref L),(("mends":Str),.ref M)]) (A5 (H:=H6) (a:=M) (o:=.lst [])) (Ne.symm hMr)
 have hB8:=hB7.upd (o:=.ins k_Reader x [(("book":Str),bv),(("branches":Str),.ref L),(("mends":Str),.ref M)]) (.inl (.inr ⟨_,_,_,E8 e6 hMr⟩)) nr
 have bt8:But [r] H (upd (upd H6 M (.lst [])) r (.ins k_Reader x [(("book":Str),bv),(("branches":Str),.ref L),(("mends":Str),.ref M)])):=xs4 (xs4 bt6 (.inr hM0)) (.inl (by simp))
 have g8:C2 H (upd (upd H6 M (.lst [])) r (.ins k_Reader x [(("book":Str),bv),(("branches":Str),.ref L),(("mends":Str),.ref M)])):=C2.tr g6 (C2.tr C2.upd C2.upd)
 generalize upd (upd H6 M (.lst [])) r (.ins k_Reader x [(("book":Str),bv),(("branches":Str),.ref L),(("mends":Str),.ref M)])=H8 at *
 show wd9 K (A3 0) (qb5 A8) "laid" _ _ _
 refine qj5 ?_
 lk
 refine⟨D4 (by z_go),fun A hA=>?_⟩
 lk
 have nA:A∉BA.fp ⟨o,dx,p,qq,ww⟩:=fun hz=>by
  rcases(qi6.cons hB8 .nil).mut A (by rw[Q3];exact List.mem_append_left _ hz) with⟨xs,e⟩|⟨C,d,fs,e⟩ <;> rw[hA] at e <;> cases e
 have hB9:=hB8.upd (o:=.lst []) (.inr hA) nA
 have hAr:r≠A:=X6 hA e8
 have hAL:L≠A:=X6 hA eL8
 have hAM:M≠A:=X6 hA eM8
 have hA0:=g8 _ hA
 refine⟨r,_,x,_,rfl,E8 e8 hAr,c,cz.na_Reader_laid,by simp,?_⟩
 rw[zu9]
 have hB10:=hB9.upd (o:=.ins k_Reader x [(("book":Str),bv),(("branches":Str),.ref L),(("mends":Str),.ref M),(("laid":Str),.ref A)]) (.inl (.inr ⟨_,_,_,E8 e8 hAr⟩)) nr
 refine q k_Branch ⟨x,L,M,A,[⟨o,dx,p,qq,ww⟩]⟩ _ ⟨cz.ns_Reader,cz.ns_Branch,A5,E8 (E8 eL8 hAL) (Ne.symm hLr),.cons hB10 .nil,⟨[],E8 (E8 eM8 hAM) (Ne.symm hMr),J4⟩,⟨[],E8 A5 (Ne.symm hAr),J4⟩,?_⟩ (xs4 (xs4 bt8 (.inr hA0)) (.inl (by simp))) ?_ (C2.tr g8 (C2.tr C2.upd C2.upd))
 ·show(r::L::M::A::fpA [⟨o,dx,p,qq,ww⟩]).Nodup
  have ef:fpA [⟨o,dx,p,qq,ww⟩]=[o,qq,ww]:=rfl
  rw[fp] at nL nM nA
  simp only[List.mem_cons,List.not_mem_nil,or_false,not_or] at nL nM nA
  rw[ef]
  simp[hLr,hMr,hAr,nor,nrq,nrw,hML,hAL,hAM,nL.1,nL.2.1,nL.2.2,nM.1,nM.2.1,nM.2.2,nA.1,nA.2.1,nA.2.2,noq,now,hqw]
 ·intro z hz
  have hz':z∈r::L::M::A::[o,qq,ww]:=hz
  simp only[List.mem_cons,List.not_mem_nil,or_false] at hz'
  rcases hz' with h1|h1|h1|h1|h1|h1|h1
  ·exact .inl h1
  ·exact .inr (h1▸hL0)
  ·exact .inr (h1▸hM0)
  ·exact .inr (h1▸hA0)
  ·exact .inr (h1▸g2 _ ho)
  ·exact .inr (h1▸g3 _ hq)
  ·exact .inr (h1▸g3 _ hw)
theorem wv5(h:0<=m):qe7 xs (some m) none=xs.drop m.toNat:=by
 unfold qe7
 have e:HT.sIx xs.length 0 (some m)=min m.toNat xs.length:=by
  show(if m<0 then _ else min m.toNat xs.length)=_
  rw[if_neg (by omega)]
 show(xs.drop (HT.sIx xs.length 0 (some m))).take (xs.length-HT.sIx xs.length 0 (some m))=_
 rw[e]
 by_cases hl:m.toNat<=xs.length
 ·rw[Nat.min_eq_left hl,List.take_of_length_le (by rw[List.length_drop];exact Nat.le_refl _)]
 ·rw[Nat.min_eq_right (by omega),List.drop_length,List.drop_eq_nil_of_le (by omega),List.take_nil]
theorem qk6{l:List α}{i:Nat}{x:α}(h:l[i]?=some x):l.take (i+1)=l.take i++[x]:=by rw[List.take_succ,h];rfl
theorem zo3{x:α}{xs:List α}:atI (x::xs) 0=some x:=by
 have:atI (x::xs) ((0:Nat):Int)=some x:=O2 rfl
 exact this
section
variable{kB:Addr}
theorem qi6.get{bs:List Brn}{i:Nat}{x:BA}(h:qi6 K H kB as bs)(e:as[i]?=some x):∃ b,bs[i]?=some b/\BrO K H kB x b:=by
 induction h generalizing i with
 | nil=>simp at e
 | cons h1 _ ih =>
   cases i with
   | zero=>simp at e;subst e;exact⟨_,rfl,h1⟩
   | succ i=>exact ih (by simpa using e)
end
def Y6(K:Fg):Sp:=fun vs H Q _=>∃ (kR kB r:Addr) (bv:V) (a:RAd) (st:Rst) (b0:Brn) (bs:List Brn),vs=[.ref r]/\RdO K H kR kB r bv a st/\st.bs=b0::bs/\∀ (v:V) (H':Hp),A6 H H'->Dv K H' (Tr.nd "" b0.ps).da v->Q v H'
def qc9(K:Fg):TS :=
 (L6 (M5 (A1 (tC (.str "")) (A1 (tCB (qn0 K) (A1 (S4 K (tOp (L1 K) (S4 K (A3 0) "branches") (tC (.int 0))) "parts") A8)) A8))))
theorem wv6(cz:Cz K k_Branch k_Reader)(h:Y6 K vs H Q E):qc9 K {nx:=fun _ H'=>Q .non H',rt:=Q} (D8 ["self"] vs) H:=by
 obtain⟨kR,kB,r,bv,a,st,b0,bs,rfl,h,eb,q⟩:=h
 obtain rfl:=N1 cz.ns_Reader h.kr
 obtain rfl:=N1 cz.ns_Branch h.kb
 show qc9 K _ [some (.ref r)] H
 unfold qc9
 obtain⟨m1,x,m2,ea,hm,hx⟩:=h.as_split (l1:=[]) eb
 obtain rfl:=List.eq_nil_of_length_eq_zero hm
 obtain⟨us,q1,q2⟩:=hx.q
 lk
 refine G9 ?_
 lk
 refine G9 ?_
 lk
 refine⟨r,_,a.x,_,_,rfl,h.o,cz.cl_Reader,cz.na_Reader_branches,rfl,?_⟩
 lk
 refine M1 (SqL.of h.l) (v:=.ref x.o) (by rw[ea];exact zo3) ?_
 refine⟨x.o,_,x.x,_,_,rfl,hx.o,cz.cl_Branch,cz.na_Branch_parts,rfl,?_⟩
 lk
 refine⟨_,_,rfl,.inl ⟨SqL.of q1,fun l hl=>?_⟩⟩
 lk
 refine⟨D4 (by z_go),fun p hp=>?_⟩
 have s1:=A6.new hl (.tup us)
 have s2:=A6.new hp (.tup [.str "",.ref l])
 refine q _ _ (A6.tr s1 s2) (za4 (SqT.of A5) (s2.sqT (SqT.of A5)) (Dvs.same (A6.tr s1 s2) _ _ q2))
def E2(K:Fg):Sp:=fun vs H Q _=>∃ (kR kB r:Addr) (bv:V) (a:RAd) (st:Rst) (b0:Brn) (bs:List Brn),vs=[.ref r]/\RdO K H kR kB r bv a st/\st.bs=b0::bs/\bs.length<=1000/\∀ (p:Addr) (H':Hp),A6 H H'->SqT K H' p (B7 (bs.map Brn.n))->Q (.ref p) H'
def R3(K:Fg):TS :=
 (L6 (tCB (qn0 K) (A1 (wk0 [none] (wj0 K (tSl (wm2 K) (S4 K (A3 0) "branches") (W1 (tC (.int 1))) qc3)) (B1 0) tTT (S4 K (A3 0) "name")) A8)))
theorem qz9(cz:Cz K k_Branch k_Reader)(h:E2 K vs H Q E):R3 K {nx:=fun _ H'=>Q .non H',rt:=Q} (D8 ["self"] vs) H:=by
 obtain⟨kR,kB,r,bv,a,st,b0,bs,rfl,h,eb,hl,q⟩:=h
 obtain rfl:=N1 cz.ns_Reader h.kr
 obtain rfl:=N1 cz.ns_Branch h.kb
 show R3 K _ [some (.ref r)] H
 unfold R3
 obtain⟨m1,x,m2,ea,hm,hx⟩:=h.as_split (l1:=[]) eb
 obtain rfl:=List.eq_nil_of_length_eq_zero hm
 have hb:=h.b
 rw[ea,eb] at hb
 obtain⟨_,_,hb2⟩:=hb.split (m1:=[]) (l1:=[]) rfl
 have hbl:=hb2.len
 lk
 refine G9 ?_
 lk
 refine⟨r,_,a.x,_,_,rfl,h.o,cz.cl_Reader,cz.na_Reader_branches,rfl,?_⟩
 lk
 refine xx4 (SqL.of h.l) fun p hp=>?_
 have ecut:qe7 (a.as.map fun z=>V.ref z.o) (some 1) none=m2.map fun z=>V.ref z.o:=by
  rw[wv5 (by decide),ea];rfl
 rw[ecut]
 have s1:=A6.new hp (.lst (m2.map fun z=>V.ref z.o))
 have e1:(upd H p (.lst (m2.map fun z=>V.ref z.o))) p=_:=A5
 generalize upd H p (.lst (m2.map fun z=>V.ref z.o))=H1 at *
 refine xw9 (.inl (SqL.of e1)) (fun i ys H'=>H'=H1/\ys=B7 ((bs.take i).map Brn.n)) ⟨rfl,rfl⟩ ?_ ?_ ?_ ?_ ?_
 ·rintro i ys H' hi ⟨_,rfl⟩
  rw[B4,List.length_map,List.length_take]
  exact D4 (by omega)
 ·rintro _ i ys H' _ ⟨rfl,_⟩;exact SqL.of e1
 ·rintro hq i ys H' _ ⟨rfl,_⟩;exact hq
 ·rintro i v ys H' hi ⟨rfl,rfl⟩
  rw[List.getElem?_map] at hi
  obtain⟨z,hz,rfl⟩:=Option.map_eq_some_iff.mp hi
  obtain⟨c,hc,hB⟩:=hb2.get hz
  refine E5 ?_
  lk
  refine G9 ?_
  lk
  refine⟨z.o,_,z.x,_,_,rfl,s1 _ _ hB.o,cz.cl_Branch,cz.na_Branch_name,rfl,?_⟩
  refine⟨rfl,?_⟩
  rw[wf0,qk6 hc,List.map_append];rfl
 ·rintro ys H' ⟨rfl,rfl⟩ l hl2
  have en:bs.take (m2.map fun z=>V.ref z.o).length=bs:=by rw[List.length_map,hbl];exact List.take_length
  rw[en]
  have s2:=A6.new hl2 (.lst (B7 (bs.map Brn.n)))
  lk
  refine⟨_,_,rfl,.inl ⟨SqL.of A5,fun w hw=>?_⟩⟩
  lk
  exact q _ _ (A6.tr (A6.tr s1 s2) (A6.new hw _)) (SqT.of A5)
abbrev qp5(K:Fg):TS :=
 (I0 (tBM K "list" I9 (S4 K (tOp (L1 K) (S4 K (A3 0) "branches") (tUn (rU fun i=>.int (-i)) (tC (.int 1)))) "parts") (A1 (M5 (A1 (S4 K (A3 1) "name") (A1 (tCB (qn0 K) (A1 (S4 K (A3 1) "parts") A8)) A8))) A8)))
def P0(K:Fg):Sp:=fun vs H Q _=>∃ (kR kB r:Addr) (bv:V) (a:RAd) (st:Rst) (bs:List Brn) (b1 b2:Brn),vs=[.ref r]/\RdO K H kR kB r bv a st/\st.bs=bs++[b1,b2]/\b1.ps.length<=9000000/\∀ a' H',Rup K kR kB r bv H a H' a' {st with bs:=bs++[{b1 with ps:=b1.ps++[Tr.nd b2.n b2.ps]}]}->C2 H H'->Q .non H'
def Y7(K:Fg):TS :=
 (C1 (E1 (zg7 K "list" zg8 (S4 K (A3 0) "branches")) (B1 1))
 (qp5 K))
theorem wr1(cz:Cz K k_Branch k_Reader)(h:P0 K vs H Q E):Y7 K {nx:=fun _ H'=>Q .non H',rt:=Q} (D8 ["self","branch"] vs) H:=by
 obtain⟨kR,kB,r,bv,a,st,bs,b1,b2,rfl,h,eb,hl,q⟩:=h
 obtain rfl:=N1 cz.ns_Reader h.kr
 obtain rfl:=N1 cz.ns_Branch h.kb
 show Y7 K _ [some (.ref r),none] H
 unfold Y7
 have eb2:st.bs=(bs++[b1])++b2::[]:=by rw[eb];simp
 obtain⟨m,y,m3,ea,hm,hy⟩:=h.as_split eb2
 have hn:=h.b.len
 rw[ea,eb2] at hn
 simp only[List.length_append,List.length_cons,List.length_nil] at hn hm
 obtain rfl:m3=[]:=List.eq_nil_of_length_eq_zero (by omega)
 have hm':m.length=(bs++[b1]).length:=by simp[hm]
 obtain⟨h1,hy1⟩:=h.pop ea eb2 hm'
 have bt1:But (RAd.fp r a) H (upd H a.L (.lst (m.map fun z=>V.ref z.o))):=fun z u e n=>E8 e fun y=>n (by rw[y];simp[RAd.fp])
 have hL:=h.l
 rw[ea,List.map_append] at hL
 have g1:C2 H (upd H a.L (.lst (m.map fun z=>V.ref z.o))):=C2.upd
 have fy:∀ z∈y.fp,z∉fpA m:=fun z hz hx=>by
  have:=h.apart.2.2.2.2.2.2.2.2.2.2
  rw[ea,R0,List.nodup_append] at this
  exact this.2.2 z hx z (by rw[Q3];exact List.mem_append_left _ hz) rfl
 have fr1:∀ z∈RAd.fp r {a with as:=m},z∈RAd.fp r a:=fun z hz=>by
  simp only[RAd.fp,List.mem_cons,ea,R0,List.mem_append] at hz ⊢
  rcases hz with h|h|h|h|h
  ·exact .inl h
  ·exact .inr (.inl h)
  ·exact .inr (.inr (.inl h))
  ·exact .inr (.inr (.inr (.inl h)))
  ·exact .inr (.inr (.inr (.inr (.inl h))))
 lk
 refine G9 ?_
 lk
 refine⟨r,_,a.x,_,_,rfl,h.o,cz.cl_Reader,cz.na_Reader_branches,rfl,?_⟩
 lk
 refine⟨.inl ⟨rfl,_,SqL.of hL⟩,?_⟩
 refine zn7 hL ?_
 generalize upd H a.L (.lst (m.map fun z=>V.ref z.o))=H1 at *
 lk
 show qp5 K _ _ _
 have e1:({st with bs:=bs++[b1]}:Rst).bs=bs++b1::[]:=rfl
 obtain⟨m1,x,m2,ea2,hm2,hx⟩:=h1.as_split e1
 have ea2':m=m1++x::m2:=ea2
 obtain rfl:m2=[]:=List.eq_nil_of_length_eq_zero (by have:=congrArg List.length ea2';simp at this;omega)
 obtain⟨us,q1,q2⟩:=hx.q
 obtain⟨ws,p1,p2⟩:=hy1.q
 have hul:=qn2 q2
 have h1l:H1 a.L=_:=h1.l
 have h1o:H1 r=_:=h1.o
 lk
 refine G9 ?_
 lk
 refine G9 ?_
 lk
 refine⟨r,_,a.x,_,_,rfl,h1o,cz.cl_Reader,cz.na_Reader_branches,rfl,?_⟩
 lk
 refine⟨1,rfl,?_⟩
 refine M1 (SqL.of h1l) (v:=.ref x.o) (wh8 (n:=m1.length) (by show(m.map _).length=_;rw[ea2'];simp) (by show(m.map _)[_]?=_;rw[ea2'];simp)) ?_
 refine⟨x.o,_,x.x,_,_,rfl,hx.o,cz.cl_Branch,cz.na_Branch_parts,rfl,?_⟩
 lk
 refine⟨.inl ⟨rfl,_,SqL.of q1⟩,?_⟩
 lk
 refine G9 ?_
 lk
 refine⟨y.o,_,y.x,_,_,rfl,hy1.o,cz.cl_Branch,cz.na_Branch_name,rfl,?_⟩
 lk
 refine G9 ?_
 lk
 refine⟨y.o,_,y.x,_,_,rfl,hy1.o,cz.cl_Branch,cz.na_Branch_parts,rfl,?_⟩
 lk
 refine⟨_,_,rfl,.inl ⟨SqL.of p1,fun l hl=>?_⟩⟩
 lk
 refine⟨D4 (by z_go),fun p hp=>?_⟩
 have s2:=A6.new hl (.tup ws)
 have s3:=A6.new hp (.tup [.str b2.n,.ref l])
 have s23:=A6.tr s2 s3
 have dt:Dv K _ (Tr.nd b2.n b2.ps).da (.ref p):=za4 (SqT.of (A5 (H:=upd H1 l (.tup ws)) (a:=p) (o:=.tup [.str b2.n,.ref l]))) (s3.sqT (SqT.of A5)) (Dvs.same s23 _ _ p2)
 generalize upd (upd H1 l (.tup ws)) p (.tup [.str b2.n,.ref l])=H2 at *
 lk
 refine M8 (s23 _ _ q1) (by rw[hul,sizeLine_eq];omega) ?_
 have h2:=h1.same s23
 have xq:x.q∈x.fp:=by simp[BA.fp]
 have bt3:But x.fp H2 (upd H2 x.q (.lst (us++[.ref p]))):=fun z u e n=>E8 e fun y=>n (by rw[y];exact xq)
 have xnd:x.fp.Nodup:=by
  have:=h1.apart.2.2.2.2.2.2.2.2.2.2
  rw[show({a with as:=m}:RAd).as=m from rfl,ea2',R0,Q3,List.nodup_append,List.nodup_append] at this
  exact this.2.1.1
 have hx2:=(hx.but (ps:=[]) (fun z u e _=>s23 z u e) s23.tupK fun _ _ z=>by cases z)
 have tk3:U8 H2 (upd H2 x.q (.lst (us++[.ref p]))):=O7 (.inl ⟨_,s23 _ _ q1⟩)
 have no:x.o≠x.q:=by simp[BA.fp] at xnd;exact xnd.1.1
 have nw:x.w≠x.q:=by simp[BA.fp] at xnd;exact Ne.symm xnd.2
 have hB:BrO K (upd H2 x.q (.lst (us++[.ref p]))) k_Branch x {b1 with ps:=b1.ps++[Tr.nd b2.n b2.ps]} :=
  ⟨E8 hx2.o no,tk3.sqT hx2.p,⟨_,A5,by
   show Dvs K _ (Tr.das (b1.ps++[Tr.nd b2.n b2.ps])) _
   rw[T4,List.map_append,<-T4]
   exact Dvs.append (Dvs.tupK tk3 _ _ (qc4 _) (Dvs.same s23 _ _ q2)) (Dvs.one (Dv.tupK tk3 _ _ (yh1 _) dt))⟩,E8 hx2.w nw⟩
 have u:=Rup.swap h2 ea2 e1 hm2 bt3 hB (fun z hz=>.inl hz) xnd rfl
 refine q _ _ ⟨u.ok,fun c o e n=>?_,fun z hz=>?_⟩ (C2.tr (C2.tr g1 (A6.grow s23)) C2.upd)
 ·exact bt3 c o (s23 _ _ (bt1 c o e n)) fun hc=>n (fr1 c (zb9 ea2 hc))
 ·exact(u.fr z hz).imp (fr1 z) fun h=>g1 z (A6.grow s23 z h)
theorem yi5 {n:Option Str} (h:Q (.bl (decide (n=some x))) H):X3 K (oV n) (.str x) H Q:=by
 cases n with
 | none => refine xx0 rfl ?_;have e:(decide (oV none=V.str x))=decide (none=some x):=by simp[oV]
           rw[e];exact h
 | some y => refine xx0 rfl ?_;have e:(decide (oV (some y)=V.str x))=decide (some y=some x):=by simp[oV]
             rw[e];exact h
section
variable{kR kB r:Addr}{bv:V}{a:RAd}{st:Rst}
theorem Rup.mend{e:Int}(h:RdO K H kR kB r bv a st)(s1:A6 H H1)(e1:SqT K H1 p [.int i,.int e,.str t,.str rule])(m2:Dvs K H (st.ms.map Mnd.da) us) :
 Rup K kR kB r bv H a (upd H1 a.M (.lst (us++[.ref p]))) a {st with ms:=st.ms++[⟨i,e,t,rule⟩]}:=by
 refine .keep ((h.same s1).setM ?_) fun c o e n=>?_
 ·rw[List.map_append]
  exact Dvs.append (Dvs.same s1 _ _ m2) (Dvs.one (D7.mpr ⟨p,_,rfl,e1,C3 (O6.mpr rfl) (C3 (O6.mpr rfl) (C3 (E6.mpr rfl) (C3 (E6.mpr rfl) J4)))⟩))
 ·rw[B9 (fun z=>n (by rw[z];simp[RAd.fp]))];exact s1 c o e
theorem RdO.ms_len(m2:Dvs K H (st.ms.map Mnd.da) us):us.length=st.ms.length:=by have:=m2.length;rw[List.length_map] at this;exact this
end
def O0(K:Fg):Sp:=fun vs H Q _=>∃ (kR kB r:Addr) (bv:V) (a:RAd) (st:Rst) (n:Str) (i:Int) (rule:Str) (bs:List Brn) (b0:Brn),vs=[.ref r,.str n,.int i,.str rule]/\RdO K H kR kB r bv a st/\st.bs=bs++[b0]/\bs.length<=1000/\b0.pl.length<=1000/\b0.ps.length<=9000000/\st.ms.length<=9000000/\n.length<=4000/\∀ a' H',Rup K kR kB r bv H a H' a' {st with bs:=st.bs++[⟨n,b0.pl++[(b0.ps.length:Int)],[],[]⟩],ms:=st.ms++[⟨i,i,opn n,rule⟩]}->C2 H H'->Q .non H'
def W5(K:Fg)(k_Reader:Addr):TS :=
 (C1 (I0 (tBM K "list" I9 (S4 K (A3 0) "mends") (A1 (M5 (A1 (A3 2) (A1 (A3 2) (A1 (D3 (qj8 K) [] E0 (A1 (A3 1) A8)) (A1 (A3 3) A8))))) A8)))
 (I0 (N3 k_Reader "enter" (S6 K) [] E0 (A3 0) (A1 (A3 1) A8))))
theorem wn2(cz:Cz K k_Branch k_Reader)(h:O0 K vs H Q E):W5 K k_Reader {nx:=fun _ H'=>Q .non H',rt:=Q} (D8 ["self","name","start","rule"] vs) H:=by
 obtain⟨kR,kB,r,bv,a,st,n,i,rule,bs,b0,rfl,h,eb,h1,h2,h3,h4,h5,q⟩:=h
 obtain rfl:=N1 cz.ns_Reader h.kr
 show W5 K _ _ [some (.ref r),some (.str n),some (.int i),some (.str rule)] H
 unfold W5
 obtain⟨us,m1,m2⟩:=h.m
 have hul:=RdO.ms_len m2
 lk
 refine G9 ?_
 lk
 refine⟨r,_,a.x,_,_,rfl,h.o,cz.cl_Reader,cz.na_Reader_mends,rfl,?_⟩
 lk
 refine⟨.inl ⟨rfl,_,SqL.of m1⟩,?_⟩
 lk
 refine⟨n,rfl,h5,?_⟩
 lk
 refine⟨D4 (by z_go),fun p hp=>?_⟩
 lk
 have s1:=A6.new hp (.tup [.int i,.int i,.str (opn n),.str rule])
 refine M8 (s1 _ _ m1) (by rw[hul,sizeLine_eq];omega) ?_
 have u1:=Rup.mend h s1 (SqT.of A5) m2
 have g1:C2 H (upd (upd H p (.tup [.int i,.int i,.str (opn n),.str rule])) a.M (.lst (us++[.ref p]))):=C2.tr C2.upd C2.upd
 generalize upd (upd H p (.tup [.int i,.int i,.str (opn n),.str rule])) a.M (.lst (us++[.ref p]))=H1 at *
 lk
 refine E7 ?_
 lk
 refine⟨r,_,_,rfl,u1.ok.o,rfl,?_⟩
 lk
 refine⟨k_Reader,kB,r,bv,a,_,n,bs,b0,rfl,u1.ok,eb,h1,h2,h3,fun a' H' u2 g2=>?_⟩
 exact q a' H' (u1.tr u2 g1) (C2.tr g1 g2)
def P1(K:Fg):Sp:=fun vs H Q _=>∃ (kR kB r:Addr) (bv:V) (a:RAd) (st:Rst) (b0:Brn) (bs:List Brn) (rs:List Row),vs=[.ref r]/\RdO K H kR kB r bv a st/\BkO K H bv rs/\st.bs=b0::bs/\bs.length<=1000/\∀ H':Hp,A6 H H'->Q (.bl (decide (J0 rs (some (J5 (bs.map Brn.n)))=some ("frame":Str)))) H'
def Q6(K:Fg)(k_Reader:Addr):TS :=
 (L6 (tOp (X3 K) (D3 (X4 K) [] E0 (A1 (S4 K (A3 0) "book") (A1 (D3 (O9 K) [] E0 (A1 (N3 k_Reader "open_names" (E2 K) [] E0 (A3 0) A8) A8)) A8))) (tC (.str "frame"))))
theorem qw7(cz:Cz K k_Branch k_Reader)(h:P1 K vs H Q E):Q6 K k_Reader {nx:=fun _ H'=>Q .non H',rt:=Q} (D8 ["self"] vs) H:=by
 obtain⟨kR,kB,r,bv,a,st,b0,bs,rs,rfl,h,hk,eb,hl,q⟩:=h
 obtain rfl:=N1 cz.ns_Reader h.kr
 show Q6 K _ _ [some (.ref r)] H
 unfold Q6
 lk
 refine G9 ?_
 lk
 refine⟨r,_,a.x,_,_,rfl,h.o,cz.cl_Reader,cz.na_Reader_book,rfl,?_⟩
 lk
 refine E7 ?_
 lk
 refine⟨r,_,_,rfl,h.o,rfl,?_⟩
 lk
 refine⟨k_Reader,kB,r,bv,a,st,b0,bs,rfl,h,eb,hl,fun p H1 s1 hp=>?_⟩
 lk
 refine⟨p,_,rfl,.inr hp,?_⟩
 lk
 refine⟨bv,some (J5 (bs.map Brn.n)),rs,rfl,(hk.same s1).rws,?_⟩
 lk
 refine yi5 ?_
 exact q _ s1
theorem wz1{f:α->Bool}:∀ {l zs:List α} {z:α},l.filter f=zs++[z]->∃ A B,l=A++z::B/\f z=true/\∀ c∈B,f c=false:=by
 intro l
 induction l with
 | nil=>intro zs z h;simp at h
 | cons x l ih =>
   intro zs z h
   by_cases hx:f x=true
   ·rw[List.filter_cons_of_pos hx] at h
    cases zs with
    | nil =>
      simp only[List.nil_append,List.cons.injEq] at h
      obtain⟨rfl,h⟩:=h
      exact⟨[],l,rfl,hx,fun c hc=>Bool.eq_false_iff.mpr (List.filter_eq_nil_iff.mp h c hc)⟩
    | cons y zs =>
      simp only[List.cons_append,List.cons.injEq] at h
      obtain⟨A,B,e,h1,h2⟩:=ih h.2
      exact⟨x::A,B,by rw[e];rfl,h1,h2⟩
   ·rw[List.filter_cons_of_neg hx] at h
    obtain⟨A,B,e,h1,h2⟩:=ih h
    exact⟨x::A,B,by rw[e];rfl,h1,h2⟩
theorem zo4{c:Bool}{p q:Prop}(hc:c=true)(h:p):if c=true then p else q:=by rw[if_pos hc];exact h
def LwP(rs:List Row)(l1:List Brn)(b:Brn)(l2:List Brn):Prop:=(V9 rs b.n=true/\∀ c∈l2,V9 rs c.n=false)\/(l1=[]/\∀ c∈b::l2,V9 rs c.n=false)
abbrev qf8(K:Fg):TS :=
 (L6 (tIf (G0 (tOp wt5 (tCB (L5 K) (A1 (A3 1) A8)) (tC (.int 0)))) (tOp (L1 K) (A3 1) (tUn (rU fun i=>.int (-i)) (tC (.int 1)))) (tOp (L1 K) (S4 K (A3 0) "branches") (tC (.int 0)))))
def M7(K:Fg):Sp:=fun vs H Q _=>∃ (kR kB r:Addr) (bv:V) (a:RAd) (st:Rst) (rs:List Row),vs=[.ref r]/\RdO K H kR kB r bv a st/\BkO K H bv rs/\st.bs≠[]/\st.bs.length<=1000/\∀ (m1 m2:List BA) (x:BA) (l1 l2:List Brn) (b:Brn) (H':Hp),A6 H H'->a.as=m1++x::m2->st.bs=l1++b::l2->m1.length=l1.length->LwP rs l1 b l2->Q (.ref x.o) H'
def S7(K:Fg):TS :=
 (C1 (E1 (wk0 [some 0,none] (wj0 K (S4 K (A3 0) "branches")) (B1 1) (tB (D3 (qd5 K) [] E0 (A1 (S4 K (A3 0) "book") (A1 (S4 K (A3 1) "name") A8)))) (A3 1)) (B1 1))
 (qf8 K))
theorem wd2(cz:Cz K k_Branch k_Reader)(h:M7 K vs H Q E):S7 K {nx:=fun _ H'=>Q .non H',rt:=Q} (D8 ["self","walls"] vs) H:=by
 obtain⟨kR,kB,r,bv,a,st,rs,rfl,h,hk,hne,hl,q⟩:=h
 obtain rfl:=N1 cz.ns_Reader h.kr
 obtain rfl:=N1 cz.ns_Branch h.kb
 show S7 K _ [some (.ref r),none] H
 unfold S7
 have hb:=h.b
 have hbl:=hb.len
 let f:BA×Brn->Bool:=fun z=>V9 rs z.2.n
 have zl:(a.as.zip st.bs).length=st.bs.length:=by rw[List.length_zip,hbl,Nat.min_self]
 have zg:∀ i x,a.as[i]?=some x->∃ c,st.bs[i]?=some c/\BrO K H k_Branch x c/\(a.as.zip st.bs)[i]?=some (x,c):=fun i x e=>by
  obtain⟨c,h1,h2⟩:=hb.get e
  exact⟨c,h1,h2,List.getElem?_zip_eq_some.mpr ⟨e,h1⟩⟩
 lk
 refine G9 ?_
 lk
 refine⟨r,_,a.x,_,_,rfl,h.o,cz.cl_Reader,cz.na_Reader_branches,rfl,?_⟩
 refine xw9 (.inl (SqL.of h.l)) (fun i ys H'=>H'=H/\ys=((((a.as.zip st.bs).take i).filter f).map fun z=>V.ref z.1.o)) ⟨rfl,rfl⟩ ?_ ?_ ?_ ?_ ?_
 ·rintro i ys H' hi ⟨_,rfl⟩
  rw[List.length_map]
  have:=List.length_filter_le f ((a.as.zip st.bs).take i)
  rw[List.length_take] at this
  exact D4 (by omega)
 ·rintro _ i ys H' _ ⟨rfl,_⟩;exact SqL.of h.l
 ·rintro hq i ys H' _ ⟨rfl,_⟩;exact hq
 ·rintro i v ys H' hi ⟨rfl,rfl⟩
  rw[List.getElem?_map] at hi
  obtain⟨z,hz,rfl⟩:=Option.map_eq_some_iff.mp hi
  obtain⟨c,hc,hB,hzz⟩:=zg i z hz
  refine E5 ?_
  lk
  refine G9 ?_
  lk
  refine⟨r,_,a.x,_,_,rfl,h.o,cz.cl_Reader,cz.na_Reader_book,rfl,?_⟩
  lk
  refine G9 ?_
  lk
  refine⟨z.o,_,z.x,_,_,rfl,hB.o,cz.cl_Branch,cz.na_Branch_name,rfl,?_⟩
  lk
  refine⟨bv,c.n,rs,rfl,hk.rws,?_⟩
  lk
  have et:((a.as.zip st.bs).take (i+1)).filter f=((a.as.zip st.bs).take i).filter f++(if V9 rs c.n=true then[(z,c)] else[]):=by
   rw[qk6 hzz,List.filter_append]
   congr 1
   by_cases hw:V9 rs c.n=true
   ·rw[if_pos hw,List.filter_cons_of_pos (by exact hw)];rfl
   ·rw[if_neg hw,List.filter_cons_of_neg (by exact hw)];rfl
  by_cases hw:V9 rs c.n=true
  ·rw[hw]
   x_go
   lk
   refine⟨rfl,?_⟩
   rw[et,if_pos hw,List.map_append];rfl
  ·rw[Bool.eq_false_iff.mpr hw]
   refine qk3 ⟨rfl,?_⟩
   rw[et,if_neg hw,List.append_nil]
 ·rintro ys H' ⟨rfl,rfl⟩ l hl2
  have en:(a.as.zip st.bs).take (a.as.map fun z=>V.ref z.o).length=a.as.zip st.bs:=by rw[List.length_map,hbl,<-zl];exact List.take_length
  rw[en]
  have s1:=A6.new hl2 (.lst (((a.as.zip st.bs).filter f).map fun z=>V.ref z.1.o))
  have e1:(upd H' l (.lst (((a.as.zip st.bs).filter f).map fun z=>V.ref z.1.o))) l=_:=A5
  generalize upd H' l (.lst (((a.as.zip st.bs).filter f).map fun z=>V.ref z.1.o))=H1 at *
  have am:(a.as.zip st.bs).map Prod.fst=a.as:=List.map_fst_zip (by omega)
  have bm:(a.as.zip st.bs).map Prod.snd=st.bs:=List.map_snd_zip (by omega)
  show qf8 K _ _ _
  lk
  refine P7 (.inl (SqL.of e1)) ?_
  lk
  rcases List.eq_nil_or_concat ((a.as.zip st.bs).filter f) with hz|⟨zs,z,hz⟩
  ·rw[hz]
   k_go
   lk
   refine G9 ?_
   lk
   refine⟨r,_,a.x,_,_,rfl,s1 _ _ h.o,cz.cl_Reader,cz.na_Reader_branches,rfl,?_⟩
   lk
   obtain⟨b0,bs,eb⟩:=List.exists_cons_of_ne_nil hne
   obtain⟨m1,x,m2,ea,hm,hx⟩:=h.as_split (l1:=[]) eb
   obtain rfl:=List.eq_nil_of_length_eq_zero hm
   refine M1 (SqL.of (s1 _ _ h.l)) (v:=.ref x.o) (by rw[ea];exact zo3) ?_
   refine q [] m2 x [] bs b0 _ s1 ea eb rfl (.inr ⟨rfl,fun c hc=>?_⟩)
   rw[<-eb,<-bm] at hc
   obtain⟨w,hw,rfl⟩:=List.mem_map.mp hc
   have:=List.filter_eq_nil_iff.mp hz w hw
   exact Bool.eq_false_iff.mpr this
  ·rw[List.concat_eq_append] at hz
   rw[hz] at e1 ⊢
   refine zo4 (by simp) ?_
   lk
   refine⟨1,rfl,?_⟩
   refine M1 (SqL.of e1) (v:=.ref z.1.o) (wh8 (n:=zs.length) (by simp) (by simp)) ?_
   obtain⟨A,B,e2,e3,e4⟩:=wz1 hz
   refine q (A.map Prod.fst) (B.map Prod.fst) z.1 (A.map Prod.snd) (B.map Prod.snd) z.2 _ s1 (by rw[<-am,e2];simp) (by rw[<-bm,e2];simp) (by simp) (.inl ⟨e3,fun c hc=>?_⟩)
   obtain⟨w,hw,rfl⟩:=List.mem_map.mp hc
   exact e4 w hw
abbrev wj5(K:Fg):TS :=
 (S3 (G0 (tOp (X3 K) (D3 (X4 K) [] E0 (A1 (A3 0) (A1 (A3 3) A8))) (tC (.str "anew"))))
 (I0 (tBM K "list" I9 (A3 2) (A1 (A3 3) A8))) O8)
abbrev qm5(K:Fg):TS :=
 (C1 (S3 (tB (D3 (qd5 K) [] E0 (A1 (A3 0) (A1 (A3 3) A8))))
 yd0 O8)
 (wj5 K))
def xk4(rs:List Row)(ns:List Str):List Str:=ns.filter fun n=>decide (J0 rs (some n)=some ("anew":Str))
def W6(rs:List Row)(ns:List Str):List Str:=xk4 rs (ns.takeWhile fun n=>!(V9 rs n))
theorem xg3(rs:List Row)(ns:List Str):(xk4 rs ns).length<=ns.length:=List.length_filter_le _ _
theorem xn9(rs:List Row)(ns:List Str)(n:Str):xk4 rs (ns++[n])=xk4 rs ns++(if J0 rs (some n)=some ("anew":Str) then[n] else[]):=by
 unfold xk4
 rw[List.filter_append]
 congr 1
 by_cases h:J0 rs (some n)=some ("anew":Str)
 ·rw[if_pos h,List.filter_cons_of_pos (by exact decide_eq_true h)];rfl
 ·rw[if_neg h,List.filter_cons_of_neg (by simpa using h)];rfl
theorem ym7{f:Str->Bool}:∀ {ns:List Str} {i:Nat} {y:Str},ns[i]?=some y->(∀ z∈ns.take i,f z=true)->f y=false->ns.takeWhile f=ns.take i
 | [],_,_,h,_,_=>by simp at h
 | x::ns,0,y,h,_,hy=>by simp at h;subst h;rw[List.takeWhile_cons,hy];rfl
 | x::ns,i+1,y,h,hz,hy=>by
   rw[List.takeWhile_cons,hz x (by simp),List.take_succ_cons]
   show x::ns.takeWhile f=_
   rw[ym7 (by simpa using h) (fun z hzz=>hz z (by simp[hzz])) hy]
theorem yt5{ns:List Str}{i:Nat}(hy:ns[i]?=some y)(hw:∀ z∈ns.take i,V9 rs z=false)(hwy:V9 rs y=true):W6 rs ns=xk4 rs (ns.take i):=by
 unfold W6
 rw[ym7 hy (fun z hz=>by rw[hw z hz];rfl) (by rw[hwy];rfl)]
theorem zc0{ns:List Str}(hw:∀ z∈ns,V9 rs z=false):W6 rs ns=xk4 rs ns:=by
 unfold W6
 congr 1
 induction ns with
 | nil=>rfl
 | cons x ns ih=>rw[List.takeWhile_cons,hw x (by simp)];show x::_=_;rw[ih fun z hz=>hw z (by simp[hz])]
def V0(K:Fg):Sp:=fun vs H Q _=>∃ (v:V) (c:Addr) (ns:List Str) (rs:List Row),vs=[v,.ref c]/\BkO K H v rs/\SqT K H c (B7 ns)/\ns.length<=1000/\∀ (p:Addr) (H':Hp),A6 H H'->H p=none->H' p=some (.lst (B7 (W6 rs ns)))->Q (.ref p) H'
def W7(K:Fg):TS :=
 (C1 (E1 (qb5 A8) (B1 2))
 (C1 (qm8 (wj0 K (A3 1)) (B1 3)
 (qm5 K))
 (L6 (A3 2))))
theorem wn3(h:V0 K vs H Q E):W7 K {nx:=fun _ H'=>Q .non H',rt:=Q} (D8 ["book","closed","waiting","name"] vs) H:=by
 obtain⟨v,c,ns,rs,rfl,hk,hc,hl,q⟩:=h
 show W7 K _ [some v,some (.ref c),none,none] H
 unfold W7
 lk
 refine⟨D4 (by z_go),fun p hp=>?_⟩
 have s1:=A6.new hp (.lst [])
 lk
 refine za1 (.inr hc) s1 (fun i σ H'=>∃ x,σ=[some v,some (.ref c),some (.ref p),x]/\A6 H H'/\H' p=some (.lst (B7 (xk4 rs (ns.take i))))/\∀ y∈ns.take i,V9 rs y=false) ⟨none,rfl,s1,A5,fun y hy=>by cases hy⟩ ?_ ?_ ?_
 ·rintro i σ H' ⟨x,rfl,s,_⟩;exact s
 ·rintro i x σ H' hi ⟨x0,rfl,s,hpp,hw⟩
  obtain⟨y,hy,rfl⟩:=V5 hi
  refine E5 ?_
  show qm5 K _ _ _
  lk
  refine⟨v,y,rs,rfl,(hk.same s).rws,?_⟩
  lk
  by_cases hwy:V9 rs y=true
  ·rw[hwy]
   x_go
   lk
   have ew:W6 rs ns=xk4 rs (ns.take i):=yt5 hy hw hwy
   rw[<-ew] at hpp
   exact q p H' s hp hpp
  ·have hwf:=Bool.eq_false_iff.mpr hwy
   rw[hwf]
   k_go
   lk
   refine⟨v,some y,rs,rfl,(hk.same s).rws,?_⟩
   lk
   refine yi5 ?_
   lk
   have hw2:∀ z∈ns.take (i+1),V9 rs z=false:=fun z hz=>by
    rw[qk6 hy] at hz
    rcases List.mem_append.mp hz with hz|hz
    ·exact hw z hz
    ·rw[List.mem_singleton.mp hz];exact hwf
   have hwl:=xg3 rs (ns.take i)
   have:(ns.take i).length<=ns.length:=by rw[List.length_take];omega
   by_cases ha:J0 rs (some y)=some ("anew":Str)
   ·rw[decide_eq_true ha]
    x_go
    lk
    refine⟨.inl ⟨rfl,_,SqL.of hpp⟩,?_⟩
    lk
    refine M8 hpp (by rw[B4,sizeLine_eq];omega) ?_
    rw[wf0]
    refine⟨_,rfl,A6.put s hp _,?_,hw2⟩
    rw[A5,qk6 hy,xn9,if_pos ha]
   ·rw[decide_eq_false ha]
    k_go
    lk
    exact⟨_,rfl,s,by rw[qk6 hy,xn9,if_neg ha,List.append_nil];exact hpp,hw2⟩
 ·rintro σ H' ⟨x,rfl,s,hpp,hw⟩
  rw[B4,List.take_length] at *
  lk
  refine q p H' s hp ?_
  rw[zc0 hw];exact hpp
def R6:List Brn->List Tr
 | []=>[]
 | c::cs=>[Tr.nd c.n (c.ps++R6 cs)]
def clM(i:Int)(rule:Str)(c:Brn):Mnd:=⟨i,i,cls c.n,rule⟩
def ya6(rs:List Row)(bs:List Brn):Bool:=bs.any fun c=>V9 rs c.n
def ym8(rs:List Row)(f:List Str->List Str):List Brn->List Brn
 | []=>[]
 | c::t=>if ya6 rs t=true then c::ym8 rs f t else if V9 rs c.n=true then{c with ws:=f c.ws}::t else c::t
def Ab0(f:List Str->List Str):List Brn->List Brn
 | []=>[]
 | c::t=>{c with ws:=f c.ws}::t
def wUp(rs:List Row)(f:List Str->List Str)(bs:List Brn):List Brn:=if ya6 rs bs=true then ym8 rs f bs else Ab0 f bs
theorem ym9{bs:List Brn}(h:∀ c∈bs,V9 rs c.n=false):ya6 rs bs=false:=by
 unfold ya6
 rw[List.any_eq_false]
 intro c hc
 rw[h c hc];decide
theorem ya7(h:V9 rs b.n=true):ya6 rs (l1++b::l2)=true:=by
 unfold ya6
 rw[List.any_eq_true]
 exact⟨b,by simp,h⟩
theorem ya8{rs:List Row}{f:List Str->List Str}{b:Brn}{l2:List Brn}(h1:V9 rs b.n=true)(h2:∀ c∈l2,V9 rs c.n=false):∀ l1:List Brn,ym8 rs f (l1++b::l2)=l1++{b with ws:=f b.ws}::l2
 | []=>by
   show(if ya6 rs l2=true then _ else if V9 rs b.n=true then _ else _)=_
   rw[ym9 h2,if_neg (by decide),if_pos h1];rfl
 | c::l1=>by
   show(if ya6 rs (l1++b::l2)=true then c::ym8 rs f (l1++b::l2) else _)=_
   rw[ya7 h1,if_pos rfl,ya8 h1 h2 l1];rfl
theorem wn4(h:LwP rs l1 b l2):wUp rs f (l1++b::l2)=l1++{b with ws:=f b.ws}::l2:=by
 unfold wUp
 rcases h with⟨h1,h2⟩|⟨rfl,h2⟩
 ·rw[ya7 h1,if_pos rfl,ya8 h1 h2]
 ·rw[List.nil_append,ym9 h2,if_neg (by decide)];rfl
section
variable{kR kB r:Addr}{bv:V}{a:RAd}{st:Rst}
theorem RdO.xnd{x:BA}(h:RdO K H kR kB r bv a st)(ea:a.as=m1++x::m2):x.fp.Nodup:=by
 have:=h.apart.2.2.2.2.2.2.2.2.2.2
 rw[ea,R0,Q3,List.nodup_append,List.nodup_append] at this
 exact this.2.1.1
theorem RdO.up(h:RdO K H kR kB r bv a st)(s:A6 H H'):Rup K kR kB r bv H a H' a st:=.keep (h.same s) fun c o e _=>s c o e
theorem Rup.wait{x:BA}(h:RdO K H kR kB r bv a st)(ea:a.as=m1++x::m2)(eb:st.bs=l1++b::l2)(hl:m1.length=l1.length) :
 Rup K kR kB r bv H a (upd H x.w (.lst (B7 ws))) {a with as:=m1++x::m2} {st with bs:=l1++{b with ws:=ws}::l2}:=by
 have hb:=h.b
 rw[ea,eb] at hb
 have hx:=(hb.split hl).2.1
 have xnd:=h.xnd ea
 have no:x.o≠x.w:=by simp[BA.fp] at xnd;exact xnd.1.2
 have nq:x.q≠x.w:=by simp[BA.fp] at xnd;exact xnd.2
 have tk:U8 H (upd H x.w (.lst (B7 ws))):=O7 (.inl ⟨_,hx.w⟩)
 obtain⟨us,q1,q2⟩:=hx.q
 refine Rup.swap h ea eb hl (fun z u e n=>E8 e fun y=>n (by rw[y];simp[BA.fp])) ⟨E8 hx.o no,tk.sqT hx.p,⟨us,E8 q1 nq,Dvs.tupK tk _ _ (qc4 _) q2⟩,A5⟩ (fun z hz=>.inl hz) xnd rfl
end
abbrev Z1(K:Fg)(k_Reader:Addr):TS :=
 (C1 (I0 (tBM K "list" I9 (S4 K (A3 0) "mends") (A1 (M5 (A1 (A3 2) (A1 (A3 2) (A1 (D3 (qj9 K) [] E0 (A1 (A3 5) A8)) (A1 (A3 3) A8))))) A8)))
 (I0 (N3 k_Reader "leave" (P0 K) [] E0 (A3 0) A8)))
abbrev Z2(K:Fg)(k_Reader:Addr):TS :=
 (I0 (tBM K "list" xb6 (S4 K (N3 k_Reader "last_wall" (M7 K) [] E0 (A3 0) A8) "waiting") (A1 (D3 (V0 K) [] E0 (A1 (S4 K (A3 0) "book") (A1 (A3 4) A8))) A8)))
abbrev Z3(K:Fg)(k_Reader:Addr):TS :=
 (C1 (qm8 (yz7 K (A1 (A3 4) A8)) (B1 5)
 (Z1 K k_Reader))
 (Z2 K k_Reader))
def L0(K:Fg):Sp:=fun vs H Q _=>∃ (kR kB r:Addr) (bv:V) (a:RAd) (st:Rst) (rs:List Row) (pre cl:List Brn) (b:Brn) (i:Int) (rule:Str),vs=[.ref r,.int pre.length,.int i,.str rule]/\RdO K H kR kB r bv a st/\BkO K H bv rs/\st.bs=pre++b::cl/\st.bs.length<=900/\(∀ c∈st.bs,c.n.length<=4000/\c.ps.length<=9000000/\c.ws.length<=9000000)/\st.ms.length+cl.length<=9000000/\∀ a' H',Rup K kR kB r bv H a H' a' {st with bs:=wUp rs (·++W6 rs (cl.map Brn.n)) (pre++[{b with ps:=b.ps++R6 cl}]),ms:=st.ms++cl.reverse.map (clM i rule)}->C2 H H'->Q .non H'
def P3(K:Fg)(k_Reader:Addr):TS :=
 (C1 (E1 (tSl (yg4 K) (N3 k_Reader "open_names" (E2 K) [] E0 (A3 0) A8) (W1 (A3 1)) qc3) (B1 4))
 (Z3 K k_Reader))
theorem qu9(cz:Cz K k_Branch k_Reader)(h:L0 K vs H Q E):P3 K k_Reader {nx:=fun _ H'=>Q .non H',rt:=Q} (D8 ["self","kept","start","rule","closed","name"] vs) H:=by
 obtain⟨kR,kB,r,bv,a,st,rs,pre,cl,b,i,rule,rfl,h,hk,eb,hl,hall,hms,q⟩:=h
 obtain rfl:=N1 cz.ns_Reader h.kr
 obtain rfl:=N1 cz.ns_Branch h.kb
 show P3 K _ _ [some (.ref r),some (.int pre.length),some (.int i),some (.str rule),none,none] H
 unfold P3
 obtain⟨b0,bs0,eb0⟩:∃ b0 bs0,st.bs=b0::bs0:=by rw[eb];cases pre <;> exact⟨_,_,rfl⟩
 have hl0:bs0.length<=1000:=by rw[eb0] at hl;simp at hl;omega
 have hdrop:bs0.drop pre.length=cl:=by
  have e:(b0::bs0).drop (pre.length+1)=cl:=by
   rw[<-eb0,eb,show pre++b::cl=(pre++[b])++cl by simp]
   rw[List.drop_left' (by simp)]
  simpa using e
 lk
 refine E7 ?_
 lk
 refine⟨r,_,_,rfl,h.o,rfl,?_⟩
 lk
 refine⟨k_Reader,k_Branch,r,bv,a,st,b0,bs0,rfl,h,eb0,hl0,fun p H1 s1 hp=>?_⟩
 lk
 refine xx7 hp fun c H2 s2 hc=>?_
 have ecut:qe7 (B7 (bs0.map Brn.n)) (some (pre.length:Int)) none=B7 (cl.map Brn.n):=by
  rw[wv5 (by omega),Int.toNat_natCast,<-hdrop]
  simp[B7,List.map_drop]
 rw[ecut] at hc
 have s12:=A6.tr s1 s2
 have h2:=h.same s12
 have hk2:=hk.same s12
 show Z3 K _ _ _ _
 lk
 refine zj5 ?_
 lk
 have hcll:cl.length<=900:=by rw[eb] at hl;simp at hl;omega
 refine yz8 hc (fun j σ H'=>∃ x a' A y C,σ=[some (.ref r),some (.int pre.length),some (.int i),some (.str rule),some (.ref c),x]/\pre++b::cl=A++y::C/\C.length=j/\j<=cl.length/\Rup K k_Reader k_Branch r bv H2 a H' a' {st with bs:=A++[{y with ps:=y.ps++R6 C}],ms:=st.ms++C.reverse.map (clM i rule)}/\C2 H2 H') ?_ ?_ ?_ ?_
 ·obtain⟨A,y,e⟩:∃ A y,pre++b::cl=A++[y]:=by
   rcases List.eq_nil_or_concat (pre++b::cl) with e|⟨A,y,e⟩
   ·simp at e
   ·exact⟨A,y,by rw[e,List.concat_eq_append]⟩
  refine⟨none,a,A,y,[],rfl,e,rfl,Nat.zero_le _,?_,fun z hz=>hz⟩
  have:({st with bs:=A++[{y with ps:=y.ps++R6 []}],ms:=st.ms++[].reverse.map (clM i rule)}:Rst)=st:=by
   cases st
   simp only[R6,List.append_nil,List.reverse_nil,List.map_nil] at *
   rw[eb,e]
  rw[this]
  exact .keep h2 fun c o e _=>e
 ·rintro j σ H' ⟨x,a',A,y,C,rfl,_,_,_,u,_⟩
  exact(u.tupK h2).sqT hc
 ·rintro j v σ H' hv hj ⟨x0,a',A,y,C,rfl,e,eC,hjc,u,g⟩
  obtain⟨nm,hnm,rfl⟩:=V5 hv
  rw[B4,List.length_map] at hj
  rw[B4,List.length_map,List.getElem?_map] at hnm
  obtain⟨y2,hy2,rfl⟩:=Option.map_eq_some_iff.mp hnm
  have hlen:A.length=(pre++[b]).length+(cl.length-1-j):=by
   have:=congrArg List.length e
   simp only[List.length_append,List.length_cons,List.length_nil] at this ⊢
   omega
  have hyy:y2=y:=by
   have e1:(A++y::C)[A.length]?=some y:=by simp
   rw[<-e,show pre++b::cl=(pre++[b])++cl by simp,hlen,List.getElem?_append_right (by omega),Nat.add_sub_cancel_left,hy2] at e1
   exact Option.some.inj e1
  subst hyy
  obtain⟨A',x,rfl⟩:∃ A' x,A=A'++[x]:=by
   rcases List.eq_nil_or_concat A with e1|⟨A',x,e1⟩
   ·subst e1;simp at hlen;omega
   ·exact⟨A',x,by rw[e1,List.concat_eq_append]⟩
  have inst:∀ z,z∈A'++x::y2::C->z∈st.bs:=fun z hz=>by rw[eb,e];simpa using hz
  have hx:=hall x (inst x (by simp))
  have hy:=hall y2 (inst y2 (by simp))
  obtain⟨us,m1,m2⟩:=u.ok.m
  have hul:=RdO.ms_len m2
  refine E5 ?_
  show Z1 K _ _ _ _
  lk
  refine G9 ?_
  lk
  refine⟨r,_,a'.x,_,_,rfl,u.ok.o,cz.cl_Reader,cz.na_Reader_mends,rfl,?_⟩
  lk
  refine⟨.inl ⟨rfl,_,SqL.of m1⟩,?_⟩
  lk
  refine⟨y2.n,rfl,hy.1,?_⟩
  lk
  refine⟨D4 (by z_go),fun w hw=>?_⟩
  lk
  have s3:=A6.new hw (.tup [.int i,.int i,.str (cls y2.n),.str rule])
  refine M8 (s3 _ _ m1) (by rw[hul,sizeLine_eq];simp;omega) ?_
  have u1:=Rup.mend u.ok s3 (SqT.of A5) m2
  have g1:C2 H' (upd (upd H' w (.tup [.int i,.int i,.str (cls y2.n),.str rule])) a'.M (.lst (us++[.ref w]))):=C2.tr C2.upd C2.upd
  generalize upd (upd H' w (.tup [.int i,.int i,.str (cls y2.n),.str rule])) a'.M (.lst (us++[.ref w]))=H3 at *
  lk
  refine E7 ?_
  lk
  refine⟨r,_,_,rfl,u1.ok.o,rfl,?_⟩
  lk
  refine⟨k_Reader,k_Branch,r,bv,a',_,A',x,{y2 with ps:=y2.ps++R6 C},rfl,u1.ok,by simp,hx.2.1,fun a2 H4 u2 g2=>?_⟩
  refine⟨_,a2,A',x,y2::C,rfl,by rw[e];simp,by simp[eC],by omega,?_,C2.tr (C2.tr g g1) g2⟩
  have:=(u.tr u1 g).tr u2 (C2.tr g g1)
  rw[List.reverse_cons,List.map_append,<-List.append_assoc]
  exact this
 ·rintro σ H' ⟨x,a',A,y,C,rfl,e,eC,_,u,g⟩
  rw[B4,List.length_map] at eC
  obtain⟨e1,e2⟩:=List.append_inj e (by have:=congrArg List.length e;simp at this;omega)
  obtain⟨rfl,rfl⟩:=List.cons.inj e2
  subst e1
  have tk:=u.tupK h2
  have hk3:=hk2.tupK tk
  have hc3:=tk.sqT hc
  have hlen3:(pre++[{b with ps:=b.ps++R6 cl}]:List Brn).length<=900:=by rw[eb] at hl;simp at hl ⊢;omega
  show Z2 K _ _ _ _
  lk
  refine G9 ?_
  refine E7 ?_
  lk
  refine⟨r,_,_,rfl,u.ok.o,rfl,?_⟩
  lk
  refine⟨k_Reader,k_Branch,r,bv,a',_,rs,rfl,u.ok,hk3,by simp,by show(pre++[_]).length<=1000;omega,fun m1 m2 x2 l1 l2 b2 H4 s4 ea2 eb2 hm2 lw=>?_⟩
  have h4:=u.ok.same s4
  have hb4:=h4.b
  rw[ea2,eb2] at hb4
  have hx4:=(hb4.split hm2).2.1
  have hws:b2.ws.length<=9000000:=by
   have:b2∈(pre++[{b with ps:=b.ps++R6 cl}]:List Brn):=by
    have e3:(pre++[{b with ps:=b.ps++R6 cl}]:List Brn)=l1++b2::l2:=eb2
    rw[e3];simp
   rcases List.mem_append.mp this with h1|h1
   ·exact(hall b2 (by rw[eb];simp[h1])).2.2
   ·rw[List.mem_singleton.mp h1];exact(hall b (by rw[eb];simp)).2.2
  refine⟨x2.o,_,x2.x,_,_,rfl,hx4.o,cz.cl_Branch,cz.na_Branch_waiting,rfl,?_⟩
  lk
  refine⟨.inl ⟨rfl,_,SqL.of hx4.w⟩,?_⟩
  lk
  refine G9 ?_
  lk
  refine⟨r,_,a'.x,_,_,rfl,h4.o,cz.cl_Reader,cz.na_Reader_book,rfl,?_⟩
  lk
  refine⟨bv,c,cl.map Brn.n,rs,rfl,hk3.same s4,s4.sqT hc3,by rw[List.length_map];omega,fun w H5 s5 hw0 hw=>?_⟩
  lk
  have hwl:=xg3 rs ((cl.map Brn.n).takeWhile fun n=>!(V9 rs n))
  have hwl2:(W6 rs (cl.map Brn.n)).length<=900:=by
   have h1:((cl.map Brn.n).takeWhile fun n=>!(V9 rs n)).length<=(cl.map Brn.n).length:=(List.takeWhile_sublist _).length_le
   rw[List.length_map] at h1
   unfold W6;omega
  refine yz6 (s5 _ _ hx4.w) hw (by rw[B4,B4,sizeLine_eq];omega) ?_
  have h5:=h4.same s5
  have uw:=Rup.wait (ws:=b2.ws++W6 rs (cl.map Brn.n)) h5 ea2 eb2 hm2
  have es:B7 b2.ws++B7 (W6 rs (cl.map Brn.n))=B7 (b2.ws++W6 rs (cl.map Brn.n)):=by simp[B7]
  rw[es]
  have uu:=((((h.up s12).tr u (A6.grow s12)).tr (u.ok.up s4) (C2.tr (A6.grow s12) g)).tr (h4.up s5) (C2.tr (C2.tr (A6.grow s12) g) (A6.grow s4))).tr uw (C2.tr (C2.tr (C2.tr (A6.grow s12) g) (A6.grow s4)) (A6.grow s5))
  refine q {a' with as:=m1++x2::m2} _ ?_ (C2.tr (C2.tr (C2.tr (C2.tr (A6.grow s12) g) (A6.grow s4)) (A6.grow s5)) C2.upd)
  have e3:(pre++[{b with ps:=b.ps++R6 cl}]:List Brn)=l1++b2::l2:=eb2
  rw[e3,wn4 lw]
  exact uu
def V1(K:Fg):Sp:=fun vs H Q _=>∃ (kR kB r:Addr) (bv:V) (a:RAd) (st:Rst) (rs:List Row) (cl:List Brn) (b:Brn) (i:Int),vs=[.ref r,.int i]/\RdO K H kR kB r bv a st/\BkO K H bv rs/\st.bs=b::cl/\st.bs.length<=900/\(∀ c∈st.bs,c.n.length<=4000/\c.ps.length<=9000000/\c.ws.length<=9000000)/\st.ms.length+cl.length<=9000000/\∀ a' H',Rup K kR kB r bv H a H' a' {st with bs:=wUp rs (·++W6 rs (cl.map Brn.n)) [{b with ps:=b.ps++R6 cl}],ms:=st.ms++cl.reverse.map (clM i "end")}->C2 H H'->Q .non H'
def W8(K:Fg)(k_Reader:Addr):TS :=
 (I0 (N3 k_Reader "close_behind" (L0 K) [] E0 (A3 0) (A1 (tC (.int 0)) (A1 (A3 1) (A1 (tC (.str "end")) A8)))))
theorem wn5(cz:Cz K k_Branch k_Reader)(h:V1 K vs H Q E):W8 K k_Reader {nx:=fun _ H'=>Q .non H',rt:=Q} (D8 ["self","size"] vs) H:=by
 obtain⟨kR,kB,r,bv,a,st,rs,cl,b,i,rfl,h,hk,eb,hl,hall,hms,q⟩:=h
 obtain rfl:=N1 cz.ns_Reader h.kr
 show W8 K _ _ [some (.ref r),some (.int i)] H
 unfold W8
 lk
 refine E7 ?_
 lk
 refine⟨r,_,_,rfl,h.o,rfl,?_⟩
 lk
 exact⟨k_Reader,kB,r,bv,a,st,rs,[],cl,b,i, "end",rfl,h,hk,eb,hl,hall,hms,q⟩
def adP(ps:List Tr)(t:Str):List Tr:=match ps.getLast? with|some (.tx u)=>ps.dropLast++[.tx (u++t)]|_=>ps++[.tx t]
def adN(ps:List Tr):Nat:=match ps.getLast? with|some (.tx _)=>ps.length-1|_=>ps.length
def adA(ps:List Tr):Nat:=match ps.getLast? with|some (.tx u)=>u.length|_=>0
def J7(st:Rst):List Str:=st.bs.tail.map Brn.n
def xs5:Brn:=⟨"",[],[],[]⟩
def X7(bs:List Brn):Brn:=bs.getLastD xs5
def xk5(b:Brn)(n:Str):Brn:=⟨n,b.pl++[(b.ps.length:Int)],[],[]⟩
def qk7(bs:List Brn)(n:Str):List Brn:=bs++[xk5 (X7 bs) n]
def wj8(st:Rst)(n:Str)(i:Int)(rule:Str):Rst:={st with bs:=qk7 st.bs n,ms:=st.ms++[⟨i,i,opn n,rule⟩]}
def N0(st:Rst)(ns:List Str)(i:Int)(rule:Str):Rst:=ns.foldl (fun s n=>wj8 s n i rule) st
def qk8(st:Rst)(i:Int)(g rule:Str):Rst:={st with ms:=st.ms++[⟨i,i+g.length, "",rule⟩]}
def V2(rs:List Row)(st:Rst)(kept:Nat)(i:Int)(rule:Str):Rst:={st with bs:=wUp rs (·++W6 rs ((st.bs.drop (kept+1)).map Brn.n)) (st.bs.take kept++[{(st.bs.getD kept xs5) with ps:=(st.bs.getD kept xs5).ps++R6 (st.bs.drop (kept+1))}]),ms:=st.ms++(st.bs.drop (kept+1)).reverse.map (clM i rule)}
def lvB(bs:List Brn):List Brn:=bs.dropLast.dropLast++[{(X7 bs.dropLast) with ps:=(X7 bs.dropLast).ps++[Tr.nd (X7 bs).n (X7 bs).ps]}]
def lvS(st:Rst):Rst:={st with bs:=lvB st.bs}
def lwS(rs:List Row)(bs:List Brn):List Str:=match bs.reverse.find? fun c=>V9 rs c.n with|some b=>b.ws|none=>(bs.headD xs5).ws
def wk4(rs:List Row)(ns:List Str)(n:Str):Bool:=decide (ns.length<20) && !((qb8 rs ns).any fun y=>decide (y∈n::(qn6 rs n++wf2 rs n)))
def qe1(rs:List Row)(i:Int)(st:Rst)(n:Str):Rst:=if wk4 rs (J7 st) n=true then wj8 st n i "anew" else st
def wa1(rs:List Row)(i:Int)(st:Rst):Rst:=(lwS rs st.bs).foldl (qe1 rs i) {st with bs:=wUp rs (fun _=>[]) st.bs}
def zk8(i:Int)(g:Str)(k:Nat):Mnd:=⟨i+k,i+k+1,if g.cps.toList[k]?=some 60 then "&l;" else "&a;","sign"⟩
def txS(st:Rst)(i:Int)(g t:Str):Rst:={st with bs:=st.bs.dropLast++[{(X7 st.bs) with ps:=adP (X7 st.bs).ps t}],ls:=st.ls++[⟨i,g,(X7 st.bs).pl++[(adN (X7 st.bs).ps:Int)],adA (X7 st.bs).ps⟩]}
def woL(ws:List Str)(n:Str):List Str:=(ws.reverse.erase n).reverse
def opS(rs:List Row)(rk:Str->Nat)(st:Rst)(i:Int)(g n:Str):Rst :=
 if J0 rs (some n)=none then qk8 st i g "strange" else
 if bar rs ((J7 st).take (M9 rs rk (J7 st) 13 n).1) (M9 rs rk (J7 st) 13 n).2=true then qk8 st i g "barred" else
 if 20<(M9 rs rk (J7 st) 13 n).1+(M9 rs rk (J7 st) 13 n).2.length then qk8 st i g "deep" else
 let s2:=N0 (V2 rs st (M9 rs rk (J7 st) 13 n).1 i "shut") (M9 rs rk (J7 st) 13 n).2.dropLast i "frame"
 if J0 rs (some n)=some ("bare":Str) then lvS {s2 with bs:=qk7 s2.bs n} else{s2 with bs:=qk7 s2.bs n}
def wr2(rs:List Row)(rk:Str->Nat)(st:Rst)(i:Int)(g n:Str):Rst:=match clo rs rk (J7 st) n (J7 st).length with
 | some k=>lvS (V2 rs st (k+1) i "left")
 | none=>if n∈lwS rs st.bs then{(qk8 st i g "late") with bs:=wUp rs (fun ws=>woL ws n) st.bs} else qk8 st i g "stray"
def wa2(t:Str):Bool:=decide (PySem.Txt.stripChars t (" \n":Str)=("":Str))
def M2(rs:List Row)(st:Rst):List Str:=E4 rs (J5 (J7 st))
def wr3(st:Rst)(i:Int)(g:Str):Rst:={st with ms:=st.ms++(qe0 g.cps.toList g.cps.toList.length).map (zk8 i g)}
def qk9(rs:List Row)(st:Rst)(i:Int)(g t:Str):Rst :=
 if J0 rs (some (J5 (J7 st)))=some ("frame":Str)/\wa2 t=true then qk8 st i g "blank" else
 if 20<(J7 st).length+(M2 rs st).length then qk8 st i g "deep" else
 txS (wr3 (wa1 rs i (N0 st (M2 rs st) i "host")) i g) i g t
def qm6(rs:List Row)(rk:Str->Nat)(st:Rst)(kind:Str)(i:Int)(g t:Str):Rst :=
 if kind=("open":Str) then opS rs rk st i g t else if kind=("close":Str) then wr2 rs rk st i g t else qk9 rs st i g t
section
variable{rs:List Row}{bs l1 l2:List Brn}{b:Brn}
theorem qp6(l:List Brn)(b:Brn):X7 (l++[b])=b:=by unfold X7;simp
theorem ya9(rs:List Row)(h:bs≠[]):∃ l1 b l2,bs=l1++b::l2/\LwP rs l1 b l2:=by
 rcases List.eq_nil_or_concat (bs.filter fun c=>V9 rs c.n) with e|⟨zs,z,e⟩
 ·obtain⟨b,l2,rfl⟩:=List.exists_cons_of_ne_nil h
  exact⟨[],b,l2,rfl,.inr ⟨rfl,fun c hc=>Bool.eq_false_iff.mpr (List.filter_eq_nil_iff.mp e c hc)⟩⟩
 ·rw[List.concat_eq_append] at e
  obtain⟨A,B,e1,e2,e3⟩:=wz1 e
  exact⟨A,z,B,e1,.inl ⟨e2,e3⟩⟩
theorem xs6(h:LwP rs l1 b l2):lwS rs (l1++b::l2)=b.ws:=by
 unfold lwS
 rcases h with⟨h1,h2⟩|⟨rfl,h2⟩
 ·have:(l1++b::l2).reverse.find? (fun c=>V9 rs c.n)=some b:=by
   rw[List.reverse_append,List.reverse_cons,List.append_assoc,List.find?_append,List.find?_eq_none.mpr fun c hc=>by rw[h2 c (List.mem_reverse.mp hc)];decide]
   rw[Option.none_or,List.singleton_append,List.find?_cons,h1]
  rw[this]
 ·have:(([]:List Brn)++b::l2).reverse.find? (fun c=>V9 rs c.n)=none:=List.find?_eq_none.mpr fun c hc=>by
   rw[h2 c (by simpa [or_comm] using hc)];decide
  rw[this];rfl
theorem wr4{g:Brn->α}(hg:∀ b ws,g {b with ws:=ws}=g b)(bs:List Brn):(wUp rs f bs).map g=bs.map g:=by
 cases bs with
 | nil=>unfold wUp;split <;> rfl
 | cons c t =>
   obtain⟨l1,b,l2,e,h⟩:=ya9 rs (bs:=c::t) (by simp)
   rw[e,wn4 h]
   simp[hg]
theorem wr5(bs:List Brn):(wUp rs f bs).length=bs.length:=by
 have:=congrArg List.length (wr4 (rs:=rs) (f:=f) (g:=Brn.n) (fun _ _=>rfl) bs)
 simpa using this
theorem zk9(bs:List Brn):(wUp rs f bs).tail.map Brn.n=bs.tail.map Brn.n:=by
 rw[List.map_tail,List.map_tail,wr4 fun _ _=>rfl]
theorem zl0{x:Brn}(h:x∈wUp rs f bs):∃ b∈bs,x=b\/x={b with ws:=f b.ws}:=by
 cases bs with
 | nil=>unfold wUp at h;split at h <;> cases h
 | cons c t =>
   obtain⟨l1,b,l2,e,h2⟩:=ya9 rs (bs:=c::t) (by simp)
   rw[e,wn4 h2] at h
   rw[e]
   rcases List.mem_append.mp h with h|h
   ·exact⟨x,by simp[h],.inl rfl⟩
   ·rcases List.mem_cons.mp h with h|h
    ·exact⟨b,by simp,.inr h⟩
    ·exact⟨x,by simp[h],.inl rfl⟩
theorem xs7(h:bs≠[]):wUp rs f bs≠[]:=fun e=>h (by
 have:=wr5 (rs:=rs) (f:=f) bs
 rw[e] at this
 exact List.eq_nil_of_length_eq_zero this.symm)
structure BB(rs:List Row)(P W T:Nat)(c:Brn):Prop where
 n:c.n.length<=4000
 ps:c.ps.length<=P
 ws:c.ws.length<=W
 wr:∀ n∈c.ws,∃ r∈rs,Row.name r=n
 t:adA c.ps<=T
structure Bg(rs:List Row)(P W M D T:Nat)(st:Rst):Prop where
 c:∀ c∈st.bs,BB rs P W T c
 pl:st.bs.map (fun c=>c.pl.length)=List.range st.bs.length
 nr:∀ c∈st.bs.tail,∃ r∈rs,Row.name r=c.n
 ne:st.bs≠[]
 l:st.bs.length<=21
 m:st.ms.length<=M
 d:st.ls.length<=D
variable{P W M D T:Nat}{st:Rst}
theorem BB.mono{c:Brn}(h:BB rs P W T c)(h1:P<=P')(h2:W<=W')(h3:T<=T'):BB rs P' W' T' c:=⟨h.n,by have:=h.ps;omega,by have:=h.ws;omega,h.wr,by have:=h.t;omega⟩
theorem Bg.mono{M' D':Nat}(h:Bg rs P W M D T st)(h1:P<=P')(h2:W<=W')(h3:M<=M')(h4:D<=D')(h5:T<=T'):Bg rs P' W' M' D' T' st :=
 ⟨fun c hc=>(h.c c hc).mono h1 h2 h5,h.pl,h.nr,h.ne,h.l,by have:=h.m;omega,by have:=h.d;omega⟩
theorem Bg.nlen(h:Bg rs P W M D T st):(J7 st).length+1=st.bs.length:=by
 unfold J7
 rw[List.length_map,List.length_tail]
 have:0<st.bs.length:=List.length_pos_iff.mpr h.ne
 omega
theorem Bg.snoc(h:Bg rs P W M D T st):∃ l b,st.bs=l++[b]/\X7 st.bs=b/\b.pl.length=l.length/\BB rs P W T b:=by
 rcases List.eq_nil_or_concat st.bs with e|⟨l,b,e⟩
 ·exact absurd e h.ne
 ·rw[List.concat_eq_append] at e
  have hp:=h.pl
  rw[e,List.map_append,List.length_append,List.length_singleton,List.range_succ] at hp
  have:=(List.append_inj' hp rfl).2
  exact⟨l,b,e,by rw[e,qp6],by simpa using this,h.c b (by rw[e];simp)⟩
theorem Bg.drop(h:Bg rs P W M D T st):Bg rs P W (M+1) D T (qk8 st i g rule) :=
 ⟨h.c,h.pl,h.nr,h.ne,h.l,by show(st.ms++[_]).length<=_;have:=h.m;simp;omega,h.d⟩
theorem Bg.ent(h:Bg rs P W M D T st)(hl:st.bs.length<=20)(hn:n.length<=4000)(hr:∃ r∈rs,Row.name r=n):Bg rs P W M D T {st with bs:=qk7 st.bs n}:=by
 obtain⟨l,b,e,e2,hp,hb⟩:=h.snoc
 refine⟨fun c hc=>?_,?_,fun c hc=>?_,by show _++[_]≠[];simp,by show(st.bs++[_]).length<=_;rw[List.length_append,List.length_singleton];omega,h.m,h.d⟩
 ·rcases List.mem_append.mp hc with hc|hc
  ·exact h.c c hc
  ·rw[List.mem_singleton.mp hc]
   exact⟨hn,Nat.zero_le _,Nat.zero_le _,fun n hn=>(by cases hn),Nat.zero_le _⟩
 ·show(st.bs++[xk5 (X7 st.bs) n]).map _=List.range (st.bs++[_]).length
  rw[List.map_append,h.pl,List.length_append,List.length_singleton,List.range_succ,e2]
  congr 1
  show[(b.pl++[_]).length]=_
  rw[List.length_append,hp,e,List.length_append];rfl
 ·have ht:(st.bs++[xk5 (X7 st.bs) n]).tail=st.bs.tail++[xk5 (X7 st.bs) n]:=List.tail_append_of_ne_nil h.ne
  have hc':c∈(st.bs++[xk5 (X7 st.bs) n]).tail:=hc
  rw[ht] at hc'
  rcases List.mem_append.mp hc' with hc|hc
  ·exact h.nr c hc
  ·rw[List.mem_singleton.mp hc];exact hr
theorem Bg.put(h:Bg rs P W M D T st)(hl:st.bs.length<=20)(hn:n.length<=4000)(hr:∃ r∈rs,Row.name r=n):Bg rs P W (M+1) D T (wj8 st n i rule):=by
 have:=h.ent hl hn hr
 exact⟨this.c,this.pl,this.nr,this.ne,this.l,by show(st.ms++[_]).length<=_;have:=h.m;simp;omega,h.d⟩
theorem qw8(st:Rst)(n:Str)(i:Int)(rule:Str):(wj8 st n i rule).bs.length=st.bs.length+1:=by show(st.bs++[_]).length=_;simp
theorem wi6:∀ (ns:List Str) (st:Rst) (i:Int) (rule:Str),(N0 st ns i rule).bs.length=st.bs.length+ns.length
 | [],st,i,rule=>rfl
 | n::ns,st,i,rule=>by
   show(N0 (wj8 st n i rule) ns i rule).bs.length=_
   rw[wi6 ns,qw8,List.length_cons];omega
theorem Bg.puts:∀ {ns:List Str} {M:Nat} {st:Rst} {i:Int} {rule:Str},Bg rs P W M D T st->st.bs.length+ns.length<=21->(∀ n∈ns,n.length<=4000/\∃ r∈rs,Row.name r=n)->Bg rs P W (M+ns.length) D T (N0 st ns i rule)
 | [],M,st,i,rule,h,_,_=>h
 | n::ns,M,st,i,rule,h,hl,hn=>by
   rw[List.length_cons] at hl
   have:=Bg.puts (ns:=ns) (i:=i) (rule:=rule) (h.put (n:=n) (i:=i) (rule:=rule) (by omega) (hn n (by simp)).1 (hn n (by simp)).2) (by rw[qw8];omega) fun m hm=>hn m (by simp[hm])
   rw[List.length_cons,show M+(ns.length+1)=M+1+ns.length by omega]
   exact this
theorem Bg.wup(h:Bg rs P W M D T st)(hW:W<=W')(hf:∀ c∈st.bs,(f c.ws).length<=W'/\∀ n∈f c.ws,∃ r∈rs,Row.name r=n):Bg rs P W' M D T {st with bs:=wUp rs f st.bs}:=by
 refine⟨fun c hc=>?_,?_,?_,xs7 h.ne,by show(wUp rs f st.bs).length<=_;rw[wr5];exact h.l,h.m,h.d⟩
 ·obtain⟨b,hb,e⟩:=zl0 hc
  have hB:=h.c b hb
  rcases e with rfl|rfl
  ·exact hB.mono (Nat.le_refl _) hW (Nat.le_refl _)
  ·exact⟨hB.n,hB.ps,(hf b hb).1,(hf b hb).2,hB.t⟩
 ·show(wUp rs f st.bs).map _=List.range (wUp rs f st.bs).length
  rw[wr4 fun _ _=>rfl,wr5];exact h.pl
 ·intro c hc
  have h1:c.n∈(wUp rs f st.bs).tail.map Brn.n:=List.mem_map_of_mem hc
  rw[zk9] at h1
  obtain⟨b,hb,e⟩:=List.mem_map.mp h1
  rw[<-e];exact h.nr b hb
theorem zc1{ns:List Str}(h:n∈W6 rs ns):n∈ns:=(List.takeWhile_sublist _).mem (List.mem_filter.mp h).1
theorem yt6(cl:List Brn):(R6 cl).length<=1:=by cases cl <;> simp[R6]
theorem zc2:adA (ps++R6 cl)<=adA ps:=by
 cases cl with
 | nil=>rw[R6,List.append_nil];exact Nat.le_refl _
 | cons c cl =>
   rw[R6]
   unfold adA
   rw[List.getLast?_concat]
   exact Nat.zero_le _
theorem zv0{qs:List Tr}:adA (ps++[Tr.nd n qs])=0:=by
 unfold adA
 rw[List.getLast?_concat]
theorem zl1(ps:List Tr)(t:Str):(adP ps t).length<=ps.length+1:=by
 unfold adP
 split
 ·rw[List.length_append,List.length_dropLast,List.length_singleton];omega
 ·rw[List.length_append,List.length_singleton];omega
theorem zl2(ps:List Tr)(t:Str):adA (adP ps t)=adA ps+t.length:=by
 unfold adP
 cases h:ps.getLast? with
 | none =>
   have e:adA ps=0:=by unfold adA;rw[h]
   rw[e]
   unfold adA
   rw[List.getLast?_concat]
   show t.length=_
   omega
 | some x =>
   cases x with
   | tx u =>
     have e:adA ps=u.length:=by unfold adA;rw[h]
     rw[e]
     unfold adA
     rw[List.getLast?_concat]
     exact J8 u t
   | nd n qs =>
     have e:adA ps=0:=by unfold adA;rw[h]
     rw[e]
     unfold adA
     rw[List.getLast?_concat]
     show t.length=_
     omega
theorem xs8{bs:List Brn}(h:k<bs.length):bs.getD k xs5=bs[k]:=by simp[List.getD,h]
theorem wi7{kept:Nat}:(V2 rs st kept i rule).bs.length=(st.bs.take kept).length+1:=by
 show(wUp rs _ _).length=_
 rw[wr5];simp
theorem Bg.cls{kept:Nat}(h:Bg rs P W M D T st)(hk:kept<st.bs.length):Bg rs (P+1) (W+20) (M+20) D T (V2 rs st kept i rule):=by
 have hb:=h.c (st.bs[kept]) (List.getElem_mem hk)
 have hcl:(st.bs.drop (kept+1)).length<=20:=by rw[List.length_drop];have:=h.l;omega
 have hnl:=yt6 (st.bs.drop (kept+1))
 have e0:st.bs.getD kept xs5=st.bs[kept]:=xs8 hk
 have b1:Bg rs (P+1) W (M+20) D T {st with bs:=st.bs.take kept++[{(st.bs[kept]) with ps:=(st.bs[kept]).ps++R6 (st.bs.drop (kept+1))}],ms:=st.ms++(st.bs.drop (kept+1)).reverse.map (clM i rule)}:=by
  refine⟨fun c hc=>?_,?_,fun c hc=>?_,by show _++[_]≠[];simp,?_,?_,h.d⟩
  ·rcases List.mem_append.mp hc with hc|hc
   ·exact(h.c c (List.mem_of_mem_take hc)).mono (by omega) (by omega) (by omega)
   ·rw[List.mem_singleton.mp hc]
    refine⟨hb.n,?_,hb.ws,hb.wr,Nat.le_trans zc2 hb.t⟩
    show(_++_:List Tr).length<=_
    rw[List.length_append];have:=hb.ps;omega
  ·show(st.bs.take kept++[_]).map _=List.range (st.bs.take kept++[_]).length
   rw[List.map_append,List.map_singleton]
   show List.map (fun c=>c.pl.length) (st.bs.take kept)++[(st.bs[kept]).pl.length]=_
   rw[<-List.map_singleton (f:=fun c:Brn=>c.pl.length),<-List.map_append,<-qk6 (List.getElem?_eq_getElem hk),List.map_take,h.pl,List.take_range,List.length_append,List.length_take,List.length_singleton]
   congr 1
   omega
  ·have hc':c∈(st.bs.take kept++[{(st.bs[kept]) with ps:=(st.bs[kept]).ps++R6 (st.bs.drop (kept+1))}]).tail:=hc
   have h1:c.n∈((st.bs.take kept++[{(st.bs[kept]) with ps:=(st.bs[kept]).ps++R6 (st.bs.drop (kept+1))}]).tail).map Brn.n:=List.mem_map_of_mem hc'
   rw[List.map_tail,List.map_append,List.map_singleton] at h1
   have h2:c.n∈(List.map Brn.n (st.bs.take kept)++[(st.bs[kept]).n]).tail:=h1
   rw[<-List.map_singleton (f:=Brn.n),<-List.map_append,<-qk6 (List.getElem?_eq_getElem hk),<-List.map_tail] at h2
   obtain⟨b,hb,e⟩:=List.mem_map.mp h2
   rw[<-e]
   refine h.nr b ?_
   have h3:b∈(st.bs.tail).take kept:=by
    have:(st.bs.take (kept+1)).tail=st.bs.tail.take kept:=by cases st.bs <;> simp
    rw[<-this];exact hb
   exact List.mem_of_mem_take h3
  ·show(st.bs.take kept++[_]).length<=21
   rw[List.length_append,List.length_take,List.length_singleton];have:=h.l;omega
  ·show(st.ms++_).length<=_
   rw[List.length_append,List.length_map,List.length_reverse];have:=h.m;omega
 have:=b1.wup (f:=(·++W6 rs ((st.bs.drop (kept+1)).map Brn.n))) (W':=W+20) (by omega) (fun c hc=>?_)
 ·show Bg _ _ _ _ _ _ {st with bs:=_,ms:=_}
  rw[e0]
  exact this
 ·have hB:=b1.c c hc
  have hw1:(W6 rs ((st.bs.drop (kept+1)).map Brn.n)).length<=20:=by
   have h1:=xg3 rs (((st.bs.drop (kept+1)).map Brn.n).takeWhile fun n=>!(V9 rs n))
   have h2:(((st.bs.drop (kept+1)).map Brn.n).takeWhile fun n=>!(V9 rs n)).length<=((st.bs.drop (kept+1)).map Brn.n).length:=(List.takeWhile_sublist _).length_le
   rw[List.length_map] at h2
   unfold W6;omega
  refine⟨by show(c.ws++_).length<=_;rw[List.length_append];have:=hB.ws;omega,fun n hn=>?_⟩
  rcases List.mem_append.mp hn with hn|hn
  ·exact hB.wr n hn
  ·obtain⟨b,hb,e⟩:=List.mem_map.mp (zc1 hn)
   rw[<-e]
   refine h.nr b ?_
   have:st.bs.drop (kept+1)=st.bs.tail.drop kept:=by rw[<-List.drop_one,List.drop_drop];congr 1;omega
   rw[this] at hb
   exact List.mem_of_mem_drop hb
theorem xg4(l:List Brn)(b1 b2:Brn):lvB (l++[b1,b2])=l++[{b1 with ps:=b1.ps++[Tr.nd b2.n b2.ps]}]:=by
 unfold lvB
 have e:l++[b1,b2]=(l++[b1])++[b2]:=by simp
 rw[e,List.dropLast_concat,List.dropLast_concat,qp6,qp6]
theorem yi6{bs:List Brn}(h:2<=bs.length):∃ l b1 b2,bs=l++[b1,b2]:=by
 rcases List.eq_nil_or_concat bs with e|⟨l,b2,e⟩
 ·rw[e] at h;simp at h
 ·rw[List.concat_eq_append] at e
  rcases List.eq_nil_or_concat l with e1|⟨l',b1,e1⟩
  ·rw[e,e1] at h;simp at h
  ·rw[List.concat_eq_append] at e1
   exact⟨l',b1,b2,by rw[e,e1];simp⟩
theorem Bg.lv(h:Bg rs P W M D T st)(h2:2<=st.bs.length):Bg rs (P+1) W M D T (lvS st):=by
 obtain⟨l,b1,b2,e⟩:=yi6 h2
 have e1:(lvS st).bs=l++[{b1 with ps:=b1.ps++[Tr.nd b2.n b2.ps]}]:=by show lvB st.bs=_;rw[e,xg4]
 have hb:=h.c b1 (by rw[e];simp)
 have hpl:=h.pl
 rw[e] at hpl
 refine⟨fun c hc=>?_,?_,fun c hc=>?_,by rw[e1];simp,by rw[e1];have:=h.l;rw[e] at this;simp at this ⊢;omega,h.m,h.d⟩
 ·rw[e1] at hc
  rcases List.mem_append.mp hc with hc|hc
  ·exact(h.c c (by rw[e];simp[hc])).mono (by omega) (by omega) (by omega)
  ·rw[List.mem_singleton.mp hc]
   refine⟨hb.n,?_,hb.ws,hb.wr,?_⟩
   ·show(b1.ps++[_]).length<=_;rw[List.length_append,List.length_singleton];have:=hb.ps;omega
   ·show adA (b1.ps++[_])<=_
    rw[zv0];exact Nat.zero_le _
 ·rw[e1,List.map_append]
  have e2:l++[b1,b2]=(l++[b1])++[b2]:=by simp
  rw[e2,List.map_append,List.length_append,List.length_singleton,List.range_succ] at hpl
  have:=(List.append_inj' hpl rfl).1
  rw[List.map_append] at this
  rw[show(l++[({b1 with ps:=b1.ps++[Tr.nd b2.n b2.ps]}:Brn)]).length=(l++[b1]).length by simp]
  exact this
 ·rw [e1] at hc
  have h1:c.n∈(l++[({b1 with ps:=b1.ps++[Tr.nd b2.n b2.ps]}:Brn)]).tail.map Brn.n:=List.mem_map_of_mem hc
  rw[List.map_tail,List.map_append] at h1
  have h2:c.n∈(l.map Brn.n++[b1.n]).tail:=h1
  have h3:c.n∈(st.bs.map Brn.n).tail:=by
   rw[e]
   cases l with
   | nil=>cases h2
   | cons x l =>
     have h4:c.n∈l.map Brn.n++[b1.n]:=h2
     show c.n∈(l++[b1,b2]).map Brn.n
     rw[List.map_append]
     rcases List.mem_append.mp h4 with h|h
     ·exact List.mem_append_left _ h
     ·exact List.mem_append_right _ (by rw[List.mem_singleton.mp h];simp)
  rw[<-List.map_tail] at h3
  obtain⟨b,hb,e4⟩:=List.mem_map.mp h3
  rw[<-e4];exact h.nr b hb
theorem Bg.tx(h:Bg rs P W M D T st):Bg rs (P+1) W M (D+1) (T+t.length) (txS st i g t):=by
 obtain⟨l,b,e,e2,hp,hb⟩:=h.snoc
 have e1:(txS st i g t).bs=l++[{b with ps:=adP b.ps t}]:=by show st.bs.dropLast++[_]=_;rw[e2,e,List.dropLast_concat]
 have hpl:=h.pl
 rw[e] at hpl
 refine⟨fun c hc=>?_,?_,fun c hc=>?_,by rw[e1];simp,by rw[e1];have:=h.l;rw[e] at this;simp at this ⊢;omega,h.m,by show(st.ls++[_]).length<=_;have:=h.d;simp;omega⟩
 ·rw[e1] at hc
  rcases List.mem_append.mp hc with hc|hc
  ·exact(h.c c (by rw[e];simp[hc])).mono (by omega) (by omega) (by omega)
  ·rw[List.mem_singleton.mp hc]
   refine⟨hb.n,?_,hb.ws,hb.wr,?_⟩
   ·show(adP b.ps t).length<=_;have:=hb.ps;have:=zl1 b.ps t;omega
   ·show adA (adP b.ps t)<=_
    rw[zl2];have:=hb.t;omega
 ·rw[e1,List.map_append]
  rw[List.map_append] at hpl
  rw[show(l++[({b with ps:=adP b.ps t}:Brn)]).length=(l++[b]).length by simp]
  exact hpl
 ·rw[e1] at hc
  have h1:c.n∈(l++[({b with ps:=adP b.ps t}:Brn)]).tail.map Brn.n:=List.mem_map_of_mem hc
  rw[List.map_tail,List.map_append] at h1
  have h2:c.n∈(st.bs.map Brn.n).tail:=by rw[e,List.map_append];exact h1
  rw[<-List.map_tail] at h2
  obtain⟨b,hb,e4⟩:=List.mem_map.mp h2
  rw[<-e4];exact h.nr b hb
theorem Bg.sign(h:Bg rs P W M D T st):Bg rs P W (M+g.length) D T (wr3 st i g) :=
 ⟨h.c,h.pl,h.nr,h.ne,h.l,by
  show(st.ms++_).length<=_
  rw[List.length_append,List.length_map]
  have h1:=wv0 g.cps.toList g.cps.toList.length
  have h2:g.cps.toList.length=g.length:=Array.length_toList
  have:=h.m;omega,h.d⟩
theorem xs9{rs:List Row}{P W M D T:Nat}{i:Int}(hN:∀ r∈rs,(Row.name r).length<=4000):∀ (ws:List Str) (s:Rst),Bg rs P W (M+21) D T s->s.ms.length<=M+s.bs.length->(∀ n∈ws,∃ r∈rs,Row.name r=n)->Bg rs P W (M+21) D T (ws.foldl (qe1 rs i) s)/\(ws.foldl (qe1 rs i) s).ms.length<=M+(ws.foldl (qe1 rs i) s).bs.length
 | [],s,h,hm,_=>⟨h,hm⟩
 | n :: ws,s,h,hm,hw=>by
   rw[List.foldl_cons]
   have hr:=hw n (by simp)
   refine xs9 hN ws _ ?_ ?_ fun m hm=>hw m (by simp[hm])
   ·unfold qe1
    split
    ·rename_i ha
     unfold wk4 at ha
     rw[Bool.and_eq_true,decide_eq_true_eq] at ha
     have hl:=h.nlen
     have hp:=h.put (n:=n) (i:=i) (rule := "anew") (by omega) (by obtain⟨r,h1,h2⟩:=hr;rw[<-h2];exact hN r h1) hr
     refine⟨hp.c,hp.pl,hp.nr,hp.ne,hp.l,?_,hp.d⟩
     have h2:=qw8 s n i "anew"
     have h3:=hp.l
     show(s.ms++[_]).length<=_
     rw[List.length_append,List.length_singleton]
     omega
    ·exact h
   ·unfold qe1
    split
    ·rw[qw8]
     show(s.ms++[_]).length<=_
     rw[List.length_append,List.length_singleton];omega
    ·exact hm
theorem yi7(h:Bg rs P W M D T st):(lwS rs st.bs).length<=W/\∀ n∈lwS rs st.bs,∃ r∈rs,Row.name r=n:=by
 obtain⟨l1,b,l2,e,lw⟩:=ya9 rs h.ne
 have hb:=h.c b (by rw[e];simp)
 rw[e,xs6 lw]
 exact⟨hb.ws,hb.wr⟩
theorem Bg.anews(h:Bg rs P W M D T st)(hN:∀ r∈rs,(Row.name r).length<=4000):Bg rs P W (M+21) D T (wa1 rs i st):=by
 have h1:=h.wup (f:=fun _=>[]) (W':=W) (Nat.le_refl _) fun c _=>⟨Nat.zero_le _,fun n hn=>by cases hn⟩
 refine(xs9 hN _ _ (h1.mono (Nat.le_refl _) (Nat.le_refl _) (by omega) (Nat.le_refl _) (Nat.le_refl _)) ?_ (yi7 h).2).1
 show st.ms.length<=_
 have:=h.m
 omega
theorem yi8{rec:Str->Nat×List Str}:∃ ps,(wq6 rs rk ys rec x).2=ps++[x]:=by
 unfold wq6
 split
 ·unfold ql5
  split
  ·exact⟨[],rfl⟩
  ·exact⟨_,rfl⟩
 ·split
  ·exact⟨[],rfl⟩
  ·exact⟨_,rfl⟩
theorem wv7(n:Nat)(x:Str):∃ ps,(M9 rs rk ys n x).2=ps++[x]:=by
 cases n <;> (rw[M9];exact yi8)
theorem wv8(h:J0 rs (some n)≠none):∃ r∈rs,Row.name r=n:=by
 unfold J0 at h
 cases e:Z0 rs (some n) with
 | none=>rw[e] at h;exact absurd rfl h
 | some r=>exact⟨r,(wq4 e).1,(wq4 e).2⟩
structure Bok(rs:List Row)(rk:Str->Nat):Prop where
 B:Boo rs
 f:wp9 rs rk
 k:∀ x,rk x<=13
 n:∀ r∈rs,(Row.name r).length<=4000
 sb:∀ r∈rs,r.shuts.length<=1000/\r.bars.length<=1000
theorem Bok.row(b:Bok rs rk){n:Str}(h:∃ r∈rs,Row.name r=n):n.length<=4000:=by obtain⟨r,h1,h2⟩:=h;rw[<-h2];exact b.n r h1
theorem Bg.op(b:Bok rs rk)(h:Bg rs P W M D T st):Bg rs (P+2) (W+20) (M+60) D T (opS rs rk st i g n):=by
 have hd:∀ rule,Bg rs (P+2) (W+20) (M+60) D T (qk8 st i g rule):=fun rule=>h.drop.mono (by omega) (by omega) (by omega) (by omega) (by omega)
 unfold opS
 split
 ·exact hd _
 rename_i hs
 split
 ·exact hd _
 split
 ·exact hd _
 rename_i hlen
 have hrow:=wv8 hs
 have w:=wi1 b.B b.f (ys:=J7 st) 13 n hrow (b.k n)
 have hnl:=h.nlen
 obtain⟨ps,hps⟩:=wv7 (rs:=rs) (rk:=rk) (ys:=J7 st) 13 n
 have hw1:=w.k
 have hm:=w.m
 generalize M9 rs rk (J7 st) 13 n=wt at *
 have hk:wt.1<st.bs.length:=by omega
 have e1:wt.2.dropLast=ps:=by rw[hps,List.dropLast_concat]
 have e2:wt.2.length=ps.length+1:=by rw[hps];simp
 have hc:=h.cls (i:=i) (rule := "shut") hk
 have hcl:(V2 rs st wt.1 i "shut").bs.length=wt.1+1:=by rw[wi7,List.length_take];omega
 have hp:=hc.puts (ns:=ps) (i:=i) (rule := "frame") (by rw[hcl];omega) fun m hmm=>by
  have:=hm m (by rw[hps];simp[hmm])
  exact⟨b.row this,this⟩
 have hpl:=wi6 ps (V2 rs st wt.1 i "shut") i "frame"
 have hpb:ps.length<=20:=by omega
 have he:=hp.ent (n:=n) (by rw[hpl,hcl];omega) (b.row hrow) hrow
 rw[e1]
 dsimp only
 split
 ·refine(he.lv ?_).mono (by omega) (by omega) (by omega) (by omega) (by omega)
  show 2<=(qk7 _ n).length
  unfold qk7
  rw[List.length_append,hpl,hcl,List.length_singleton];omega
 ·exact he.mono (by omega) (by omega) (by omega) (by omega) (by omega)
theorem zl3(ws:List Str)(n:Str):(woL ws n).length<=ws.length:=by
 unfold woL
 rw[List.length_reverse,<-List.length_reverse (as:=ws)]
 exact List.length_erase_le
theorem zl4{m:Str}(h:m∈woL ws n):m∈ws:=by
 unfold woL at h
 exact List.mem_reverse.mp (List.mem_of_mem_erase (List.mem_reverse.mp h))
theorem Bg.clo(h:Bg rs P W M D T st):Bg rs (P+2) (W+20) (M+60) D T (wr2 rs rk st i g n):=by
 have hnl:=h.nlen
 unfold wr2
 split
 ·rename_i k hk
  have:=xf5 hk
  refine((h.cls (by omega)).lv ?_).mono (by omega) (by omega) (by omega) (by omega) (by omega)
  rw[wi7,List.length_take];omega
 ·split
  ·refine((h.drop (i:=i) (g:=g) (rule := "late")).wup (f:=fun ws=>woL ws n) (W':=W) (Nat.le_refl _) fun c hc=>⟨?_,fun m hm=>?_⟩).mono (by omega) (by omega) (by omega) (by omega) (by omega)
   ·have h1:=(h.c c hc).ws
    have h2:=zl3 c.ws n
    exact Nat.le_trans h2 h1
   ·exact(h.c c hc).wr m (zl4 hm)
  ·exact h.drop.mono (by omega) (by omega) (by omega) (by omega) (by omega)
theorem Bg.run(b:Bok rs rk)(h:Bg rs P W M D T st):Bg rs (P+2) (W+20) (M+60+g.length) (D+1) (T+t.length) (qk9 rs st i g t):=by
 have hnl:=h.nlen
 unfold qk9
 split
 ·exact h.drop.mono (by omega) (by omega) (by omega) (by omega) (by omega)
 split
 ·exact h.drop.mono (by omega) (by omega) (by omega) (by omega) (by omega)
 rename_i hlen
 have hh:(M2 rs st).length<=12:=qi7 rs 12 _
 have hp:=h.puts (ns:=M2 rs st) (i:=i) (rule := "host") (by omega) fun m hm=>by
  have:=qw4 b.B 12 _ m hm
  exact⟨b.row this,this⟩
 exact((hp.anews (i:=i) b.n).sign.tx).mono (by omega) (by omega) (by omega) (by omega) (by omega)
theorem Bg.step(b:Bok rs rk)(h:Bg rs P W M D T st):Bg rs (P+2) (W+20) (M+60+g.length) (D+1) (T+t.length) (qm6 rs rk st kind i g t):=by
 unfold qm6
 split
 ·exact(h.op b).mono (by omega) (by omega) (by omega) (by omega) (by omega)
 split
 ·exact h.clo.mono (by omega) (by omega) (by omega) (by omega) (by omega)
 ·exact h.run b
end
theorem zo5(n p q w v:V):qk2 ("waiting":Str) v [(("name":Str),n),(("place":Str),p),(("parts":Str),q),(("waiting":Str),w)]=[(("name":Str),n),(("place":Str),p),(("parts":Str),q),(("waiting":Str),v)]:=by
 show(if(("name":Str)) = "waiting" then _ else _::(if(("place":Str)) = "waiting" then _ else _::(if(("parts":Str)) = "waiting" then _ else _::(if(("waiting":Str)) = "waiting" then _ else _))))=_
 rw[if_neg (by decide),if_neg (by decide),if_neg (by decide),if_pos rfl]
theorem zc3{H3:Hp}(h1:U8 H1 H2)(h2:U8 H2 H3):U8 H1 H3:=⟨fun c xs e=>h2.1 c xs (h1.1 c xs e),fun c o xs e=>h2.2 c o xs (h1.2 c o xs e)⟩
section
variable{kR kB r:Addr}{bv:V}{a:RAd}{st:Rst}
theorem Rup.waitN{x:BA}{w:Addr}(h:RdO K H kR kB r bv a st)(ea:a.as=m1++x::m2)(eb:st.bs=l1++b::l2)(hl:m1.length=l1.length)(hw:H w=none) :
 Rup K kR kB r bv H a (upd (upd H w (.lst (B7 ws))) x.o (.ins kB x.x (bF {x with w:=w} b))) {a with as:=m1++{x with w:=w}::m2} {st with bs:=l1++{b with ws:=ws}::l2}:=by
 have hb:=h.b
 rw[ea,eb] at hb
 have hx:=(hb.split hl).2.1
 have xnd:=h.xnd ea
 have no:x.o≠x.q:=by simp[BA.fp] at xnd;exact xnd.1.1
 have nwo:x.o≠w:=X6 hw hx.o
 obtain⟨us,q1,q2⟩:=hx.q
 have nwq:x.q≠w:=X6 hw q1
 have s1:=A6.new hw (.lst (B7 ws))
 have tk:U8 H (upd (upd H w (.lst (B7 ws))) x.o (.ins kB x.x (bF {x with w:=w} b))):=zc3 s1.tupK (O7 (.inr ⟨_,_,_,s1 _ _ hx.o⟩))
 refine Rup.swap h ea eb hl (fun z u e n=>E8 (s1 _ _ e) fun y=>n (by rw[y];simp[BA.fp])) ⟨A5,tk.sqT hx.p,⟨us,E8 (s1 _ _ q1) (Ne.symm no),Dvs.tupK tk _ _ (qc4 _) q2⟩,E8 A5 (Ne.symm nwo)⟩ (fun z hz=>?_) ?_ rfl
 ·simp only[BA.fp,List.mem_cons,List.not_mem_nil,or_false] at hz ⊢
  rcases hz with rfl|rfl|rfl
  ·exact .inl (.inl rfl)
  ·exact .inl (.inr (.inl rfl))
  ·exact .inr hw
 ·simp[BA.fp,no,nwo,nwq]
end
theorem zc4{a c:List Str}:(ys.any fun y=>decide (y∈[n]++a++c))=ys.any fun y=>decide (y∈n::(a++c)):=rfl
abbrev qs7(K:Fg):TS :=
 (L6 (yj7 (tOp yf4 (tCB (L5 K) (A1 (A3 1) A8)) (tC (.int 20))) (yu5 (D3 (V7 K) [] E0 (A1 (D3 (qi8 K) [] E0 (A1 (A3 0) (A1 (A3 1) A8))) (A1 (A3 4) A8))))))
abbrev qs8(K:Fg):TS :=
 (C1 (E1 (tOp (qw0 K) (tOp (qw0 K) (M5 (A1 (A3 2) A8)) (tOp (L1 K) (A3 3) (tC (.int 3)))) (tOp (L1 K) (A3 3) (tC (.int 4)))) (B1 4))
 (qs7 K))
def Y8(K:Fg):Sp:=fun vs H Q _=>∃ (v:V) (a:Addr) (ns:List Str) (n:Str) (rs:List Row),vs=[v,.ref a,.str n]/\BkO K H v rs/\SqT K H a (B7 ns)/\ns.length<=1000/\(∃ r∈rs,Row.name r=n)/\(∀ r∈rs,r.shuts.length<=1000/\r.bars.length<=1000)/\∀ H',A6 H H'->Q (.bl (wk4 rs ns n)) H'
def qd0(K:Fg):TS :=
 (C1 (E1 (D3 (qd7 K) [] E0 (A1 (A3 0) (A1 (A3 2) A8))) (B1 3))
 (qs8 K))
theorem wv9(h:Y8 K vs H Q E):qd0 K {nx:=fun _ H'=>Q .non H',rt:=Q} (D8 ["book","names","name","row","unfit"] vs) H:=by
 obtain⟨v,a,ns,n,rs,rfl,hk,ha,hl,hrow,hsb,q⟩:=h
 show qd0 K _ [some v,some (.ref a),some (.str n),none,none] H
 unfold qd0
 obtain⟨r0,er,hr0,hrn⟩:=yh4 hrow
 lk
 refine⟨v,some n,rs,rfl,hk.rws,fun e=>(by rw[er] at e;cases e),fun r u e hu=>?_⟩
 rw[er] at e
 obtain rfl:=Option.some.inj e
 obtain⟨b,ps,pb,rfl,hb,hps,hpb⟩:=xr5 hu
 obtain⟨l1,l2⟩:=hsb r0 hr0
 show qs8 K _ _ _
 lk
 refine⟨D4 (by z_go),fun p hp=>?_⟩
 have s1:=A6.new hp (.tup [.str n])
 lk
 refine U5 (s1.sqT hb) (v:=.ref ps) rfl ?_
 refine wm3 (SqT.of A5) (s1.sqT hps) (by rw[B4];exact D4 (by simp;omega)) fun p2 H2 s2 hp2=>?_
 have s12:=A6.tr s1 s2
 lk
 refine U5 (s12.sqT hb) (v:=.ref pb) rfl ?_
 refine wm3 hp2 (s12.sqT hpb) (by rw[B4,List.length_append,B4];exact D4 (by simp;omega)) fun p3 H3 s3 hp3=>?_
 have s13:=A6.tr s12 s3
 have hp3':SqT K H3 p3 (B7 ([n]++r0.shuts++r0.bars)):=by simpa [B7] using hp3
 show qs7 K _ _ _
 lk
 refine P7 (.inr (s13.sqT ha)) ?_
 rw[B4]
 lk
 have esh:qn6 rs n=r0.shuts:=by unfold qn6;rw[er]
 have ebr:wf2 rs n=r0.bars:=by unfold wf2;rw[er]
 by_cases hlt:ns.length<20
 ·rw[decide_eq_true (show(ns.length:Int)<20 by omega)]
  x_go
  lk
  refine⟨v,a,ns,rs,rfl,(hk.same s13).rws,s13.sqT ha,hl,fun p4 H4 s4 hp4=>?_⟩
  lk
  refine⟨p4,p3,qb8 rs ns,_,rfl,hp4,s4.sqT hp3',by have:=qw3 rs ns.length ns rfl;omega,fun H5 s5=>?_⟩
  lk
  have ea:wk4 rs ns n=!((qb8 rs ns).any fun y=>decide (y∈[n]++r0.shuts++r0.bars)):=by
   unfold wk4
   rw[decide_eq_true hlt,esh,ebr,zc4];rfl
  have:=q H5 (A6.tr (A6.tr s13 s4) s5)
  rw[ea] at this
  exact this
 ·rw[decide_eq_false (show ¬(ns.length:Int)<20 by omega)]
  k_go
  have ea:wk4 rs ns n=false:=by unfold wk4;rw[decide_eq_false hlt];rfl
  have:=q H3 s13
  rw[ea] at this
  exact this
theorem xg5{n:Str}:∀ {ws:List Str},n∈ws->∃ A B,ws=A++n::B/\n∉B
 | [],h=>by cases h
 | x::ws,h=>by
   by_cases hn:n∈ws
   ·obtain⟨A,B,e,hB⟩:=xg5 hn
    exact⟨x::A,B,by rw[e];rfl,hB⟩
   ·rcases List.mem_cons.mp h with h|h
    ·exact⟨[],ws,by rw[h];rfl,hn⟩
    ·exact absurd h hn
theorem yt7(h:n∉B):woL (A++n::B) n=A++B:=by
 unfold woL
 rw[List.reverse_append,List.reverse_cons,List.append_assoc,List.erase_append_right _ (by simpa using h)]
 simp
abbrev qw9(K:Fg):TS :=
 (L6 (tOp (D2 K) (tSl (wm2 K) (A3 0) qc3 (W1 (A3 2))) (tSl (wm2 K) (A3 0) (W1 (tOp (D2 K) (A3 2) (tC (.int 1)))) qc3)))
abbrev qx0(K:Fg):TS :=
 (C1 (wd7 (G0 (tOp (xq4 K) (tOp (L1 K) (A3 0) (A3 2)) (A3 1)))
 (E1 (tOp (rI0 fun i j=>.int (i-j)) (A3 2) (tC (.int 1))) (B1 2)))
 (qw9 K))
def qd1(K:Fg):Sp:=fun vs H Q _=>∃ (p:Addr) (ws:List Str) (n:Str),vs=[.ref p,.str n]/\H p=some (.lst (B7 ws))/\n∈ws/\ws.length<=9000000/\∀ (q:Addr) (H':Hp),A6 H H'->H q=none->H' q=some (.lst (B7 (woL ws n)))->Q (.ref q) H'
def qf9(K:Fg):TS :=
 (C1 (E1 (tOp (rI0 fun i j=>.int (i-j)) (tCB (L5 K) (A1 (A3 0) A8)) (tC (.int 1))) (B1 2))
 (qx0 K))
theorem xa8(h:qd1 K vs H Q E):qf9 K {nx:=fun _ H'=>Q .non H',rt:=Q} (D8 ["names","name","number"] vs) H:=by
 obtain⟨p,ws,n,rfl,hp,hn,hl,q⟩:=h
 show qf9 K _ [some (.ref p),some (.str n),none] H
 unfold qf9
 obtain⟨A,B,rfl,hB⟩:=xg5 hn
 have hlen:(A++n::B).length=A.length+B.length+1:=by simp;omega
 lk
 refine P7 (.inl (SqL.of hp)) ?_
 rw[B4,hlen]
 lk
 have e0:((A.length+B.length+1:Nat):Int)-1=((A.length+B.length:Nat):Int):=by omega
 rw[e0]
 show qx0 K _ _ _
 refine qb1 ?_
 refine ys7 (fun σ H'=>H'=H/\∃ m:Nat,m<=B.length/\σ=[some (.ref p),some (.str n),some (.int ((A.length+m:Nat):Int))]) (fun σ _=>match σ with | [_,_,some (.int k)]=>k.toNat-A.length|_=>0) ⟨rfl,B.length,Nat.le_refl _,rfl⟩ ?_
 rintro σ H' ⟨rfl,m,hm,rfl⟩
 lk
 cases m with
 | zero =>
   refine M1 (SqL.of hp) (v:=.str n) (O2 (by simp[B7])) ?_
   lk
   rw[decide_eq_true rfl]
   k_go
   show qw9 K _ _ _
   lk
   refine xx4 (SqL.of hp) fun p1 hp1=>?_
   have e1:qe7 (B7 (A++n::B)) none (some ((A.length+0:Nat):Int))=B7 A:=by rw[xf4];simp
   rw[e1]
   have s1:=A6.new hp1 (.lst (B7 A))
   lk
   refine xx4 (SqL.of (s1 _ _ hp)) fun p2 hp2=>?_
   have e2:qe7 (B7 (A++n::B)) (some (((A.length+0:Nat):Int)+1)) none=B7 B:=by
    rw[wv5 (by omega),show(((A.length+0:Nat):Int)+1).toNat=A.length+1 by omega]
    show((A++n::B).map V.str).drop _=B.map V.str
    rw[<-List.map_drop]
    congr 1
    rw[List.drop_append,List.drop_eq_nil_of_le (by omega),show A.length+1-A.length=1 by omega];rfl
   rw[e2]
   have s2:=A6.new hp2 (.lst (B7 B))
   lk
   refine yy0 (s2 _ _ A5) A5 (by rw[B4,B4,sizeLine_eq];omega) fun p3 hp3=>?_
   have s3:=A6.new hp3 (.lst (B7 A++B7 B))
   lk
   refine q _ _ (A6.tr (A6.tr s1 s2) s3) (A6.grow (A6.tr s1 s2) _ hp3) ?_
   rw[A5,yt7 hB]
   simp[B7]
 | succ m =>
   have hg:(A++n::B)[A.length+(m+1)]?=some B[m]:=by
    rw[List.getElem?_append_right (by omega),show A.length+(m+1)-A.length=m+1 by omega,List.getElem?_cons_succ,List.getElem?_eq_getElem (by omega)]
   refine M1 (SqL.of hp) (v:=.str B[m]) (O2 (by unfold B7;rw[List.getElem?_map,hg];rfl)) ?_
   lk
   rw[decide_eq_false fun e=>hB (by rw[<-e];exact List.getElem_mem _)]
   x_go
   refine⟨fun σ' H''=>H''=H'/\σ'=[some (.ref p),some (.str n),some (.int ((A.length+m:Nat):Int))],?_,?_⟩
   ·rintro σ' H'' ⟨rfl,rfl⟩
    refine⟨m,?_,?_,rfl,m,by omega,rfl⟩
    ·show m<(((A.length+(m+1):Nat):Int)).toNat-A.length;omega
    ·show m=(((A.length+m:Nat):Int)).toNat-A.length;omega
   ·lk
    refine⟨rfl,?_⟩
    show[some (V.ref p),some (V.str n),some (V.int (((A.length+(m+1):Nat):Int)-1))]=_
    rw[show((A.length+(m+1):Nat):Int)-1=((A.length+m:Nat):Int) by omega]
theorem RdO.old_w{a:RAd}{x:BA}{w:Addr}(h:RdO K H kR kB r bv a st)(ea:a.as=m1++x::m2)(hw:H w=none)(hx:H x.w≠none):x.w∉RAd.fp r {a with as:=m1++{x with w:=w}::m2}:=by
 have nd:=h.nd
 have e1:RAd.fp r a=(r::a.L::a.M::a.A::(fpA m1++[x.o,x.q]))++x.w::fpA m2:=by
  unfold RAd.fp;rw[ea,R0,Q3];simp[BA.fp]
 have e2:RAd.fp r {a with as:=m1++{x with w:=w}::m2}=(r::a.L::a.M::a.A::(fpA m1++[x.o,x.q]))++w::fpA m2:=by
  unfold RAd.fp
  show r::a.L::a.M::a.A::fpA (m1++{x with w:=w}::m2)=_
  rw[R0,Q3];simp[BA.fp]
 rw[e1,List.nodup_append] at nd
 rw[e2]
 intro hm
 rcases List.mem_append.mp hm with hm|hm
 ·exact nd.2.2 _ hm _ (by simp) rfl
 ·rcases List.mem_cons.mp hm with hm|hm
  ·exact hx (hm▸hw)
  ·exact(List.nodup_cons.mp nd.2.1).1 hm
abbrev W9(K:Fg)(k_Reader:Addr):TS :=
 (I0 (N3 k_Reader "put_in" (O0 K) [] E0 (A3 0) (A1 (A3 4) (A1 (A3 1) (A1 (tC (.str "anew")) A8)))))
abbrev X0(K:Fg)(k_Reader:Addr):TS :=
 (S3 (tB (D3 (Y8 K) [] E0 (A1 (S4 K (A3 0) "book") (A1 (N3 k_Reader "open_names" (E2 K) [] E0 (A3 0) A8) (A1 (A3 4) A8)))))
 (W9 K k_Reader) O8)
abbrev X1(K:Fg)(k_Reader:Addr):TS :=
 (C1 (wd9 K (A3 2) (qb5 A8) "waiting")
 (qm8 (wj0 K (A3 3)) (B1 4)
 (X0 K k_Reader)))
def N2(K:Fg):Sp:=fun vs H Q _=>∃ (kR kB r:Addr) (bv:V) (a:RAd) (st:Rst) (rs:List Row) (rk:Str->Nat) (i:Int) (P W M D T:Nat),vs=[.ref r,.int i]/\RdO K H kR kB r bv a st/\BkO K H bv rs/\Bok rs rk/\Bg rs P W M D T st/\P<=8500000/\W<=8500000/\M<=8500000/\∀ a' H',Rup K kR kB r bv H a H' a' (wa1 rs i st)->C2 H H'->Q .non H'
def N5(K:Fg)(k_Reader:Addr):TS :=
 (C1 (E1 (N3 k_Reader "last_wall" (M7 K) [] E0 (A3 0) A8) (B1 2))
 (C1 (E1 (S4 K (A3 2) "waiting") (B1 3))
 (X1 K k_Reader)))
theorem qp7(cz:Cz K k_Branch k_Reader)(h:N2 K vs H Q E):N5 K k_Reader {nx:=fun _ H'=>Q .non H',rt:=Q} (D8 ["self","start","wall","names","name"] vs) H:=by
 obtain⟨kR,kB,r,bv,a,st,rs,rk,i,P,W,M,D,T,rfl,h,hk,bk,bg,hP,hWb,hM,q⟩:=h
 obtain rfl:=N1 cz.ns_Reader h.kr
 obtain rfl:=N1 cz.ns_Branch h.kb
 show N5 K _ _ [some (.ref r),some (.int i),none,none,none] H
 unfold N5
 lk
 refine E7 ?_
 lk
 refine⟨r,_,_,rfl,h.o,rfl,?_⟩
 lk
 refine⟨k_Reader,k_Branch,r,bv,a,st,rs,rfl,h,hk,bg.ne,by have:=bg.l;omega,fun m1 m2 x l1 l2 b H1 s1 ea eb hm lw=>?_⟩
 have h1:=h.same s1
 have hb1:=h1.b
 rw[ea,eb] at hb1
 have hx:=(hb1.split hm).2.1
 have elw:lwS rs st.bs=b.ws:=by rw[eb];exact xs6 lw
 have ewu:wUp rs (fun _=>[]) st.bs=l1++{b with ws:=[]}::l2:=by rw[eb];exact wn4 lw
 lk
 refine G9 ?_
 lk
 refine⟨x.o,_,x.x,_,_,rfl,hx.o,cz.cl_Branch,cz.na_Branch_waiting,rfl,?_⟩
 show X1 K _ _ _ _
 refine qb1 (qj5 ?_)
 lk
 refine⟨D4 (by z_go),fun w hw=>?_⟩
 lk
 have s2:=A6.new hw (.lst [])
 refine⟨x.o,_,x.x,_,rfl,s2 _ _ hx.o,cz.cl_Branch,cz.na_Branch_waiting,by unfold bF;simp,?_⟩
 unfold bF
 rw[zo5]
 have u:=Rup.waitN (ws:=[]) h1 ea eb hm hw
 have xnd:=h1.xnd ea
 have no:x.w≠x.o:=by simp[BA.fp] at xnd;exact Ne.symm xnd.1.2
 have nxw:x.w∉RAd.fp r {a with as:=m1++{x with w:=w}::m2}:=h1.old_w ea hw (by rw[hx.w];exact fun z=>by cases z)
 have hw3:(upd (upd H1 w (.lst [])) x.o (.ins k_Branch x.x [(("name":Str),.str b.n),(("place":Str),.ref x.p),(("parts":Str),.ref x.q),(("waiting":Str),.ref w)])) x.w=some (.lst (B7 b.ws)):=E8 (s2 _ _ hx.w) no
 have g:C2 H1 (upd (upd H1 w (.lst [])) x.o (.ins k_Branch x.x [(("name":Str),.str b.n),(("place":Str),.ref x.p),(("parts":Str),.ref x.q),(("waiting":Str),.ref w)])):=C2.tr C2.upd C2.upd
 have u':Rup K k_Reader k_Branch r bv H1 a (upd (upd H1 w (.lst [])) x.o (.ins k_Branch x.x [(("name":Str),.str b.n),(("place":Str),.ref x.p),(("parts":Str),.ref x.q),(("waiting":Str),.ref w)])) {a with as:=m1++{x with w:=w}::m2} {st with bs:=wUp rs (fun _=>[]) st.bs}:=by rw[ewu];exact u
 generalize upd (upd H1 w (.lst [])) x.o (.ins k_Branch x.x [(("name":Str),.str b.n),(("place":Str),.ref x.p),(("parts":Str),.ref x.q),(("waiting":Str),.ref w)])=H2 at *
 rw[<-elw] at hw3
 obtain⟨a2,ea2⟩:∃ a2,a2=({a with as:=m1++{x with w:=w}::m2}:RAd):=⟨_,rfl⟩
 rw[<-ea2] at u' nxw
 have hk2:=(hk.same s1).tupK (u'.tupK h1)
 have bg1:=bg.wup (f:=fun _=>[]) (W':=W) (Nat.le_refl _) fun c _=>⟨Nat.zero_le _,fun n hn=>by cases hn⟩
 have bgj:∀ j,Bg rs P W (M+21) D T (((lwS rs st.bs).take j).foldl (qe1 rs i) {st with bs:=wUp rs (fun _=>[]) st.bs}):=fun j =>
  (xs9 bk.n _ _ (bg1.mono (Nat.le_refl _) (Nat.le_refl _) (by omega) (Nat.le_refl _) (Nat.le_refl _)) (by show st.ms.length<=_;have:=bg.m;omega) fun n hn=>(yi7 bg).2 n (List.mem_of_mem_take hn)).1
 lk
 refine we4 (SqL.of hw3) (fun j σ H'=>∃ a' x4,σ=[some (.ref r),some (.int i),some (.ref x.o),some (.ref x.w),x4]/\Rup K k_Reader k_Branch r bv H2 a2 H' a' (((lwS rs st.bs).take j).foldl (qe1 rs i) {st with bs:=wUp rs (fun _=>[]) st.bs})/\C2 H2 H') ?_ ?_ ?_ ?_
 ·exact⟨a2,none,rfl,.keep u'.ok fun c o e _=>e,fun z hz=>hz⟩
 ·rintro j σ H' _ ⟨a',x4,rfl,uj,gj⟩
  exact SqL.of (uj.bt _ _ hw3 nxw)
 ·rintro j v σ H' hv ⟨a',x4,rfl,uj,gj⟩
  obtain⟨n,hn,rfl⟩:=V5 hv
  have hr:=(yi7 bg).2 n (List.mem_of_getElem? hn)
  have bj:=bgj j
  have efold:((lwS rs st.bs).take (j+1)).foldl (qe1 rs i) {st with bs:=wUp rs (fun _=>[]) st.bs}=qe1 rs i (((lwS rs st.bs).take j).foldl (qe1 rs i) {st with bs:=wUp rs (fun _=>[]) st.bs}) n:=by
   rw[qk6 hn,List.foldl_append];rfl
  generalize ((lwS rs st.bs).take j).foldl (qe1 rs i) {st with bs:=wUp rs (fun _=>[]) st.bs}=sj at *
  obtain⟨b0,bs0,eb0⟩:=List.exists_cons_of_ne_nil bj.ne
  have hl0:bs0.length<=20:=by have:=bj.l;rw[eb0] at this;simp at this;omega
  have hnm:J7 sj=bs0.map Brn.n:=by unfold J7;rw[eb0];rfl
  have hkj:=hk2.tupK (uj.tupK u'.ok)
  refine E5 ?_
  show X0 K _ _ _ _
  lk
  refine G9 ?_
  lk
  refine⟨r,_,a'.x,_,_,rfl,uj.ok.o,cz.cl_Reader,cz.na_Reader_book,rfl,?_⟩
  lk
  refine E7 ?_
  lk
  refine⟨r,_,_,rfl,uj.ok.o,rfl,?_⟩
  lk
  refine⟨k_Reader,k_Branch,r,bv,a',sj,b0,bs0,rfl,uj.ok,eb0,by omega,fun p H4 s4 hp=>?_⟩
  lk
  refine⟨bv,p,bs0.map Brn.n,n,rs,rfl,hkj.same s4,hp,by rw[List.length_map];omega,hr,bk.sb,fun H5 s5=>?_⟩
  have s45:=A6.tr s4 s5
  have h5:=uj.ok.same s45
  have u5:=uj.tr (uj.ok.up s45) gj
  have g5:=C2.tr gj (A6.grow s45)
  rw[<-hnm]
  lk
  by_cases ha:wk4 rs (J7 sj) n=true
  ·rw[ha]
   x_go
   show W9 K _ _ _ _
   lk
   refine E7 ?_
   lk
   refine⟨r,_,_,rfl,h5.o,rfl,?_⟩
   lk
   obtain⟨lb,bb,e1,e2,e3,e4⟩:=bj.snoc
   have h3:=e4.ps
   have h4:=bj.m
   have h6:=bj.l
   rw[e1,List.length_append,List.length_singleton] at h6
   refine⟨k_Reader,k_Branch,r,bv,a',sj,n,i, "anew",lb,bb,rfl,h5,e1,by omega,by omega,by omega,by omega,bk.row hr,fun a6 H6 u6 g6=>?_⟩
   refine⟨a6,_,rfl,?_,C2.tr g5 g6⟩
   rw[efold]
   have ep:qe1 rs i sj n={sj with bs:=sj.bs++[⟨n,bb.pl++[(bb.ps.length:Int)],[],[]⟩],ms:=sj.ms++[⟨i,i,opn n, "anew"⟩]}:=by
    unfold qe1
    rw[if_pos ha]
    unfold wj8 qk7 xk5
    rw[e2]
   rw[ep]
   exact u5.tr u6 g5
  ·rw[Bool.eq_false_iff.mpr ha]
   k_go
   lk
   refine⟨a',_,rfl,?_,g5⟩
   rw[efold]
   unfold qe1
   rw[if_neg ha]
   exact u5
 ·rintro σ H' ⟨a',x4,rfl,uj,gj⟩
  rw[B4,List.take_length] at uj
  exact q _ _ (((h.up s1).tr u' (A6.grow s1)).tr uj (C2.tr (A6.grow s1) g)) (C2.tr (C2.tr (A6.grow s1) g) gj)
abbrev wd3(K:Fg):TS :=
 (I0 (tBM K "list" I9 (S4 K (A3 4) "parts") (A1 (tOp (qw0 K) (A3 5) (A3 3)) A8)))
def adT(K:Fg):TS :=
 (C1 (I0 (tBM K "list" I9 (S4 K (A3 0) "laid") (A1 (M5 (A1 (A3 1) (A1 (A3 2) (A1 (tOp (qw0 K) (S4 K (A3 4) "place") (M5 (A1 (tCB (L5 K) (A1 (S4 K (A3 4) "parts") A8)) A8))) (A1 (tCB (L5 K) (A1 (A3 5) A8)) A8))))) A8)))
 (wd3 K))
section
variable{kR kB r:Addr}{bv:V}{a:RAd}{st:Rst}
theorem Rup.parts{x:BA}(h:RdO K H kR kB r bv a st)(ea:a.as=m1++x::m2)(eb:st.bs=l1++b::l2)(hl:m1.length=l1.length)(hd:Dvs K H (Tr.das ps) us) :
 Rup K kR kB r bv H a (upd H x.q (.lst us)) {a with as:=m1++x::m2} {st with bs:=l1++{b with ps:=ps}::l2}:=by
 have hb:=h.b
 rw[ea,eb] at hb
 have hx:=(hb.split hl).2.1
 have xnd:=h.xnd ea
 have no:x.o≠x.q:=by simp[BA.fp] at xnd;exact xnd.1.1
 have nq:x.w≠x.q:=by simp[BA.fp] at xnd;exact Ne.symm xnd.2
 obtain⟨us0,q1,q2⟩:=hx.q
 have tk:U8 H (upd H x.q (.lst us)):=O7 (.inl ⟨_,q1⟩)
 refine Rup.swap h ea eb hl (fun z u e n=>E8 e fun y=>n (by rw[y];simp[BA.fp])) ⟨E8 hx.o no,tk.sqT hx.p,⟨us,A5,Dvs.tupK tk _ _ (qc4 _) hd⟩,E8 hx.w nq⟩ (fun z hz=>.inl hz) xnd rfl
theorem Rup.laid{p2:Addr}{pl:List Int}(h:RdO K H kR kB r bv a st)(s1:A6 H H1)(e1:SqT K H1 p [.int i,.str g,.ref p2,.int m])(e2:SqT K H1 p2 (qb7 pl))(m2:Dvs K H (st.ls.map Lad.da) us) :
 Rup K kR kB r bv H a (upd H1 a.A (.lst (us++[.ref p]))) a {st with ls:=st.ls++[⟨i,g,pl,m⟩]}:=by
 refine .keep ((h.same s1).setA ?_) fun c o e n=>?_
 ·rw[List.map_append]
  exact Dvs.append (Dvs.same s1 _ _ m2) (Dvs.one (D7.mpr ⟨p,_,rfl,e1,C3 (O6.mpr rfl) (C3 (E6.mpr rfl) (C3 (D7.mpr ⟨p2,_,rfl,e2,xe9.mpr rfl⟩) (C3 (O6.mpr rfl) J4)))⟩))
 ·rw[B9 (fun z=>n (by rw[z];simp[RAd.fp]))];exact s1 c o e
theorem zv1(cz:Cz K k_Branch k_Reader){x:BA}{told u:Str}(h:RdO K H k_Reader k_Branch r bv a st)(ea:a.as=m1++x::[])(eb:st.bs=l1++b::[])(hl:m1.length=l1.length)(h1:b.ps.length<=9000000)(h2:b.pl.length<=1000)(h3:st.ls.length<=9000000)(h4:u.length+told.length<=1000000)(q:∀ a' H',Rup K k_Reader k_Branch r bv H a H' a' {st with bs:=l1++[{b with ps:=b.ps++[Tr.tx (u++told)]}],ls:=st.ls++[⟨i,g,b.pl++[(b.ps.length:Int)],u.length⟩]}->C2 H H'->D.nx [some (.ref r),some (.int i),some (.str g),some (.str told),some (.ref x.o),some (.str u)] H') :
 adT K D [some (.ref r),some (.int i),some (.str g),some (.str told),some (.ref x.o),some (.str u)] H:=by
 unfold adT
 have hb:=h.b
 rw[ea,eb] at hb
 have hx:=(hb.split hl).2.1
 obtain⟨us,q1,q2⟩:=hx.q
 obtain⟨ls,l1',l2'⟩:=h.d
 have hul:=qn2 q2
 have hll:ls.length=st.ls.length:=by have:=l2'.length;rw[List.length_map] at this;exact this
 lk
 refine G9 ?_
 lk
 refine⟨r,_,a.x,_,_,rfl,h.o,cz.cl_Reader,cz.na_Reader_laid,rfl,?_⟩
 lk
 refine⟨.inl ⟨rfl,_,SqL.of l1'⟩,?_⟩
 lk
 refine G9 ?_
 lk
 refine⟨x.o,_,x.x,_,_,rfl,hx.o,cz.cl_Branch,cz.na_Branch_place,rfl,?_⟩
 lk
 refine G9 ?_
 lk
 refine⟨x.o,_,x.x,_,_,rfl,hx.o,cz.cl_Branch,cz.na_Branch_parts,rfl,?_⟩
 lk
 refine P7 (.inl (SqL.of q1)) ?_
 rw[hul]
 lk
 refine⟨D4 (by z_go),fun p1 hp1=>?_⟩
 have s1:=A6.new hp1 (.tup [.int b.ps.length])
 refine wm3 (s1.sqT hx.p) (SqT.of A5) (by rw[qk4];exact D4 (by show _+1<=_;omega)) fun p2 H2 s2 hp2=>?_
 rw[show qb7 b.pl++[V.int b.ps.length]=qb7 (b.pl++[(b.ps.length:Int)]) by simp[qb7]] at hp2
 have s12:=A6.tr s1 s2
 lk
 refine .inr (.inl ⟨u,rfl,by rw[sizeLine_eq];omega,?_⟩)
 lk
 refine⟨D4 (by z_go),fun p3 hp3=>?_⟩
 have s3:=A6.new hp3 (.tup [.int i,.str g,.ref p2,.int u.length])
 have s13:=A6.tr s12 s3
 lk
 refine M8 (s13 _ _ l1') (by rw[hll,sizeLine_eq];omega) ?_
 have u1:=Rup.laid h s13 (SqT.of A5) (s3.sqT hp2) l2'
 have g1:C2 H (upd (upd H2 p3 (.tup [.int i,.str g,.ref p2,.int u.length])) a.A (.lst (ls++[.ref p3]))):=C2.tr (A6.grow s13) C2.upd
 generalize upd (upd H2 p3 (.tup [.int i,.str g,.ref p2,.int u.length])) a.A (.lst (ls++[.ref p3]))=H3 at *
 have hb3:=u1.ok.b
 rw[show({st with ls:=st.ls++[⟨i,g,b.pl++[(b.ps.length:Int)],u.length⟩]}:Rst).bs=st.bs from rfl,ea,eb] at hb3
 have hx3:=(hb3.split hl).2.1
 obtain⟨us3,q3,q4⟩:=hx3.q
 have hul3:=qn2 q4
 lk
 refine G9 ?_
 lk
 refine⟨x.o,_,x.x,_,_,rfl,hx3.o,cz.cl_Branch,cz.na_Branch_parts,rfl,?_⟩
 lk
 refine⟨.inl ⟨rfl,_,SqL.of q3⟩,?_⟩
 lk
 refine .inl (T1 (by rw[sizeLine_eq];omega) ?_)
 lk
 refine M8 q3 (by rw[hul3,sizeLine_eq];omega) ?_
 have u2:=Rup.parts (ps:=b.ps++[Tr.tx (u++told)]) (us:=us3++[.str (u++told)]) u1.ok ea eb hl (by
  rw[T4,List.map_append,<-T4]
  exact Dvs.append q4 (Dvs.one (E6.mpr rfl)))
 exact q _ _ (u1.tr u2 g1) (C2.tr g1 C2.upd)
end
theorem xo0(t:Str):("":Str)++t=t:=(W3 _ _).mpr (by rw[PySem.Str.cps_append,Array.toList_append];rfl)
theorem yb0:∀ {ds:List PyData} {d:PyData} {vs:List V} {v:V},Dvs K H (ds++[d]) (vs++[v])->Dvs K H ds vs
 | [],d,[],v,_=>J4
 | [],d,w::vs,v,h=>by have:=h.length;simp at this
 | e::ds,d,[],v,h=>by have:=h.length;simp at this
 | e::ds,d,w::vs,v,h=>by
   rw[List.cons_append,List.cons_append,Dvs] at h
   obtain⟨w',r,e1,h1,h2⟩:=h
   obtain⟨rfl,rfl⟩:=List.cons.inj e1
   exact C3 h1 (yb0 h2)
abbrev wd4(K:Fg):TS :=
 (C1 (S3 (xp0 (G0 (tOp wt5 (tCB (L5 K) (A1 (S4 K (A3 4) "parts") A8)) (tC (.int 0)))) (tB (D3 (qz0 K) [] E0 (A1 (tOp (L1 K) (S4 K (A3 4) "parts") (tUn (rU fun i=>.int (-i)) (tC (.int 1)))) A8))))
 (E1 (zg7 K "list" zg8 (S4 K (A3 4) "parts")) (B1 5)) O8)
 (adT K))
def S8(K:Fg):Sp:=fun vs H Q _=>∃ (kR kB r:Addr) (bv:V) (a:RAd) (st:Rst) (l1:List Brn) (b:Brn) (i:Int) (g told:Str),vs=[.ref r,.int i,.str g,.str told]/\RdO K H kR kB r bv a st/\st.bs=l1++[b]/\b.ps.length<=9000000/\b.pl.length<=1000/\st.ls.length<=9000000/\adA b.ps+told.length<=1000000/\∀ a' H',Rup K kR kB r bv H a H' a' {st with bs:=l1++[{b with ps:=adP b.ps told}],ls:=st.ls++[⟨i,g,b.pl++[(adN b.ps:Int)],adA b.ps⟩]}->C2 H H'->Q .non H'
def T5(K:Fg):TS :=
 (C1 (E1 (tOp (L1 K) (S4 K (A3 0) "branches") (tUn (rU fun i=>.int (-i)) (tC (.int 1)))) (B1 4))
 (C1 (E1 (tC (.str "")) (B1 5))
 (wd4 K)))
theorem wf5(cz:Cz K k_Branch k_Reader)(h:S8 K vs H Q E):T5 K {nx:=fun _ H'=>Q .non H',rt:=Q} (D8 ["self","start","signs","told","branch","ahead"] vs) H:=by
 obtain⟨kR,kB,r,bv,a,st,l1,b,i,g,told,rfl,h,eb,h1,h2,h3,h4,q⟩:=h
 obtain rfl:=N1 cz.ns_Reader h.kr
 obtain rfl:=N1 cz.ns_Branch h.kb
 show T5 K _ [some (.ref r),some (.int i),some (.str g),some (.str told),none,none] H
 unfold T5
 obtain⟨m1,x,m2,ea,hm,hx⟩:=h.as_split eb
 have hn:=h.b.len
 rw[ea,eb] at hn
 simp only[List.length_append,List.length_cons,List.length_nil] at hn
 obtain rfl:m2=[]:=List.eq_nil_of_length_eq_zero (by omega)
 obtain⟨us,q1,q2⟩:=hx.q
 have hul:=qn2 q2
 lk
 refine G9 ?_
 lk
 refine⟨r,_,a.x,_,_,rfl,h.o,cz.cl_Reader,cz.na_Reader_branches,rfl,?_⟩
 lk
 refine⟨1,rfl,?_⟩
 refine M1 (SqL.of h.l) (v:=.ref x.o) (wh8 (n:=m1.length) (by rw[ea];simp) (by rw[ea];simp)) ?_
 lk
 refine G9 ?_
 lk
 refine⟨x.o,_,x.x,_,_,rfl,hx.o,cz.cl_Branch,cz.na_Branch_parts,rfl,?_⟩
 lk
 refine P7 (.inl (SqL.of q1)) ?_
 rw[hul]
 lk
 rcases List.eq_nil_or_concat b.ps with hps|⟨P,t,hps⟩
 ·rw[hps]
  k_go
  lk
  refine zv1 cz h ea eb hm h1 h2 h3 (by show 0+_<=_;omega) fun a' H' u g'=>q a' H' ?_ g'
  rw[xo0] at u
  have e1:adP b.ps told=b.ps++[.tx told]:=by rw[hps];rfl
  have e2:adN b.ps=b.ps.length:=by rw[hps];rfl
  have e3:adA b.ps=0:=by rw[hps];rfl
  rw[e1,e2,e3]
  exact u
 ·rw [List.concat_eq_append] at hps
  have hgl:b.ps.getLast?=some t:=by rw[hps,List.getLast?_concat]
  rw[hps] at hul
  refine zo4 (by rw[hps];simp) ?_
  lk
  refine G9 ?_
  lk
  refine⟨x.o,_,x.x,_,_,rfl,hx.o,cz.cl_Branch,cz.na_Branch_parts,rfl,?_⟩
  lk
  refine⟨1,rfl,?_⟩
  obtain⟨ut,eu,du⟩:=zj8 q2 (i:=P.length) (t:=t) (by rw[hps];simp)
  refine M1 (SqL.of q1) (v:=ut) (wh8 (n:=P.length) (by rw[hul];simp) eu) ?_
  lk
  refine⟨t,ut,rfl,du,?_⟩
  lk
  cases t with
  | tx u0 =>
    x_go
    lk
    refine G9 ?_
    lk
    refine⟨x.o,_,x.x,_,_,rfl,hx.o,cz.cl_Branch,cz.na_Branch_parts,rfl,?_⟩
    lk
    refine⟨.inl ⟨rfl,_,SqL.of q1⟩,?_⟩
    obtain⟨us1,eus⟩:∃ us1,us=us1++[.str u0]:=by
     have hut:ut=.str u0:=E6.mp du
     refine⟨us.take P.length,?_⟩
     rw[<-hut]
     have:=qk6 eu
     rw[<-this,List.take_of_length_le (by rw[hul];simp)]
    rw[eus] at q1
    refine zn7 q1 ?_
    have dP:Dvs K H (Tr.das P) us1:=by
     rw[eus,hps,T4,List.map_append,<-T4] at q2
     exact yb0 q2
    have u1:=Rup.parts (ps:=P) h ea eb hm dP
    have g1:C2 H (upd H x.q (.lst us1)):=C2.upd
    generalize upd H x.q (.lst us1)=H1 at *
    lk
    have e3:adA b.ps=u0.length:=by unfold adA;rw[hgl]
    refine zv1 cz u1.ok rfl rfl hm (by show P.length<=_;rw[hps] at h1;simp at h1;omega) h2 h3 (by rw[e3] at h4;exact h4) fun a' H' u g'=>q a' H' ?_ (C2.tr g1 g')
    have e1:adP b.ps told=P++[.tx (u0++told)]:=by unfold adP;rw[hgl];rw[hps];simp
    have e2:adN b.ps=P.length:=by unfold adN;rw[hgl,hps];simp
    rw[e1,e2,e3]
    exact u1.tr u g1
  | nd nn pp =>
    k_go
    lk
    refine zv1 cz h ea eb hm h1 h2 h3 (by show 0+_<=_;omega) fun a' H' u g'=>q a' H' ?_ g'
    rw[xo0] at u
    have e1:adP b.ps told=b.ps++[.tx told]:=by unfold adP;rw[hgl]
    have e2:adN b.ps=b.ps.length:=by unfold adN;rw[hgl]
    have e3:adA b.ps=0:=by unfold adA;rw[hgl]
    rw[e1,e2,e3]
    exact u
structure Lim(P W M D T:Nat):Prop where
 P:P<=8000000
 W:W<=8000000
 M:M<=8000000
 D:D<=8000000
 T:T<=500000
theorem yb1{g:TG}(hq:SqT K H a xs)(Pv:Nat->St->Hp->Prop)(h0:Pv 0 σ H)(hk:∀ i σ H',i<=xs.length->Pv i σ H'->SqT K H' a xs)(hs:∀ i x σ H,xs[i]?=some x->Pv i σ H->g x σ H fun σ2 H2=>tb {D with nx:=PAt Pv (i+1),ct:=PAt Pv (i+1),bk:=D.nx} σ2 H2)(hd:∀ σ H,Pv xs.length σ H->D.nx σ H) :
 ∃ b,V.ref a=.ref b/\(((∃ xs,SqL K H b xs)/\wm1 g tb D σ (Itl K b) H)\/((∃ xs,SqT K H b xs)/\wm1 g tb D σ (Itt K b) H)):=⟨a,rfl,.inr ⟨⟨xs,hq⟩,xp2 Pv h0 hk hs hd⟩⟩
theorem yn0{sj:Rst}(e2:X7 sj.bs=bb):wj8 sj n i rule={sj with bs:=sj.bs++[⟨n,bb.pl++[(bb.ps.length:Int)],[],[]⟩],ms:=sj.ms++[⟨i,i,opn n,rule⟩]}:=by
 unfold wj8 qk7 xk5;rw[e2]
theorem zl5{bs:List Brn}(e2:X7 bs=bb):qk7 bs n=bs++[⟨n,bb.pl++[(bb.ps.length:Int)],[],[]⟩]:=by
 unfold qk7 xk5;rw[e2]
theorem xg6(st:Rst)(ns:List Str)(n:Str)(i:Int)(rule:Str):N0 st (ns++[n]) i rule=wj8 (N0 st ns i rule) n i rule:=by
 unfold N0;rw[List.foldl_append];rfl
theorem xt0{pre:List Brn}(e:st.bs=pre++b::cl):V2 rs st pre.length i rule={st with bs:=wUp rs (·++W6 rs (cl.map Brn.n)) (pre++[{b with ps:=b.ps++R6 cl}]),ms:=st.ms++cl.reverse.map (clM i rule)}:=by
 have e1:st.bs.take pre.length=pre:=by rw[e,List.take_left' rfl]
 have e2:st.bs.drop (pre.length+1)=cl:=by
  rw[e,show pre++b::cl=(pre++[b])++cl by simp,List.drop_left' (by simp)]
 have e3:st.bs.getD pre.length xs5=b:=by rw[e];simp[List.getD]
 unfold V2
 rw[e1,e2,e3]
theorem Bg.split{D:Nat}(h:Bg rs P W M D T st)(hk:k<st.bs.length):∃ pre b cl,st.bs=pre++b::cl/\pre.length=k/\cl.length<=20/\∀ (i:Int) (rule:Str),V2 rs st k i rule={st with bs:=wUp rs (·++W6 rs (cl.map Brn.n)) (pre++[{b with ps:=b.ps++R6 cl}]),ms:=st.ms++cl.reverse.map (clM i rule)}:=by
 have e:st.bs=st.bs.take k++st.bs[k]::st.bs.drop (k+1):=by rw[List.getElem_cons_drop,List.take_append_drop]
 have hl:(st.bs.take k).length=k:=by rw[List.length_take];omega
 refine⟨_,_,_,e,hl,by rw[List.length_drop];have:=h.l;omega,fun i rule=>?_⟩
 have:=xt0 (rs:=rs) (i:=i) (rule:=rule) e
 rw[hl] at this
 exact this
theorem Bg.cond{D:Nat}(h:Bg rs P W M D T st)(hP:P<=9000000)(hW:W<=9000000):∀ c∈st.bs,c.n.length<=4000/\c.ps.length<=9000000/\c.ws.length<=9000000:=fun c hc=>by
 have:=h.c c hc
 exact⟨this.n,by have:=this.ps;omega,by have:=this.ws;omega⟩
theorem zc5{ps:List Str}:qe7 (B7 (ps++[n])) none (some (-1))=B7 ps:=by
 unfold qe7
 have e1:(B7 (ps++[n])).length=ps.length+1:=by rw[B4];simp
 have e2:HT.sIx (B7 (ps++[n])).length (B7 (ps++[n])).length (some (-1))=ps.length:=by
  rw[e1]
  show(if(-1:Int)<0 then((-1:Int)+((ps.length+1:Nat):Int)).toNat else min (-1:Int).toNat (ps.length+1))=_
  rw[if_pos (by decide)];omega
 rw[e2]
 show((B7 (ps++[n])).drop 0).take (ps.length-0)=_
 rw[List.drop_zero,Nat.sub_zero]
 unfold B7
 rw[List.map_append,List.take_left' (by simp)]
theorem zv2{o:Option Str}(h:o≠none):decide (oV o=V.non)=false:=by
 cases o with
 | none=>exact absurd rfl h
 | some x=>exact decide_eq_false fun z=>by cases z
abbrev Z4(K:Fg)(k_Reader:Addr):TS :=
 (C1 (I0 (N3 k_Reader "drop" (L9 K) [] E0 (A3 0) (A1 (A3 1) (A1 (A3 2) (A1 (tC (.str "strange")) A8)))))
 yj8)
abbrev Z5(K:Fg)(k_Reader:Addr):TS :=
 (C1 (I0 (N3 k_Reader "drop" (L9 K) [] E0 (A3 0) (A1 (A3 1) (A1 (A3 2) (A1 (tOp (L1 K) (A3 4) (tC (.int 1))) A8)))))
 yj8)
abbrev Z7(K:Fg)(k_Reader:Addr):TS :=
 (I0 (N3 k_Reader "put_in" (O0 K) [] E0 (A3 0) (A1 (A3 5) (A1 (A3 1) (A1 (tC (.str "frame")) A8)))))
abbrev Z8(K:Fg)(k_Reader:Addr):TS :=
 (S3 (G0 (tOp (X3 K) (D3 (X4 K) [] E0 (A1 (S4 K (A3 0) "book") (A1 (A3 3) A8))) (tC (.str "bare"))))
 (I0 (N3 k_Reader "leave" (P0 K) [] E0 (A3 0) A8)) O8)
abbrev Z9(K:Fg)(k_Reader:Addr):TS :=
 (C1 (I0 (N3 k_Reader "enter" (S6 K) [] E0 (A3 0) (A1 (A3 3) A8)))
 (Z8 K k_Reader))
abbrev qa0(K:Fg)(k_Reader:Addr):TS :=
 (C1 (qm8 (wj0 K (tSl (yg4 K) (tOp (L1 K) (A3 4) (tC (.int 2))) qc3 (W1 (tUn (rU fun i=>.int (-i)) (tC (.int 1)))))) (B1 5)
 (Z7 K k_Reader))
 (Z9 K k_Reader))
abbrev qa1(K:Fg)(k_Reader:Addr):TS :=
 (C1 (I0 (N3 k_Reader "close_behind" (L0 K) [] E0 (A3 0) (A1 (tOp (L1 K) (A3 4) (tC (.int 1))) (A1 (A3 1) (A1 (tC (.str "shut")) A8)))))
 (qa0 K k_Reader))
abbrev R8(K:Fg)(k_Reader:Addr):TS :=
 (C1 (S3 (G0 (tOp (X3 K) (tOp (L1 K) (A3 4) (tC (.int 0))) (tC (.str "drop"))))
 (Z5 K k_Reader) O8)
 (qa1 K k_Reader))
abbrev qa2(K:Fg)(k_Reader:Addr):TS :=
 (C1 (E1 (D3 (qz2 K) [] E0 (A1 (S4 K (A3 0) "book") (A1 (N3 k_Reader "open_names" (E2 K) [] E0 (A3 0) A8) (A1 (A3 3) A8)))) (B1 4))
 (R8 K k_Reader))
def O3(K:Fg):Sp:=fun vs H Q _=>∃ (kR kB r:Addr) (bv:V) (a:RAd) (st:Rst) (rs:List Row) (rk:Str->Nat) (P W M D T:Nat) (i:Int) (g n:Str),vs=[.ref r,.int i,.str g,.str n]/\RdO K H kR kB r bv a st/\BkO K H bv rs/\Bok rs rk/\Bg rs P W M D T st/\Lim P W M D T/\g.length<=100000/\∀ a' H',Rup K kR kB r bv H a H' a' (opS rs rk st i g n)->C2 H H'->Q .non H'
def P4(K:Fg)(k_Reader:Addr):TS :=
 (C1 (S3 (G0 (tOp xw7 (D3 (X4 K) [] E0 (A1 (S4 K (A3 0) "book") (A1 (A3 3) A8))) (tC .non)))
 (Z4 K k_Reader) O8)
 (qa2 K k_Reader))
theorem qv0(cz:Cz K k_Branch k_Reader)(h:O3 K vs H Q E):P4 K k_Reader {nx:=fun _ H'=>Q .non H',rt:=Q} (D8 ["self","start","signs","name","plan","put"] vs) H:=by
 obtain⟨kR,kB,r,bv,a,st,rs,rk,P,W,M,D,T,i,g,n,rfl,h,hk,bk,bg,lim,hg,q⟩:=h
 obtain rfl:=N1 cz.ns_Reader h.kr
 show P4 K _ _ [some (.ref r),some (.int i),some (.str g),some (.str n),none,none] H
 unfold P4
 obtain⟨b0,bs0,eb0⟩:=List.exists_cons_of_ne_nil bg.ne
 have hnm:J7 st=bs0.map Brn.n:=by unfold J7;rw[eb0];rfl
 have hbl:=bg.l
 have hl0:bs0.length<=20:=by rw[eb0] at hbl;simp at hbl;omega
 have hms:=bg.m
 have l1:=lim.P
 have l2:=lim.W
 have l3:=lim.M
 lk
 refine G9 ?_
 lk
 refine⟨r,_,a.x,_,_,rfl,h.o,cz.cl_Reader,cz.na_Reader_book,rfl,?_⟩
 lk
 refine⟨bv,some n,rs,rfl,hk.rws,?_⟩
 lk
 by_cases hs:J0 rs (some n)=none
 ·have ed:decide (oV (J0 rs (some n))=V.non)=true:=by rw[hs];rfl
  rw[ed]
  x_go
  show Z4 K _ _ _ _
  lk
  refine E7 ?_
  lk
  refine⟨r,_,_,rfl,h.o,rfl,?_⟩
  lk
  refine⟨k_Reader,kB,r,bv,a,st,i,g, "strange",rfl,h,by omega,by omega,fun H1 u1 g1=>?_⟩
  lk
  have eo:opS rs rk st i g n=qk8 st i g "strange":=by unfold opS;rw[if_pos hs]
  exact q a H1 (by rw[eo];exact u1) g1
 rw[zv2 hs]
 k_go
 show qa2 K _ _ _ _
 have hrow:=wv8 hs
 lk
 refine G9 ?_
 lk
 refine⟨r,_,a.x,_,_,rfl,h.o,cz.cl_Reader,cz.na_Reader_book,rfl,?_⟩
 lk
 refine E7 ?_
 lk
 refine⟨r,_,_,rfl,h.o,rfl,?_⟩
 lk
 refine⟨k_Reader,kB,r,bv,a,st,b0,bs0,rfl,h,eb0,by omega,fun p H1 s1 hp=>?_⟩
 lk
 rw[<-hnm] at hp
 have hnl:=bg.nlen
 refine⟨bv,p,J7 st,n,rs,rk,rfl,(hk.same s1).rws,bk.B,bk.f,hp,by omega,hrow,bk.k n,fun w H2 s2 hw=>?_⟩
 have s12:=A6.tr s1 s2
 have h2:=h.same s12
 have hk2:=hk.same s12
 have drop:∀ rule:Str,xf6 rs rk (J7 st) n=.tuple [.str "drop",.str rule]->opS rs rk st i g n=qk8 st i g rule->R8 K k_Reader {nx:=fun _ H'=>Q .non H',rt:=Q} [some (.ref r),some (.int i),some (.str g),some (.str n),some (.ref w),none] H2:=fun rule ep eo=>by
  rw[ep] at hw
  obtain⟨w',ws,e1,hwq,hwd⟩:=D7.mp hw
  cases e1
  rw[Dvs] at hwd;obtain⟨v0,r0,rfl,d0,hwd⟩:=hwd
  rw[Dvs] at hwd;obtain⟨v1,r1,rfl,d1,hwd⟩:=hwd
  rw[Dvs] at hwd;subst hwd
  obtain rfl:=E6.mp d0
  obtain rfl:=E6.mp d1
  lk
  refine U5 hwq (v:=.str "drop") rfl ?_
  lk
  x_go
  show Z5 K _ _ _ _
  lk
  refine E7 ?_
  lk
  refine⟨r,_,_,rfl,h2.o,rfl,?_⟩
  lk
  refine U5 hwq (v:=.str rule) rfl ?_
  lk
  refine⟨k_Reader,kB,r,bv,a,st,i,g,rule,rfl,h2,by omega,by omega,fun H3 u3 g3=>?_⟩
  lk
  exact q a H3 (by rw[eo];exact(h.up s12).tr u3 (A6.grow s12)) (C2.tr (A6.grow s12) g3)
 by_cases hbar:bar rs ((J7 st).take (M9 rs rk (J7 st) 13 n).1) (M9 rs rk (J7 st) 13 n).2=true
 ·exact drop "barred" (by unfold xf6;rw[if_pos hbar]) (by unfold opS;rw[if_neg hs,if_pos hbar])
 by_cases hdeep:20<(M9 rs rk (J7 st) 13 n).1+(M9 rs rk (J7 st) 13 n).2.length
 ·exact drop "deep" (by unfold xf6;rw[if_neg hbar,if_pos hdeep]) (by unfold opS;rw[if_neg hs,if_neg hbar,if_pos hdeep])
 have ep:xf6 rs rk (J7 st) n=.tuple [.str "open",.int (M9 rs rk (J7 st) 13 n).1,.tuple (sDa (M9 rs rk (J7 st) 13 n).2)]:=by unfold xf6;rw[if_neg hbar,if_neg hdeep]
 have eo:opS rs rk st i g n=(if J0 rs (some n)=some ("bare":Str) then lvS {(N0 (V2 rs st (M9 rs rk (J7 st) 13 n).1 i "shut") (M9 rs rk (J7 st) 13 n).2.dropLast i "frame") with bs:=qk7 (N0 (V2 rs st (M9 rs rk (J7 st) 13 n).1 i "shut") (M9 rs rk (J7 st) 13 n).2.dropLast i "frame").bs n} else{(N0 (V2 rs st (M9 rs rk (J7 st) 13 n).1 i "shut") (M9 rs rk (J7 st) 13 n).2.dropLast i "frame") with bs:=qk7 (N0 (V2 rs st (M9 rs rk (J7 st) 13 n).1 i "shut") (M9 rs rk (J7 st) 13 n).2.dropLast i "frame").bs n}):=by
  unfold opS;rw[if_neg hs,if_neg hbar,if_neg hdeep]
 have wok:=wi1 bk.B bk.f (ys:=J7 st) 13 n hrow (bk.k n)
 obtain⟨ps,hps⟩:=wv7 (rs:=rs) (rk:=rk) (ys:=J7 st) 13 n
 have hw1:=wok.k
 have hwm:=wok.m
 rw[ep] at hw
 clear drop hbar
 generalize M9 rs rk (J7 st) 13 n=wt at *
 obtain⟨w',ws,e1,hwq,hwd⟩:=D7.mp hw
 cases e1
 rw[Dvs] at hwd;obtain⟨v0,r0,rfl,d0,hwd⟩:=hwd
 rw[Dvs] at hwd;obtain⟨v1,r1,rfl,d1,hwd⟩:=hwd
 rw[Dvs] at hwd;obtain⟨v2,r2,rfl,d2,hwd⟩:=hwd
 rw[Dvs] at hwd;subst hwd
 obtain rfl:=E6.mp d0
 obtain rfl:=O6.mp d1
 obtain⟨pz,zs,rfl,hz,dz⟩:=D7.mp d2
 rw[qr8] at dz;subst dz
 have hkl:wt.1<st.bs.length:=by omega
 obtain⟨pre,bb,cl,eb,hpre,hcl,ecl⟩:=bg.split hkl
 have edl:wt.2.dropLast=ps:=by rw[hps,List.dropLast_concat]
 have ell:wt.2.length=ps.length+1:=by rw[hps];simp
 rw[edl] at eo
 have bc:=bg.cls (i:=i) (rule := "shut") hkl
 have bcl:(V2 rs st wt.1 i "shut").bs.length=wt.1+1:=by rw[wi7,List.length_take];omega
 have hpm:∀ m∈ps,m.length<=4000/\∃ r∈rs,Row.name r=m:=fun m hm=>by
  have:=hwm m (by rw[hps];simp[hm])
  exact⟨bk.row this,this⟩
 have bp:∀ j,Bg rs (P+1) (W+20) (M+20+(ps.take j).length) D T (N0 (V2 rs st wt.1 i "shut") (ps.take j) i "frame"):=fun j=>by
  have:(ps.take j).length<=ps.length:=by rw[List.length_take];omega
  exact bc.puts (by rw[bcl];omega) fun m hm=>hpm m (List.mem_of_mem_take hm)
 have bpl:∀ j,(N0 (V2 rs st wt.1 i "shut") (ps.take j) i "frame").bs.length=wt.1+1+(ps.take j).length:=fun j=>by rw[wi6,bcl]
 show R8 K _ _ _ _
 lk
 refine U5 hwq (v:=.str "open") rfl ?_
 lk
 k_go
 show qa1 K _ _ _ _
 lk
 refine E7 ?_
 lk
 refine⟨r,_,_,rfl,h2.o,rfl,?_⟩
 lk
 refine U5 hwq (v:=.int wt.1) rfl ?_
 lk
 refine⟨k_Reader,kB,r,bv,a,st,rs,pre,cl,bb,i, "shut",by rw[hpre];rfl,h2,hk2,eb,by omega,bg.cond (by omega) (by omega),by omega,fun a3 H3 u3 g3=>?_⟩
 rw[<-ecl i "shut"] at u3
 have tk3:=u3.tupK h2
 have hwq3:=tk3.sqT hwq
 have hz3:=tk3.sqT hz
 show qa0 K _ _ _ _
 lk
 refine U5 hwq3 (v:=.ref pz) rfl ?_
 lk
 refine⟨1,rfl,?_⟩
 refine⟨-1,rfl,?_⟩
 refine xx7 hz3 fun c H4 s4 hc=>?_
 rw[hps,zc5] at hc
 have h4:=u3.ok.same s4
 have hk4:=(hk2.tupK tk3).same s4
 refine yb1 hc (fun j σ H'=>∃ a' x5,σ=[some (.ref r),some (.int i),some (.str g),some (.str n),some (.ref w),x5]/\Rup K k_Reader kB r bv H4 a3 H' a' (N0 (V2 rs st wt.1 i "shut") (ps.take j) i "frame")/\C2 H4 H') ?_ ?_ ?_ ?_
 ·exact⟨a3,none,rfl,.keep h4 fun c o e _=>e,fun z hz=>hz⟩
 ·rintro j σ H' _ ⟨a',x5,rfl,uj,gj⟩
  exact(uj.tupK h4).sqT hc
 ·rintro j v σ H' hv ⟨a',x5,rfl,uj,gj⟩
  obtain⟨m,hm,rfl⟩:=V5 hv
  refine E5 ?_
  show Z7 K _ _ _ _
  lk
  refine E7 ?_
  lk
  refine⟨r,_,_,rfl,uj.ok.o,rfl,?_⟩
  lk
  have bj:=bp j
  have bjl:=bpl j
  have hjl:(ps.take j).length<=ps.length:=by rw[List.length_take];omega
  have em:N0 (V2 rs st wt.1 i "shut") (ps.take (j+1)) i "frame"=wj8 (N0 (V2 rs st wt.1 i "shut") (ps.take j) i "frame") m i "frame":=by rw[qk6 hm,xg6]
  rw[PAt,em]
  generalize N0 (V2 rs st wt.1 i "shut") (ps.take j) i "frame"=sj at *
  obtain⟨lb,b9,e1,e2,e3,e4⟩:=bj.snoc
  have h3:=e4.ps
  have h5:=bj.m
  have h6:=bj.l
  rw[e1,List.length_append,List.length_singleton] at h6
  refine⟨k_Reader,kB,r,bv,a',sj,m,i, "frame",lb,b9,rfl,uj.ok,e1,by omega,by omega,by omega,by omega,(hpm m (List.mem_of_getElem? hm)).1,fun a6 H6 u6 g6=>?_⟩
  refine⟨a6,_,rfl,?_,C2.tr gj g6⟩
  rw[yn0 e2]
  exact uj.tr u6 gj
 rintro σ H5 ⟨a5,x5,rfl,u5,g5⟩
 have bj:=bp ps.length
 have bjl:=bpl ps.length
 rw[B4] at u5
 rw[List.take_length] at u5 bj bjl
 show Z9 K _ _ _ _
 lk
 refine E7 ?_
 lk
 refine⟨r,_,_,rfl,u5.ok.o,rfl,?_⟩
 lk
 generalize N0 (V2 rs st wt.1 i "shut") ps i "frame"=sj at *
 obtain⟨lb,b9,e1,e2,e3,e4⟩:=bj.snoc
 have h3:=e4.ps
 have h6:=bj.l
 rw[e1,List.length_append,List.length_singleton] at h6
 refine⟨k_Reader,kB,r,bv,a5,sj,n,lb,b9,rfl,u5.ok,e1,by omega,by omega,by omega,fun a6 H6 u6 g6=>?_⟩
 have g12:=A6.grow s12
 have uu:=((((h.up s12).tr u3 g12).tr (u3.ok.up s4) (C2.tr g12 g3)).tr u5 (C2.tr (C2.tr g12 g3) (A6.grow s4))).tr u6 (C2.tr (C2.tr (C2.tr g12 g3) (A6.grow s4)) g5)
 have gg:=C2.tr (C2.tr (C2.tr (C2.tr g12 g3) (A6.grow s4)) g5) g6
 have hk6:=hk.tupK (uu.tupK h)
 rw[<-zl5 e2] at u6 uu
 show Z8 K _ _ _ _
 lk
 refine G9 ?_
 lk
 refine⟨r,_,a6.x,_,_,rfl,u6.ok.o,cz.cl_Reader,cz.na_Reader_book,rfl,?_⟩
 lk
 refine⟨bv,some n,rs,rfl,hk6.rws,?_⟩
 lk
 refine yi5 ?_
 lk
 by_cases hbare:J0 rs (some n)=some ("bare":Str)
 ·rw[decide_eq_true hbare]
  x_go
  lk
  refine E7 ?_
  lk
  refine⟨r,_,_,rfl,u6.ok.o,rfl,?_⟩
  lk
  have e7:qk7 sj.bs n=lb++[b9,xk5 b9 n]:=by unfold qk7;rw[e2,e1];simp
  refine⟨k_Reader,kB,r,bv,a6,_,lb,b9,xk5 b9 n,rfl,u6.ok,e7,by omega,fun a7 H7 u7 g7=>?_⟩
  refine q a7 H7 ?_ (C2.tr gg g7)
  rw[eo,if_pos hbare]
  unfold lvS
  show Rup _ _ _ _ _ _ _ _ _ {sj with bs:=lvB (qk7 sj.bs n)}
  rw[e7,xg4]
  exact uu.tr u7 gg
 ·rw[decide_eq_false hbare]
  k_go
  refine q a6 H6 ?_ gg
  rw[eo,if_neg hbare]
  exact uu
section
variable{kR kB r:Addr}{bv:V}{a:RAd}{st:Rst}
theorem Rup.waitO{x:BA}{w:Addr}(h:RdO K H kR kB r bv a st)(ea:a.as=m1++x::m2)(eb:st.bs=l1++b::l2)(hl:m1.length=l1.length)(s1:A6 H H1)(hw0:H w=none)(hw:H1 w=some (.lst (B7 ws))) :
 Rup K kR kB r bv H a (upd H1 x.o (.ins kB x.x (bF {x with w:=w} b))) {a with as:=m1++{x with w:=w}::m2} {st with bs:=l1++{b with ws:=ws}::l2}:=by
 have hb:=h.b
 rw[ea,eb] at hb
 have hx:=(hb.split hl).2.1
 have xnd:=h.xnd ea
 have no:x.o≠x.q:=by simp[BA.fp] at xnd;exact xnd.1.1
 have nwo:x.o≠w:=X6 hw0 hx.o
 obtain⟨us,q1,q2⟩:=hx.q
 have nwq:x.q≠w:=X6 hw0 q1
 have tk:U8 H (upd H1 x.o (.ins kB x.x (bF {x with w:=w} b))):=zc3 s1.tupK (O7 (.inr ⟨_,_,_,s1 _ _ hx.o⟩))
 refine Rup.swap h ea eb hl (fun z u e n=>E8 (s1 _ _ e) fun y=>n (by rw[y];simp[BA.fp])) ⟨A5,tk.sqT hx.p,⟨us,E8 (s1 _ _ q1) (Ne.symm no),Dvs.tupK tk _ _ (qc4 _) q2⟩,E8 hw (Ne.symm nwo)⟩ (fun z hz=>?_) ?_ rfl
 ·simp only[BA.fp,List.mem_cons,List.not_mem_nil,or_false] at hz ⊢
  rcases hz with rfl|rfl|rfl
  ·exact .inl (.inl rfl)
  ·exact .inl (.inr (.inl rfl))
  ·exact .inr hw0
 ·simp[BA.fp,no,nwo,nwq]
end
abbrev qa3(K:Fg)(k_Reader:Addr):TS :=
 (I0 (N3 k_Reader "drop" (L9 K) [] E0 (A3 0) (A1 (A3 1) (A1 (A3 2) (A1 (tC (.str "late")) A8)))))
abbrev qa4(K:Fg)(k_Reader:Addr):TS :=
 (C1 (wd9 K (A3 5) (D3 (qd1 K) [] E0 (A1 (S4 K (A3 5) "waiting") (A1 (A3 3) A8))) "waiting")
 (qa3 K k_Reader))
abbrev qa5(K:Fg)(k_Reader:Addr):TS :=
 (I0 (N3 k_Reader "drop" (L9 K) [] E0 (A3 0) (A1 (A3 1) (A1 (A3 2) (A1 (tC (.str "stray")) A8)))))
abbrev qa6(K:Fg)(k_Reader:Addr):TS :=
 (C1 (I0 (N3 k_Reader "close_behind" (L0 K) [] E0 (A3 0) (A1 (tOp (D2 K) (A3 4) (tC (.int 1))) (A1 (A3 1) (A1 (tC (.str "left")) A8)))))
 (I0 (N3 k_Reader "leave" (P0 K) [] E0 (A3 0) A8)))
abbrev qa7(K:Fg)(k_Reader:Addr):TS :=
 (S3 (G0 (tOp (xj2 K false) (A3 3) (S4 K (A3 5) "waiting")))
 (qa4 K k_Reader) (qa5 K k_Reader))
abbrev N7(K:Fg)(k_Reader:Addr):TS :=
 (S3 (G0 (tOp wh5 (A3 4) (tC .non)))
 (qa6 K k_Reader) (qa7 K k_Reader))
abbrev qa8(K:Fg)(k_Reader:Addr):TS :=
 (C1 (E1 (N3 k_Reader "last_wall" (M7 K) [] E0 (A3 0) A8) (B1 5))
 (N7 K k_Reader))
def O4(K:Fg):Sp:=fun vs H Q _=>∃ (kR kB r:Addr) (bv:V) (a:RAd) (st:Rst) (rs:List Row) (rk:Str->Nat) (P W M D T:Nat) (i:Int) (g n:Str),vs=[.ref r,.int i,.str g,.str n]/\RdO K H kR kB r bv a st/\BkO K H bv rs/\Bok rs rk/\Bg rs P W M D T st/\Lim P W M D T/\g.length<=100000/\∀ a' H',Rup K kR kB r bv H a H' a' (wr2 rs rk st i g n)->C2 H H'->Q .non H'
def P5(K:Fg)(k_Reader:Addr):TS :=
 (C1 (E1 (D3 (qp3 K) [] E0 (A1 (S4 K (A3 0) "book") (A1 (N3 k_Reader "open_names" (E2 K) [] E0 (A3 0) A8) (A1 (A3 3) A8)))) (B1 4))
 (qa8 K k_Reader))
theorem qv1(cz:Cz K k_Branch k_Reader)(h:O4 K vs H Q E):P5 K k_Reader {nx:=fun _ H'=>Q .non H',rt:=Q} (D8 ["self","start","signs","name","number","wall"] vs) H:=by
 obtain⟨kR,kB,r,bv,a,st,rs,rk,P,W,M,D,T,i,g,n,rfl,h,hk,bk,bg,lim,hg,q⟩:=h
 obtain rfl:=N1 cz.ns_Reader h.kr
 obtain rfl:=N1 cz.ns_Branch h.kb
 show P5 K _ _ [some (.ref r),some (.int i),some (.str g),some (.str n),none,none] H
 unfold P5
 obtain⟨b0,bs0,eb0⟩:=List.exists_cons_of_ne_nil bg.ne
 have hnm:J7 st=bs0.map Brn.n:=by unfold J7;rw[eb0];rfl
 have hbl:=bg.l
 have hl0:bs0.length<=20:=by rw[eb0] at hbl;simp at hbl;omega
 have hms:=bg.m
 have hnl:=bg.nlen
 have l1:=lim.P
 have l2:=lim.W
 have l3:=lim.M
 lk
 refine G9 ?_
 lk
 refine⟨r,_,a.x,_,_,rfl,h.o,cz.cl_Reader,cz.na_Reader_book,rfl,?_⟩
 lk
 refine E7 ?_
 lk
 refine⟨r,_,_,rfl,h.o,rfl,?_⟩
 lk
 refine⟨k_Reader,k_Branch,r,bv,a,st,b0,bs0,rfl,h,eb0,by omega,fun p H1 s1 hp=>?_⟩
 lk
 rw[<-hnm] at hp
 have h1:=h.same s1
 have hk1:=hk.same s1
 refine⟨bv,p,J7 st,n,rs,rk,rfl,hk1.rws,bk.f,.inr hp,by omega,?_⟩
 show qa8 K _ _ _ _
 lk
 refine E7 ?_
 lk
 refine⟨r,_,_,rfl,h1.o,rfl,?_⟩
 lk
 refine⟨k_Reader,k_Branch,r,bv,a,st,rs,rfl,h1,hk1,bg.ne,by omega,fun m1 m2 x k1 k2 bb H2 s2 ea eb hm lw=>?_⟩
 have s12:=A6.tr s1 s2
 have h2:=h.same s12
 have hk2:=hk.same s12
 have g12:=A6.grow s12
 have hb2:=h2.b
 rw[ea,eb] at hb2
 have hx:=(hb2.split hm).2.1
 show N7 K _ _ _ _
 cases hc:clo rs rk (J7 st) n (J7 st).length with
 | some k =>
   have hkl:=xf5 hc
   have eo:wr2 rs rk st i g n=lvS (V2 rs st (k+1) i "left"):=by unfold wr2;rw[hc]
   show N7 K _ _ [some (.ref r),some (.int i),some (.str g),some (.str n),some (.int (k:Int)),some (.ref x.o)] _
   lk
   x_go
   show qa6 K _ _ _ _
   lk
   refine E7 ?_
   lk
   refine⟨r,_,_,rfl,h2.o,rfl,?_⟩
   lk
   have hkl2:k+1<st.bs.length:=by omega
   obtain⟨pre,b3,cl,e3,hpre,hcl,ecl⟩:=bg.split hkl2
   have bc:=bg.cls (i:=i) (rule := "left") hkl2
   have bcl:(V2 rs st (k+1) i "left").bs.length=k+2:=by rw[wi7,List.length_take];omega
   refine⟨k_Reader,k_Branch,r,bv,a,st,rs,pre,cl,b3,i, "left",by rw[hpre];rfl,h2,hk2,e3,by omega,bg.cond (by omega) (by omega),by omega,fun a3 H3 u3 g3=>?_⟩
   rw[<-ecl i "left"] at u3
   lk
   refine E7 ?_
   lk
   refine⟨r,_,_,rfl,u3.ok.o,rfl,?_⟩
   lk
   generalize V2 rs st (k+1) i "left"=sj at *
   obtain⟨lb,b5,b6,e5⟩:=yi6 (bs:=sj.bs) (by omega)
   have hb5:=(bc.c b5 (by rw[e5];simp)).ps
   refine⟨k_Reader,k_Branch,r,bv,a3,sj,lb,b5,b6,rfl,u3.ok,e5,by omega,fun a4 H4 u4 g4=>?_⟩
   refine q a4 H4 ?_ (C2.tr (C2.tr g12 g3) g4)
   rw[eo]
   unfold lvS
   rw[e5,xg4]
   exact((h.up s12).tr u3 g12).tr u4 (C2.tr g12 g3)
 | none =>
   show N7 K _ _ [some (.ref r),some (.int i),some (.str g),some (.str n),some .non,some (.ref x.o)] _
   lk
   k_go
   show qa7 K _ _ _ _
   have elw:lwS rs st.bs=bb.ws:=by rw[eb];exact xs6 lw
   have hbb:=bg.c bb (by rw[eb];simp)
   have hbw:=hbb.ws
   lk
   refine G9 ?_
   lk
   refine⟨x.o,_,x.x,_,_,rfl,hx.o,cz.cl_Branch,cz.na_Branch_waiting,rfl,?_⟩
   refine .inl (yr2 (.inl (SqL.of hx.w)) rfl (qd9 _) ?_)
   rw[qf1]
   lk
   by_cases hin:n∈bb.ws
   ·rw[decide_eq_true hin]
    x_go
    have eo:wr2 rs rk st i g n={(qk8 st i g "late") with bs:=wUp rs (fun ws=>woL ws n) st.bs}:=by unfold wr2;rw[hc,elw];exact if_pos hin
    have ewu:wUp rs (fun ws=>woL ws n) st.bs=k1++{bb with ws:=woL bb.ws n}::k2:=by rw[eb];exact wn4 lw
    show qa4 K _ _ _ _
    refine qb1 (qj5 ?_)
    lk
    refine G9 ?_
    lk
    refine⟨x.o,_,x.x,_,_,rfl,hx.o,cz.cl_Branch,cz.na_Branch_waiting,rfl,?_⟩
    lk
    refine⟨x.w,bb.ws,n,rfl,hx.w,hin,by omega,fun w H3 s3 hw0 hw=>?_⟩
    lk
    refine⟨x.o,_,x.x,_,rfl,s3 _ _ hx.o,cz.cl_Branch,cz.na_Branch_waiting,by unfold bF;simp,?_⟩
    unfold bF
    rw[zo5]
    have u3:=Rup.waitO (ws:=woL bb.ws n) h2 ea eb hm s3 hw0 hw
    rw[<-ewu] at u3
    have g3:C2 H2 (upd H3 x.o (.ins k_Branch x.x [(("name":Str),.str bb.n),(("place":Str),.ref x.p),(("parts":Str),.ref x.q),(("waiting":Str),.ref w)])):=C2.tr (A6.grow s3) C2.upd
    have u3':Rup K k_Reader k_Branch r bv H2 a (upd H3 x.o (.ins k_Branch x.x [(("name":Str),.str bb.n),(("place":Str),.ref x.p),(("parts":Str),.ref x.q),(("waiting":Str),.ref w)])) {a with as:=m1++{x with w:=w}::m2} {st with bs:=wUp rs (fun ws=>woL ws n) st.bs}:=u3
    generalize upd H3 x.o (.ins k_Branch x.x [(("name":Str),.str bb.n),(("place":Str),.ref x.p),(("parts":Str),.ref x.q),(("waiting":Str),.ref w)])=H4 at *
    show qa3 K _ _ _ _
    lk
    refine E7 ?_
    lk
    refine⟨r,_,_,rfl,u3'.ok.o,rfl,?_⟩
    lk
    refine⟨k_Reader,k_Branch,r,bv,_,_,i,g, "late",rfl,u3'.ok,by show st.ms.length<=_;omega,by omega,fun H5 u5 g5=>?_⟩
    refine q {a with as:=m1++{x with w:=w}::m2} H5 ?_ (C2.tr (C2.tr g12 g3) g5)
    rw[eo]
    exact((h.up s12).tr u3' g12).tr u5 (C2.tr g12 g3)
   ·rw[decide_eq_false hin]
    k_go
    have eo:wr2 rs rk st i g n=qk8 st i g "stray":=by unfold wr2;rw[hc,elw];exact if_neg hin
    show qa5 K _ _ _ _
    lk
    refine E7 ?_
    lk
    refine⟨r,_,_,rfl,h2.o,rfl,?_⟩
    lk
    refine⟨k_Reader,k_Branch,r,bv,a,st,i,g, "stray",rfl,h2,by omega,by omega,fun H5 u5 g5=>?_⟩
    refine q a H5 ?_ (C2.tr g12 g5)
    rw[eo]
    exact(h.up s12).tr u5 g12
theorem zc6{n:Nat}(h:k∈qe0 l n):l[k]?=some 60\/l[k]?=some 38:=by
 unfold qe0 at h
 have:=(List.mem_filter.mp h).2
 unfold ya1 at this
 rw[Bool.or_eq_true,Bool.and_eq_true,decide_eq_true_eq,decide_eq_true_eq] at this
 exact this.imp id fun h=>h.1
theorem zv3:yt4 ⟨#[60]⟩ = "&l;":=by rw[W3];rfl
theorem zv4:yt4 ⟨#[38]⟩ = "&a;":=by rw[W3];rfl
theorem zc7{ns:List Nat}(h:(xz0 ns)[j]?=some v):∃ k,ns[j]?=some k/\v=.int (k:Int):=by
 unfold xz0 at h
 rw[List.getElem?_map] at h
 obtain⟨k,hk,e⟩:=Option.map_eq_some_iff.mp h
 exact⟨k,hk,e.symm⟩
abbrev qh3(K:Fg)(k_Reader:Addr):TS :=
 (I0 (N3 k_Reader "put_in" (O0 K) [] E0 (A3 0) (A1 (A3 5) (A1 (A3 1) (A1 (tC (.str "host")) A8)))))
abbrev qh4(K:Fg):TS :=
 (I0 (tBM K "list" I9 (S4 K (A3 0) "mends") (A1 (M5 (A1 (A3 7) (A1 (tOp (D2 K) (A3 7) (tC (.int 1))) (A1 (D3 (qz8 K) [] E0 (A1 (tOp (L1 K) (A3 2) (A3 6)) A8)) (A1 (tC (.str "sign")) A8))))) A8)))
abbrev qh5(K:Fg)(k_Reader:Addr):TS :=
 (I0 (N3 k_Reader "add_text" (S8 K) [] E0 (A3 0) (A1 (A3 1) (A1 (A3 2) (A1 (A3 3) A8)))))
abbrev qh6(K:Fg)(k_Reader:Addr):TS :=
 (C1 (qm8 (wj0 K (D3 (qn8 K) [] E0 (A1 (A3 2) A8))) (B1 6)
 (C1 (E1 (tOp (D2 K) (A3 1) (A3 6)) (B1 7))
 (qh4 K)))
 (qh5 K k_Reader))
abbrev qh7(K:Fg)(k_Reader:Addr):TS :=
 (C1 (I0 (N3 k_Reader "put_in_waiting" (N2 K) [] E0 (A3 0) (A1 (A3 1) A8)))
 (qh6 K k_Reader))
abbrev qh8(K:Fg)(k_Reader:Addr):TS :=
 (I0 (N3 k_Reader "drop" (L9 K) [] E0 (A3 0) (A1 (A3 1) (A1 (A3 2) (A1 (tC (.str "deep")) A8)))))
abbrev qh9(K:Fg)(k_Reader:Addr):TS :=
 (C1 (qm8 (wj0 K (A3 4)) (B1 5)
 (qh3 K k_Reader))
 (qh7 K k_Reader))
abbrev qi0(K:Fg)(k_Reader:Addr):TS :=
 (I0 (N3 k_Reader "drop" (L9 K) [] E0 (A3 0) (A1 (A3 1) (A1 (A3 2) (A1 (tC (.str "blank")) A8)))))
abbrev qi1(K:Fg)(k_Reader:Addr):TS :=
 (S3 (G0 (tOp xw7 (A3 4) (tC .non)))
 (qh8 K k_Reader) (qh9 K k_Reader))
abbrev qi2(K:Fg)(k_Reader:Addr):TS :=
 (S3 (xp0 (tB (N3 k_Reader "is_in_frame" (P1 K) [] E0 (A3 0) A8)) (G0 (tOp (X3 K) (tBM K "str" ym1 (A3 3) (A1 (tC (.str " \n")) A8)) (tC (.str "")))))
 (qi0 K k_Reader) (qi1 K k_Reader))
theorem RdO.nop{a:RAd}(h:RdO K H kR kB r bv a st)(hp:H p=none):p∉RAd.fp r a:=fun hz=>h.dom p hz hp
theorem zc8{a:RAd}(cz:Cz K k_Branch k_Reader){D:Nat}{c:Addr}(h:RdO K H k_Reader k_Branch r bv a st)(hk:BkO K H bv rs)(bk:Bok rs rk)(bg:Bg rs P W M D T st)(lim:Lim P W M D T)(hg:g.length<=10000)(ht:t.length<=10000)(hc:SqT K H c (B7 (M2 rs st)))(hlen:¬20<(J7 st).length+(M2 rs st).length)(q:∀ a' H',Rup K k_Reader k_Branch r bv H a H' a' (txS (wr3 (wa1 rs i (N0 st (M2 rs st) i "host")) i g) i g t)->C2 H H'->Q .non H') :
 qh9 K k_Reader {nx:=fun _ H'=>Q .non H',rt:=Q} [some (.ref r),some (.int i),some (.str g),some (.str t),some (.ref c),none,none,none] H:=by
 have hnl:=bg.nlen
 have l1:=lim.P
 have l2:=lim.W
 have l3:=lim.M
 have l4:=lim.D
 have l5:=lim.T
 have hhl:(M2 rs st).length<=12:=qi7 rs 12 _
 have hpm:∀ m∈M2 rs st,m.length<=4000/\∃ r∈rs,Row.name r=m:=fun m hm=>by
  have:=qw4 bk.B 12 _ m hm
  exact⟨bk.row this,this⟩
 have bp:∀ j,Bg rs P W (M+((M2 rs st).take j).length) D T (N0 st ((M2 rs st).take j) i "host"):=fun j=>by
  have:((M2 rs st).take j).length<=(M2 rs st).length:=by rw[List.length_take];omega
  exact bg.puts (by omega) fun m hm=>hpm m (List.mem_of_mem_take hm)
 lk
 refine yb1 hc (fun j σ H'=>∃ a' x5,σ=[some (.ref r),some (.int i),some (.str g),some (.str t),some (.ref c),x5,none,none]/\Rup K k_Reader k_Branch r bv H a H' a' (N0 st ((M2 rs st).take j) i "host")/\C2 H H') ?_ ?_ ?_ ?_
 ·exact⟨a,none,rfl,.keep h fun c o e _=>e,fun z hz=>hz⟩
 ·rintro j σ H' _ ⟨a',x5,rfl,uj,gj⟩
  exact(uj.tupK h).sqT hc
 ·rintro j v σ H' hv ⟨a',x5,rfl,uj,gj⟩
  obtain⟨m,hm,rfl⟩:=V5 hv
  refine E5 ?_
  show qh3 K _ _ _ _
  lk
  refine E7 ?_
  lk
  refine⟨r,_,_,rfl,uj.ok.o,rfl,?_⟩
  lk
  have bj:=bp j
  have hjl:((M2 rs st).take j).length<=(M2 rs st).length:=by rw[List.length_take];omega
  have em:N0 st ((M2 rs st).take (j+1)) i "host"=wj8 (N0 st ((M2 rs st).take j) i "host") m i "host":=by rw[qk6 hm,xg6]
  rw[PAt,em]
  generalize N0 st ((M2 rs st).take j) i "host"=sj at *
  obtain⟨lb,b9,e1,e2,e3,e4⟩:=bj.snoc
  have h3:=e4.ps
  have h5:=bj.m
  have h6:=bj.l
  rw[e1,List.length_append,List.length_singleton] at h6
  refine⟨k_Reader,k_Branch,r,bv,a',sj,m,i, "host",lb,b9,rfl,uj.ok,e1,by omega,by omega,by omega,by omega,(hpm m (List.mem_of_getElem? hm)).1,fun a6 H6 u6 g6=>?_⟩
  refine⟨a6,_,rfl,?_,C2.tr gj g6⟩
  rw[yn0 e2]
  exact uj.tr u6 gj
 rintro σ H5 ⟨a5,x5,rfl,u5,g5⟩
 have bj:=bp (M2 rs st).length
 rw[B4] at u5
 rw[List.take_length] at u5 bj
 have hk5:=hk.tupK (u5.tupK h)
 show qh7 K _ _ _ _
 lk
 refine E7 ?_
 lk
 refine⟨r,_,_,rfl,u5.ok.o,rfl,?_⟩
 lk
 generalize N0 st (M2 rs st) i "host"=sj at *
 refine⟨k_Reader,k_Branch,r,bv,a5,sj,rs,rk,i,P,W,M+(M2 rs st).length,D,T,rfl,u5.ok,hk5,bk,bj,by omega,by omega,by omega,fun a6 H6 u6 g6=>?_⟩
 have b6:=bj.anews (i:=i) bk.n
 have u56:=u5.tr u6 g5
 have g56:=C2.tr g5 g6
 generalize wa1 rs i sj=s6 at *
 show qh6 K _ _ _ _
 lk
 refine⟨g,rfl,by omega,fun p7 H7 s7 hp70 hp7=>?_⟩
 have h7:=u6.ok.same s7
 have np:p7∉RAd.fp r a6:=u6.ok.nop hp70
 have gl:g.cps.toList.length=g.length:=Array.length_toList
 have lol:=wv0 g.cps.toList g.cps.toList.length
 have h6m:=b6.m
 refine we4 (SqL.of hp7) (fun j σ H'=>∃ x6 x7,σ=[some (.ref r),some (.int i),some (.str g),some (.str t),some (.ref c),x5,x6,x7]/\Rup K k_Reader k_Branch r bv H7 a6 H' a6 {s6 with ms:=s6.ms++((qe0 g.cps.toList g.cps.toList.length).take j).map (zk8 i g)}/\C2 H7 H') ?_ ?_ ?_ ?_
 ·refine⟨none,none,rfl,?_,fun z hz=>hz⟩
  rw[List.take_zero,List.map_nil,List.append_nil]
  exact .keep h7 fun c o e _=>e
 ·rintro j σ H' _ ⟨x6,x7,rfl,uj,gj⟩
  exact SqL.of (uj.bt _ _ hp7 np)
 ·rintro j v σ H' hv ⟨x6,x7,rfl,uj,gj⟩
  obtain⟨k,hkk,rfl⟩:=zc7 hv
  have hlo:=zc6 (List.mem_of_getElem? hkk)
  obtain⟨cc,hcc⟩:∃ cc,g.cps.toList[k]?=some cc:=by rcases hlo with e|e <;> exact⟨_,e⟩
  refine E5 ?_
  lk
  show qh4 K _ _ _
  obtain⟨us,m1,m2⟩:=uj.ok.m
  have hul:=RdO.ms_len m2
  have hul2:us.length=s6.ms.length+((qe0 g.cps.toList g.cps.toList.length).take j).length:=by rw[hul];show(s6.ms++_).length=_;rw[List.length_append,List.length_map]
  have htl:((qe0 g.cps.toList g.cps.toList.length).take j).length<=(qe0 g.cps.toList g.cps.toList.length).length:=by rw[List.length_take];omega
  lk
  refine G9 ?_
  lk
  refine⟨r,_,a6.x,_,_,rfl,uj.ok.o,cz.cl_Reader,cz.na_Reader_mends,rfl,?_⟩
  lk
  refine⟨.inl ⟨rfl,_,SqL.of m1⟩,?_⟩
  lk
  refine zn5 (by rw[sizeLine_eq];omega) (O2 hcc) ?_
  lk
  refine⟨⟨#[cc]⟩,rfl,by show 1<=30000;decide,?_⟩
  have ee:yt4 ⟨#[cc]⟩=(zk8 i g k).t:=by
   show _=if g.cps.toList[k]?=some 60 then _ else _
   rcases hlo with e|e
   ·rw[if_pos e]
    rw[e] at hcc
    obtain rfl:=Option.some.inj hcc
    exact zv3
   ·rw[if_neg (by rw[e];decide)]
    rw[e] at hcc
    obtain rfl:=Option.some.inj hcc
    exact zv4
  rw[ee]
  lk
  refine⟨D4 (by z_go),fun p hp=>?_⟩
  lk
  have s8:=A6.new hp (.tup [.int (i+k),.int (i+k+1),.str (zk8 i g k).t,.str "sign"])
  refine M8 (s8 _ _ m1) (by rw[hul2,sizeLine_eq];omega) ?_
  have u8:=Rup.mend uj.ok s8 (SqT.of A5) m2
  refine⟨_,_,rfl,?_,C2.tr gj (C2.tr C2.upd C2.upd)⟩
  rw[qk6 hkk,List.map_append,<-List.append_assoc]
  exact uj.tr u8 gj
 rintro σ H8 ⟨x6,x7,rfl,u8,g8⟩
 have el:(qe0 g.cps.toList g.cps.toList.length).take (xz0 (qe0 g.cps.toList g.cps.toList.length)).length=qe0 g.cps.toList g.cps.toList.length:=by
  unfold xz0;rw[List.length_map];exact List.take_length
 rw[el] at u8
 have u8':Rup K k_Reader k_Branch r bv H7 a6 H8 a6 (wr3 s6 i g):=u8
 have b8:=b6.sign (i:=i) (g:=g)
 generalize wr3 s6 i g=s8 at *
 show qh5 K _ _ _ _
 lk
 refine E7 ?_
 lk
 refine⟨r,_,_,rfl,u8'.ok.o,rfl,?_⟩
 lk
 obtain⟨lb,b9,e1,e2,e3,e4⟩:=b8.snoc
 have h3:=e4.ps
 have h4:=e4.t
 have h5:=b8.d
 have h6:=b8.l
 rw[e1,List.length_append,List.length_singleton] at h6
 refine⟨k_Reader,k_Branch,r,bv,a6,s8,lb,b9,i,g,t,rfl,u8'.ok,e1,by omega,by omega,by omega,by omega,fun a9 H9 u9 g9=>?_⟩
 refine q a9 H9 ?_ (C2.tr (C2.tr (C2.tr g56 (A6.grow s7)) g8) g9)
 have et:txS s8 i g t={s8 with bs:=lb++[{b9 with ps:=adP b9.ps t}],ls:=s8.ls++[⟨i,g,b9.pl++[(adN b9.ps:Int)],adA b9.ps⟩]}:=by
  unfold txS
  rw[e2,e1,List.dropLast_concat]
 rw[et]
 exact(((u56.tr (u6.ok.up s7) g56).tr u8' (C2.tr g56 (A6.grow s7)))).tr u9 (C2.tr (C2.tr g56 (A6.grow s7)) g8)
def S9(K:Fg):Sp:=fun vs H Q _=>∃ (kR kB r:Addr) (bv:V) (a:RAd) (st:Rst) (rs:List Row) (rk:Str->Nat) (P W M D T:Nat) (i:Int) (g t:Str),vs=[.ref r,.int i,.str g,.str t]/\RdO K H kR kB r bv a st/\BkO K H bv rs/\Bok rs rk/\Bg rs P W M D T st/\Lim P W M D T/\g.length<=10000/\t.length<=10000/\∀ a' H',Rup K kR kB r bv H a H' a' (qk9 rs st i g t)->C2 H H'->Q .non H'
def T6(K:Fg)(k_Reader:Addr):TS :=
 (C1 (E1 (D3 (qn5 K) [] E0 (A1 (S4 K (A3 0) "book") (A1 (N3 k_Reader "open_names" (E2 K) [] E0 (A3 0) A8) A8))) (B1 4))
 (qi2 K k_Reader))
theorem wf6(cz:Cz K k_Branch k_Reader)(h:S9 K vs H Q E):T6 K k_Reader {nx:=fun _ H'=>Q .non H',rt:=Q} (D8 ["self","start","signs","told","hosts","host","number","place"] vs) H:=by
 obtain⟨kR,kB,r,bv,a,st,rs,rk,P,W,M,D,T,i,g,t,rfl,h,hk,bk,bg,lim,hg,ht,q⟩:=h
 obtain rfl:=N1 cz.ns_Reader h.kr
 obtain rfl:=N1 cz.ns_Branch h.kb
 show T6 K _ _ [some (.ref r),some (.int i),some (.str g),some (.str t),none,none,none,none] H
 unfold T6
 obtain⟨b0,bs0,eb0⟩:=List.exists_cons_of_ne_nil bg.ne
 have hnm:J7 st=bs0.map Brn.n:=by unfold J7;rw[eb0];rfl
 have hbl:=bg.l
 have hl0:bs0.length<=20:=by rw[eb0] at hbl;simp at hbl;omega
 have hms:=bg.m
 have l3:=lim.M
 lk
 refine G9 ?_
 lk
 refine⟨r,_,a.x,_,_,rfl,h.o,cz.cl_Reader,cz.na_Reader_book,rfl,?_⟩
 lk
 refine E7 ?_
 lk
 refine⟨r,_,_,rfl,h.o,rfl,?_⟩
 lk
 refine⟨k_Reader,k_Branch,r,bv,a,st,b0,bs0,rfl,h,eb0,by omega,fun p H1 s1 hp=>?_⟩
 lk
 rw[<-hnm] at hp
 have rest:∀ (v:V) (H2:Hp),A6 H H2->((20<(J7 st).length+(M2 rs st).length/\v=.non)\/(¬20<(J7 st).length+(M2 rs st).length/\∃ c,v=.ref c/\SqT K H2 c (B7 (M2 rs st))))->qi2 K k_Reader {nx:=fun _ H'=>Q .non H',rt:=Q} [some (.ref r),some (.int i),some (.str g),some (.str t),some v,none,none,none] H2:=fun v H2 s2 hv=>by
  have h2:=h.same s2
  have hk2:=hk.same s2
  lk
  refine E7 ?_
  lk
  refine⟨r,_,_,rfl,h2.o,rfl,?_⟩
  lk
  refine⟨k_Reader,k_Branch,r,bv,a,st,b0,bs0,rs,rfl,h2,hk2,eb0,by omega,fun H3 s3=>?_⟩
  rw[<-hnm]
  have s23:=A6.tr s2 s3
  have h3:=h.same s23
  have hk3:=hk.same s23
  have g3:=A6.grow s23
  have stay:¬(J0 rs (some (J5 (J7 st)))=some ("frame":Str)/\wa2 t=true)->qi1 K k_Reader {nx:=fun _ H'=>Q .non H',rt:=Q} [some (.ref r),some (.int i),some (.str g),some (.str t),some v,none,none,none] H3:=fun hn=>by
   rcases hv with⟨hd,rfl⟩|⟨hd,c,rfl,hc⟩
   ·have eo:qk9 rs st i g t=qk8 st i g "deep":=by unfold qk9;rw[if_neg hn,if_pos hd]
    lk
    x_go
    show qh8 K _ _ _ _
    lk
    refine E7 ?_
    lk
    refine⟨r,_,_,rfl,h3.o,rfl,?_⟩
    lk
    refine⟨k_Reader,k_Branch,r,bv,a,st,i,g, "deep",rfl,h3,by omega,by omega,fun H5 u5 g5=>?_⟩
    refine q a H5 ?_ (C2.tr g3 g5)
    rw[eo]
    exact(h.up s23).tr u5 g3
   ·have eo:qk9 rs st i g t=txS (wr3 (wa1 rs i (N0 st (M2 rs st) i "host")) i g) i g t:=by unfold qk9;rw[if_neg hn,if_neg hd]
    lk
    k_go
    refine zc8 cz h3 hk3 bk bg lim hg ht (s3.sqT hc) hd fun a' H' u' g'=>q a' H' ?_ (C2.tr g3 g')
    rw[eo]
    exact(h.up s23).tr u' g3
  lk
  by_cases hf:J0 rs (some (J5 (J7 st)))=some ("frame":Str)
  ·rw[decide_eq_true hf]
   x_go
   lk
   refine⟨rfl,?_⟩
   lk
   refine⟨t, " \n",rfl,rfl,by omega,?_⟩
   lk
   by_cases hb:wa2 t=true
   ·have e1:=of_decide_eq_true hb
    rw[decide_eq_true e1]
    x_go
    have eo:qk9 rs st i g t=qk8 st i g "blank":=by unfold qk9;rw[if_pos ⟨hf,hb⟩]
    show qi0 K _ _ _ _
    lk
    refine E7 ?_
    lk
    refine⟨r,_,_,rfl,h3.o,rfl,?_⟩
    lk
    refine⟨k_Reader,k_Branch,r,bv,a,st,i,g, "blank",rfl,h3,by omega,by omega,fun H5 u5 g5=>?_⟩
    refine q a H5 ?_ (C2.tr g3 g5)
    rw[eo]
    exact(h.up s23).tr u5 g3
   ·have e1:=of_decide_eq_false (Bool.eq_false_iff.mpr hb)
    rw[decide_eq_false e1]
    k_go
    exact stay fun z=>hb z.2
  ·rw[decide_eq_false hf]
   k_go
   first|exact stay fun z=>hf z.1|(refine qk3 ?_;exact stay fun z=>hf z.1)
 refine⟨bv,p,J7 st,rs,rfl,(hk.same s1).rws,bk.B,.inr hp,fun hd H2 s2=>?_,fun hd c H2 s2 hc=>?_⟩
 ·exact rest _ _ (A6.tr s1 s2) (.inl ⟨hd,rfl⟩)
 ·exact rest _ _ (A6.tr s1 s2) (.inr ⟨hd,c,rfl,hc⟩)
abbrev qs9(K:Fg)(k_Reader:Addr):TS :=
 (I0 (N3 k_Reader "read_closing" (O4 K) [] E0 (A3 0) (A1 (A3 2) (A1 (A3 3) (A1 (A3 4) A8)))))
abbrev qt0(K:Fg)(k_Reader:Addr):TS :=
 (I0 (N3 k_Reader "read_run" (S9 K) [] E0 (A3 0) (A1 (A3 2) (A1 (A3 3) (A1 (A3 4) A8)))))
abbrev qt1(K:Fg)(k_Reader:Addr):TS :=
 (I0 (N3 k_Reader "read_opening" (O3 K) [] E0 (A3 0) (A1 (A3 2) (A1 (A3 3) (A1 (A3 4) A8)))))
abbrev qt2(K:Fg)(k_Reader:Addr):TS :=
 (S3 (G0 (tOp (X3 K) (A3 1) (tC (.str "close"))))
 (qs9 K k_Reader) (qt0 K k_Reader))
def Y9(K:Fg):Sp:=fun vs H Q _=>∃ (kR kB r:Addr) (bv:V) (a:RAd) (st:Rst) (rs:List Row) (rk:Str->Nat) (P W M D T:Nat) (kind:Str) (i:Int) (g t:Str),vs=[.ref r,.str kind,.int i,.str g,.str t]/\RdO K H kR kB r bv a st/\BkO K H bv rs/\Bok rs rk/\Bg rs P W M D T st/\Lim P W M D T/\g.length<=10000/\t.length<=10000/\∀ a' H',Rup K kR kB r bv H a H' a' (qm6 rs rk st kind i g t)->C2 H H'->Q .non H'
def qd2(K:Fg)(k_Reader:Addr):TS :=
 (S3 (G0 (tOp (X3 K) (A3 1) (tC (.str "open"))))
 (qt1 K k_Reader) (qt2 K k_Reader))
theorem ww1(cz:Cz K k_Branch k_Reader)(h:Y9 K vs H Q E):qd2 K k_Reader {nx:=fun _ H'=>Q .non H',rt:=Q} (D8 ["self","kind","start","signs","told"] vs) H:=by
 obtain⟨kR,kB,r,bv,a,st,rs,rk,P,W,M,D,T,kind,i,g,t,rfl,h,hk,bk,bg,lim,hg,ht,q⟩:=h
 obtain rfl:=N1 cz.ns_Reader h.kr
 show qd2 K _ _ [some (.ref r),some (.str kind),some (.int i),some (.str g),some (.str t)] H
 unfold qd2
 lk
 by_cases ho:kind=("open":Str)
 ·rw[decide_eq_true ho]
  x_go
  show qt1 K _ _ _ _
  have eo:qm6 rs rk st kind i g t=opS rs rk st i g t:=by unfold qm6;rw[if_pos ho]
  rw[eo] at q
  lk
  refine E7 ?_
  lk
  refine⟨r,_,_,rfl,h.o,rfl,?_⟩
  lk
  exact⟨k_Reader,kB,r,bv,a,st,rs,rk,P,W,M,D,T,i,g,t,rfl,h,hk,bk,bg,lim,by omega,q⟩
 rw[decide_eq_false ho]
 k_go
 show qt2 K _ _ _ _
 lk
 by_cases hc:kind=("close":Str)
 ·rw[decide_eq_true hc]
  x_go
  show qs9 K _ _ _ _
  have eo:qm6 rs rk st kind i g t=wr2 rs rk st i g t:=by unfold qm6;rw[if_neg ho,if_pos hc]
  rw[eo] at q
  lk
  refine E7 ?_
  lk
  refine⟨r,_,_,rfl,h.o,rfl,?_⟩
  lk
  exact⟨k_Reader,kB,r,bv,a,st,rs,rk,P,W,M,D,T,i,g,t,rfl,h,hk,bk,bg,lim,by omega,q⟩
 ·rw[decide_eq_false hc]
  k_go
  show qt0 K _ _ _ _
  have eo:qm6 rs rk st kind i g t=qk9 rs st i g t:=by unfold qm6;rw[if_neg ho,if_neg hc]
  rw[eo] at q
  lk
  refine E7 ?_
  lk
  refine⟨r,_,_,rfl,h.o,rfl,?_⟩
  lk
  exact⟨k_Reader,kB,r,bv,a,st,rs,rk,P,W,M,D,T,i,g,t,rfl,h,hk,bk,bg,lim,hg,ht,q⟩
inductive TkC(l:List Nat):Nat->List PyData->Prop
 | nil {p:Nat}:p=l.length->TkC l p []
 | cons {p e:Nat} {kind t:Str} {ds:List PyData}:p<e->e<=l.length->t.length<=e-p->TkC l e ds->TkC l p (.tuple [.str kind,.int (p:Int),.int (e:Int),.str t]::ds)
theorem wr8:∀ (k:Nat) (l:List Nat),(TX.told k l).length<=l.length
 | _,[]=>by simp[TX.told]
 | k+1,c::l=>by rw[TX.told];have:=wr8 k l;simp;omega
 | 0,c::l=>by
   rw[TX.told]
   have h0:=wr8 0 l
   have h2:=wr8 2 l
   split
   ·simp;omega
   ·split <;> (simp;omega)
theorem yn1(l:List Nat):(TX.ofL l).length=l.length:=by unfold TX.ofL;simp[PySem.Str.length]
theorem xg7{s:Nat}(h:s<=k)(hk:k<=l.length)(hd:TkC l k ds):TkC l s (TX.runs l s k++ds):=by
 unfold TX.runs
 by_cases e:s<k
 ·rw[if_pos e]
  unfold TX.runD
  refine .cons e hk ?_ hd
  rw[yn1]
  have:=wr8 0 ((l.drop s).take (k-s))
  rw[List.length_take,List.length_drop] at this
  omega
 ·rw[if_neg e]
  obtain rfl:s=k:=by omega
  exact hd
theorem xt1(l:List Nat):∀ (n k s:Nat),s<=k->k<=l.length->TkC l s (TX.cutAt l n k s)
 | 0,k,s,h,hk=>by
   rw[TX.cutAt]
   have:=xg7 (l:=l) (s:=s) (k:=l.length) (by omega) (Nat.le_refl _) (.nil rfl)
   simpa using this
 | n+1,k,s,h,hk=>by
   rw[TX.cutAt]
   by_cases e:l.length<=k
   ·rw[if_pos e]
    have:=xg7 (l:=l) (s:=s) (k:=l.length) (by omega) (Nat.le_refl _) (.nil rfl)
    simpa using this
   ·rw[if_neg e]
    cases ht:TX.tagAt l k with
    | none=>exact xt1 l n (k+1) s (by omega) (by omega)
    | some fe =>
      obtain⟨f,e2⟩:=fe
      obtain⟨h1,h2,h3,h4,_⟩:=TX.tagAt_gt ht
      refine xg7 h hk ?_
      unfold TX.tagD
      refine .cons h1 h2 ?_ (xt1 l n e2 e2 (Nat.le_refl _) h2)
      rw[yn1,List.length_take,List.length_drop]
      have:k<f:=by rw[h3];unfold TX.nst;split <;> omega
      omega
theorem yb2(l:List Nat):TkC l 0 (TX.toks l 0 0):=xt1 l _ 0 0 (Nat.le_refl _) (Nat.zero_le _)
def st0:Rst:=⟨[xs5],[],[]⟩
def xa9(rs:List Row)(rk:Str->Nat)(z:Str)(st:Rst):PyData->Rst
 | .tuple [.str kind,.int i,.int e,.str t]=>qm6 rs rk st kind i (qf0 z (some i) (some e)) t
 | _=>st
def wz2(rs:List Row)(rk:Str->Nat)(z:Str):Rst:=(TX.toks z.cps.toList 0 0).foldl (xa9 rs rk z) st0
def rdS(rs:List Row)(rk:Str->Nat)(z:Str):Rst:=V2 rs (wz2 rs rk z) 0 z.length "end"
def rtS(st:Rst):List Tr:=(st.bs.headD xs5).ps
theorem zc9(z:Str)(lo hi:Option Int):(qf0 z lo hi).length<=z.length:=by
 unfold qf0
 show(List.toArray _).size<=z.cps.size
 rw[List.size_toArray,List.length_take,List.length_drop,Array.length_toList]
 omega
theorem yt8(z:Str){p:Nat}(h1:p<=e)(h2:e<=z.length):(qf0 z (some (p:Int)) (some (e:Int))).length=e-p:=by
 have gl:z.cps.toList.length=z.length:=Array.length_toList
 unfold qf0
 show(List.toArray _).size=_
 rw[List.size_toArray,List.length_take,List.length_drop,HT.qj3,HT.qj3]
 omega
theorem bg0(rs:List Row):Bg rs 0 0 0 0 0 st0:=by
 refine⟨fun c hc=>?_,rfl,fun c hc=>(by cases hc),by unfold st0;simp,by unfold st0;simp,Nat.le_refl _,Nat.le_refl _⟩
 rw[List.mem_singleton.mp hc]
 exact⟨by show(0:Nat)<=_;omega,Nat.le_refl _,Nat.le_refl _,fun n hn=>(by cases hn),Nat.le_refl _⟩
theorem yn2{rs:List Row}{rk:Str->Nat}{z:Str}(b:Bok rs rk):∀ (ds:List PyData) (p j:Nat) (st:Rst),TkC z.cps.toList p ds->j<=p->Bg rs (2*j) (20*j) (60*j+p) j p st->∀ i,i<=ds.length->∃ p',p<=p'/\p'<=z.length/\j+i<=p'/\TkC z.cps.toList p' (ds.drop i)/\Bg rs (2*(j+i)) (20*(j+i)) (60*(j+i)+p') (j+i) p' ((ds.take i).foldl (xa9 rs rk z) st)
 | [],p,j,st,h,hj,hb,i,hi=>by
   obtain rfl:i=0:=by simpa using hi
   cases h with
   | nil e=>exact⟨p,Nat.le_refl _,by rw[e];exact Nat.le_of_eq Array.length_toList,hj,.nil e,hb⟩
 | d :: ds,p,j,st,h,hj,hb,0,_=>by
   refine⟨p,Nat.le_refl _,?_,hj,h,hb⟩
   cases h with
   | cons h1 h2 _ _ =>
     have:z.cps.toList.length=z.length:=Array.length_toList
     omega
 | d :: ds,p,j,st,h,hj,hb,i+1,hi=>by
   cases h with
   | cons h1 h2 h3 h4 =>
     rename_i e kind t
     have gl:z.cps.toList.length=z.length:=Array.length_toList
     have hs:=hb.step (rk:=rk) (kind:=kind) (i:=(p:Int)) (g:=qf0 z (some (p:Int)) (some (e:Int))) (t:=t) b
     rw[yt8 z (by omega) (by omega)] at hs
     have hs2:=hs.mono (P':=2*(j+1)) (W':=20*(j+1)) (M':=60*(j+1)+e) (D':=j+1) (T':=e) (by omega) (by omega) (by omega) (by omega) (by omega)
     obtain⟨p',q1,q2,q3,q4,q5⟩:=yn2 b ds e (j+1) _ h4 (by omega) hs2 i (by simpa using hi)
     refine⟨p',by omega,q2,by omega,q4,?_⟩
     rw[show j+(i+1)=j+1+i by omega]
     exact q5
theorem xt2(b:Bok rs rk)(i:Nat)(hi:i<=(TX.toks z.cps.toList 0 0).length):∃ p,p<=z.length/\i<=p/\TkC z.cps.toList p ((TX.toks z.cps.toList 0 0).drop i)/\Bg rs (2*i) (20*i) (60*i+p) i p (((TX.toks z.cps.toList 0 0).take i).foldl (xa9 rs rk z) st0):=by
 obtain⟨p,_,h1,h2,h3,h4⟩:=yn2 (z:=z) b (TX.toks z.cps.toList 0 0) 0 0 st0 (yb2 _) (Nat.le_refl _) (bg0 rs) i hi
 rw[Nat.zero_add] at h2 h4
 exact⟨p,h1,h2,h3,h4⟩
abbrev wk5(K:Fg)(k_Reader:Addr):TS :=
 (I0 (N3 k_Reader "read" (Y9 K) [] E0 (A3 2) (A1 (A3 3) (A1 (A3 4) (A1 (tSl (wm2 K) (A3 1) (W1 (A3 4)) (W1 (A3 5))) (A1 (A3 6) A8))))))
abbrev wk6(K:Fg)(k_Reader:Addr):TS :=
 (C1 (I0 (N3 k_Reader "finish" (V1 K) [] E0 (A3 2) (A1 (tCB (L5 K) (A1 (A3 1) A8)) A8)))
 (L6 (A3 2)))
abbrev wk7(K:Fg)(k_Reader:Addr):TS :=
 (C1 (qm8 (wj0 K (D3 (qo1 K) [] E0 (A1 (A3 1) A8))) (yd2 K 4 (qr4 (B1 3) (qr4 (B1 4) (qr4 (B1 5) (qr4 (B1 6) yd1)))))
 (wk5 K k_Reader))
 (wk6 K k_Reader))
def qo5(K:Fg):Sp:=fun vs H Q _=>∃ (bv:V) (z:Str) (rs:List Row) (rk:Str->Nat),vs=[bv,.str z]/\BkO K H bv rs/\Bok rs rk/\z.length<=10000/\∀ (kR kB r:Addr) (a:RAd) (H':Hp),RdO K H' kR kB r bv a (rdS rs rk z)->A6 H H'->(∀ x∈RAd.fp r a,H x=none)->Q (.ref r) H'
def qt3(K:Fg)(k_Reader:Addr):TS :=
 (C1 (E1 (xw2 k_Reader (Y5 K) [] E0 (A1 (A3 0) A8)) (B1 2))
 (wk7 K k_Reader))
theorem xt3(cz:Cz K k_Branch k_Reader)(h:qo5 K vs H Q E):qt3 K k_Reader {nx:=fun _ H'=>Q .non H',rt:=Q} (D8 ["book","text","reader","kind","start","stop","told"] vs) H:=by
 obtain⟨bv,z,rs,rk,rfl,hk,bk,hz,q⟩:=h
 show qt3 K _ _ [some bv,some (.str z),none,none,none,none,none] H
 unfold qt3
 lk
 refine xr0 ?_
 lk
 intro r dx hr hdx ne
 have s0:A6 H (upd (upd H dx (.own r)) r (.ins k_Reader dx [])):=fun c u e=>E8 (E8 e (X6 hdx e)) (X6 hr e)
 have e0:(upd (upd H dx (.own r)) r (.ins k_Reader dx [])) r=some (.ins k_Reader dx []):=A5
 have g0:C2 H (upd (upd H dx (.own r)) r (.ins k_Reader dx [])):=C2.tr C2.upd C2.upd
 generalize upd (upd H dx (.own r)) r (.ins k_Reader dx [])=H0 at *
 refine⟨k_Reader,r,dx,bv,rfl,cz.ns_Reader,e0,fun kB a H1 h1 bt1 fr1 g1=>⟨rfl,?_⟩⟩
 have s1:A6 H H1:=fun c u e=>bt1 c u (s0 c u e) (by simp;exact X6 hr e)
 have hk1:=hk.same s1
 have fr2:∀ x∈RAd.fp r a,H x=none:=fun x hx=>by
  rcases fr1 x hx with h|h
  ·rw[h];exact hr
  ·exact g0 _ h
 show wk7 K _ _ _ _
 lk
 refine⟨z,rfl,by omega,fun p us H2 s2 hp0 hp hd=>?_⟩
 have h2:=h1.same s2
 have hk2:=hk1.same s2
 have np:p∉RAd.fp r a:=h1.nop hp0
 have hul:=hd.length
 refine we4 (SqL.of hp) (fun j σ H'=>∃ a' x3 x4 x5 x6,σ=[some bv,some (.str z),some (.ref r),x3,x4,x5,x6]/\Rup K k_Reader kB r bv H2 a H' a' (((TX.toks z.cps.toList 0 0).take j).foldl (xa9 rs rk z) st0)/\C2 H2 H') ?_ ?_ ?_ ?_
 ·exact⟨a,none,none,none,none,rfl,.keep h2 fun c o e _=>e,fun z hz=>hz⟩
 ·rintro j σ H' _ ⟨a',x3,x4,x5,x6,rfl,u,g⟩
  exact SqL.of (u.bt _ _ hp np)
 ·rintro j v σ H' hv ⟨a',x3,x4,x5,x6,rfl,u,g⟩
  have hj:j<us.length:=by rcases Nat.lt_or_ge j us.length with h|h;exact h;rw[List.getElem?_eq_none_iff.mpr h] at hv;cases hv
  have hj2:j<(TX.toks z.cps.toList 0 0).length:=by omega
  obtain⟨pp,hp1,hp2,hp3,bj⟩:=xt2 (z:=z) bk j (by omega)
  have hjd:(TX.toks z.cps.toList 0 0)[j]?=some ((TX.toks z.cps.toList 0 0)[j]'hj2):=List.getElem?_eq_getElem _
  obtain⟨w,hw,dw⟩:=hd.get hjd
  rw[hv] at hw
  obtain rfl:=Option.some.inj hw
  have ef:((TX.toks z.cps.toList 0 0).take (j+1)).foldl (xa9 rs rk z) st0=xa9 rs rk z (((TX.toks z.cps.toList 0 0).take j).foldl (xa9 rs rk z) st0) ((TX.toks z.cps.toList 0 0)[j]'hj2):=by
   rw[qk6 hjd,List.foldl_append];rfl
  rw[PAt,ef]
  generalize ((TX.toks z.cps.toList 0 0).take j).foldl (xa9 rs rk z) st0=sj at *
  rw[<-List.getElem_cons_drop (h:=hj2)] at hp3
  generalize (TX.toks z.cps.toList 0 0)[j]'hj2=d at *
  cases hp3 with
  | cons c1 c2 c3 c4 =>
  rename_i e kind t
  have gl:z.cps.toList.length=z.length:=Array.length_toList
  have tk:=u.tupK h2
  obtain⟨q1,ws,rfl,hq,hwd⟩:=D7.mp dw
  rw[Dvs] at hwd;obtain⟨v0,r0,rfl,d0,hwd⟩:=hwd
  rw[Dvs] at hwd;obtain⟨v1,r1,rfl,d1,hwd⟩:=hwd
  rw[Dvs] at hwd;obtain⟨v2,r2,rfl,d2,hwd⟩:=hwd
  rw[Dvs] at hwd;obtain⟨v3,r3,rfl,d3,hwd⟩:=hwd
  rw[Dvs] at hwd;subst hwd
  obtain rfl:=E6.mp d0
  obtain rfl:=O6.mp d1
  obtain rfl:=O6.mp d2
  obtain rfl:=E6.mp d3
  refine⟨q1,_,rfl,tk.sqT hq,rfl,_,_,rfl,E5 ⟨_,_,rfl,E5 ⟨_,_,rfl,E5 ⟨_,_,rfl,E5 ⟨rfl,?_⟩⟩⟩⟩⟩
  show wk5 K _ _ _ _
  lk
  refine E7 ?_
  lk
  refine⟨r,_,_,rfl,u.ok.o,rfl,?_⟩
  lk
  refine xn0 (D4 (by omega)) ?_
  lk
  have hcl:=zc9 z (some (pp:Int)) (some (e:Int))
  refine⟨k_Reader,kB,r,bv,a',sj,rs,rk,_,_,_,_,_,kind,pp,_,t,rfl,u.ok,hk2.tupK tk,bk,bj,⟨by omega,by omega,by omega,by omega,by omega⟩,by omega,by omega,fun a2 H3 u2 g2=>?_⟩
  exact⟨a2,_,_,_,_,rfl,u.tr u2 g,C2.tr g g2⟩
 ·rintro σ H' ⟨a',x3,x4,x5,x6,rfl,u,g⟩
  obtain⟨pp,hp1,hp2,hp3,bj⟩:=xt2 (z:=z) bk (TX.toks z.cps.toList 0 0).length (Nat.le_refl _)
  rw[hul,List.take_length] at u
  rw[List.take_length] at bj
  have u':Rup K k_Reader kB r bv H2 a H' a' (wz2 rs rk z):=u
  have bj':Bg rs _ _ _ _ _ (wz2 rs rk z):=bj
  have tk:=u'.tupK h2
  show wk6 K _ _ _ _
  lk
  refine E7 ?_
  lk
  refine⟨r,_,_,rfl,u'.ok.o,rfl,?_⟩
  lk
  refine .inr (.inl ⟨z,rfl,D4 (by omega),?_⟩)
  lk
  have erd:rdS rs rk z=V2 rs (wz2 rs rk z) 0 z.length "end":=rfl
  generalize wz2 rs rk z=sj at *
  obtain⟨b0,cl,eb⟩:=List.exists_cons_of_ne_nil bj'.ne
  have hl:=bj'.l
  have hm:=bj'.m
  have hcl:cl.length<=20:=by rw[eb] at hl;simp at hl;omega
  refine⟨k_Reader,kB,r,bv,a',sj,rs,cl,b0,z.length,rfl,u'.ok,hk2.tupK tk,eb,by omega,bj'.cond (by omega) (by omega),by omega,fun a3 H3 u3 g3=>?_⟩
  lk
  have uu:=u'.tr u3 g
  have e5:=xt0 (rs:=rs) (st:=sj) (pre:=[]) (cl:=cl) (b:=b0) (i:=z.length) (rule := "end") eb
  have e6:rdS rs rk z={sj with bs:=wUp rs (·++W6 rs (cl.map Brn.n)) [{b0 with ps:=b0.ps++R6 cl}],ms:=sj.ms++cl.reverse.map (clM z.length "end")}:=erd.trans e5
  have u4:Rup K k_Reader kB r bv H2 a H3 a3 (rdS rs rk z):=by rw[e6];exact uu
  refine q _ kB r a3 H3 u4.ok (fun c o e=>u4.bt c o (s2 c o (s1 c o e)) fun hc=>?_) fun x hx=>?_
  ·have:=fr2 c hc;rw[e] at this;cases this
  ·rcases u4.fr x hx with h|h
   ·exact fr2 x h
   ·exact(A6.grow s1) _ (A6.grow s2 _ h)
abbrev wk8(K:Fg)(k_Reader:Addr):TS :=
 (L6 (M5 (A1 (N3 k_Reader "root" (Y6 K) [] E0 (A3 2) A8) (A1 (S4 K (A3 2) "mends") A8))))
def qo6(K:Fg):Sp:=fun vs H Q _=>∃ (bv:V) (z:Str) (rs:List Row) (rk:Str->Nat),vs=[bv,.str z]/\BkO K H bv rs/\Bok rs rk/\z.length<=10000/\∀ (v1:V) (p q:Addr) (us:List V) (H':Hp),SqT K H' p [v1,.ref q]->Dv K H' (Tr.nd "" (rtS (rdS rs rk z))).da v1->H' q=some (.lst us)->Dvs K H' ((rdS rs rk z).ms.map Mnd.da) us->A6 H H'->H q=none->Q (.ref p) H'
def qt4(K:Fg)(k_Reader:Addr):TS :=
 (C1 (E1 (D3 (qo5 K) [] E0 (A1 (A3 0) (A1 (A3 1) A8))) (B1 2))
 (wk8 K k_Reader))
theorem xt4(cz:Cz K k_Branch k_Reader)(h:qo6 K vs H Q E):qt4 K k_Reader {nx:=fun _ H'=>Q .non H',rt:=Q} (D8 ["book","text","reader"] vs) H:=by
 obtain⟨bv,z,rs,rk,rfl,hk,bk,hz,q⟩:=h
 show qt4 K _ _ [some bv,some (.str z),none] H
 unfold qt4
 lk
 refine⟨bv,z,rs,rk,rfl,hk,bk,hz,fun kR kB r a H1 h1 s1 hn=>?_⟩
 obtain rfl:=N1 cz.ns_Reader h1.kr
 show wk8 K _ _ _ _
 lk
 refine E7 ?_
 lk
 refine⟨r,_,_,rfl,h1.o,rfl,?_⟩
 lk
 have hne:(rdS rs rk z).bs≠[]:=xs7 (by simp)
 obtain⟨b',t',ebf⟩:=List.exists_cons_of_ne_nil hne
 have ert:rtS (rdS rs rk z)=b'.ps:=by unfold rtS;rw[ebf];rfl
 refine⟨k_Reader,kB,r,bv,a,_,b',t',rfl,h1,ebf,fun v H2 s2 hv=>?_⟩
 rw[<-ert] at hv
 have h2:=h1.same s2
 obtain⟨us,m1,m2⟩:=h2.m
 lk
 refine G9 ?_
 lk
 refine⟨r,_,a.x,_,_,rfl,h2.o,cz.cl_Reader,cz.na_Reader_mends,rfl,?_⟩
 lk
 refine⟨D4 (by z_go),fun p hp=>?_⟩
 have s3:=A6.new hp (.tup [v,.ref a.M])
 exact q v p a.M us _ (SqT.of A5) (Dv.same s3 _ _ hv) (s3 _ _ m1) (Dvs.same s3 _ _ m2) (A6.tr (A6.tr s1 s2) s3) (hn _ (by simp[RAd.fp]))
mutual
theorem zo6:∀ t:Tr,nd t.da=true
 | .tx s=>by rw[Tr.da,nd]
 | .nd n ps=>by rw[Tr.da,nd,nds,nd,nds,nd,nds,yn3 ps];rfl
theorem yn3:∀ ts:List Tr,nds (Tr.das ts)=true
 | []=>by rw[Tr.das,nds]
 | t::ts=>by rw[Tr.das,nds,zo6 t,yn3 ts];rfl
end
mutual
theorem yb3:∀ t:Tr,t.da.depth<=2*hgt t+4
 | .tx s=>by rw[Tr.da];simp[PyData.depth]
 | .nd n ps=>by
   have:=xo1 ps
   rw[Tr.da,hgt]
   simp[PyData.depth,PyData.depthAll] at this ⊢
   omega
theorem xo1:∀ ts:List Tr,PyData.depthAll (Tr.das ts)<=2*X5 ts+4
 | []=>by rw[Tr.das];simp[PyData.depthAll]
 | t::ts=>by
   have h1:=yb3 t
   have h2:=xo1 ts
   rw[Tr.das,X5]
   simp[PyData.depthAll] at h2 ⊢
   omega
end
theorem zd0:∀ ms:List Mnd,nds (ms.map Mnd.da)=true
 | []=>rfl
 | m::ms=>by rw[List.map_cons,nds,zd0 ms];rfl
theorem yb4:∀ ms:List Mnd,PyData.depthAll (ms.map Mnd.da)<=4
 | []=>by simp[PyData.depthAll]
 | m::ms=>by
   have:=yb4 ms
   rw[List.map_cons,PyData.depthAll]
   have h2:m.da.depth<=4:=by unfold Mnd.da;simp[PyData.depth,PyData.depthAll]
   omega
theorem zl6{t:Tr}{ms:List Mnd}{x y:V}(hh:hgt t<=80)(h1:Dv K H (.tuple [t.da,.list (ms.map Mnd.da)]) x)(h2:Dv K H (.tuple [t.da,.list (ms.map Mnd.da)]) y)(q:Q (.bl true) H):X3 K x y H Q:=by
 refine zz5 h1 h2 ?_ ?_
 ·have e1:=yb3 t
  have e2:=yb4 ms
  simp only[PyData.depth,PyData.depthAll]
  omega
 ·rw[wp3 _ (by rw[nd,nds,zo6,nds,nd,zd0,nds];rfl)];exact q
def Bh(m:Nat)(bs:List Brn):Prop:=∀ (i:Nat) (c:Brn),bs[i]?=some c->X5 c.ps+i<=m
section
variable{m:Nat}{bs:List Brn}{rs:List Row}
theorem Bh.map{bs':List Brn}(h:Bh m bs)(e:bs'.map Brn.ps=bs.map Brn.ps):Bh m bs':=fun i c hc=>by
 have h1:(bs'.map Brn.ps)[i]?=some c.ps:=by rw[List.getElem?_map,hc];rfl
 rw[e,List.getElem?_map] at h1
 obtain⟨d,hd,ed⟩:=Option.map_eq_some_iff.mp h1
 rw[<-ed];exact h i d hd
theorem Bh.take(h:Bh m bs)(k:Nat):Bh m (bs.take k):=fun i c hc=>by
 rw[List.getElem?_take] at hc
 split at hc
 ·exact h i c hc
 ·cases hc
theorem Bh.snoc(h:Bh m bs)(hb:X5 b.ps+bs.length<=m):Bh m (bs++[b]):=fun i c hc=>by
 rcases Nat.lt_or_ge i bs.length with hi|hi
 ·rw[List.getElem?_append_left hi] at hc;exact h i c hc
 ·rw[List.getElem?_append_right hi] at hc
  rcases Nat.eq_zero_or_pos (i-bs.length) with h0|h0
  ·rw[h0] at hc
   obtain rfl:=Option.some.inj hc
   rw[show i=bs.length by omega];exact hb
  ·rw[List.getElem?_eq_none_iff.mpr (by simp;omega)] at hc;cases hc
theorem yn4:∀ (C:List Brn) (j:Nat),(∀ i e,C[i]?=some e->X5 e.ps+(j+i)<=m)->j<=m+1->X5 (R6 C)+j<=m+1
 | [],j,_,hj=>by rw[R6,X5];omega
 | e::t,j,h,hj=>by
   have h0:=h 0 e rfl
   have h1:=yn4 t (j+1) (fun i e he=>by have:=h (i+1) e (by simpa using he);omega) (by omega)
   rw[R6,X5,X5,hgt,qp2]
   omega
theorem Bh.cls(h:Bh m st.bs)(hk:k<st.bs.length)(hl:st.bs.length<=m+1):Bh m (V2 rs st k i rule).bs:=by
 have e:(V2 rs st k i rule).bs.map Brn.ps=(st.bs.take k++[{(st.bs[k]) with ps:=(st.bs[k]).ps++R6 (st.bs.drop (k+1))}]).map Brn.ps:=by
  show(wUp rs _ _).map Brn.ps=_
  rw[wr4 fun _ _=>rfl,xs8 hk]
 refine Bh.map ?_ e
 refine(h.take k).snoc ?_
 have h0:=h k _ (List.getElem?_eq_getElem hk)
 have h1:=yn4 (m:=m) (st.bs.drop (k+1)) (k+1) (fun i e he=>by
  rw[List.getElem?_drop] at he
  exact h _ e he) (by omega)
 show X5 (_++_)+_<=m
 rw[qp2,List.length_take];omega
theorem Bh.ent(h:Bh m bs)(hl:bs.length<=m):Bh m (qk7 bs n):=by
 unfold qk7
 refine h.snoc ?_
 show X5 []+_<=m
 rw[X5];omega
theorem Bh.puts:∀ {ns:List Str} {st:Rst} {i:Int} {rule:Str},Bh m st.bs->st.bs.length+ns.length<=m->Bh m (N0 st ns i rule).bs
 | [],st,i,rule,h,_=>h
 | n::ns,st,i,rule,h,hl=>by
   rw[List.length_cons] at hl
   exact Bh.puts (st:=wj8 st n i rule) (h.ent (by omega)) (by rw[qw8];omega)
theorem Bh.lv(h:Bh m bs)(h2:2<=bs.length):Bh m (lvB bs):=by
 obtain⟨l,b1,b2,rfl⟩:=yi6 h2
 rw[xg4]
 have h1:=h l.length b1 (by simp)
 have h3:=h (l.length+1) b2 (by simp)
 have e:l++[b1,b2]=l++([b1]++[b2]):=rfl
 have hl:Bh m l:=fun i c hc=>h i c (by rw[List.getElem?_append_left (List.getElem?_eq_some_iff.mp hc).1];exact hc)
 refine hl.snoc ?_
 show X5 (b1.ps++[Tr.nd b2.n b2.ps])+_<=m
 rw[qp2,X5,X5,hgt];omega
theorem Ab1(ps:List Tr)(t:Str):X5 (adP ps t)<=max (X5 ps) (hgt (.tx t)):=by
 unfold adP
 split
 ·rename_i u e
  have hd:X5 ps.dropLast<=X5 ps:=by
   have e2:ps=ps.dropLast++[.tx u]:=by
    rcases List.eq_nil_or_concat ps with h|⟨q,x,h⟩
    ·rw[h] at e;cases e
    ·rw[List.concat_eq_append] at h
     rw[h,List.getLast?_concat] at e
     rw[h,List.dropLast_concat,Option.some.inj e]
   have h1:=qp2 ps.dropLast [.tx u]
   rw[<-e2] at h1
   omega
  rw[qp2,X5,X5,hgt,hgt];omega
 ·rw[qp2,X5,X5];omega
theorem Bh.tx(h:Bh m st.bs)(hne:st.bs≠[])(hl:st.bs.length<=m):Bh m (txS st i g t).bs:=by
 rcases List.eq_nil_or_concat st.bs with e|⟨l,b,e⟩
 ·exact absurd e hne
 ·rw[List.concat_eq_append] at e
  have e1:(txS st i g t).bs=l++[{b with ps:=adP b.ps t}]:=by
   show st.bs.dropLast++[{(X7 st.bs) with ps:=adP (X7 st.bs).ps t}]=_
   rw[e,qp6,List.dropLast_concat]
  rw[e1]
  rw[e] at h hl
  have h1:=h l.length b (by simp)
  have hl':Bh m l:=fun i c hc=>h i c (by rw[List.getElem?_append_left (List.getElem?_eq_some_iff.mp hc).1];exact hc)
  refine hl'.snoc ?_
  have:=Ab1 b.ps t
  rw[hgt] at this
  show X5 (adP b.ps t)+_<=m
  rw[List.length_append,List.length_singleton] at hl
  omega
theorem Bh.wup(h:Bh m bs):Bh m (wUp rs f bs):=h.map (wr4 (fun _ _=>rfl) bs)
theorem xt5{i:Int}:∀ (ws:List Str) (st:Rst),Bh 21 st.bs->st.bs.length<=21->st.bs≠[]->Bh 21 (ws.foldl (qe1 rs i) st).bs
 | [],st,h,_,_=>h
 | n::ws,st,h,hl,hne=>by
   rw[List.foldl_cons]
   have hp:0<st.bs.length:=List.length_pos_iff.mpr hne
   by_cases ha:wk4 rs (J7 st) n=true
   ·have e:qe1 rs i st n=wj8 st n i "anew":=by unfold qe1;rw[if_pos ha]
    rw[e]
    unfold wk4 at ha
    rw[Bool.and_eq_true,decide_eq_true_eq] at ha
    have hnl:(J7 st).length+1=st.bs.length:=by unfold J7;rw[List.length_map,List.length_tail];omega
    exact xt5 ws _ (h.ent hl) (by rw[qw8];omega) (by show qk7 st.bs n≠[];unfold qk7;simp)
   ·have e:qe1 rs i st n=st:=by unfold qe1;rw[if_neg ha]
    rw[e]
    exact xt5 ws st h hl hne
theorem Bh.step{D:Nat}(b:Bok rs rk)(bg:Bg rs P W M D T st)(h:Bh 21 st.bs):Bh 21 (qm6 rs rk st kind i g t).bs:=by
 have hl:=bg.l
 have hnl:=bg.nlen
 unfold qm6
 split
 ·unfold opS
  split
  ·exact h
  rename_i hs
  split
  ·exact h
  split
  ·exact h
  rename_i hlen
  have hrow:=wv8 hs
  have w:=wi1 b.B b.f (ys:=J7 st) 13 t hrow (b.k t)
  obtain⟨ps,hps⟩:=wv7 (rs:=rs) (rk:=rk) (ys:=J7 st) 13 t
  have hw1:=w.k
  generalize M9 rs rk (J7 st) 13 t=wt at *
  have hk:wt.1<st.bs.length:=by omega
  have e1:wt.2.dropLast=ps:=by rw[hps,List.dropLast_concat]
  have e2:wt.2.length=ps.length+1:=by rw[hps];simp
  have hc:=h.cls (rs:=rs) (i:=i) (rule := "shut") hk (by omega)
  have hcl:(V2 rs st wt.1 i "shut").bs.length=wt.1+1:=by rw[wi7,List.length_take];omega
  have hp:=Bh.puts (ns:=ps) (i:=i) (rule := "frame") hc (by rw[hcl];omega)
  have hpl:=wi6 ps (V2 rs st wt.1 i "shut") i "frame"
  rw[e1]
  dsimp only
  have he:=hp.ent (n:=t) (by omega)
  split
  ·refine he.lv ?_
   show 2<=(qk7 _ t).length
   unfold qk7
   rw[List.length_append,hpl,hcl,List.length_singleton];omega
  ·exact he
 split
 ·unfold wr2
  split
  ·rename_i k hk
   have:=xf5 hk
   refine(h.cls (rs:=rs) (by omega) (by omega)).lv ?_
   rw[wi7,List.length_take];omega
  ·split
   ·exact h.wup
   ·exact h
 ·unfold qk9
  split
  ·exact h
  split
  ·exact h
  rename_i hlen
  have hh:(M2 rs st).length<=12:=qi7 rs 12 _
  have hp:=Bh.puts (ns:=M2 rs st) (i:=i) (rule := "host") h (by omega)
  have hpb:=bg.puts (ns:=M2 rs st) (i:=i) (rule := "host") (by omega) fun m hm=>by
   have:=qw4 b.B 12 _ m hm
   exact⟨b.row this,this⟩
  have hA:=hpb.anews (i:=i) b.n
  refine Bh.tx ?_ hA.ne (by have:=hA.l;exact this)
  unfold wr3 wa1
  exact xt5 _ _ hp.wup (by show(wUp rs _ _).length<=21;rw[wr5];exact hpb.l) (xs7 hpb.ne)
theorem yn5{rk:Str->Nat}{z:Str}(b:Bok rs rk):∀ (ds:List PyData) (p:Nat) (st:Rst) (P W M D T:Nat),TkC z.cps.toList p ds->Bg rs P W M D T st->Bh 21 st.bs->Bh 21 (ds.foldl (xa9 rs rk z) st).bs
 | [],_,_,_,_,_,_,_,_,_,h=>h
 | d::ds,p,st,P,W,M,D,T,hd,bg,h=>by
   cases hd with
   | cons _ _ _ h4=>exact yn5 b ds _ _ _ _ _ _ _ h4 (bg.step b) (h.step b bg)
theorem zl7(b:Bok rs rk):hgt (Tr.nd "" (rtS (rdS rs rk z)))<=80:=by
 have h0:Bh 21 st0.bs:=fun i c hc=>by
  cases i with
  | zero=>simp[st0] at hc;subst hc;show X5 []+0<=21;rw[X5];omega
  | succ i=>simp[st0] at hc
 have h1:=yn5 (z:=z) b _ 0 st0 _ _ _ _ _ (yb2 _) (bg0 rs) h0
 obtain⟨p,_,_,_,bj⟩:=xt2 (z:=z) b (TX.toks z.cps.toList 0 0).length (Nat.le_refl _)
 rw[List.take_length] at bj
 have hp:0<(wz2 rs rk z).bs.length:=List.length_pos_iff.mpr bj.ne
 have hl:(wz2 rs rk z).bs.length<=21:=bj.l
 have h2:Bh 21 (rdS rs rk z).bs:=Bh.cls (rs:=rs) (i:=z.length) (rule := "end") h1 hp (by omega)
 have hne:(rdS rs rk z).bs≠[]:=xs7 (by simp)
 obtain⟨c,t,e⟩:=List.exists_cons_of_ne_nil hne
 have h3:=h2 0 c (by rw[e];rfl)
 rw[hgt]
 unfold rtS
 rw[e]
 show 1+X5 c.ps<=80
 omega
end
theorem yn6:∀ {l:List Nat},(∀ c∈l,c≠38)->TX.told 0 l=l
 | [],_=>rfl
 | c::l,h=>by rw[TX.told_n (TX.ne_pre (h c (by simp))) (TX.ne_pre (h c (by simp))),yn6 fun d hd=>h d (by simp[hd])]
theorem X2(z:Str):z.cps.toList.length=z.length:=Array.length_toList
theorem xt6(z:Str):TX.ofL z.cps.toList=z:=by unfold TX.ofL;cases z;simp
def rml(H:Hp)(ps:List Addr):Hp:=fun z=>if z∈ps then none else H z
theorem zd1{ps:List Addr}{z:Addr}(h:z∈ps):rml H ps z=none:=if_pos h
theorem xt7{ps:List Addr}{z:Addr}(h:z∉ps):rml H ps z=H z:=if_neg h
theorem zd2{ps:List Addr}:A6 (rml H ps) H:=fun c o e=>by
 by_cases h:c∈ps
 ·rw[zd1 h] at e;cases e
 ·rw[xt7 h] at e;exact e
theorem wf7{w:List Tr}{t:Tr}(h:Dvs K H (Tr.das w) us)(hv:Dv K H t.da v):Dvs K H (Tr.das (w++[t])) (us++[v]):=by
 rw[T4,List.map_append,<-T4]
 exact Dvs.append h (Dvs.one hv)
section
variable{names:List Str}{c:Nat}{srt:Nat->Str}{rs:List Row}
theorem yn7(ys:List Str):∀ m k,kpt ys [] k m=k+m
 | 0,k=>rfl
 | m+1,k=>by rw[kpt,if_neg (by simp),yn7 ys m];omega
theorem yn8(h:∀ ws,f ws=ws)(bs:List Brn):wUp rs f bs=bs:=by
 cases bs with
 | nil=>unfold wUp;split <;> rfl
 | cons c t =>
   obtain⟨l1,b,l2,e,h2⟩:=ya9 rs (bs:=c::t) (by simp)
   rw[e,wn4 h2,h]
theorem yt9{kept:Nat}(h:kept+1=st.bs.length):V2 rs st kept i rule=st:=by
 have e1:st.bs.drop (kept+1)=[]:=List.drop_eq_nil_of_le (by omega)
 have e2:st.bs.take kept++[st.bs[kept]'(by omega)]=st.bs:=by rw[<-qk6 (List.getElem?_eq_getElem (by omega)),h,List.take_length]
 unfold V2
 rw[e1,xs8 (by omega)]
 have e3:W6 rs (([]:List Brn).map Brn.n)=[]:=rfl
 rw[e3,yn8 fun ws=>List.append_nil ws]
 show({bs:=st.bs.take kept++[{(st.bs[kept]'(by omega)) with ps:=(st.bs[kept]'(by omega)).ps++[]}],ms:=st.ms++[],ls:=st.ls}:Rst)=st
 rw[List.append_nil,List.append_nil]
 show({bs:=st.bs.take kept++[st.bs[kept]'(by omega)],ms:=st.ms,ls:=st.ls}:Rst)=st
 rw[e2]
end
def wk9(w:Str):Prop:=∀ c∈w.cps.toList,c≠60/\c≠38
theorem zd3(h:wk9 w):qe0 w.cps.toList w.cps.toList.length=[]:=by
 unfold qe0
 rw[List.filter_eq_nil_iff]
 intro i _ e
 unfold ya1 at e
 have n1:¬w.cps.toList[i]?=some 60:=fun z=>(h 60 (List.mem_of_getElem? z)).1 rfl
 have n2:¬w.cps.toList[i]?=some 38:=fun z=>(h 38 (List.mem_of_getElem? z)).2 rfl
 rw[decide_eq_false n1,decide_eq_false n2] at e
 cases e
theorem zl8(h:wk9 w)(st:Rst)(i:Int):wr3 st i w=st:=by
 unfold wr3
 rw[zd3 h,List.map_nil,List.append_nil]
theorem zd4{l:List Brn}(e:st.bs=l++[b]):(txS st i g t).bs=l++[{b with ps:=adP b.ps t}]:=by
 show st.bs.dropLast++[{(X7 st.bs) with ps:=adP (X7 st.bs).ps t}]=_
 rw[e,qp6,List.dropLast_concat]
structure zd5(n:Str):Prop where
 n1:1<=n.length
 n8:n.length<=8
 lt:∀ c∈n.cps.toList,97<=c/\c<=122
variable{R:List Nat}
theorem zv5{P:List Nat}(el:l=P++60::(n.cps.toList++62::R))(h:zd5 n):TX.tagAt l P.length=some (P.length+1,P.length+n.length+2)/\TX.tagD l P.length (P.length+1) (P.length+n.length+2)=.tuple [.str "open",.int (P.length:Int),.int ((P.length+n.length+2:Nat):Int),.str n]:=by
 have en:=X2 n
 have h1:=h.n1
 have h8:=h.n8
 have at0:l[P.length]?=some 60:=by rw[el];simp
 have dr:l.drop (P.length+1)=n.cps.toList++62::R:=by
  rw[el,List.drop_append,List.drop_eq_nil_of_le (by omega),show P.length+1-P.length=1 by omega];rfl
 have hnm:TX.nm (l.drop (P.length+1))=some n.length:=by
  rw[TX.nm_iff,dr]
  refine⟨h1,h8,fun i hi=>?_,by rw[List.getElem?_append_right (by omega),en,Nat.sub_self];rfl⟩
  have hi2:i<n.cps.toList.length:=by omega
  refine⟨n.cps.toList[i],by rw[List.getElem?_append_left hi2,List.getElem?_eq_getElem hi2],?_⟩
  have:=h.lt _ (List.getElem_mem hi2)
  unfold TX.letter
  rw[decide_eq_true this.1,decide_eq_true this.2];rfl
 have hns:TX.nst l P.length=P.length+1:=by
  unfold TX.nst
  rw[if_neg]
  intro e
  have e2:(l.drop (P.length+1))[0]?=some 47:=by rw[List.getElem?_drop];exact e
  rw[dr,List.getElem?_append_left (by omega),List.getElem?_eq_getElem (by omega)] at e2
  have:=h.lt _ (List.getElem_mem (show 0<n.cps.toList.length by omega))
  have e3:=Option.some.inj e2
  omega
 constructor
 ·unfold TX.tagAt
  rw[if_pos at0,hns,hnm]
  show some (P.length+1,P.length+1+n.length+1)=_
  rw[show P.length+1+n.length+1=P.length+n.length+2 by omega]
 ·unfold TX.tagD
  rw[if_pos rfl,dr,show P.length+n.length+2-1-(P.length+1)=n.cps.toList.length by omega,List.take_left' rfl,xt6]
theorem zv6{P:List Nat}(el:l=P++60::47::(n.cps.toList++62::R))(h:zd5 n):TX.tagAt l P.length=some (P.length+2,P.length+n.length+3)/\TX.tagD l P.length (P.length+2) (P.length+n.length+3)=.tuple [.str "close",.int (P.length:Int),.int ((P.length+n.length+3:Nat):Int),.str n]:=by
 have en:=X2 n
 have h1:=h.n1
 have h8:=h.n8
 have at0:l[P.length]?=some 60:=by rw[el];simp
 have at1:l[P.length+1]?=some 47:=by rw[el,List.getElem?_append_right (by omega)];simp
 have dr:l.drop (P.length+2)=n.cps.toList++62::R:=by
  rw[el,List.drop_append,List.drop_eq_nil_of_le (by omega),show P.length+2-P.length=2 by omega];rfl
 have hnm:TX.nm (l.drop (P.length+2))=some n.length:=by
  rw[TX.nm_iff,dr]
  refine⟨h1,h8,fun i hi=>?_,by rw[List.getElem?_append_right (by omega),en,Nat.sub_self];rfl⟩
  have hi2:i<n.cps.toList.length:=by omega
  refine⟨n.cps.toList[i],by rw[List.getElem?_append_left hi2,List.getElem?_eq_getElem hi2],?_⟩
  have:=h.lt _ (List.getElem_mem hi2)
  unfold TX.letter
  rw[decide_eq_true this.1,decide_eq_true this.2];rfl
 have hns:TX.nst l P.length=P.length+2:=by
  unfold TX.nst
  rw[if_pos at1]
 constructor
 ·unfold TX.tagAt
  rw[if_pos at0,hns,hnm]
  show some (P.length+2,P.length+2+n.length+1)=_
  rw[show P.length+2+n.length+1=P.length+n.length+3 by omega]
 ·unfold TX.tagD
  rw[if_neg (by omega),dr,show P.length+n.length+3-1-(P.length+2)=n.cps.toList.length by omega,List.take_left' rfl,xt6]
theorem qt5(n:Str):(opn n).length=n.length+2:=by unfold opn;rw[J8,J8];show 1+_+1=_;omega
theorem wi8(n:Str):(opn n).cps.toList=60::(n.cps.toList++[62]):=by unfold opn;simp only[PySem.Str.cps_append,Array.toList_append];rfl
theorem zl9(n:Str):(cls n).cps.toList=60::47::(n.cps.toList++[62]):=by unfold cls;simp only[PySem.Str.cps_append,Array.toList_append];rfl
inductive Pq
 | op (n:Str)
 | cl (n:Str)
 | rn (r t:Str)
def Pq.tx:Pq->List Nat
 | .op n=>60::(n.cps.toList++[62])
 | .cl n=>60::47::(n.cps.toList++[62])
 | .rn r _=>r.cps.toList
def txQ(ps:List Pq):List Nat:=ps.flatMap Pq.tx
def zo7(r:Str):Prop:=∀ P R:List Nat,(R=[]\/∃ R',R=60::R')->∀ j,j<r.length->TX.tagAt (P++(r.cps.toList++R)) (P.length+j)=none
def Pq.ok:Pq->Prop
 | .op n=>zd5 n
 | .cl n=>zd5 n
 | .rn r t=>zo7 r/\1<=r.length/\t=TX.ofL (TX.told 0 r.cps.toList)
def Pq.isR:Pq->Bool
 | .rn _ _=>true
 | _=>false
def xo2:Bool->List Pq->Prop
 | _,[]=>True
 | b,x::ps=>(b=true->x.isR=false)/\xo2 x.isR ps
def stQ(rs:List Row)(rk:Str->Nat)(p:Nat)(st:Rst):Pq->Rst
 | .op n=>opS rs rk st p (opn n) n
 | .cl n=>wr2 rs rk st p (cls n) n
 | .rn r t=>qk9 rs st p r t
def pq(rs:List Row)(rk:Str->Nat):Nat->List Pq->Rst->Rst
 | _,[],st=>st
 | p,x::ps,st=>pq rs rk (p+x.tx.length) ps (stQ rs rk p st x)
theorem Pq.len:∀ x:Pq,x.tx.length=(match x with | .op n=>n.length+2 | .cl n=>n.length+3 | .rn r _=>r.length)
 | .op n=>by simp[Pq.tx,X2];rfl
 | .cl n=>by simp[Pq.tx,X2];rfl
 | .rn r _=>X2 r
theorem xg8{l:List Nat}{s:Nat}:∀ (d k:Nat),k+d<=l.length->(∀ j,j<d->TX.tagAt l (k+j)=none)->TX.toks l k s=TX.toks l (k+d) s
 | 0,k,_,_=>rfl
 | d+1,k,h,hn=>by
   rw[TX.toks_none (by omega) (show TX.tagAt l k=none from hn 0 (by omega)),xg8 d (k+1) (by omega) fun j hj=>by rw[show k+1+j=k+(j+1) by omega];exact hn (j+1) (by omega)]
   congr 1;omega
theorem zd6{ps:List Pq}(h:∀ x t,ps=x::t->x.isR=false):txQ ps=[]\/∃ R',txQ ps=60::R':=by
 cases ps with
 | nil=>exact .inl rfl
 | cons x t =>
   have:=h x t rfl
   cases x with
   | op n=>exact .inr ⟨_,rfl⟩
   | cl n=>exact .inr ⟨_,rfl⟩
   | rn r u=>cases this
theorem xt8{rs:List Row}{rk:Str->Nat}{z:Str}:∀ (ps:List Pq) (Pz:List Nat) (s:Nat) (g t:Str) (st:Rst) (b:Bool),z.cps.toList=Pz++txQ ps->(∀ x∈ps,x.ok)->xo2 b ps->(s<Pz.length->b=true)->s<=Pz.length->Pz.drop s=g.cps.toList->t=TX.ofL (TX.told 0 g.cps.toList) ->
 (TX.toks z.cps.toList Pz.length s).foldl (xa9 rs rk z) st=pq rs rk Pz.length ps (if s<Pz.length then qk9 rs st s g t else st)
 | [],Pz,s,g,t,st,b,ez,_,_,_,hs,hg,ht=>by
   have ez':z.cps.toList=Pz:=by rw[ez];simp[txQ]
   have gl:=X2 z
   rw[TX.toks_end (by rw[ez'];exact Nat.le_refl _),pq]
   unfold TX.runs
   by_cases h:s<Pz.length
   ·rw[if_pos (by rw[ez'];exact h),if_pos h]
    have e0:((z.cps.toList).drop s).take (z.cps.toList.length-s)=g.cps.toList:=by rw[List.take_of_length_le (by rw[List.length_drop];exact Nat.le_refl _),ez',hg]
    have e1:TX.runD z.cps.toList s z.cps.toList.length=.tuple [.str "run",.int (s:Int),.int (z.cps.toList.length:Int),.str t]:=by
     unfold TX.runD;rw[e0,ht]
    have e2:qf0 z (some (s:Int)) (some (z.cps.toList.length:Int))=g:=by rw[W3,qz4 rfl rfl,e0]
    rw[e1]
    show qm6 rs rk st "run" s (qf0 z (some (s:Int)) (some (z.cps.toList.length:Int))) t=_
    rw[e2];rfl
   ·rw[if_neg (by rw[ez'];exact h),if_neg h];rfl
 | x :: ps,Pz,s,g,t,st,b,ez,hok,hap,hsb,hs,hg,ht=>by
   have gl:=X2 z
   have ez2:z.cps.toList=(Pz++x.tx)++txQ ps:=by rw[ez];simp[txQ]
   have hzl:Pz.length+x.tx.length<=z.length:=by
    have:=congrArg List.length ez2
    rw[List.length_append,List.length_append] at this;omega
   have hx:=hok x (by simp)
   have hrest:∀ y∈ps,y.ok:=fun y hy=>hok y (by simp[hy])
   obtain⟨hap1,hap2⟩:=hap
   have hrun:∀ ds:List PyData,(TX.runs z.cps.toList s Pz.length++ds).foldl (xa9 rs rk z) st=ds.foldl (xa9 rs rk z) (if s<Pz.length then qk9 rs st s g t else st):=fun ds=>by
    unfold TX.runs
    by_cases h:s<Pz.length
    ·rw[if_pos h,if_pos h]
     have e0:((z.cps.toList).drop s).take (Pz.length-s)=g.cps.toList:=by
      rw[ez,List.drop_append,List.take_append,List.length_drop]
      rw[List.take_of_length_le (by rw[List.length_drop];exact Nat.le_refl _),show Pz.length-s-(Pz.length-s)=0 by omega,List.take_zero,List.append_nil,hg]
     have e1:TX.runD z.cps.toList s Pz.length=.tuple [.str "run",.int (s:Int),.int (Pz.length:Int),.str t]:=by
      unfold TX.runD;rw[e0,ht]
     have e2:qf0 z (some (s:Int)) (some (Pz.length:Int))=g:=by rw[W3,qz4 rfl rfl,e0]
     rw[e1]
     show ds.foldl _ (qm6 rs rk st "run" s (qf0 z (some (s:Int)) (some (Pz.length:Int))) t)=_
     rw[e2];rfl
    ·rw[if_neg h,if_neg h];rfl
   have cutx:∀ v:Str,v.cps.toList=x.tx->qf0 z (some (Pz.length:Int)) (some ((Pz.length+x.tx.length:Nat):Int))=v:=fun v hv=>by
    rw[W3,qz4 rfl rfl,ez2,List.append_assoc,List.drop_left' rfl,show Pz.length+x.tx.length-Pz.length=x.tx.length by omega,List.take_left' rfl,hv]
   have lenP:(Pz++x.tx).length=Pz.length+x.tx.length:=List.length_append
   cases x with
   | op n =>
     have hl:(Pq.op n).tx.length=n.length+2:=Pq.len (.op n)
     obtain⟨ht',hd⟩:=zv5 (l:=z.cps.toList) (P:=Pz) (R:=txQ ps) (n:=n) (by rw[ez];simp[txQ,Pq.tx]) hx
     rw[TX.toks_some ht',hd,hrun,List.foldl_cons]
     have ih:=xt8 (rs:=rs) (rk:=rk) (z:=z) ps (Pz++(Pq.op n).tx) (Pz++(Pq.op n).tx).length "" "" (opS rs rk (if s<Pz.length then qk9 rs st s g t else st) Pz.length (opn n) n) false ez2 hrest hap2 (fun h=>absurd h (Nat.lt_irrefl _)) (Nat.le_refl _) (by rw[List.drop_length];rfl) rfl
     rw[if_neg (Nat.lt_irrefl _),lenP,hl] at ih
     have hc:=cutx (opn n) (wi8 n)
     rw[hl] at hc
     show List.foldl _ (qm6 rs rk _ "open" Pz.length (qf0 z (some (Pz.length:Int)) (some ((Pz.length+n.length+2:Nat):Int))) n) _=_
     rw[show Pz.length+n.length+2=Pz.length+(n.length+2) by omega,hc]
     rw[pq,hl]
     exact ih
   | cl n =>
     have hl:(Pq.cl n).tx.length=n.length+3:=Pq.len (.cl n)
     obtain⟨ht',hd⟩:=zv6 (l:=z.cps.toList) (P:=Pz) (R:=txQ ps) (n:=n) (by rw[ez];simp[txQ,Pq.tx]) hx
     rw[TX.toks_some ht',hd,hrun,List.foldl_cons]
     have ih:=xt8 (rs:=rs) (rk:=rk) (z:=z) ps (Pz++(Pq.cl n).tx) (Pz++(Pq.cl n).tx).length "" "" (wr2 rs rk (if s<Pz.length then qk9 rs st s g t else st) Pz.length (cls n) n) false ez2 hrest hap2 (fun h=>absurd h (Nat.lt_irrefl _)) (Nat.le_refl _) (by rw[List.drop_length];rfl) rfl
     rw[if_neg (Nat.lt_irrefl _),lenP,hl] at ih
     have hc:=cutx (cls n) (zl9 n)
     rw[hl] at hc
     show List.foldl _ (qm6 rs rk _ "close" Pz.length (qf0 z (some (Pz.length:Int)) (some ((Pz.length+n.length+3:Nat):Int))) n) _=_
     rw[show Pz.length+n.length+3=Pz.length+(n.length+3) by omega,hc]
     rw[pq,hl]
     exact ih
   | rn r u =>
     have hl:(Pq.rn r u).tx.length=r.length:=X2 r
     obtain⟨hq,hr1,hu⟩:=hx
     have hns:¬s<Pz.length:=fun h=>by have:=hap1 (hsb h);cases this
     have es:s=Pz.length:=by omega
     have hsk:TX.toks z.cps.toList Pz.length s=TX.toks z.cps.toList (Pz.length+r.length) s:=by
      refine xg8 r.length _ (by omega) fun j hj=>?_
      have:=hq Pz (txQ ps) (zd6 fun x t e=>by
       subst e
       exact hap2.1 rfl) j hj
      have e:Pz++(r.cps.toList++txQ ps)=z.cps.toList:=by rw[ez];simp[txQ,Pq.tx]
      rw[e] at this
      exact this
     have hgw:(Pz++(Pq.rn r u).tx).drop s=r.cps.toList:=by
      rw[es,List.drop_left' rfl];rfl
     have ih:=xt8 (rs:=rs) (rk:=rk) (z:=z) ps (Pz++(Pq.rn r u).tx) s r u st true ez2 hrest hap2 (fun _=>rfl) (by rw[lenP];omega) hgw hu
     rw[if_pos (by rw[lenP,hl];omega),lenP,hl] at ih
     rw[hsk,ih,pq,hl,if_neg hns,es]
     rfl
theorem zm0{ps:List Pq}(ez:z.cps.toList=txQ ps)(hok:∀ x∈ps,x.ok)(hap:xo2 false ps):wz2 rs rk z=pq rs rk 0 ps st0:=by
 have:=xt8 (rs:=rs) (rk:=rk) (z:=z) ps [] 0 "" "" st0 false ez hok hap (fun h=>by simp at h) (Nat.le_refl _) rfl rfl
 rw[if_neg (show ¬0<([]:List Nat).length by simp)] at this
 exact this
theorem yn9{rs:List Row}{rk:Str->Nat}(x:Pq):∀ (ps:List Pq) (p:Nat) (st:Rst),pq rs rk p (ps++[x]) st=stQ rs rk (p+(txQ ps).length) (pq rs rk p ps st) x
 | [],p,st=>by simp[pq,txQ]
 | y::ps,p,st=>by
   rw[List.cons_append,pq,pq,yn9 x ps]
   congr 1
   simp[txQ];omega
theorem zd7(ps:List Pq)(x:Pq):txQ (ps++[x])=txQ ps++x.tx:=by unfold txQ;rw[List.flatMap_append];simp
theorem xg9{x:Pq}:∀ {ps:List Pq} {b:Bool},xo2 b ps->((ps.getLast?.map Pq.isR).getD b=true->x.isR=false)->xo2 b (ps++[x])
 | [],b,_,h=>⟨h,trivial⟩
 | y :: ps,b,⟨h1,h2⟩,h=>by
   refine⟨h1,xg9 h2 fun e=>h ?_⟩
   cases ps with
   | nil=>exact e
   | cons w t =>
     have:(y::w::t).getLast?=(w::t).getLast?:=by simp
     rw[this]
     cases hg:(w::t).getLast? with
     | none=>simp at hg
     | some q=>rw[hg] at e;exact e
theorem yb5{r:Str}(h:∀ c∈r.cps.toList,c≠60):zo7 r:=fun P R _ j hj=>by
 unfold TX.tagAt
 rw[if_neg]
 intro e
 rw[List.getElem?_append_right (by omega),show P.length+j-P.length=j by omega,List.getElem?_append_left (by rw[X2];exact hj)] at e
 exact h 60 (List.mem_of_getElem? e) rfl
def NsB(rs:List Row):Prop:=∀ r∈rs,r.shuts=[]/\r.bars=[]/\r.sort≠("anew":Str)
section
variable{rs:List Row}{rk:Str->Nat}{st:Rst}{i:Int}{g x:Str}
theorem NsB.sb(h:NsB rs)(x:Str):wf2 rs x=[]/\qn6 rs x=[]:=by
 unfold wf2 qn6
 cases e:Z0 rs (some x) with
 | none=>exact⟨rfl,rfl⟩
 | some r=>have:=h r (List.mem_of_find?_eq_some e);exact⟨this.2.1,this.1⟩
theorem NsB.bar(h:NsB rs):∀ (put there:List Str),bar rs there put=false
 | [],_=>rfl
 | x::put,there=>by rw[My.bar,(h.sb x).1,h.bar put];simp
theorem NsB.wait(h:NsB rs)(ns:List Str):W6 rs ns=[]:=by
 unfold W6 xk4
 rw[List.filter_eq_nil_iff]
 intro x _ e
 have e2:=of_decide_eq_true e
 unfold J0 at e2
 cases er:Z0 rs (some x) with
 | none=>rw[er] at e2;cases e2
 | some r=>rw[er] at e2;exact(h r (List.mem_of_find?_eq_some er)).2.2 (Option.some.inj e2)
theorem NsB.want(h:NsB rs)(hf:L3 rs (some x)=none)(ys:List Str):M9 rs rk ys 13 x=(ys.length,E4 rs (J5 ys)++[x]):=by
 rw[M9,wq6,hf]
 show ql5 _ _ _=_
 unfold ql5
 split
 ·rename_i e
  rw[e]
  unfold wz0
  rw[(h.sb x).2,yn7]
  have:=qw3 rs ys.length ys rfl
  congr 1
  omega
 ·rfl
theorem Ab2(hne:st.bs≠[]):(J7 st).length+1=st.bs.length:=by
 unfold J7
 rw[List.length_map,List.length_tail]
 have:0<st.bs.length:=List.length_pos_iff.mpr hne
 omega
theorem NsB.op(h:NsB rs)(hf:L3 rs (some x)=none)(hs:J0 rs (some x)≠none)(hne:st.bs≠[]):opS rs rk st i g x=if 20<(J7 st).length+(M2 rs st).length+1 then qk8 st i g "deep" else if J0 rs (some x)=some ("bare":Str) then lvS {(N0 st (M2 rs st) i "frame") with bs:=qk7 (N0 st (M2 rs st) i "frame").bs x} else{(N0 st (M2 rs st) i "frame") with bs:=qk7 (N0 st (M2 rs st) i "frame").bs x}:=by
 unfold opS
 rw[h.want hf,if_neg hs,h.bar,if_neg (by decide)]
 show(if 20<(J7 st).length+(M2 rs st++[x]).length then _ else _)=_
 rw[List.length_append,List.length_singleton,<-Nat.add_assoc]
 have e:(((J7 st).length,E4 rs (J5 (J7 st))++[x]):Nat×List Str).2.dropLast=M2 rs st:=List.dropLast_concat
 rw[e]
 show(if _ then _ else(if _ then lvS {(N0 (V2 rs st (J7 st).length i "shut") (M2 rs st) i "frame") with bs:=qk7 (N0 (V2 rs st (J7 st).length i "shut") (M2 rs st) i "frame").bs x} else{(N0 (V2 rs st (J7 st).length i "shut") (M2 rs st) i "frame") with bs:=qk7 (N0 (V2 rs st (J7 st).length i "shut") (M2 rs st) i "frame").bs x}))=_
 rw[yt9 (Ab2 hne)]
def zv(b:Brn):Str×List Tr:=(b.n,b.ps)
def zp(hs:List Str):List (Str×List Tr):=hs.map fun h=>(h,[])
structure Z6(zs:List (Str×List Tr))(st:Rst):Prop where
 v:st.bs.map zv=zs
 w:∀ c∈st.bs,c.ws=[]
 ne:st.bs≠[]
variable{zs pre:List (Str×List Tr)}{n a rule t:Str}{ps qs:List Tr}
theorem Z6.nms(z:Z6 zs st):J7 st=zs.tail.map Prod.fst:=by
 rw[<-z.v,<-List.map_tail,List.map_map];rfl
theorem Z6.ent(z:Z6 zs st):Z6 (zs++[(n,[])]) {st with bs:=qk7 st.bs n} :=
 ⟨by show(st.bs++[_]).map zv=_;rw[List.map_append,z.v];rfl,fun c hc=>by
  rcases List.mem_append.mp hc with hc|hc
  ·exact z.w c hc
  ·rw[List.mem_singleton.mp hc];rfl,by show _++[_]≠[];simp⟩
theorem Z6.put(z:Z6 zs st):Z6 (zs++[(n,[])]) (wj8 st n i rule):=⟨z.ent.v,z.ent.w,z.ent.ne⟩
theorem Z6.puts:∀ {hs:List Str} {st:Rst} {zs:List (Str×List Tr)},Z6 zs st->Z6 (zs++zp hs) (N0 st hs i rule)/\(N0 st hs i rule).ms=st.ms++hs.map fun h=>⟨i,i,opn h,rule⟩
 | [],st,zs,z=>by rw[zp,List.map_nil,List.append_nil];exact⟨z,(List.append_nil _).symm⟩
 | h::hs,st,zs,z=>by
   obtain⟨h1,h2⟩:=Z6.puts (hs:=hs) (z.put (n:=h) (i:=i) (rule:=rule))
   refine⟨?_,?_⟩
   ·show Z6 _ (N0 (wj8 st h i rule) hs i rule)
    rw[List.append_assoc] at h1;exact h1
   ·show(N0 (wj8 st h i rule) hs i rule).ms=_
    rw[h2]
    show(st.ms++[_])++_=_
    rw[List.append_assoc];rfl
theorem xt9{bs:List Brn}(e:bs.map zv=pre++[(a,ps)]):∃ l b,bs=l++[b]/\l.map zv=pre/\b.n=a/\b.ps=ps:=by
 rcases List.eq_nil_or_concat bs with h|⟨l,b,h⟩
 ·rw[h] at e;simp at e
 ·rw[List.concat_eq_append] at h
  rw[h,List.map_append] at e
  obtain⟨e1,e2⟩:=List.append_inj' e rfl
  have e3:=(List.cons.inj e2).1
  exact⟨l,b,h,e1,congrArg Prod.fst e3,congrArg Prod.snd e3⟩
theorem Z6.lv(z:Z6 (pre++[(a,ps)]++[(n,qs)]) st):Z6 (pre++[(a,ps++[Tr.nd n qs])]) (lvS st):=by
 obtain⟨l,b2,e,h1,h2,h3⟩:=xt9 z.v
 obtain⟨l,b1,rfl,h4,h5,h6⟩:=xt9 h1
 have el:(lvS st).bs=l++[{b1 with ps:=b1.ps++[Tr.nd b2.n b2.ps]}]:=by
  show lvB st.bs=_
  rw[e,List.append_assoc];exact xg4 l b1 b2
 refine⟨by rw[el,List.map_append,h4,<-h5,<-h6,<-h2,<-h3];rfl,fun c hc=>?_,by rw[el];simp⟩
 rw[el] at hc
 rcases List.mem_append.mp hc with hc|hc
 ·exact z.w c (by rw[e];simp[hc])
 ·rw[List.mem_singleton.mp hc];exact z.w b1 (by rw[e];simp)
theorem Z6.tx(z:Z6 (pre++[(a,ps)]) st):Z6 (pre++[(a,adP ps t)]) (txS st i g t):=by
 obtain⟨l,b,e,h1,h2,h3⟩:=xt9 z.v
 have et:=zd4 (i:=i) (g:=g) (t:=t) e
 refine⟨by rw[et,List.map_append,h1,<-h2,<-h3];rfl,fun c hc=>?_,by rw[et];simp⟩
 rw[et] at hc
 rcases List.mem_append.mp hc with hc|hc
 ·exact z.w c (by rw[e];simp[hc])
 ·rw[List.mem_singleton.mp hc];exact z.w b (by rw[e];simp)
theorem Z6.anews(z:Z6 zs st):wa1 rs i st=st:=by
 obtain⟨l1,d,l2,e,hl⟩:=ya9 rs z.ne
 have hd:d.ws=[]:=z.w d (by rw[e];simp)
 have hB:lwS rs st.bs=[]:=by rw[e,xs6 hl,hd]
 have eW:wUp rs (fun _=>[]) st.bs=st.bs:=by rw[e,wn4 hl,show({d with ws:=[]}:Brn)=d by rw[<-hd]]
 unfold wa1
 rw[hB,eW];rfl
theorem Z6.run(z:Z6 zs st)(hp:wk9 t)(hb:¬(J0 rs (some (J5 (J7 st)))=some ("frame":Str)/\wa2 t=true)):qk9 rs st i t t=if 20<(J7 st).length+(M2 rs st).length then qk8 st i t "deep" else txS (N0 st (M2 rs st) i "host") i t t:=by
 unfold qk9
 rw[if_neg hb,(z.puts (hs:=M2 rs st) (i:=i) (rule := "host")).1.anews,zl8 hp]
def qa9:List Str->List Tr->List Tr
 | [],ps=>ps
 | n::ns,ps=>[.nd n (qa9 ns ps)]
theorem xo3:∀ (xs ys:List Str) (ps:List Tr),qa9 (xs++ys) ps=qa9 xs (qa9 ys ps)
 | [],_,_=>rfl
 | x::xs,ys,ps=>by rw[List.cons_append,qa9,xo3 xs];rfl
def qx1:List (Str×List Tr)->List Tr
 | []=>[]
 | c::cs=>[.nd c.1 (c.2++qx1 cs)]
theorem yb6:∀ bs:List Brn,R6 bs=qx1 (bs.map zv)
 | []=>rfl
 | b::bs=>by rw[R6,yb6 bs];rfl
theorem Z6.fin(hn:NsB rs)(z:Z6 ((a,ps)::zs) st):rtS (V2 rs st 0 k "end")=ps++qx1 zs/\(V2 rs st 0 k "end").ms=st.ms++(zs.map Prod.fst).reverse.map fun n=>⟨k,k,cls n, "end"⟩:=by
 obtain⟨b,cl,e⟩:=List.exists_cons_of_ne_nil z.ne
 have hv:=z.v
 rw[e,List.map_cons] at hv
 obtain⟨h1,h2⟩:=List.cons.inj hv
 have e2:=xt0 (rs:=rs) (i:=k) (rule := "end") (pre:=[]) (show st.bs=[]++b::cl from e)
 rw[hn.wait,yn8 fun ws=>List.append_nil ws] at e2
 have e3:V2 rs st 0 k "end"=_:=e2
 rw[e3]
 refine⟨?_,?_⟩
 ·show b.ps++R6 cl=_
  rw[yb6,h2,show b.ps=ps from congrArg Prod.snd h1]
 ·show st.ms++cl.reverse.map _=_
  rw[<-h2,List.map_map,<-List.map_reverse,List.map_map];rfl
theorem yb7:∀ (ns:List Str) (zs:List (Str×List Tr)),qx1 (zp ns++zs)=qa9 ns (qx1 zs)
 | [],_=>rfl
 | n::ns,zs=>by
   show[Tr.nd n ([]++qx1 (zp ns++zs))]=_
   rw[yb7 ns,List.nil_append];rfl
end
def wn6(L i:Nat):Str:=if i=0 then "plain" else if i=1 then "bare" else if i=2 then "room" else if i<3+L then "frame" else "plain"
def r6(nm:List Str)(L i:Nat):Row:=⟨gd nm i,wn6 L i,if 3<=i/\i<3+L then gd nm (i+1) else "",[],[]⟩
def rs6(nm:List Str)(L:Nat):List Row:=(List.range (L+4)).map (r6 nm L)
def rk6(nm:List Str)(x:Str):Nat:=nm.idxOf x
section
variable{nm:List Str}{L i:Nat}{x:Str}
theorem ww2(h1:3<=i)(h2:i<3+L):wn6 L i=("frame":Str):=by
 unfold wn6;rw[if_neg (by omega),if_neg (by omega),if_neg (by omega),if_pos h2]
theorem yi9(h:¬(3<=i/\i<3+L)):wn6 L i=("plain":Str)\/wn6 L i=("bare":Str)\/wn6 L i=("room":Str):=by
 unfold wn6
 split
 ·exact .inl rfl
 split
 ·exact .inr (.inl rfl)
 split
 ·exact .inr (.inr rfl)
 ·rw[if_neg (by omega)];exact .inl rfl
theorem wa3:wn6 L i=("frame":Str)↔3<=i/\i<3+L:=by
 by_cases h:3<=i/\i<3+L
 ·exact⟨fun _=>h,fun _=>ww2 h.1 h.2⟩
 ·refine⟨fun e=>?_,fun z=>absurd z h⟩
  rcases yi9 h with z|z|z <;> rw[z] at e <;> exact absurd e (by decide)
theorem xk8{r:Row}(h:r∈rs6 nm L):∃ i,i<L+4/\r=r6 nm L i:=by
 obtain⟨i,h1,h2⟩:=List.mem_map.mp h
 exact⟨i,List.mem_range.mp h1,h2.symm⟩
theorem ns6:NsB (rs6 nm L):=fun r h=>by
 obtain⟨i,_,rfl⟩:=xk8 h
 refine⟨rfl,rfl,fun e=>?_⟩
 have e:wn6 L i=("anew":Str):=e
 by_cases h:3<=i/\i<3+L
 ·rw[ww2 h.1 h.2] at e;exact absurd e (by decide)
 ·rcases yi9 h with z|z|z <;> rw[z] at e <;> exact absurd e (by decide)
structure N6(nm:List Str)(L:Nat):Prop where
 N:Nms nm
 l:nm.length=12
 l1:1<=L
 l4:L<=4
theorem N6.inj(n:N6 nm L){i:Nat}(hi:i<12)(hj:j<12)(e:gd nm i=gd nm j):i=j:=by
 have h1:=yh3 n.N.nd (j:=i) (by rw[n.l];exact hi)
 have h2:=yh3 n.N.nd (j:=j) (by rw[n.l];exact hj)
 rw[<-h1,<-h2,e]
theorem wb2{α:Type}{f:Nat->α}:∀ (k:Nat),(∀ i j,i<k->j<k->f i=f j->i=j)->((List.range k).map f).Nodup
 | 0,_=>List.nodup_nil
 | k+1,h=>by
   rw[List.range_succ,List.map_append]
   refine List.nodup_append.mpr ⟨wb2 k fun i j hi hj=>h i j (by omega) (by omega),by simp,fun x hx y hy=>?_⟩
   obtain⟨i,hi,rfl⟩:=List.mem_map.mp hx
   have hi:=List.mem_range.mp hi
   simp at hy
   subst hy
   intro e
   have:=h i k (by omega) (by omega) e
   omega
theorem N6.nd(n:N6 nm L):((rs6 nm L).map (·.name)).Nodup:=by
 unfold rs6
 rw[List.map_map]
 exact wb2 (L+4) fun i j hi hj e=>n.inj (by have:=n.l4;omega) (by have:=n.l4;omega) e
theorem zd8:∀ {rs:List Row} {r:Row},(rs.map (·.name)).Nodup->r∈rs->Z0 rs (some r.name)=some r
 | c::rs,r,nd,h=>by
   rw[List.map_cons,List.nodup_cons] at nd
   unfold Z0
   rw[List.find?_cons]
   rcases List.mem_cons.mp h with rfl|h
   ·rw[decide_eq_true rfl]
   ·rw[decide_eq_false fun e=>nd.1 (by rw[Option.some.inj e];exact List.mem_map_of_mem h)]
    exact zd8 nd.2 h
theorem N6.row(n:N6 nm L)(hi:i<L+4):Z0 (rs6 nm L) (some (gd nm i))=some (r6 nm L i) :=
 zd8 (r:=r6 nm L i) n.nd (List.mem_map_of_mem (List.mem_range.mpr hi))
theorem N6.sort(n:N6 nm L)(hi:i<L+4):J0 (rs6 nm L) (some (gd nm i))=some (wn6 L i):=by unfold J0;rw[n.row hi];rfl
theorem N6.host(n:N6 nm L)(hi:i<L+4):Q4 (rs6 nm L) (some (gd nm i))=if 3<=i/\i<3+L then some (gd nm (i+1)) else none:=by
 unfold Q4
 rw[n.row hi]
 show(if wn6 L i=("frame":Str) then some (if 3<=i/\i<3+L then gd nm (i+1) else "") else none)=_
 by_cases h:3<=i/\i<3+L
 ·rw[if_pos (wa3.mpr h),if_pos h,if_pos h]
 ·rw[if_neg (fun e=>h (wa3.mp e)),if_neg h]
theorem zd9(e:L3 (rs6 nm L) (some x)=some y):∃ i,3<=i/\i<3+L/\y=gd nm i/\x=gd nm (i+1):=by
 unfold L3 at e
 obtain⟨r,h1,rfl⟩:=Option.map_eq_some_iff.mp e
 obtain⟨i,hi,rfl⟩:=xk8 (List.mem_of_find?_eq_some h1)
 have h2:=List.find?_some h1
 simp only[Bool.and_eq_true,decide_eq_true_eq] at h2
 have h3:=wa3.mp h2.1
 refine⟨i,h3.1,h3.2,rfl,?_⟩
 have h4:(if 3<=i/\i<3+L then gd nm (i+1) else "")=x:=Option.some.inj h2.2
 rw[if_pos h3] at h4
 exact h4.symm
theorem N6.noframe(n:N6 nm L)(hi:i<4):L3 (rs6 nm L) (some (gd nm i))=none:=by
 cases e:L3 (rs6 nm L) (some (gd nm i)) with
 | none=>rfl
 | some y =>
   obtain⟨j,h1,h2,_,h4⟩:=zd9 e
   have:=n.inj (by omega) (by have:=n.l4;omega) h4
   omega
theorem N6.bok(n:N6 nm L):Bok (rs6 nm L) (rk6 nm):=by
 have l4:=n.l4
 have rk:∀ i,i<12->rk6 nm (gd nm i)=i:=fun i hi=>yh3 n.N.nd (by rw[n.l];exact hi)
 have mem:∀ i,i<12->gd nm i∈nm:=fun i hi=>qu7 (by rw[n.l];exact hi)
 refine⟨⟨by unfold rs6;simp,by unfold rs6;simp;omega,n.nd,fun r hr=>?_,⟨rk6 nm,fun r hr=>?_,fun r hr hs=>?_⟩,fun r hr hs=>?_,fun r hr r' hr' hs hs' e=>?_,fun r hr=>?_,fun r hr x hx=>?_⟩,fun x y e=>?_,fun x=>?_,fun r hr=>?_,fun r hr=>?_⟩
 ·obtain⟨i,hi,rfl⟩:=xk8 hr
  exact n.N.ne _ (mem i (by omega))
 ·obtain⟨i,hi,rfl⟩:=xk8 hr
  show rk6 nm (gd nm i)<12
  rw[rk i (by omega)];omega
 ·obtain⟨i,hi,rfl⟩:=xk8 hr
  have h:=wa3.mp hs
  have e:(r6 nm L i).host=gd nm (i+1):=if_pos h
  rw[e]
  refine⟨⟨r6 nm L (i+1),List.mem_map_of_mem (List.mem_range.mpr (by omega)),rfl,?_⟩,?_⟩
  ·by_cases h2:i+1<3+L
   ·exact .inr (ww2 (by omega) h2)
   ·refine .inl ?_
    show wn6 L (i+1)=_
    unfold wn6
    rw[if_neg (by omega),if_neg (by omega),if_neg (by omega),if_neg h2]
  ·show rk6 nm (gd nm i)<_
   rw[rk i (by omega),rk (i+1) (by omega)];omega
 ·obtain⟨i,hi,rfl⟩:=xk8 hr
  exact if_neg fun h=>hs (wa3.mpr h)
 ·obtain⟨i,hi,rfl⟩:=xk8 hr
  obtain⟨j,hj,rfl⟩:=xk8 hr'
  have h:=wa3.mp hs
  have h':=wa3.mp hs'
  have e1:(r6 nm L i).host=gd nm (i+1):=if_pos h
  have e2:(r6 nm L j).host=gd nm (j+1):=if_pos h'
  rw[e1,e2] at e
  have:=n.inj (by omega) (by omega) e
  show gd nm i=gd nm j
  rw[show i=j by omega]
 ·obtain⟨i,hi,rfl⟩:=xk8 hr
  by_cases h:3<=i/\i<3+L
  ·exact .inr (.inr (.inr (.inr (ww2 h.1 h.2))))
  ·rcases yi9 h with z|z|z
   ·exact .inr (.inl z)
   ·exact .inl z
   ·exact .inr (.inr (.inr (.inl z)))
 ·rw[(ns6 r hr).1] at hx;cases hx
 ·obtain⟨i,h1,h2,rfl,rfl⟩:=zd9 e
  rw[rk i (by omega),rk (i+1) (by omega)];omega
 ·have:nm.idxOf x<=nm.length:=List.idxOf_le_length
  rw[n.l] at this
  show nm.idxOf x<=13
  omega
 ·obtain⟨i,hi,rfl⟩:=xk8 hr
  have:=n.N.le _ (mem i (by omega))
  show(gd nm i).length<=4000
  omega
 ·rw[(ns6 r hr).1,(ns6 r hr).2.1];exact⟨Nat.zero_le _,Nat.zero_le _⟩
theorem N6.downs(n:N6 nm L):∀ (j m:Nat),j<m->j<=L->My.downs (rs6 nm L) m (some (gd nm (3+L-j)))=(nm.drop (4+L-j)).take j
 | 0,m+1,_,_=>by rw[My.downs,n.host (by omega),if_neg (by omega),List.take_zero]
 | j+1,m+1,h1,h2=>by
   have l4:=n.l4
   rw[My.downs,n.host (by omega),if_pos (by omega)]
   show _::My.downs _ m (some _)=_
   have e:3+L-(j+1)+1=3+L-j:=by omega
   rw[e,n.downs j m (by omega) (by omega)]
   have hl:3+L-j<nm.length:=by rw[n.l];omega
   rw[show 4+L-(j+1)=3+L-j by omega,List.drop_eq_getElem_cons hl,List.take_succ_cons,show 3+L-j+1=4+L-j by omega]
   congr 1
   have:=wm7 hl
   rw[List.getElem?_eq_getElem hl] at this
   exact(Option.some.inj this).symm
theorem N6.hosts(n:N6 nm L):E4 (rs6 nm L) (gd nm 3)=(nm.drop 4).take L:=by
 have:=n.downs L 12 (by have:=n.l4;omega) (Nat.le_refl _)
 rw[show 3+L-L=3 by omega,show 4+L-L=4 by omega] at this
 exact this
theorem N6.nohosts(n:N6 nm L)(hi:i<3):E4 (rs6 nm L) (gd nm i)=[]:=qz1 (by rw[n.host (by omega),if_neg (by omega)])
theorem N6.root(n:N6 nm L):E4 (rs6 nm L) ("":Str)=[]/\J0 (rs6 nm L) (some ("":Str))=none:=by
 have:Z0 (rs6 nm L) (some ("":Str))=none:=by
  unfold Z0
  rw[List.find?_eq_none]
  intro r hr e
  exact n.bok.B.ne r hr (Option.some.inj (of_decide_eq_true e))
 exact⟨qz1 (by unfold Q4;rw[this];rfl),by unfold J0;rw[this];rfl⟩
end
def G6(rs:List Row)(rk:Str->Nat)(z:Str)(ms:List Mnd)(zs:List (Str×List Tr))(r:Bool):Prop:=∃ ps,z.cps.toList=txQ ps/\(∀ x∈ps,x.ok)/\xo2 false ps/\(ps.getLast?.map Pq.isR).getD false=r/\Z6 zs (pq rs rk 0 ps st0)/\(pq rs rk 0 ps st0).ms=ms
section
variable{rs:List Row}{rk:Str->Nat}{z z':Str}{ms dm:List Mnd}{zs zs' pre:List (Str×List Tr)}{r:Bool}{a:Str}{ps:List Tr}
theorem G6.nil:G6 rs rk "" [] [("",[])] false:=⟨[],rfl,fun x hx=>(by cases hx),trivial,rfl,⟨rfl,fun c hc=>by rw[List.mem_singleton.mp hc];rfl,by show[_]≠[];simp⟩,rfl⟩
theorem G6.step(g:G6 rs rk z ms zs r){x:Pq}(hx:x.ok)(hr:r=true->x.isR=false)(ez:z'.cps.toList=z.cps.toList++x.tx)(h:∀ st,Z6 zs st->st.ms=ms->Z6 zs' (stQ rs rk z.length st x)/\(stQ rs rk z.length st x).ms=ms++dm):G6 rs rk z' (ms++dm) zs' x.isR:=by
 obtain⟨ps,h1,h2,h3,h4,h5,h6⟩:=g
 have hp:pq rs rk 0 (ps++[x]) st0=stQ rs rk z.length (pq rs rk 0 ps st0) x:=by rw[yn9,<-h1,X2,Nat.zero_add]
 obtain⟨h7,h8⟩:=h _ h5 h6
 refine⟨ps++[x],by rw[ez,zd7,h1],fun y hy=>?_,xg9 h3 (by rw[h4];exact hr),by rw[List.getLast?_concat];rfl,by rw[hp];exact h7,by rw[hp];exact h8⟩
 rcases List.mem_append.mp hy with hy|hy
 ·exact h2 y hy
 ·rw[List.mem_singleton.mp hy];exact hx
theorem G6.fin(hn:NsB rs)(g:G6 rs rk z ms ((a,ps)::zs) r):rtS (rdS rs rk z)=ps++qx1 zs/\(rdS rs rk z).ms=ms++(zs.map Prod.fst).reverse.map fun n=>⟨z.length,z.length,cls n, "end"⟩:=by
 obtain⟨qs,h1,h2,h3,h4,h5,h6⟩:=g
 unfold rdS
 rw[zm0 h1 h2 h3]
 have:=h5.fin hn (k:=z.length)
 rw[h6] at this
 exact this
theorem wa4(a b:Str):(a++b).cps.toList=a.cps.toList++b.cps.toList:=by rw[PySem.Str.cps_append,Array.toList_append]
def zT:Str->List Str->List Tr->List (Str×List Tr)
 | a,[],ps=>[(a,ps)]
 | a,n::ns,ps=>(a,[])::zT n ns ps
theorem ze0:∀ (ns:List Str) (a n:Str),zT a ns []++[(n,[])]=zT a (ns++[n]) []
 | [],_,_=>rfl
 | m::ns,a,n=>by rw[List.cons_append,zT,List.cons_append,ze0 ns];rfl
theorem yo0:∀ (ns:List Str) (a:Str),∃ pre b,∀ ps,zT a ns ps=pre++[(b,ps)]
 | [],a=>⟨[],a,fun _=>rfl⟩
 | n::ns,a=>by
   obtain⟨pre,b,h⟩:=yo0 ns n
   exact⟨(a,[])::pre,b,fun ps=>by rw[zT,h];rfl⟩
theorem yj0:∀ (ns:List Str) (a:Str) (ps:List Tr),(zT a ns ps).map Prod.fst=a::ns
 | [],_,_=>rfl
 | n::ns,a,ps=>by rw[zT,List.map_cons,yj0 ns]
theorem yo1{ext:List (Str×List Tr)}:∀ (ns:List Str) (a:Str) (ps:List Tr),∃ p0 rest,zT a ns ps++ext=(a,p0)::rest/\p0++qx1 rest=qa9 ns (ps++qx1 ext)/\rest.map Prod.fst=ns++ext.map Prod.fst
 | [],a,ps=>⟨ps,ext,rfl,rfl,rfl⟩
 | n::ns,a,ps=>by
   obtain⟨p0,rest,h1,h2,h3⟩:=yo1 (ext:=ext) ns n ps
   exact⟨[],(n,p0)::rest,by rw[zT,List.cons_append,h1],by show[Tr.nd n (p0++qx1 rest)]=_;rw[h2];rfl,by rw[List.map_cons,h3];rfl⟩
theorem qk0(ns:List Str)(a:Str)(ps:List Tr):(zT a ns ps).tail.map Prod.fst=ns:=by rw[List.map_tail,yj0];rfl
theorem ze1(ns:List Str)(a:Str)(ps:List Tr)(ext:List (Str×List Tr)):(zT a ns ps++ext).tail.map Prod.fst=ns++ext.map Prod.fst:=by
 rw[List.map_tail,List.map_append,yj0];rfl
end
section
variable{nm there:List Str}{L i:Nat}{z z' t:Str}{ms:List Mnd}{zs pre:List (Str×List Tr)}{r:Bool}{hs:List Str}{a:Str}{ps:List Tr}
theorem N6.ok(n:N6 nm L)(hi:i<12):zd5 (gd nm i):=by
 have hm:=qu7 (l:=nm) (i:=i) (by rw[n.l];exact hi)
 refine⟨?_,n.N.le _ hm,n.N.lt _ hm⟩
 have h0:=n.N.ne _ hm
 have:(gd nm i).length≠0:=fun e=>h0 ((W3 _ _).mpr (by
  have e2:=X2 (gd nm i)
  rw[e] at e2
  rw[List.eq_nil_of_length_eq_zero e2];rfl))
 omega
theorem wf8(q:Z6 zs st)(eh:E4 rs (J5 (zs.tail.map Prod.fst))=hs):M2 rs st=hs:=by unfold M2;rw[q.nms];exact eh
theorem xh0(q:Z6 zs st):(J7 st).length=zs.tail.length:=by rw[q.nms,List.length_map]
theorem N6.deep(n:N6 nm L)(g:G6 (rs6 nm L) (rk6 nm) z ms zs r)(hi:i<4)(eh:E4 (rs6 nm L) (J5 (zs.tail.map Prod.fst))=hs)(hd:20<zs.tail.length+hs.length+1)(ez:z'.cps.toList=z.cps.toList++(opn (gd nm i)).cps.toList):G6 (rs6 nm L) (rk6 nm) z' (ms++[⟨z.length,z.length+(opn (gd nm i)).length, "","deep"⟩]) zs false:=by
 refine g.step (x:=.op (gd nm i)) (n.ok (by omega)) (fun _=>rfl) (by rw[ez,wi8];rfl) fun st q em=>?_
 show Z6 zs (opS _ _ _ _ _ _)/\(opS _ _ _ _ _ _).ms=_
 rw[ns6.op (n.noframe hi) (by rw[n.sort (by omega)];simp) q.ne,wf8 q eh,xh0 q,if_pos hd]
 exact⟨⟨q.v,q.w,q.ne⟩,by show st.ms++[_]=_;rw[em]⟩
theorem N6.opn(n:N6 nm L)(g:G6 (rs6 nm L) (rk6 nm) z ms zs r)(hi:i<4)(h1:i≠1)(eh:E4 (rs6 nm L) (J5 (zs.tail.map Prod.fst))=hs)(hd:¬20<zs.tail.length+hs.length+1)(ez:z'.cps.toList=z.cps.toList++(My.opn (gd nm i)).cps.toList):G6 (rs6 nm L) (rk6 nm) z' (ms++hs.map fun h=>⟨z.length,z.length,My.opn h, "frame"⟩) (zs++zp hs++[(gd nm i,[])]) false:=by
 refine g.step (x:=.op (gd nm i)) (n.ok (by omega)) (fun _=>rfl) (by rw[ez,wi8];rfl) fun st q em=>?_
 show Z6 _ (opS _ _ _ _ _ _)/\(opS _ _ _ _ _ _).ms=_
 have hb:¬J0 (rs6 nm L) (some (gd nm i))=some ("bare":Str):=by
  rw[n.sort (by omega)]
  intro e
  have e:=Option.some.inj e
  unfold wn6 at e
  rw[if_neg h1] at e
  split at e
  ·exact absurd e (by decide)
  ·split at e
   ·exact absurd e (by decide)
   ·split at e <;> exact absurd e (by decide)
 rw[ns6.op (n.noframe hi) (by rw[n.sort (by omega)];simp) q.ne,wf8 q eh,xh0 q,if_neg hd,if_neg hb]
 obtain⟨p1,p2⟩:=q.puts (hs:=hs) (i:=z.length) (rule := "frame")
 exact⟨p1.ent,by rw[<-em];exact p2⟩
theorem N6.bare(n:N6 nm L)(g:G6 (rs6 nm L) (rk6 nm) z ms zs r)(eh:E4 (rs6 nm L) (J5 (zs.tail.map Prod.fst))=hs)(hd:¬20<zs.tail.length+hs.length+1)(ep:zs++zp hs=pre++[(a,ps)])(ez:z'.cps.toList=z.cps.toList++(My.opn (gd nm 1)).cps.toList):G6 (rs6 nm L) (rk6 nm) z' (ms++hs.map fun h=>⟨z.length,z.length,My.opn h, "frame"⟩) (pre++[(a,ps++[.nd (gd nm 1) []])]) false:=by
 refine g.step (x:=.op (gd nm 1)) (n.ok (by omega)) (fun _=>rfl) (by rw[ez,wi8];rfl) fun st q em=>?_
 show Z6 _ (opS _ _ _ _ _ _)/\(opS _ _ _ _ _ _).ms=_
 have hb:J0 (rs6 nm L) (some (gd nm 1))=some ("bare":Str):=by rw[n.sort (by omega)];rfl
 rw[ns6.op (n.noframe (by omega)) (by rw[hb];simp) q.ne,wf8 q eh,xh0 q,if_neg hd,if_pos hb]
 obtain⟨p1,p2⟩:=q.puts (hs:=hs) (i:=z.length) (rule := "frame")
 rw[ep] at p1
 exact⟨p1.ent.lv,by rw[<-em];exact p2⟩
theorem ze2(hp:wk9 t)(h1:1<=t.length):Pq.ok (.rn t t):=⟨yb5 fun c hc=>(hp c hc).1,h1,by rw[yn6 fun c hc=>(hp c hc).2,xt6]⟩
theorem G6.blank(g:G6 rs rk z ms zs false)(hp:wk9 t)(h1:1<=t.length)(hf:J0 rs (some (J5 (zs.tail.map Prod.fst)))=some ("frame":Str))(hb:wa2 t=true)(ez:z'.cps.toList=z.cps.toList++t.cps.toList):G6 rs rk z' (ms++[⟨z.length,z.length+t.length, "","blank"⟩]) zs true:=by
 refine g.step (x:=.rn t t) (ze2 hp h1) (fun e=>by cases e) ez fun st q em=>?_
 show Z6 zs (qk9 _ _ _ _ _)/\(qk9 _ _ _ _ _).ms=_
 unfold qk9
 rw[if_pos ⟨by rw[q.nms];exact hf,hb⟩]
 exact⟨⟨q.v,q.w,q.ne⟩,by show st.ms++[_]=_;rw[em]⟩
theorem G6.rdeep(g:G6 rs rk z ms zs false)(hp:wk9 t)(h1:1<=t.length)(hb:J0 rs (some (J5 (zs.tail.map Prod.fst)))=some ("frame":Str)->wa2 t=false)(eh:E4 rs (J5 (zs.tail.map Prod.fst))=hs)(hd:20<zs.tail.length+hs.length)(ez:z'.cps.toList=z.cps.toList++t.cps.toList):G6 rs rk z' (ms++[⟨z.length,z.length+t.length, "","deep"⟩]) zs true:=by
 refine g.step (x:=.rn t t) (ze2 hp h1) (fun e=>by cases e) ez fun st q em=>?_
 show Z6 zs (qk9 _ _ _ _ _)/\(qk9 _ _ _ _ _).ms=_
 rw[q.run hp fun e=>by rw[q.nms] at e;rw[hb e.1] at e;exact absurd e.2 (by decide),wf8 q eh,xh0 q,if_pos hd]
 exact⟨⟨q.v,q.w,q.ne⟩,by show st.ms++[_]=_;rw[em]⟩
theorem G6.run(g:G6 rs rk z ms zs false)(hp:wk9 t)(h1:1<=t.length)(hb:J0 rs (some (J5 (zs.tail.map Prod.fst)))=some ("frame":Str)->wa2 t=false)(eh:E4 rs (J5 (zs.tail.map Prod.fst))=hs)(hd:¬20<zs.tail.length+hs.length)(ep:zs++zp hs=pre++[(a,ps)])(ez:z'.cps.toList=z.cps.toList++t.cps.toList):G6 rs rk z' (ms++hs.map fun h=>⟨z.length,z.length,My.opn h, "host"⟩) (pre++[(a,adP ps t)]) true:=by
 refine g.step (x:=.rn t t) (ze2 hp h1) (fun e=>by cases e) ez fun st q em=>?_
 show Z6 _ (qk9 _ _ _ _ _)/\(qk9 _ _ _ _ _).ms=_
 rw[q.run hp fun e=>by rw[q.nms] at e;rw[hb e.1] at e;exact absurd e.2 (by decide),wf8 q eh,xh0 q,if_neg hd]
 obtain⟨p1,p2⟩:=q.puts (hs:=hs) (i:=z.length) (rule := "host")
 rw[ep] at p1
 exact⟨p1.tx,by rw[<-em];exact p2⟩
def Th6(nm there:List Str):Prop:=there.length<=20/\∀ x∈there,x=gd nm 0\/x=gd nm 2
theorem N6.last(n:N6 nm L)(h:Th6 nm there):E4 (rs6 nm L) (J5 there)=[]/\J0 (rs6 nm L) (some (J5 there))≠some ("frame":Str):=by
 cases there with
 | nil=>exact⟨n.root.1,by show J0 _ (some ("":Str))≠_;rw[n.root.2];simp⟩
 | cons x xs =>
   have hm:J5 (x::xs)∈x::xs:=qu7 (by simp)
   rcases h.2 _ hm with e|e <;> rw[e]
   ·exact⟨n.nohosts (by omega),by rw[n.sort (by omega)];exact fun e=>absurd (wa3.mp (Option.some.inj e)) (by omega)⟩
   ·exact⟨n.nohosts (by omega),by rw[n.sort (by omega)];exact fun e=>absurd (wa3.mp (Option.some.inj e)) (by omega)⟩
def mo6(nm:List Str)(way:Nat):Str:=if way=0 then "w" else if way=1 then " " else My.opn (gd nm 1)
def qm7(nm:List Str)(deep way:Nat):Str:=if 19<deep then(if way=1 then "<"++gd nm 3 ++ "> " else My.opn (gd nm 3)) else My.opn (gd nm 3)++mo6 nm way
def wb3(L deep way:Nat):Prop:=way=1\/20<deep+1+L+(if way=2 then 1 else 0)
instance (L deep way:Nat):Decidable (wb3 L deep way):=by unfold wb3;infer_instance
def xo4(nm:List Str)(way:Nat):Tr:=if way=0 then .tx "w" else .nd (gd nm 1) []
def ch6(nm:List Str)(L:Nat):List Str:=(nm.drop 3).take (L+1)
def U0(nm:List Str)(L deep way:Nat):List Tr:=if 19<deep then[] else if wb3 L deep way then[.nd (gd nm 3) []] else qa9 (ch6 nm L) [xo4 nm way]
def dm6(nm:List Str)(L deep way:Nat)(s:Int):List Mnd :=
 if 19<deep then[⟨s,s+(gd nm 3).length+2, "","deep"⟩] else
 if wb3 L deep way then[⟨s+(gd nm 3).length+2,s+(gd nm 3).length+2+(mo6 nm way).length, "",if way=1 then "blank" else "deep"⟩,⟨s+(gd nm 3).length+2+(mo6 nm way).length,s+(gd nm 3).length+2+(mo6 nm way).length,My.cls (gd nm 3), "end"⟩] else
 (ch6 nm L).tail.map (fun n=>⟨s+(gd nm 3).length+2,s+(gd nm 3).length+2,My.opn n,if way=0 then "host" else "frame"⟩)++(ch6 nm L).reverse.map fun n=>⟨s+(gd nm 3).length+2+(mo6 nm way).length,s+(gd nm 3).length+2+(mo6 nm way).length,My.cls n, "end"⟩
def xk9(deep way:Nat)(parts inner:List Tr):List Tr:=if 19<deep/\way=1 then adP parts " " else parts++inner
def en6(k:Nat)(ns:List Str):List Mnd:=ns.reverse.map fun n=>⟨k,k,My.cls n, "end"⟩
theorem N6.ch(n:N6 nm L):ch6 nm L=gd nm 3::(nm.drop 4).take L:=by
 have hl:3<nm.length:=by rw[n.l];omega
 unfold ch6
 rw[List.drop_eq_getElem_cons hl,List.take_succ_cons]
 congr 1
 have:=wm7 hl
 rw[List.getElem?_eq_getElem hl] at this
 exact Option.some.inj this
theorem Ab3:wk9 "w":=fun c hc=>by
 have:(("w":Str)).cps.toList=[119]:=rfl
 rw[this,List.mem_singleton] at hc;omega
theorem Ab4:wk9 " ":=fun c hc=>by
 have:((" ":Str)).cps.toList=[32]:=rfl
 rw[this,List.mem_singleton] at hc;omega
theorem Ac6:wk9 "x":=fun c hc=>by
 have:(("x":Str)).cps.toList=[120]:=rfl
 rw[this,List.mem_singleton] at hc;omega
theorem Ab5:wa2 "w"=false:=by decide +kernel
theorem Ac7:wa2 " "=true:=by decide +kernel
theorem wz3(l:List Str)(x:Str):J5 (l++[x])=x:=by
 unfold J5 gd
 rw[List.length_append,List.length_singleton,Nat.add_sub_cancel]
 simp
theorem xu0{zs:List (Str×List Tr)}{parts:List Tr}{ext:List (Str×List Tr)}(g:G6 (rs6 nm L) (rk6 nm) z ms (zT "" there parts++ext) r):rtS (rdS (rs6 nm L) (rk6 nm) z)=qa9 there (parts++qx1 ext)/\(rdS (rs6 nm L) (rk6 nm) z).ms=ms++(en6 z.length (ext.map Prod.fst)++en6 z.length there):=by
 obtain⟨p0,rest,h1,h2,h3⟩:=yo1 (ext:=ext) there "" parts
 rw[h1] at g
 obtain⟨f1,f2⟩:=g.fin ns6
 refine⟨by rw[f1,h2],?_⟩
 rw[f2,h3]
 unfold en6
 rw[List.reverse_append,List.map_append]
theorem N6.framed(n:N6 nm L)(h:Th6 nm there){way:Nat}(hw:way<3){parts:List Tr}(g:G6 (rs6 nm L) (rk6 nm) z ms (zT "" there parts) r)(ez:z'.cps.toList=z.cps.toList++(qm7 nm there.length way).cps.toList):rtS (rdS (rs6 nm L) (rk6 nm) z')=qa9 there (xk9 there.length way parts (U0 nm L there.length way))/\(rdS (rs6 nm L) (rk6 nm) z').ms=ms++dm6 nm L there.length way z.length++en6 z'.length there:=by
 have hol:=qt5 (gd nm 3)
 have eh:=(n.last h).1
 rw[<-qk0 there "" parts] at eh
 have htl:(zT "" there parts).tail.length=there.length:=by
  have:=congrArg List.length (qk0 there "" parts)
  rw[List.length_map] at this;exact this
 by_cases hd:19<there.length
 ·
  have g1:G6 (rs6 nm L) (rk6 nm) (z++My.opn (gd nm 3)) _ _ _:=n.deep g (i:=3) (by omega) eh (by rw[htl];simp;omega) (wa4 _ _)
  have ed:dm6 nm L there.length way z.length=[⟨z.length,z.length+(My.opn (gd nm 3)).length, "","deep"⟩]:=by
   unfold dm6
   rw[if_pos hd,hol,Int.add_assoc];rfl
  rw[ed]
  by_cases hw1:way=1
  ·obtain⟨pre,b,hz⟩:=yo0 there ""
   have g2:=G6.run (z':=z') g1 Ab4 (by decide) (fun e=>absurd (by rw[<-qk0 there "" parts];exact e) (n.last h).2) eh (by rw[htl];simp;have:=h.1;omega) (by rw[hz,zp,List.map_nil,List.append_nil]) (by
    rw[ez,wa4,qm7,if_pos hd,if_pos hw1,wi8]
    simp only[wa4]
    rw[show("<":Str).cps.toList=[60] from rfl,show("> ":Str).cps.toList=[62,32] from rfl,show(" ":Str).cps.toList=[32] from rfl]
    simp)
   rw[<-hz,List.map_nil,List.append_nil] at g2
   have:=xu0 (zs:=[]) (ext:=[]) (by rw[List.append_nil];exact g2)
   rw[show qx1 []=[] from rfl,List.append_nil] at this
   refine⟨by rw[this.1];unfold xk9;rw[if_pos ⟨hd,hw1⟩],?_⟩
   rw[this.2];rfl
  ·have g2:G6 (rs6 nm L) (rk6 nm) z' _ _ _:=n.deep g (i:=3) (by omega) eh (by rw[htl];simp;omega) (by rw[ez,qm7,if_pos hd,if_neg hw1])
   have:=xu0 (zs:=[]) (ext:=[]) (by rw[List.append_nil];exact g2)
   rw[show qx1 []=[] from rfl,List.append_nil] at this
   refine⟨by rw[this.1];unfold xk9;rw[if_neg (fun e=>hw1 e.2)];unfold U0;rw[if_pos hd,List.append_nil],?_⟩
   rw[this.2];rfl
 ·
  have g1:G6 (rs6 nm L) (rk6 nm) (z++My.opn (gd nm 3)) _ _ _:=n.opn g (i:=3) (by omega) (by omega) eh (by rw[htl];simp;omega) (wa4 _ _)
  rw[List.map_nil,List.append_nil,zp,List.map_nil,List.append_nil] at g1
  have et:((zT "" there parts++[(gd nm 3,[])]).tail.map Prod.fst)=there++[gd nm 3]:=ze1 there "" parts _
  have htl2:(zT "" there parts++[(gd nm 3,[])]).tail.length=there.length+1:=by
   have:=congrArg List.length et
   rw[List.length_map,List.length_append] at this;exact this
  have eh2:E4 (rs6 nm L) (J5 ((zT "" there parts++[(gd nm 3,[])]).tail.map Prod.fst))=(nm.drop 4).take L:=by rw[et,wz3];exact n.hosts
  have hs2:J0 (rs6 nm L) (some (J5 ((zT "" there parts++[(gd nm 3,[])]).tail.map Prod.fst)))=some ("frame":Str):=by
   rw[et,wz3,n.sort (by omega),ww2 (by omega) (by have:=n.l1;omega)]
  have hl:((nm.drop 4).take L).length=L:=by rw[List.length_take,List.length_drop,n.l];have:=n.l4;omega
  have el:(((z++My.opn (gd nm 3)).length:Nat):Int)=(z.length:Int)+(gd nm 3).length+2:=by
   rw[J8,hol];push_cast;omega
  have em:qm7 nm there.length way=My.opn (gd nm 3)++mo6 nm way:=if_neg hd
  have ez2:z'.cps.toList=(z++My.opn (gd nm 3)).cps.toList++(mo6 nm way).cps.toList:=by rw[ez,em,wa4,wa4,List.append_assoc]
  have el2:(z'.length:Int)=(z.length:Int)+(gd nm 3).length+2+(mo6 nm way).length:=by
   have:=congrArg List.length ez2
   rw[List.length_append,X2,X2,X2] at this
   rw[this];push_cast;rw[el]
  have el3:(z'.length:Int)=((z++My.opn (gd nm 3)).length:Int)+(mo6 nm way).length:=by rw[el2,el]
  have ef:xk9 there.length way parts (U0 nm L there.length way)=parts++U0 nm L there.length way:=if_neg fun e=>hd e.1
  have ei:U0 nm L there.length way=if wb3 L there.length way then[.nd (gd nm 3) []] else qa9 (ch6 nm L) [xo4 nm way]:=if_neg hd
  have ed:dm6 nm L there.length way z.length=if wb3 L there.length way then _ else _:=if_neg hd
  rw[ef,ei,ed,<-el2,<-el]
  by_cases hs:wb3 L there.length way
  ·rw[if_pos hs,if_pos hs]
   have fin:∀ r,G6 (rs6 nm L) (rk6 nm) z' (ms++[⟨(z++My.opn (gd nm 3)).length,(z++My.opn (gd nm 3)).length+(mo6 nm way).length, "",if way=1 then "blank" else "deep"⟩]) (zT "" there parts++[(gd nm 3,[])]) r->rtS (rdS (rs6 nm L) (rk6 nm) z')=qa9 there (parts++[.nd (gd nm 3) []])/\(rdS (rs6 nm L) (rk6 nm) z').ms=ms++[⟨(z++My.opn (gd nm 3)).length,z'.length, "",if way=1 then "blank" else "deep"⟩,⟨z'.length,z'.length,My.cls (gd nm 3), "end"⟩]++en6 z'.length there:=fun r g2=>by
    obtain⟨f1,f2⟩:=xu0 (zs:=[]) g2
    refine⟨by rw[f1];rfl,?_⟩
    rw[f2,<-el3]
    unfold en6
    simp
   obtain rfl|rfl|rfl:way=0\/way=1\/way=2:=by omega
   ·exact fin _ (g1.rdeep (t := "w") Ab3 (by decide) (fun _=>Ab5) eh2 (by rw[htl2,hl];simp[wb3] at hs;omega) ez2)
   ·exact fin _ (g1.blank (t := " ") Ab4 (by decide) hs2 Ac7 ez2)
   ·exact fin _ (n.deep (i:=1) g1 (by omega) eh2 (by rw[htl2,hl];simp[wb3] at hs;omega) ez2)
  ·rw[if_neg hs,if_neg hs]
   have hne:(nm.drop 4).take L≠[]:=fun e=>by have:=n.l1;rw[e] at hl;simp at hl;omega
   obtain⟨hi,h',e'⟩:∃ hi h',(nm.drop 4).take L=hi++[h']:=⟨_,_,(List.dropLast_concat_getLast hne).symm⟩
   have ep:zT "" there parts++[(gd nm 3,[])]++zp ((nm.drop 4).take L)=(zT "" there parts++zp (gd nm 3::hi))++[(h',[])]:=by
    rw[e'];simp[zp]
   have fin:∀ r,G6 (rs6 nm L) (rk6 nm) z' (ms++((nm.drop 4).take L).map fun h=>⟨(z++My.opn (gd nm 3)).length,(z++My.opn (gd nm 3)).length,My.opn h,if way=0 then "host" else "frame"⟩) ((zT "" there parts++zp (gd nm 3::hi))++[(h',[xo4 nm way])]) r->rtS (rdS (rs6 nm L) (rk6 nm) z')=qa9 there (parts++qa9 (ch6 nm L) [xo4 nm way])/\(rdS (rs6 nm L) (rk6 nm) z').ms=ms++((ch6 nm L).tail.map (fun n=>⟨(z++My.opn (gd nm 3)).length,(z++My.opn (gd nm 3)).length,My.opn n,if way=0 then "host" else "frame"⟩)++(ch6 nm L).reverse.map fun n=>⟨z'.length,z'.length,My.cls n, "end"⟩)++en6 z'.length there:=fun r g2=>by
    rw[List.append_assoc] at g2
    obtain⟨f1,f2⟩:=xu0 (zs:=[]) g2
    have ec:ch6 nm L=gd nm 3::hi++[h']:=by rw[n.ch,e'];rfl
    refine⟨?_,?_⟩
    ·rw[f1,yb7,ec,xo3];rfl
    ·rw[f2,n.ch,e']
     unfold en6
     simp[zp]
   obtain rfl|rfl|rfl:way=0\/way=1\/way=2:=by omega
   ·exact fin _ (g1.run (t := "w") Ab3 (by decide) (fun _=>Ab5) eh2 (by rw[htl2,hl];simp[wb3] at hs;omega) ep ez2)
   ·exact absurd (.inl rfl) hs
   ·exact fin _ (n.bare g1 eh2 (by rw[htl2,hl];simp[wb3] at hs;omega) ep ez2)
end
theorem zm1{m:Mnd}(h:H p=some (.tup [.int m.s,.int m.e,.str m.t,.str m.r])):Dv K H m.da (.ref p):=D7.mpr ⟨p,_,rfl,SqT.of h,C3 (O6.mpr rfl) (C3 (O6.mpr rfl) (C3 (E6.mpr rfl) (C3 (E6.mpr rfl) J4)))⟩
def TpD(K:Fg)(H:Hp)(v:V)(ps:List Tr):Prop:=∃ l us,v=.ref l/\SqT K H l us/\Dvs K H (Tr.das ps) us
theorem TpD.same(h:TpD K H v ps)(s:A6 H H'):TpD K H' v ps:=by
 obtain⟨l,us,e,h1,h2⟩:=h
 exact⟨l,us,e,s.sqT h1,Dvs.same s _ _ h2⟩
theorem TpD.nil(h:H p=some (.tup [])):TpD K H (.ref p) []:=⟨p,[],rfl,SqT.of h,by rw[Tr.das];exact J4⟩
theorem TpD.one{t:Tr}(h:H p=some (.tup [v]))(hv:Dv K H t.da v):TpD K H (.ref p) [t]:=⟨p,_,rfl,SqT.of h,wf7 (w:=[]) (us:=[]) (by rw[Tr.das];exact J4) hv⟩
theorem TpD.nd(h:TpD K H v ps)(hp:H p=some (.tup [.str n,v])):Dv K H (Tr.nd n ps).da (.ref p):=by
 obtain⟨l,us,rfl,h1,h2⟩:=h
 exact za4 (SqT.of hp) h1 h2
def qg0(K:Fg):Sp:=fun vs H Q _=>∃ (a:Addr) (ns:List Str) (v:V) (ps:List Tr),vs=[.ref a,v]/\SqL K H a (B7 ns)/\TpD K H v ps/\∀ v' H',TpD K H' v' (qa9 ns ps)->A6 H H'->Q v' H'
def qt6(K:Fg):TS :=
 (C1 (qm8 (xy0 K (A1 (A3 0) A8)) (B1 2)
 (E1 (M5 (A1 (M5 (A1 (A3 2) (A1 (A3 1) A8))) A8)) (B1 1)))
 (L6 (A3 1)))
theorem xu1(h:qg0 K vs H Q E):qt6 K {nx:=fun _ H'=>Q .non H',rt:=Q} (D8 ["_law_names_here","_law_parts","_law_name"] vs) H:=by
 obtain⟨a,ns,v,ps,rfl,ha,hv,q⟩:=h
 show qt6 K _ [some (.ref a),some v,none] H
 unfold qt6
 lk
 refine xe1 ha (fun j σ H'=>∃ v' x,σ=[some (.ref a),some v',x]/\TpD K H' v' (qa9 (ns.drop (ns.length-j)) ps)/\A6 H H') ⟨v,none,rfl,by rw[Nat.sub_zero,List.drop_length];exact hv,A6.refl H⟩ ?_ ?_ ?_
 ·rintro j σ H' ⟨v',x,rfl,_,s⟩;exact s.sqL ha
 ·rintro j u σ H' hu hj ⟨v',x,rfl,hv',s⟩
  rw[B4] at hu hj
  obtain⟨y,hy,rfl⟩:=V5 hu
  refine E5 ?_
  lk
  refine⟨D4 (by z_go),fun p hp=>?_⟩
  lk
  refine⟨D4 (by z_go),fun p2 hp2=>?_⟩
  lk
  have s1:=A6.new hp (.tup [.str y,v'])
  have s2:=A6.new hp2 (.tup [.ref p])
  refine⟨_,_,rfl,?_,A6.tr s (A6.tr s1 s2)⟩
  have e:qa9 (ns.drop (ns.length-(j+1))) ps=[Tr.nd y (qa9 (ns.drop (ns.length-j)) ps)]:=by
   obtain⟨hl,hy2⟩:=List.getElem?_eq_some_iff.mp hy
   rw[show ns.length-(j+1)=ns.length-1-j by omega,List.drop_eq_getElem_cons hl,hy2,show ns.length-1-j+1=ns.length-j by omega];rfl
  rw[e]
  exact TpD.one A5 (((hv'.same s1).same s2).nd (s2 _ _ A5))
 ·rintro σ H' ⟨v',x,rfl,hv',s⟩
  rw[B4,Nat.sub_self,List.drop_zero] at hv'
  lk
  exact q _ _ hv' s
variable{h:Str}
theorem zm2{c:Addr}(hp:H p=some (.tup [.str x,.str s,.str h,.ref a,.ref c]))(ha:H a=some (.tup []))(hc:H c=some (.tup [])):Dv K H (Row.da ⟨x,s,h,[],[]⟩) (.ref p) :=
 D7.mpr ⟨p,_,rfl,SqT.of hp,C3 (E6.mpr rfl) (C3 (E6.mpr rfl) (C3 (E6.mpr rfl) (C3 (D7.mpr ⟨a,_,rfl,SqT.of ha,qr8.mpr rfl⟩) (C3 (D7.mpr ⟨c,_,rfl,SqT.of hc,qr8.mpr rfl⟩) J4))))⟩
theorem wr9{c:Addr}(h1:H a=none)(h2:(upd H a (.tup [])) c=none)(h3:(upd (upd H a (.tup [])) c (.tup [])) p=none):Dv K (upd (upd (upd H a (.tup [])) c (.tup [])) p (.tup [.str x,.str s,.str h,.ref a,.ref c])) (Row.da ⟨x,s,h,[],[]⟩) (.ref p)/\A6 H (upd (upd (upd H a (.tup [])) c (.tup [])) p (.tup [.str x,.str s,.str h,.ref a,.ref c])):=by
 have s1:=A6.new h1 (.tup [])
 have s2:=A6.new h2 (.tup [])
 have s3:=A6.new h3 (.tup [.str x,.str s,.str h,.ref a,.ref c])
 exact⟨zm2 A5 (s3 _ _ (s2 _ _ A5)) (s3 _ _ A5),A6.tr (A6.tr s1 s2) s3⟩
abbrev wl0(K:Fg):TS :=
 (I0 (tBM K "list" I9 (A3 2) (A1 (M5 (A1 (tOp (L1 K) (A3 0) (tOp (D2 K) (tC (.int 3)) (A3 3))) (A1 (tC (.str "frame")) (A1 (tOp (L1 K) (A3 0) (tOp (D2 K) (tC (.int 4)) (A3 3))) (A1 (M5 A8) (A1 (M5 A8) A8)))))) A8)))
abbrev wl1(K:Fg):TS :=
 (C1 (I0 (tBM K "list" I9 (A3 2) (A1 (M5 (A1 (tOp (L1 K) (A3 0) (tOp (D2 K) (tC (.int 3)) (A3 1))) (A1 (tC (.str "plain")) (A1 (tC (.str "")) (A1 (M5 A8) (A1 (M5 A8) A8)))))) A8)))
 (L6 (tCB (qn0 K) (A1 (A3 2) A8))))
def qo7(K:Fg):Sp:=fun vs H Q _=>∃ (d:Addr) (nm:List Str) (L:Nat),vs=[.ref d,.int L]/\H d=some (.lst (B7 nm))/\nm.length=12/\1<=L/\L<=4/\∀ v H',BkO K H' v (rs6 nm L)->A6 H H'->Q v H'
def qt7(K:Fg):TS :=
 (C1 (E1 (qb5 (A1 (M5 (A1 (tOp (L1 K) (A3 0) (tC (.int 0))) (A1 (tC (.str "plain")) (A1 (tC (.str "")) (A1 (M5 A8) (A1 (M5 A8) A8)))))) (A1 (M5 (A1 (tOp (L1 K) (A3 0) (tC (.int 1))) (A1 (tC (.str "bare")) (A1 (tC (.str "")) (A1 (M5 A8) (A1 (M5 A8) A8)))))) (A1 (M5 (A1 (tOp (L1 K) (A3 0) (tC (.int 2))) (A1 (tC (.str "room")) (A1 (tC (.str "")) (A1 (M5 A8) (A1 (M5 A8) A8)))))) A8)))) (B1 2))
 (C1 (qm8 (xl7 (A1 (A3 1) A8)) (B1 3)
 (wl0 K))
 (wl1 K)))
theorem xu2(h:qo7 K vs H Q E):qt7 K {nx:=fun _ H'=>Q .non H',rt:=Q} (D8 ["_law_names_here","_law_long","_law_rows","_law_k"] vs) H:=by
 obtain⟨d,nm,L,rfl,hd,h12,h1,h4,q⟩:=h
 show qt7 K _ [some (.ref d),some (.int L),none,none] H
 unfold qt7
 lk
 refine M1 (SqL.of hd) (qb2 (i:=0) (by omega)) ?_
 lk
 refine⟨D4 (by z_go),fun a1 ha1=>?_⟩
 lk
 refine⟨D4 (by z_go),fun c1 hc1=>?_⟩
 lk
 refine⟨D4 (by z_go),fun p1 hp1=>?_⟩
 obtain⟨dr1,t1⟩:=wr9 (K:=K) (x:=gd nm 0) (s := "plain") (h := "") ha1 hc1 hp1
 generalize upd (upd (upd H a1 (.tup [])) c1 (.tup [])) p1 (.tup [.str (gd nm 0),.str "plain",.str "",.ref a1,.ref c1])=G1 at *
 have hd1:=t1 _ _ hd
 lk
 refine M1 (SqL.of hd1) (qb2 (i:=1) (by omega)) ?_
 lk
 refine⟨D4 (by z_go),fun a2 ha2=>?_⟩
 lk
 refine⟨D4 (by z_go),fun c2 hc2=>?_⟩
 lk
 refine⟨D4 (by z_go),fun p2 hp2=>?_⟩
 obtain⟨dr2,t2⟩:=wr9 (K:=K) (x:=gd nm 1) (s := "bare") (h := "") ha2 hc2 hp2
 generalize upd (upd (upd G1 a2 (.tup [])) c2 (.tup [])) p2 (.tup [.str (gd nm 1),.str "bare",.str "",.ref a2,.ref c2])=G2 at *
 have hd2:=t2 _ _ hd1
 lk
 refine M1 (SqL.of hd2) (qb2 (i:=2) (by omega)) ?_
 lk
 refine⟨D4 (by z_go),fun a3 ha3=>?_⟩
 lk
 refine⟨D4 (by z_go),fun c3 hc3=>?_⟩
 lk
 refine⟨D4 (by z_go),fun p3 hp3=>?_⟩
 obtain⟨dr3,t3⟩:=wr9 (K:=K) (x:=gd nm 2) (s := "room") (h := "") ha3 hc3 hp3
 generalize upd (upd (upd G2 a3 (.tup [])) c3 (.tup [])) p3 (.tup [.str (gd nm 2),.str "room",.str "",.ref a3,.ref c3])=G3 at *
 have hd3:=t3 _ _ hd2
 lk
 refine⟨D4 (by z_go),fun R hR=>?_⟩
 have s4:=A6.new hR (.lst [.ref p1,.ref p2,.ref p3])
 have d3:Dvs K (upd G3 R (.lst [.ref p1,.ref p2,.ref p3])) (((List.range 3).map (r6 nm L)).map Row.da) [.ref p1,.ref p2,.ref p3] :=
  C3 (Dv.same (A6.tr (A6.tr t2 t3) s4) _ _ dr1) (C3 (Dv.same (A6.tr t3 s4) _ _ dr2) (C3 (Dv.same s4 _ _ dr3) J4))
 have hRR:(upd G3 R (.lst [.ref p1,.ref p2,.ref p3])) R=_:=A5
 have hdR:=s4 _ _ hd3
 have sA:=A6.tr (A6.tr (A6.tr t1 t2) t3) s4
 have hRn:H R=none:=A6.grow (A6.tr (A6.tr t1 t2) t3) _ hR
 generalize upd G3 R (.lst [.ref p1,.ref p2,.ref p3])=G4 at *
 lk
 refine wp4 (by omega) (by omega) (fun k σ H'=>∃ us x,σ=[some (.ref d),some (.int L),some (.ref R),x]/\A6 H H'/\H' R=some (.lst us)/\Dvs K H' (((List.range (3+k)).map (r6 nm L)).map Row.da) us) ⟨_,none,rfl,sA,hRR,d3⟩ ?_ ?_
 ·rintro k σ H' hk ⟨us,x,rfl,s,hR',dd⟩
  have hdk:=s _ _ hd
  have hul:us.length=3+k:=by have:=dd.length;rw[List.length_map,List.length_map,List.length_range] at this;exact this
  refine E5 ?_
  show wl0 K _ _ _
  lk
  refine⟨.inl ⟨rfl,_,SqL.of hR'⟩,?_⟩
  lk
  refine M1 (SqL.of hdk) (by have:=qb2 (xs:=nm) (i:=3+k) (by omega);rw[Int.natCast_add] at this;exact this) ?_
  lk
  refine M1 (SqL.of hdk) (by have:=qb2 (xs:=nm) (i:=4+k) (by omega);rw[Int.natCast_add] at this;exact this) ?_
  lk
  refine⟨D4 (by z_go),fun a4 ha4=>?_⟩
  lk
  refine⟨D4 (by z_go),fun c4 hc4=>?_⟩
  lk
  refine⟨D4 (by z_go),fun p4 hp4=>?_⟩
  obtain⟨dr4,t4⟩:=wr9 (K:=K) (x:=gd nm (3+k)) (s := "frame") (h:=gd nm (4+k)) ha4 hc4 hp4
  generalize upd (upd (upd H' a4 (.tup [])) c4 (.tup [])) p4 (.tup [.str (gd nm (3+k)),.str "frame",.str (gd nm (4+k):Str),.ref a4,.ref c4])=G5 at *
  lk
  refine M8 (t4 _ _ hR') (by rw[hul,sizeLine_eq];omega) ?_
  have tk:U8 G5 (upd G5 R (.lst (us++[.ref p4]))):=O7 (.inl ⟨_,t4 _ _ hR'⟩)
  refine⟨_,_,rfl,A6.put (A6.tr s t4) hRn _,A5,?_⟩
  rw[show 3+(k+1)=3+k+1 by omega,List.range_succ,List.map_append,List.map_append]
  have er:r6 nm L (3+k)=⟨gd nm (3+k), "frame",gd nm (4+k),[],[]⟩:=by
   unfold r6
   rw[ww2 (by omega) (by omega),if_pos (by omega),show 3+k+1=4+k by omega]
  refine Dvs.append (Dvs.tupK tk _ _ (Q0 Row.fix _) (Dvs.same t4 _ _ dd)) (Dvs.one (Dv.tupK tk _ _ (Row.fix _) ?_))
  rw[er];exact dr4
 ·rintro σ H' ⟨us,x,rfl,s,hR',dd⟩
  rw[Int.toNat_natCast] at dd
  have hdk:=s _ _ hd
  have hul:us.length=3+L:=by have:=dd.length;rw[List.length_map,List.length_map,List.length_range] at this;exact this
  show wl1 K _ _ _
  lk
  refine⟨.inl ⟨rfl,_,SqL.of hR'⟩,?_⟩
  lk
  refine M1 (SqL.of hdk) (by have:=qb2 (xs:=nm) (i:=3+L) (by omega);rw[Int.natCast_add] at this;exact this) ?_
  lk
  refine⟨D4 (by z_go),fun a5 ha5=>?_⟩
  lk
  refine⟨D4 (by z_go),fun c5 hc5=>?_⟩
  lk
  refine⟨D4 (by z_go),fun p5 hp5=>?_⟩
  obtain⟨dr5,t5⟩:=wr9 (K:=K) (x:=gd nm (3+L)) (s := "plain") (h := "") ha5 hc5 hp5
  generalize upd (upd (upd H' a5 (.tup [])) c5 (.tup [])) p5 (.tup [.str (gd nm (3+L)),.str "plain",.str "",.ref a5,.ref c5])=G5 at *
  lk
  refine M8 (t5 _ _ hR') (by rw[hul,sizeLine_eq];omega) ?_
  have tk:U8 G5 (upd G5 R (.lst (us++[.ref p5]))):=O7 (.inl ⟨_,t5 _ _ hR'⟩)
  have hs:=A6.put (A6.tr s t5) hRn (.lst (us++[.ref p5]))
  lk
  refine⟨_,_,rfl,.inl ⟨SqL.of A5,fun l hl=>?_⟩⟩
  have sl:=A6.new hl (.tup (us++[.ref p5]))
  refine q _ _ ⟨l,_,rfl,SqT.of A5,Dvs.same sl _ _ ?_⟩ (A6.tr hs sl)
  unfold rs6
  rw[show L+4=3+L+1 by omega,List.range_succ,List.map_append,List.map_append]
  have er:r6 nm L (3+L)=⟨gd nm (3+L), "plain","",[],[]⟩:=by
   unfold r6 wn6
   rw[if_neg (by omega),if_neg (by omega),if_neg (by omega),if_neg (by omega),if_neg (by omega)]
  refine Dvs.append (Dvs.tupK tk _ _ (Q0 Row.fix _) (Dvs.same t5 _ _ dd)) (Dvs.one (Dv.tupK tk _ _ (Row.fix _) ?_))
  rw[er];exact dr5
structure M6(K:Fg)(H0 H:Hp)(M:Addr)(ms:List Mnd):Prop where
 s:A6 H0 H
 m:∃ us,H M=some (.lst us)/\Dvs K H (ms.map Mnd.da) us
 n:H0 M=none
section
variable{H0 H':Hp}{M p:Addr}{ms:List Mnd}
theorem M6.same(a:M6 K H0 H M ms)(s:A6 H H'):M6 K H0 H' M ms:=by
 obtain⟨us,m1,m2⟩:=a.m
 exact⟨A6.tr a.s s,⟨us,s _ _ m1,Dvs.same s _ _ m2⟩,a.n⟩
theorem M6.upd(a:M6 K H0 H M ms)(hp:H0 p=none)(hm:ys9 H p)(n:M≠p):M6 K H0 (L2.upd H p o) M ms:=by
 obtain⟨us,m1,m2⟩:=a.m
 exact⟨A6.put a.s hp _,⟨us,E8 m1 n,Dvs.tupK (O7 hm) _ _ (Q0 Mnd.fix _) m2⟩,a.n⟩
theorem M6.app{s e:Int}{r:Str}(a:M6 K H0 H M ms)(hl:ms.length<=1000000)(hp:H p=none)(q:∀ H',M6 K H0 H' M (ms++[⟨s,e,t,r⟩])->But [M] H H'->U8 H H'->Q .non H'):I9 (.ref M) [.ref p] (L2.upd H p (.tup [.int s,.int e,.str t,.str r])) Q:=by
 obtain⟨us,m1,m2⟩:=a.m
 have s7:=A6.new hp (.tup [.int s,.int e,.str t,.str r])
 have dp:Dv K (L2.upd H p (.tup [.int s,.int e,.str t,.str r])) (Mnd.da ⟨s,e,t,r⟩) (.ref p):=zm1 A5
 have hul:us.length=ms.length:=by have:=m2.length;rw[List.length_map] at this;exact this
 have m3:=Dvs.same s7 _ _ m2
 have m4:=s7 _ _ m1
 generalize L2.upd H p (.tup [.int s,.int e,.str t,.str r])=H1 at *
 have tk:U8 H1 (L2.upd H1 M (.lst (us++[.ref p]))):=O7 (.inl ⟨_,m4⟩)
 refine M8 m4 (by rw[hul,sizeLine_eq];omega) (q _ ⟨A6.put (A6.tr a.s s7) a.n _,⟨_,A5,?_⟩,a.n⟩ (fun c o e n=>?_) ⟨fun b xs e=>tk.1 b xs (s7.tupK.1 b xs e),fun b o xs e=>tk.2 b o xs (s7.tupK.2 b o xs e)⟩)
 ·refine Dvs.tupK tk _ _ (Q0 Mnd.fix _) ?_
  rw[List.map_append]
  exact Dvs.append m3 (Dvs.one dp)
 ·rw[B9 (fun z=>n (by rw[z];simp))];exact s7 _ _ e
end
theorem xo5(h:x.length<=8)(q:Q (.str (("<":Str)++x)) H):D2 K (.str "<") (.str x) H Q:=T1 (by rw[sizeLine_eq];show 1+_<=_;omega) q
theorem yb8(h:x.length<=8)(q:Q (.str (opn x)) H):D2 K (.str (("<":Str)++x)) (.str ">") H Q:=T1 (by rw[sizeLine_eq,J8];show 1+_+1<=_;omega) q
theorem ze3(h:x.length<=8)(q:Q (.str (("</":Str)++x)) H):D2 K (.str "</") (.str x) H Q:=T1 (by rw[sizeLine_eq];show 2+_<=_;omega) q
theorem ze4(h:x.length<=8)(q:Q (.str (cls x)) H):D2 K (.str (("</":Str)++x)) (.str ">") H Q:=T1 (by rw[sizeLine_eq,J8];show 2+_+1<=_;omega) q
theorem Ab6(h:x.length<=8)(q:Q (.str (("<":Str)++x ++ "> ")) H):D2 K (.str (("<":Str)++x)) (.str "> ") H Q:=T1 (by rw[sizeLine_eq,J8];show 1+_+2<=_;omega) q
theorem wb4(h:x.length<=10000)(q:Q (.int (x.length:Int)) H):L5 K [.str x] H Q:=yf8 (by rw[sizeLine_eq];omega) q
variable{L:Nat}
theorem ze5{nm:List Str}(h:x∈ch6 nm L):x∈nm:=List.mem_of_mem_drop (List.mem_of_mem_take h)
theorem zm3{i:Nat}(h1:i<=c)(h2:c<=xs.length):qe7 xs (some (i:Int)) (some (c:Int))=(xs.drop i).take (c-i):=by
 have e1:HT.sIx xs.length 0 (some (i:Int))=i:=by rw[HT.qj3];omega
 have e2:HT.sIx xs.length xs.length (some (c:Int))=c:=by rw[HT.qj3];omega
 unfold qe7
 rw[e1,e2]
theorem yu0(n:Nat)(h:n<=xs.length):qe7 xs (some (n:Int)) none=xs.drop n:=by
 unfold qe7
 rw[HT.qj3]
 show(xs.drop (min n xs.length)).take (xs.length-min n xs.length)=_
 rw[Nat.min_eq_left h,List.take_of_length_le (by rw[List.length_drop];exact Nat.le_refl _)]
theorem zv7{nm:List Str}(h12:nm.length=12)(h4:L<=4):qe7 (B7 nm) (some 3) (some (4+(L:Int)))=B7 (ch6 nm L):=by
 have:=zm3 (xs:=B7 nm) (i:=3) (c:=4+L) (by omega) (by rw[B4];omega)
 rw[Int.natCast_add] at this
 rw[show(4:Int)+(L:Int)=((4:Nat):Int)+(L:Int) from rfl,show(3:Int)=((3:Nat):Int) from rfl,this]
 unfold B7 ch6
 rw[show 4+L-3=L+1 by omega,List.map_take,List.map_drop]
theorem yo2{nm:List Str}(h12:nm.length=12):ch6 nm L=gd nm 3::(nm.drop 4).take L:=by
 have hl:3<nm.length:=by omega
 unfold ch6
 rw[List.drop_eq_getElem_cons hl,List.take_succ_cons]
 congr 1
 have:=wm7 hl
 rw[List.getElem?_eq_getElem hl] at this
 exact Option.some.inj this
abbrev wb5(K:Fg):TS :=
 (L6 (M5 (A1 (tOp (L1 K) (qb5 (A1 (tOp (D2 K) (tOp (D2 K) (tC (.str "<")) (tOp (L1 K) (A3 6) (tC (.int 0)))) (tC (.str ">"))) (A1 (tOp (D2 K) (tOp (D2 K) (tC (.str "<")) (tOp (L1 K) (A3 6) (tC (.int 0)))) (tC (.str "> "))) (A1 (tOp (D2 K) (tOp (D2 K) (tC (.str "<")) (tOp (L1 K) (A3 6) (tC (.int 0)))) (tC (.str ">"))) A8)))) (A3 3)) (A1 (M5 A8) A8))))
abbrev wb6(K:Fg):TS :=
 (C1 (I0 (tBM K "list" I9 (A3 5) (A1 (M5 (A1 (A3 7) (A1 (tOp (D2 K) (tOp (D2 K) (A3 7) (tCB (L5 K) (A1 (tOp (L1 K) (A3 6) (tC (.int 0))) A8))) (tC (.int 2))) (A1 (tC (.str "")) (A1 (tC (.str "deep")) A8))))) A8)))
 (wb5 K))
abbrev xb0(K:Fg):TS :=
 (L6 (M5 (A1 (A3 4) (A1 (M5 (A1 (M5 (A1 (tOp (L1 K) (A3 6) (tC (.int 0))) (A1 (M5 A8) A8))) A8)) A8))))
abbrev xb1(K:Fg):TS :=
 (C1 (I0 (tBM K "list" I9 (A3 5) (A1 (M5 (A1 (A3 9) (A1 (A3 9) (A1 (tOp (D2 K) (tOp (D2 K) (tC (.str "</")) (tOp (L1 K) (A3 6) (tC (.int 0)))) (tC (.str ">"))) (A1 (tC (.str "end")) A8))))) A8)))
 (xb0 K))
abbrev wb7(K:Fg):TS :=
 (C1 (I0 (tBM K "list" I9 (A3 5) (A1 (M5 (A1 (A3 7) (A1 (A3 9) (A1 (tC (.str "")) (A1 (tOp (L1 K) (qb5 (A1 (tC (.str "deep")) (A1 (tC (.str "blank")) A8))) (tCB xw8 (A1 (tOp (X3 K) (A3 3) (tC (.int 1))) A8))) A8))))) A8)))
 (xb1 K))
abbrev wb8(K:Fg):TS :=
 (I0 (tBM K "list" I9 (A3 5) (A1 (M5 (A1 (A3 7) (A1 (A3 7) (A1 (tOp (D2 K) (tOp (D2 K) (tC (.str "<")) (A3 11)) (tC (.str ">"))) (A1 (tOp (L1 K) (qb5 (A1 (tC (.str "host")) (A1 (tC (.str "")) (A1 (tC (.str "frame")) A8)))) (A3 3)) A8))))) A8)))
abbrev wb9(K:Fg):TS :=
 (I0 (tBM K "list" I9 (A3 5) (A1 (M5 (A1 (A3 9) (A1 (A3 9) (A1 (tOp (D2 K) (tOp (D2 K) (tC (.str "</")) (A3 11)) (tC (.str ">"))) (A1 (tC (.str "end")) A8))))) A8)))
abbrev wc0(K:Fg):TS :=
 (L6 (M5 (A1 (A3 4) (A1 (D3 (qg0 K) [] E0 (A1 (A3 6) (A1 (M5 (A1 (tOp (L1 K) (qb5 (A1 (tC (.str "w")) (A1 (tC (.str "")) (A1 (M5 (A1 (tOp (L1 K) (A3 0) (tC (.int 1))) (A1 (M5 A8) A8))) A8)))) (A3 3)) A8)) A8))) A8))))
abbrev wc1(K:Fg):TS :=
 (C1 (qm8 (wj0 K (tSl (wm2 K) (A3 6) (W1 (tC (.int 1))) qc3)) (B1 11)
 (wb8 K))
 (C1 (qm8 (xy0 K (A1 (A3 6) A8)) (B1 11)
 (wb9 K))
 (wc0 K)))
abbrev wc2(K:Fg):TS :=
 (C1 (S3 (tOr (G0 (tOp (X3 K) (A3 3) (tC (.int 1)))) (G0 (tOp wt5 (A3 10) (tC (.int 20)))))
 (wb7 K) O8)
 (wc1 K))
abbrev ww3(K:Fg):TS :=
 (C1 (E1 (tOp (D2 K) (tOp (D2 K) (tOp (D2 K) (A3 2) (tC (.int 1))) (A3 1)) (tCB xw8 (A1 (tOp (X3 K) (A3 3) (tC (.int 2))) A8))) (B1 10))
 (wc2 K))
abbrev ww4(K:Fg):TS :=
 (C1 (E1 (tOp (D2 K) (A3 7) (tCB (L5 K) (A1 (A3 8) A8))) (B1 9))
 (ww3 K))
abbrev ww5(K:Fg):TS :=
 (C1 (E1 (tOp (D2 K) (tOp (D2 K) (tOp (D2 K) (tC (.str "<")) (tOp (L1 K) (A3 6) (tC (.int 0)))) (tC (.str ">"))) (A3 8)) (B1 4))
 (ww4 K))
abbrev ww6(K:Fg):TS :=
 (C1 (E1 (tOp (L1 K) (qb5 (A1 (tC (.str "w")) (A1 (tC (.str " ")) (A1 (tOp (D2 K) (tOp (D2 K) (tC (.str "<")) (tOp (L1 K) (A3 0) (tC (.int 1)))) (tC (.str ">"))) A8)))) (A3 3)) (B1 8))
 (ww5 K))
abbrev qx2(K:Fg):TS :=
 (C1 (E1 (tOp (D2 K) (tOp (D2 K) (A3 7) (tCB (L5 K) (A1 (tOp (L1 K) (A3 6) (tC (.int 0))) A8))) (tC (.int 2))) (B1 7))
 (ww6 K))
abbrev qx3(K:Fg):TS :=
 (C1 (S3 (G0 (tOp wt5 (A3 2) (tC (.int 19))))
 (wb6 K) O8)
 (qx2 K))
def qg1(K:Fg):Sp:=fun vs H Q _=>∃ (d M:Addr) (nm:List Str) (L deep way:Nat) (z:Str) (us:List V) (ms:List Mnd),vs=[.ref d,.int (L:Int),.int (deep:Int),.int (way:Int),.str z,.ref M]/\H d=some (.lst (B7 nm))/\nm.length=12/\(∀ x∈nm,x.length<=8)/\1<=L/\L<=4/\deep<=20/\way<3/\z.length<=5000/\H M=some (.lst us)/\Dvs K H (ms.map Mnd.da) us/\ms.length<=100000/\M≠d/\∀ p iv us' H',SqT K H' p [.str (qm7 nm deep way),iv]->TpD K H' iv (U0 nm L deep way)->H' M=some (.lst us')->Dvs K H' ((ms++dm6 nm L deep way z.length).map Mnd.da) us'->But [M] H H'->Q (.ref p) H'
def qk1(K:Fg):TS :=
 (C1 (E1 (tSl (wm2 K) (A3 0) (W1 (tC (.int 3))) (W1 (tOp (D2 K) (tC (.int 4)) (A3 1)))) (B1 6))
 (C1 (E1 (tCB (L5 K) (A1 (A3 4) A8)) (B1 7))
 (qx3 K)))
theorem xh1(h:qg1 K vs H Q E):qk1 K {nx:=fun _ H'=>Q .non H',rt:=Q} (D8 ["_law_names_here","_law_long","_law_deep","_law_way","_law_text","_law_mends","_law_chain","_law_start","_law_more","_law_stop","_law_wide","_law_name"] vs) H:=by
 obtain⟨d,M,nm,L,deep,way,z,us,ms,rfl,hd,h12,h8,h1,h4,hdp,hw,hz,hM,hmd,hml,nMd,q⟩:=h
 show qk1 K _ [some (.ref d),some (.int (L:Int)),some (.int (deep:Int)),some (.int (way:Int)),some (.str z),some (.ref M),none,none,none,none,none,none] H
 unfold qk1
 have a0:M6 K (rml H [M]) H M ms:=⟨zd2,⟨us,hM,hmd⟩,zd1 (by simp)⟩
 have hd0:(rml H [M]) d=some (.lst (B7 nm)):=by rw[xt7 (by simp;exact Ne.symm nMd)];exact hd
 have fin:∀ p iv H',M6 K (rml H [M]) H' M (ms++dm6 nm L deep way z.length)->SqT K H' p [.str (qm7 nm deep way),iv]->TpD K H' iv (U0 nm L deep way)->Q (.ref p) H':=fun p iv H' a h1 h2=>by
  obtain⟨us',m1,m2⟩:=a.m
  exact q p iv us' H' h1 h2 m1 m2 fun c o e n=>a.s c o (by rw[xt7 n];exact e)
 have l3:(gd nm 3).length<=8:=h8 _ (qu7 (by omega))
 have l1:(gd nm 1).length<=8:=h8 _ (qu7 (by omega))
 generalize rml H [M]=H0 at *
 clear q hM hmd us hd
 have hd:=a0.s _ _ hd0
 lk
 refine xx4 (SqL.of hd) (fun c hc=>?_)
 rw[zv7 h12 h4]
 have s1:=A6.new hc (.lst (B7 (ch6 nm L)))
 have a1:=a0.same s1
 have hcM:c≠M:=fun e=>by obtain⟨us,m1,_⟩:=a0.m;rw[e,m1] at hc;cases hc
 have hcc:(upd H c (.lst (B7 (ch6 nm L)))) c=_:=A5
 generalize upd H c (.lst (B7 (ch6 nm L)))=H1 at *
 have at0:atI (B7 (ch6 nm L)) 0=some (.str (gd nm 3)):=by rw[yo2 h12];exact O2 (j:=0) rfl
 lk
 refine wb4 (x:=z) (by omega) ?_
 show qx3 K _ _ _
 by_cases hdeep:19<deep
 ·
  lk
  rw[decide_eq_true (by omega)]
  x_go
  show wb6 K _ _ _
  lk
  obtain⟨us,m1,_⟩:=a1.m
  refine⟨.inl ⟨rfl,_,SqL.of m1⟩,?_⟩
  lk
  refine M1 (SqL.of hcc) at0 ?_
  lk
  refine wb4 (x:=gd nm 3) (by omega) ?_
  lk
  refine⟨D4 (by z_go),fun p hp=>?_⟩
  lk
  refine a1.app (by omega) hp fun H2 a2 bt2 tk2=>?_
  have hc2:=bt2 _ _ hcc (by simp;exact hcM)
  show wb5 K _ _ _
  lk
  refine M1 (SqL.of hc2) at0 ?_
  refine xo5 l3 ?_
  lk
  refine yb8 l3 ?_
  lk
  refine M1 (SqL.of hc2) at0 ?_
  refine xo5 l3 ?_
  lk
  refine Ab6 l3 ?_
  lk
  refine M1 (SqL.of hc2) at0 ?_
  refine xo5 l3 ?_
  lk
  refine yb8 l3 ?_
  lk
  refine⟨D4 (by z_go),fun l hl=>?_⟩
  have s3:=A6.new hl (.lst [.str (opn (gd nm 3)),.str ("<"++gd nm 3 ++ "> "),.str (opn (gd nm 3))])
  lk
  refine M1 (SqL.of A5) (v:=.str (qm7 nm deep way)) ?_ ?_
  ·refine O2 ?_
   unfold qm7
   rw[if_pos hdeep]
   obtain rfl|rfl|rfl:way=0\/way=1\/way=2:=by omega
   ·rfl
   ·rfl
   ·rfl
  lk
  refine⟨D4 (by z_go),fun p2 hp2=>?_⟩
  have s4:=A6.new hp2 (.tup [])
  lk
  refine⟨D4 (by z_go),fun p3 hp3=>?_⟩
  have s5:=A6.new hp3 (.tup [.str (qm7 nm deep way),.ref p2])
  have s35:=A6.tr (A6.tr s3 s4) s5
  refine fin p3 (.ref p2) _ ?_ (SqT.of A5) ?_
  ·have:=a2.same s35
   unfold dm6
   rw[if_pos hdeep];exact this
  ·unfold U0
   rw[if_pos hdeep];exact TpD.nil (s5 _ _ A5)
 ·
  lk
  rw[decide_eq_false (by omega)]
  k_go
  show qx2 K _ _ _
  lk
  refine M1 (SqL.of hcc) at0 ?_
  lk
  refine wb4 (x:=gd nm 3) (by omega) ?_
  have hd1:=s1 _ _ hd
  lk
  refine M1 (SqL.of hd1) (qb2 (i:=1) (by omega)) ?_
  refine xo5 l1 ?_
  lk
  refine yb8 l1 ?_
  lk
  refine⟨D4 (by z_go),fun l hl=>?_⟩
  have s2:=A6.new hl (.lst [.str "w",.str " ",.str (opn (gd nm 1))])
  lk
  refine M1 (SqL.of A5) (v:=.str (mo6 nm way)) ?_ ?_
  ·refine O2 ?_
   unfold mo6
   obtain rfl|rfl|rfl:way=0\/way=1\/way=2:=by omega
   ·rfl
   ·rfl
   ·rfl
  have hcc2:=s2 _ _ hcc
  have a2:=a1.same s2
  have hd2:=s2 _ _ hd1
  generalize upd H1 l (.lst [.str "w",.str " ",.str (opn (gd nm 1))])=H2 at *
  have lmo:(mo6 nm way).length<=10:=by
   unfold mo6
   split
   ·decide
   split
   ·decide
   ·rw[qt5];omega
  lk
  refine M1 (SqL.of hcc2) at0 ?_
  refine xo5 l3 ?_
  lk
  refine yb8 l3 ?_
  lk
  refine T1 (by rw[sizeLine_eq,qt5];omega) ?_
  lk
  refine wb4 (x:=mo6 nm way) (by omega) ?_
  lk
  refine .inr ⟨_,rfl,?_⟩
  have e2:(if decide ((way:Int)=2)=true then(1:Int) else 0)=((if way=2 then 1 else 0:Nat):Int):=by
   by_cases h2:way=2
   ·rw[h2];rfl
   ·rw[if_neg h2,decide_eq_false (by omega)];rfl
  rw[e2]
  refine xd8 ?_
  refine E5 ?_
  show wc2 K _ _ _
  by_cases hs:wb3 L deep way
  ·
   have go:∀ σ,σ=[some (.ref d),some (.int (L:Int)),some (.int (deep:Int)),some (.int (way:Int)),some (.str (opn (gd nm 3)++mo6 nm way)),some (.ref M),some (.ref c),some (.int ((z.length:Int)+(gd nm 3).length+2)),some (.str (mo6 nm way)),some (.int ((z.length:Int)+(gd nm 3).length+2+(mo6 nm way).length)),some (.int ((deep:Int)+1+L+((if way=2 then 1 else 0:Nat):Int))),none]->wb7 K {nx:=fun _ H'=>Q .non H',rt:=Q} σ H2:=by
    rintro σ rfl
    obtain⟨us,m1,_⟩:=a2.m
    lk
    refine⟨.inl ⟨rfl,_,SqL.of m1⟩,?_⟩
    lk
    refine⟨D4 (by z_go),fun l3' hl3=>?_⟩
    have s3:=A6.new hl3 (.lst [.str "deep",.str "blank"])
    have a3:=a2.same s3
    have hcc3:=s3 _ _ hcc2
    have hll:(upd H2 l3' (.lst [.str "deep",.str "blank"])) l3'=_:=A5
    generalize upd H2 l3' (.lst [.str "deep",.str "blank"])=H3 at *
    lk
    refine .inr ⟨_,rfl,?_⟩
    refine M1 (SqL.of hll) (v:=.str (if way=1 then "blank" else "deep")) ?_ ?_
    ·by_cases h2:way=1
     ·rw[h2];exact O2 (j:=1) rfl
     ·rw[if_neg h2,decide_eq_false (by omega)];exact O2 (j:=0) rfl
    lk
    refine⟨D4 (by z_go),fun p hp=>?_⟩
    lk
    refine a3.app (by omega) hp fun H4 a4 bt4 _=>?_
    have hcc4:=bt4 _ _ hcc3 (by simp;exact hcM)
    obtain⟨us4,m4,_⟩:=a4.m
    lk
    refine⟨.inl ⟨rfl,_,SqL.of m4⟩,?_⟩
    lk
    refine M1 (SqL.of hcc4) at0 ?_
    refine ze3 l3 ?_
    lk
    refine ze4 l3 ?_
    lk
    refine⟨D4 (by z_go),fun p hp=>?_⟩
    lk
    refine a4.app (by simp;omega) hp fun H5 a5 bt5 _=>?_
    have hcc5:=bt5 _ _ hcc4 (by simp;exact hcM)
    lk
    refine M1 (SqL.of hcc5) at0 ?_
    lk
    refine⟨D4 (by z_go),fun p1 hp1=>?_⟩
    have u1:=A6.new hp1 (.tup [])
    lk
    refine⟨D4 (by z_go),fun p2 hp2=>?_⟩
    have u2:=A6.new hp2 (.tup [.str (gd nm 3),.ref p1])
    lk
    refine⟨D4 (by z_go),fun p3 hp3=>?_⟩
    have u3:=A6.new hp3 (.tup [.ref p2])
    lk
    refine⟨D4 (by z_go),fun p4 hp4=>?_⟩
    have u4:=A6.new hp4 (.tup [.str (opn (gd nm 3)++mo6 nm way),.ref p3])
    have u24:=A6.tr (A6.tr u2 u3) u4
    refine fin p4 (.ref p3) _ ?_ ?_ ?_
    ·have:=a5.same (A6.tr u1 u24)
     unfold dm6
     rw[if_neg hdeep,if_pos hs]
     rw[List.append_assoc] at this;exact this
    ·unfold qm7
     rw[if_neg hdeep];exact SqT.of A5
    ·unfold U0
     rw[if_neg hdeep,if_pos hs]
     refine(TpD.one A5 ?_).same u4
     exact((TpD.nil A5).same (A6.tr u2 u3)).nd (u3 _ _ A5)
   by_cases h1':way=1
   ·lk
    rw[decide_eq_true (by omega)]
    x_go
    x_go
    exact go _ rfl
   ·lk
    rw[decide_eq_false (by omega)]
    k_go
    lk
    have:20<deep+1+L+(if way=2 then 1 else 0):=hs.resolve_left h1'
    rw[decide_eq_true (by omega)]
    x_go
    exact go _ rfl
  ·
   have hw1:way≠1:=fun e=>hs (.inl e)
   have hs2:¬20<deep+1+L+(if way=2 then 1 else 0):=fun e=>hs (.inr e)
   lk
   rw[decide_eq_false (by omega)]
   k_go
   lk
   rw[decide_eq_false (by omega)]
   k_go
   show wc1 K _ _ _
   lk
   refine xx4 (SqL.of hcc2) (fun e he=>?_)
   have ecut:qe7 (B7 (ch6 nm L)) (some 1) none=B7 (ch6 nm L).tail:=by
    have:=yu0 (xs:=B7 (ch6 nm L)) 1 (by rw[B4,yo2 h12];simp)
    rw[show(1:Int)=((1:Nat):Int) from rfl,this]
    unfold B7
    rw[<-List.map_drop,List.drop_one]
   rw[ecut]
   have s3:=A6.new he (.lst (B7 (ch6 nm L).tail))
   have a3:=a2.same s3
   have hcc3:=s3 _ _ hcc2
   have hd3:=s3 _ _ hd2
   have hee:(upd H2 e (.lst (B7 (ch6 nm L).tail))) e=_:=A5
   have neM:e≠M:=fun z=>by obtain⟨us,m1,_⟩:=a2.m;rw[z,m1] at he;cases he
   generalize upd H2 e (.lst (B7 (ch6 nm L).tail))=H3 at *
   have lch:(ch6 nm L).length<=5:=by unfold ch6;rw[List.length_take];omega
   refine we4 (SqL.of hee) (fun j σ H'=>∃ x11,σ=[some (.ref d),some (.int (L:Int)),some (.int (deep:Int)),some (.int (way:Int)),some (.str (opn (gd nm 3)++mo6 nm way)),some (.ref M),some (.ref c),some (.int ((z.length:Int)+(gd nm 3).length+2)),some (.str (mo6 nm way)),some (.int ((z.length:Int)+(gd nm 3).length+2+(mo6 nm way).length)),some (.int ((deep:Int)+1+L+((if way=2 then 1 else 0:Nat):Int))),x11]/\M6 K H0 H' M (ms++((ch6 nm L).tail.take j).map fun n=>(⟨(z.length:Int)+(gd nm 3).length+2,(z.length:Int)+(gd nm 3).length+2,opn n,if way=0 then "host" else "frame"⟩:Mnd))/\H' e=some (.lst (B7 (ch6 nm L).tail))/\H' c=some (.lst (B7 (ch6 nm L)))) ⟨none,rfl,by rw[List.take_zero,List.map_nil,List.append_nil];exact a3,hee,hcc3⟩ ?_ ?_ ?_
   ·rintro j σ H' _ ⟨x,rfl,_,h,_⟩;exact SqL.of h
   ·rintro j v σ H' hv ⟨x,rfl,aj,he',hc'⟩
    obtain⟨y,hy,rfl⟩:=V5 hv
    have hy8:=h8 y (ze5 (List.mem_of_mem_tail (List.mem_of_getElem? hy)))
    obtain⟨us,m1,_⟩:=aj.m
    refine E5 ?_
    show wb8 K _ _ _
    lk
    refine⟨.inl ⟨rfl,_,SqL.of m1⟩,?_⟩
    lk
    refine xo5 hy8 ?_
    lk
    refine yb8 hy8 ?_
    lk
    refine⟨D4 (by z_go),fun l4 hl4=>?_⟩
    have s4:=A6.new hl4 (.lst [.str "host",.str "",.str "frame"])
    have a4:=aj.same s4
    lk
    refine M1 (SqL.of A5) (v:=.str (if way=0 then "host" else "frame")) ?_ ?_
    ·refine O2 ?_
     obtain rfl|rfl:way=0\/way=2:=by omega
     ·rfl
     ·rfl
    have e4:=s4 _ _ he'
    have c4:=s4 _ _ hc'
    generalize upd H' l4 (.lst [.str "host",.str "",.str "frame"])=H4 at *
    lk
    refine⟨D4 (by z_go),fun p hp=>?_⟩
    lk
    refine a4.app (by rw[List.length_append,List.length_map,List.length_take,List.length_tail];omega) hp fun H5 a5 bt5 _=>?_
    refine⟨_,rfl,?_,bt5 _ _ e4 (by simp;exact neM),bt5 _ _ c4 (by simp;exact hcM)⟩
    rw[qk6 hy,List.map_append,<-List.append_assoc]
    exact a5
   ·rintro σ H4 ⟨x,rfl,a4,he4,hc4⟩
    rw[B4,List.take_length] at a4
    lk
    refine xe1 (SqL.of hc4) (fun j σ H'=>∃ x11,σ=[some (.ref d),some (.int (L:Int)),some (.int (deep:Int)),some (.int (way:Int)),some (.str (opn (gd nm 3)++mo6 nm way)),some (.ref M),some (.ref c),some (.int ((z.length:Int)+(gd nm 3).length+2)),some (.str (mo6 nm way)),some (.int ((z.length:Int)+(gd nm 3).length+2+(mo6 nm way).length)),some (.int ((deep:Int)+1+L+((if way=2 then 1 else 0:Nat):Int))),x11]/\M6 K H0 H' M (ms++((ch6 nm L).tail.map fun n=>(⟨(z.length:Int)+(gd nm 3).length+2,(z.length:Int)+(gd nm 3).length+2,opn n,if way=0 then "host" else "frame"⟩:Mnd))++((ch6 nm L).reverse.take j).map fun n=>(⟨(z.length:Int)+(gd nm 3).length+2+(mo6 nm way).length,(z.length:Int)+(gd nm 3).length+2+(mo6 nm way).length,cls n, "end"⟩:Mnd))/\H' c=some (.lst (B7 (ch6 nm L)))) ⟨_,rfl,by rw[List.take_zero,List.map_nil,List.append_nil];exact a4,hc4⟩ ?_ ?_ ?_
    ·rintro j σ H' ⟨x,rfl,_,h⟩;exact SqL.of h
    ·rintro j v σ H' hv hj ⟨x,rfl,aj,hc'⟩
     rw[B4] at hv hj
     obtain⟨y,hy,rfl⟩:=V5 hv
     have hy8:=h8 y (ze5 (List.mem_of_getElem? hy))
     obtain⟨us,m1,_⟩:=aj.m
     refine E5 ?_
     show wb9 K _ _ _
     lk
     refine⟨.inl ⟨rfl,_,SqL.of m1⟩,?_⟩
     lk
     refine ze3 hy8 ?_
     lk
     refine ze4 hy8 ?_
     lk
     refine⟨D4 (by z_go),fun p hp=>?_⟩
     lk
     refine aj.app (by simp only[List.length_append,List.length_map,List.length_take,List.length_tail];omega) hp fun H5 a5 bt5 _=>?_
     refine⟨_,rfl,?_,bt5 _ _ hc' (by simp;exact hcM)⟩
     have e1:(ch6 nm L).reverse[j]?=some y:=by rw[List.getElem?_reverse (by omega)];exact hy
     rw[qk6 e1,List.map_append,<-List.append_assoc]
     exact a5
    ·rintro σ H5 ⟨x,rfl,a5,hc5⟩
     rw[B4,List.take_of_length_le (by rw[List.length_reverse];exact Nat.le_refl _)] at a5
     have hd5:=a5.s _ _ hd0
     show wc0 K _ _ _
     lk
     refine M1 (SqL.of hd5) (qb2 (i:=1) (by omega)) ?_
     lk
     refine⟨D4 (by z_go),fun p1 hp1=>?_⟩
     have u1:=A6.new hp1 (.tup [])
     lk
     refine⟨D4 (by z_go),fun p2 hp2=>?_⟩
     have u2:=A6.new hp2 (.tup [.str (gd nm 1),.ref p1])
     lk
     refine⟨D4 (by z_go),fun p3 hp3=>?_⟩
     have u3:=A6.new hp3 (.lst [.str "w",.str "",.ref p2])
     lk
     have dl:∃ v,[V.str "w",V.str "",V.ref p2][way]?=some v/\Dv K (upd (upd (upd H5 p1 (.tup [])) p2 (.tup [.str (gd nm 1),.ref p1])) p3 (.lst [.str "w",.str "",.ref p2])) (xo4 nm way).da v:=by
      obtain rfl|rfl:way=0\/way=2:=by omega
      ·exact⟨_,rfl,E6.mpr rfl⟩
      ·exact⟨_,rfl,((TpD.nil A5).same (A6.tr u2 u3)).nd (u3 _ _ A5)⟩
     obtain⟨v,hv,dv⟩:=dl
     refine M1 (SqL.of A5) (v:=v) (O2 hv) ?_
     lk
     refine⟨D4 (by z_go),fun p4 hp4=>?_⟩
     have u4:=A6.new hp4 (.tup [v])
     have u14:=A6.tr (A6.tr (A6.tr u1 u2) u3) u4
     lk
     refine⟨c,ch6 nm L,.ref p4,[xo4 nm way],rfl,SqL.of (u14 _ _ hc5),TpD.one A5 (Dv.same u4 _ _ dv),fun v' H6 h6 s6=>?_⟩
     lk
     refine⟨D4 (by z_go),fun p5 hp5=>?_⟩
     have u5:=A6.new hp5 (.tup [.str (opn (gd nm 3)++mo6 nm way),v'])
     refine fin p5 v' _ ?_ ?_ ?_
     ·have:=a5.same (A6.tr (A6.tr u14 s6) u5)
      unfold dm6
      rw[if_neg hdeep,if_neg hs]
      rw[List.append_assoc] at this;exact this
     ·unfold qm7
      rw[if_neg hdeep];exact SqT.of A5
     ·unfold U0
      rw[if_neg hdeep,if_neg hs];exact h6.same u5
theorem zm4{n:Nat}:ixN (n+1) (-1)=some n:=by
 unfold ixN
 rw[if_neg (by decide),if_pos (by omega)]
 congr 1;omega
structure C6(K:Fg)(H0:Hp)(sc d:Addr)(ns:List Int)(nm:List Str)(L:Nat)(bv:V)(M T:Addr):Prop where
 n:N6 nm L
 sc:SqL K H0 sc (ns.map V.int)
 d:H0 d=some (.lst (B7 nm))
 b:BkO K H0 bv (rs6 nm L)
 mn:H0 M=none
 tn:H0 T=none
 mt:M≠T
abbrev yo3(K:Fg):TS :=
 (I0 (tBM K "list" I9 (A3 5) (A1 (M5 (A1 (tCB (L5 K) (A1 (A3 4) A8)) (A1 (tOp (D2 K) (tOp (D2 K) (tCB (L5 K) (A1 (A3 4) A8)) (tCB (L5 K) (A1 (A3 8) A8))) (tC (.int 2))) (A1 (tC (.str "")) (A1 (tC (.str "deep")) A8))))) A8)))
abbrev zm5(K:Fg):TS :=
 (E1 (tOp (D2 K) (tOp (D2 K) (tOp (D2 K) (A3 4) (tC (.str "<"))) (A3 8)) (tC (.str ">"))) (B1 4))
abbrev yo4(K:Fg):TS :=
 (C1 (S3 (G0 (tOp yf4 (tCB (L5 K) (A1 (A3 6) A8)) (tC (.int 20))))
 (I0 (tBM K "list" I9 (A3 6) (A1 (A3 8) A8))) (yo3 K))
 (zm5 K))
abbrev yo5(K:Fg):TS :=
 (C1 (E1 (tOp (L1 K) (A3 1) (tOp qr9 (tOp (rI (fun _ j=>0<j) fun i j=>.int (i % j)) (D3 (V8 K) [] E0 (A1 (D3 (L4 K) [] E0 (A1 (A3 0) (A1 (tC (.int 3)) A8))) (A1 (A3 7) A8))) (tC (.int 2))) (tC (.int 2)))) (B1 8))
 (yo4 K))
abbrev yo6(K:Fg):TS :=
 (I0 (tBM K "list" I9 (A3 9) (A1 (M5 (A1 (tOp (L1 K) (A3 1) (tC (.int 1))) (A1 (M5 A8) A8))) A8)))
abbrev yo7(K:Fg):TS :=
 (I0 (tBM K "list" I9 (A3 5) (A1 (M5 (A1 (tCB (L5 K) (A1 (A3 4) A8)) (A1 (tOp (D2 K) (tOp (D2 K) (tCB (L5 K) (A1 (A3 4) A8)) (tCB (L5 K) (A1 (tOp (L1 K) (A3 1) (tC (.int 1))) A8))) (tC (.int 2))) (A1 (tC (.str "")) (A1 (tC (.str "deep")) A8))))) A8)))
abbrev xu3(K:Fg):TS :=
 (E1 (tOp (D2 K) (tOp (D2 K) (tOp (D2 K) (A3 4) (tC (.str "<"))) (tOp (L1 K) (A3 1) (tC (.int 1)))) (tC (.str ">"))) (B1 4))
abbrev yo8(K:Fg):TS :=
 (C1 (S3 (G0 (tOp yf4 (tCB (L5 K) (A1 (A3 6) A8)) (tC (.int 20))))
 (yo6 K) (yo7 K))
 (xu3 K))
abbrev zm6(K:Fg):TS :=
 (C1 (I0 (tBM K "list" I9 (A3 9) (A1 (tC (.str "x")) A8)))
 (E1 (tOp (D2 K) (A3 4) (tC (.str "x"))) (B1 4)))
abbrev yo9(K:Fg):TS :=
 (S3 (xp0 (G0 (tOp (xq4 K) (A3 9) (qb5 A8))) (G0 (tOp (X3 K) (tOp (L1 K) (A3 9) (tUn (rU fun i=>.int (-i)) (tC (.int 1)))) (tC (.str "x")))))
 (E1 (tC (.str "x ")) (yv0 (A3 9) (tUn (rU fun i=>.int (-i)) (tC (.int 1))) yl7)) (I0 (tBM K "list" I9 (A3 9) (A1 (tC (.str " ")) A8))))
abbrev yb9(K:Fg):TS :=
 (I0 (tBM K "list" I9 (A3 5) (A1 (M5 (A1 (tCB (L5 K) (A1 (A3 4) A8)) (A1 (tCB (L5 K) (A1 (A3 4) A8)) (A1 (tOp (D2 K) (tOp (D2 K) (tC (.str "</")) (A3 8)) (tC (.str ">"))) (A1 (tC (.str "end")) A8))))) A8)))
abbrev yc0(K:Fg):TS :=
 (L6 (tOp (X3 K) (D3 (qo6 K) [] E0 (A1 (A3 3) (A1 (A3 4) A8))) (M5 (A1 (M5 (A1 (tC (.str "")) (A1 (D3 (qg0 K) [] E0 (A1 (A3 6) (A1 (tCB (qn0 K) (A1 (A3 9) A8)) A8))) A8))) (A1 (A3 5) A8)))))
abbrev yc1(K:Fg):TS :=
 (C1 (E1 (tOp (D2 K) (A3 4) (A3 11)) (B1 4))
 (C1 (qm8 (xy0 K (A1 (A3 6) A8)) (B1 8)
 (yb9 K))
 (yc0 K)))
abbrev yc2(K:Fg):TS :=
 (C1 (S3 (xp0 (G0 (tOp wt5 (tCB (L5 K) (A1 (A3 6) A8)) (tC (.int 19)))) (G0 (tOp (X3 K) (A3 10) (tC (.int 1)))))
 (yo9 K) O8)
 (yc1 K))
abbrev yc3(K:Fg):TS :=
 (C1 (E1 (tOp (D2 K) (A3 9) (tCB (yx3 K) (A1 (A3 12) A8))) (B1 9))
 (yc2 K))
abbrev ze6(K:Fg):TS :=
 (C1 (E1 (D3 (qg1 K) [] E0 (A1 (A3 1) (A1 (A3 2) (A1 (tCB (L5 K) (A1 (A3 6) A8)) (A1 (A3 10) (A1 (A3 4) (A1 (A3 5) A8))))))) (yd2 K 2 (qr4 (B1 11) (qr4 (B1 12) yd1))))
 (yc3 K))
abbrev yc4(K:Fg):TS :=
 (C1 (E1 (tOp (rI (fun _ j=>0<j) fun i j=>.int (i % j)) (D3 (L4 K) [] E0 (A1 (A3 0) (A1 (tC (.int 6)) A8))) (tC (.int 3))) (B1 10))
 (ze6 K))
abbrev yc5(K:Fg):TS :=
 (C1 (S3 (G0 (tOp (X3 K) (tOp (rI (fun _ j=>0<j) fun i j=>.int (i % j)) (D3 (L4 K) [] E0 (A1 (A3 0) (A1 (tC (.int 5)) A8))) (tC (.int 2))) (tC (.int 1))))
 (zm6 K) O8)
 (yc4 K))
abbrev yc6(K:Fg):TS :=
 (C1 (S3 (G0 (tOp (X3 K) (tOp (rI (fun _ j=>0<j) fun i j=>.int (i % j)) (D3 (L4 K) [] E0 (A1 (A3 0) (A1 (tC (.int 4)) A8))) (tC (.int 2))) (tC (.int 1))))
 (yo8 K) O8)
 (yc5 K))
abbrev yc7(K:Fg):TS :=
 (C1 (qm8 (xl7 (A1 (tOp (rI (fun _ j=>0<j) fun i j=>.int (i % j)) (D3 (L4 K) [] E0 (A1 (A3 0) (A1 (tC (.int 2)) A8))) (tC (.int 31))) A8)) (B1 7)
 (yo5 K))
 (C1 (E1 (qb5 A8) (B1 9))
 (yc6 K)))
abbrev ze7(K:Fg):TS :=
 (C1 (E1 (tC (.str "")) (B1 4))
 (C1 (E1 (qb5 A8) (B1 5))
 (C1 (E1 (qb5 A8) (B1 6))
 (yc7 K))))
abbrev ze8(K:Fg):TS :=
 (C1 (E1 (D3 (qo7 K) [] E0 (A1 (A3 1) (A1 (A3 2) A8))) (B1 3))
 (ze7 K))
abbrev ze9(K:Fg):TS :=
 (C1 (E1 (tOp (D2 K) (tC (.int 1)) (tOp (rI (fun _ j=>0<j) fun i j=>.int (i % j)) (D3 (L4 K) [] E0 (A1 (A3 0) (A1 (tC (.int 1)) A8))) (tC (.int 4)))) (B1 2))
 (ze8 K))
section
variable{H0:Hp}{sc d M T P:Addr}{ns:List Int}{nm there:List Str}{L way:Nat}{bv:V}{z more:Str}{ms:List Mnd}{ps:List Tr}{x7 x8 x10 x11 x12:Option V}{us:List V}{r:Bool}
theorem t12(C:C6 K H0 sc d ns nm L bv M T)(a:M6 K H0 H M ms)(hT:H T=some (.lst (B7 there)))(hP:H P=some (.lst us))(hp:Dvs K H (Tr.das ps) us)(hPM:P≠M)(hth:Th6 nm there)(hz:z.length<=5000)(hm:more.length<=100)(hml:ms.length<=1000)(e1:rtS (rdS (rs6 nm L) (rk6 nm) (z++more))=qa9 there ps)(e2:(rdS (rs6 nm L) (rk6 nm) (z++more)).ms=ms++en6 (z++more).length there)(q:∀ H,Q (.bl true) H) :
 yc1 K {nx:=fun _ H'=>Q .non H',rt:=Q} [some (.ref sc),some (.ref d),some (.int (L:Int)),some bv,some (.str z),some (.ref M),some (.ref T),x7,x8,some (.ref P),x10,some (.str more),x12] H:=by
 have h8:∀ x∈there,x.length<=8:=fun x hx=>by
  have l:=C.n.l
  rcases hth.2 x hx with e|e <;> rw[e] <;> exact C.n.N.le _ (qu7 (by omega))
 have lz:(z++more).length<=5100:=by rw[J8];omega
 lk
 refine T1 (by rw[sizeLine_eq];omega) ?_
 lk
 refine xe1 (SqL.of hT) (fun j σ H'=>∃ x8,σ=[some (.ref sc),some (.ref d),some (.int (L:Int)),some bv,some (.str (z++more)),some (.ref M),some (.ref T),x7,x8,some (.ref P),x10,some (.str more),x12]/\M6 K H0 H' M (ms++(there.reverse.take j).map fun n=>(⟨(z++more).length,(z++more).length,cls n, "end"⟩:Mnd))/\H' T=some (.lst (B7 there))/\H' P=some (.lst us)/\Dvs K H' (Tr.das ps) us) ⟨_,rfl,by rw[List.take_zero,List.map_nil,List.append_nil];exact a,hT,hP,hp⟩ ?_ ?_ ?_
 ·rintro j σ H' ⟨x,rfl,_,h,_⟩;exact SqL.of h
 ·rintro j v σ H' hv hj ⟨x,rfl,aj,hT',hP',hp'⟩
  rw[B4] at hv hj
  obtain⟨y,hy,rfl⟩:=V5 hv
  have hy8:=h8 y (List.mem_of_getElem? hy)
  obtain⟨us,m1,_⟩:=aj.m
  have l20:=hth.1
  refine E5 ?_
  show yb9 K _ _ _
  lk
  refine⟨.inl ⟨rfl,_,SqL.of m1⟩,?_⟩
  lk
  refine wb4 (x:=z++more) (by omega) ?_
  lk
  refine wb4 (x:=z++more) (by omega) ?_
  lk
  refine ze3 hy8 ?_
  lk
  refine ze4 hy8 ?_
  lk
  refine⟨D4 (by z_go),fun p hp=>?_⟩
  lk
  refine aj.app (by simp only[List.length_append,List.length_map,List.length_take];omega) hp fun H5 a5 bt5 tk5=>?_
  refine⟨_,rfl,?_,bt5 _ _ hT' (by simp;exact Ne.symm C.mt),bt5 _ _ hP' (by simp;exact hPM),Dvs.tupK tk5 _ _ (qc4 _) hp'⟩
  have e1:there.reverse[j]?=some y:=by rw[List.getElem?_reverse (by omega)];exact hy
  rw[qk6 e1,List.map_append,<-List.append_assoc]
  exact a5
 ·rintro σ H5 ⟨x,rfl,a5,hT5,hP5,hp5⟩
  rw[B4,List.take_of_length_le (by rw[List.length_reverse];exact Nat.le_refl _)] at a5
  obtain⟨us5,m5,d5⟩:=a5.m
  show yc0 K _ _ _
  lk
  refine⟨bv,z++more,rs6 nm L,rk6 nm,rfl,C.b.same a5.s,C.n.bok,by omega,fun v1 p9 q9 us9 H8 hp9 hv9 hq9 hu9 s9 _=>?_⟩
  have hhg:=zl7 (rs:=rs6 nm L) (rk:=rk6 nm) (z:=z++more) C.n.bok
  rw[e1] at hhg hv9
  rw[e2] at hu9
  lk
  refine⟨_,_,rfl,.inl ⟨SqL.of (s9 _ _ hP5),fun l hl=>?_⟩⟩
  have s10:=A6.new hl (.tup us)
  lk
  refine⟨T,there,.ref l,ps,rfl,SqL.of (s10 _ _ (s9 _ _ hT5)),⟨l,us,rfl,SqT.of A5,Dvs.same (A6.tr s9 s10) _ _ hp5⟩,fun v' H11 h11 s11=>?_⟩
  lk
  refine⟨D4 (by z_go),fun p1 hp1=>?_⟩
  have u1:=A6.new hp1 (.tup [.str "",v'])
  lk
  refine⟨D4 (by z_go),fun p2 hp2=>?_⟩
  have u2:=A6.new hp2 (.tup [.ref p1,.ref M])
  have w2:=A6.tr (A6.tr (A6.tr s10 s11) u1) u2
  have w1:=A6.tr s9 w2
  lk
  refine zl6 (t:=Tr.nd "" (qa9 there ps)) (ms:=ms++en6 (z++more).length there) hhg (D7.mpr ⟨p9,_,rfl,w2.sqT hp9,C3 (Dv.same w2 _ _ hv9) (C3 (qr7.mpr ⟨q9,us9,rfl,SqL.of (w2 _ _ hq9),Dvs.same w2 _ _ hu9⟩) J4)⟩) (D7.mpr ⟨p2,_,rfl,SqT.of A5,C3 (Dv.same u2 _ _ ((h11.same u1).nd A5)) (C3 (qr7.mpr ⟨M,us5,rfl,SqL.of (w1 _ _ m5),Dvs.same w1 _ _ d5⟩) J4)⟩) ?_
  exact q _
theorem zf0(n:N6 nm L)(deep:Nat):(qm7 nm deep way).length<=100:=by
 have l:=n.l
 have l3:=n.N.le _ (qu7 (l:=nm) (i:=3) (by omega))
 have l1:=n.N.le _ (qu7 (l:=nm) (i:=1) (by omega))
 unfold qm7 mo6
 split
 ·split
  ·rw[J8,J8];show 1+_+2<=_;omega
  ·rw[qt5];omega
 ·rw[J8,qt5]
  split
  ·show _+1<=_;omega
  split
  ·show _+1<=_;omega
  ·rw[qt5];omega
theorem zv8(nm:List Str)(L:Nat):(ch6 nm L).length<=L+1:=by unfold ch6;rw[List.length_take];omega
theorem zv9(n:N6 nm L)(deep:Nat)(s:Int):(dm6 nm L deep way s).length<=20:=by
 have:=zv8 nm L
 have:=n.l4
 unfold dm6
 split
 ·simp
 split
 ·simp
 ·simp only[List.length_append,List.length_map,List.length_reverse,List.length_tail];omega
theorem t14(C:C6 K H0 sc d ns nm L bv M T){iv:V}(a:M6 K H0 H M (ms++dm6 nm L there.length way z.length))(hT:H T=some (.lst (B7 there)))(hP:H P=some (.lst us))(hp:Dvs K H (Tr.das ps) us)(hPM:P≠M)(hth:Th6 nm there)(hz:z.length<=5000)(hml:ms.length<=100)(hw:way<3)(hi:TpD K H iv (U0 nm L there.length way))(hx:19<there.length->ps=[]\/ps=[.tx "x"])(hpl:ps.length<=10)(g:G6 (rs6 nm L) (rk6 nm) z ms (zT "" there ps) r)(q:∀ H,Q (.bl true) H) :
 yc3 K {nx:=fun _ H'=>Q .non H',rt:=Q} [some (.ref sc),some (.ref d),some (.int (L:Int)),some bv,some (.str z),some (.ref M),some (.ref T),x7,x8,some (.ref P),some (.int (way:Int)),some (.str (qm7 nm there.length way)),some iv] H:=by
 have l20:=hth.1
 obtain⟨f1,f2⟩:=C.n.framed hth hw g (wa4 z (qm7 nm there.length way))
 have lm:=zf0 (way:=way) C.n there.length
 have ld:=zv9 (way:=way) C.n there.length z.length
 have hul:us.length=ps.length:=qn2 hp
 obtain⟨il,ius,rfl,hi1,hi2⟩:=hi
 have hil:ius.length<=1:=by
  rw[qn2 hi2]
  unfold U0
  split
  ·simp
  split
  ·simp
  ·cases ch6 nm L with
   | nil=>simp[qa9]
   | cons=>simp[qa9]
 lk
 refine⟨_,_,rfl,.inr hi1,fun l hl=>?_⟩
 have s1:=A6.new hl (.lst ius)
 refine .inr (.inr (.inl ⟨P,l,us,ius,rfl,rfl,s1 _ _ hP,A5,by rw[sizeLine_eq];omega,fun P2 hP2=>?_⟩))
 have s2:=A6.new hP2 (.lst (us++ius))
 have s12:=A6.tr s1 s2
 have a2:=a.same s12
 have hT2:=s12 _ _ hT
 have hPP:(upd (upd H l (.lst ius)) P2 (.lst (us++ius))) P2=_:=A5
 have hp2:Dvs K (upd (upd H l (.lst ius)) P2 (.lst (us++ius))) (Tr.das (ps++U0 nm L there.length way)) (us++ius):=by
  rw[T4,List.map_append,<-T4,<-T4]
  exact Dvs.append (Dvs.same s12 _ _ hp) (Dvs.same s12 _ _ hi2)
 have hP2M:P2≠M:=fun e=>by
  obtain⟨u,m1,_⟩:=(a.same s1).m
  rw[e,m1] at hP2;cases hP2
 have hP2T:P2≠T:=fun e=>by rw[e,s1 _ _ hT] at hP2;cases hP2
 have hP20:H0 P2=none:=A6.grow (A6.tr a.s s1) _ hP2
 generalize upd (upd H l (.lst ius)) P2 (.lst (us++ius))=H2 at *
 refine E5 ?_
 show yc2 K _ [some (.ref sc),some (.ref d),some (.int (L:Int)),some bv,some (.str z),some (.ref M),some (.ref T),x7,x8,some (.ref P2),some (.int (way:Int)),some (.str (qm7 nm there.length way)),some (.ref il)] _
 refine qb1 ?_
 refine wy7 ?_
 refine yf7 ?_
 lk
 refine P7 (.inl (SqL.of hT2)) ?_
 lk
 rw[B4]
 by_cases hd:19<there.length
 ·rw [decide_eq_true (by omega)]
  x_go
  lk
  by_cases h1:way=1
  ·rw[decide_eq_true (by omega)]
   x_go
   show yo9 K _ _ _
   have ei:U0 nm L there.length way=[]:=by unfold U0;rw[if_pos hd]
   rw[ei,List.append_nil] at hp2
   have ef:xk9 there.length way ps (U0 nm L there.length way)=adP ps " ":=by unfold xk9;rw[if_pos ⟨hd,h1⟩]
   rw[ef] at f1
   have hul2:=qn2 hp2
   refine wy7 ?_
   refine yf7 ?_
   lk
   refine⟨D4 (by z_go),fun e0 he0=>?_⟩
   have s3:=A6.new he0 (.lst [])
   have hP3:=s3 _ _ hPP
   have hp3:=Dvs.same s3 _ _ hp2
   have a3:=a2.same s3
   have hT3:=s3 _ _ hT2
   lk
   refine Aa5 (qr7.mpr ⟨P2,_,rfl,SqL.of hP3,hp3⟩) A5 ?_
   generalize upd H2 e0 (.lst [])=H3 at *
   rcases hx hd with rfl|rfl
   ·refine⟨false,by rw[Tr.das];rfl,?_⟩
    k_go
    k_go
    lk
    refine⟨.inl ⟨rfl,_,SqL.of hP3⟩,?_⟩
    lk
    refine M8 hP3 (by rw[hul2,sizeLine_eq];simp) ?_
    refine t12 (ms:=ms++dm6 nm L there.length way z.length) (ps:=[]++[.tx " "]) C (a3.upd hP20 (.inl ⟨_,hP3⟩) (Ne.symm hP2M)) (E8 hT3 (Ne.symm hP2T)) A5 ?_ hP2M hth hz lm (by rw[List.length_append];omega) f1 f2 q
    exact wf7 (Dvs.tupK (O7 (.inl ⟨_,hP3⟩)) _ _ (qc4 _) hp3) (E6.mpr rfl)
   ·refine⟨true,by rw[T4];rfl,?_⟩
    x_go
    lk
    have hl1:(us++ius).length=0+1:=hul2
    obtain⟨uu,eu⟩:∃ uu,us++ius=[uu]:=by
     match us++ius,hl1 with
     | [uu],_=>exact⟨uu,rfl⟩
    rw[eu] at hP3 hp3
    have hu:uu=.str "x":=by
     rw[T4] at hp3
     exact E6.mp (xq3.mp hp3).1
    subst hu
    refine⟨1,rfl,?_⟩
    refine M1 (SqL.of hP3) (v:=.str "x") (wh8 (n:=0) rfl rfl) ?_
    lk
    refine⟨_,rfl,?_⟩
    lk
    refine⟨1,rfl,?_⟩
    refine .inl (yf9 (j:=0) hP3 (zm4 (n:=0)) ?_)
    refine t12 (ms:=ms++dm6 nm L there.length way z.length) (ps:=[]++[.tx "x "]) C (a3.upd hP20 (.inl ⟨_,hP3⟩) (Ne.symm hP2M)) (E8 hT3 (Ne.symm hP2T)) A5 ?_ hP2M hth hz lm (by rw[List.length_append];omega) f1 f2 q
    exact wf7 (w:=[]) (us:=[]) (by rw[Tr.das];exact J4) (E6.mpr rfl)
  ·rw[decide_eq_false (by omega)]
   k_go
   have ef:xk9 there.length way ps (U0 nm L there.length way)=ps++U0 nm L there.length way:=by unfold xk9;rw[if_neg fun e=>h1 e.2]
   rw[ef] at f1
   exact t12 C a2 hT2 hPP hp2 hP2M hth hz lm (by rw[List.length_append];omega) f1 f2 q
 ·rw[decide_eq_false (by omega)]
  k_go
  k_go
  have ef:xk9 there.length way ps (U0 nm L there.length way)=ps++U0 nm L there.length way:=by unfold xk9;rw[if_neg fun e=>hd e.1]
  rw[ef] at f1
  exact t12 C a2 hT2 hPP hp2 hP2M hth hz lm (by rw[List.length_append];omega) f1 f2 q
theorem t16(C:C6 K H0 sc d ns nm L bv M T)(a:M6 K H0 H M ms)(hT:H T=some (.lst (B7 there)))(hP:H P=some (.lst us))(hp:Dvs K H (Tr.das ps) us)(hPM:P≠M)(hth:Th6 nm there)(hz:z.length<=5000)(hml:ms.length<=100)(hx:19<there.length->ps=[]\/ps=[.tx "x"])(hpl:ps.length<=10)(g:G6 (rs6 nm L) (rk6 nm) z ms (zT "" there ps) r)(q:∀ H,Q (.bl true) H) :
 yc4 K {nx:=fun _ H'=>Q .non H',rt:=Q} [some (.ref sc),some (.ref d),some (.int (L:Int)),some bv,some (.str z),some (.ref M),some (.ref T),x7,x8,some (.ref P),x10,x11,x12] H:=by
 lk
 refine⟨sc,ns,6,rfl,a.s.sqL C.sc,by decide,fun n=>?_⟩
 refine zr7 ?_
 refine yl5 (by decide) ?_
 refine E5 ?_
 have hw0:=Int.emod_nonneg n (show(3:Int)≠0 by decide)
 have hw3:=Int.emod_lt_of_pos n (show(0:Int)<3 by decide)
 obtain⟨way,ew⟩:=Int.eq_ofNat_of_zero_le hw0
 rw[ew] at hw3 ⊢
 lk
 refine P7 (.inl (SqL.of hT)) ?_
 lk
 rw[B4]
 obtain⟨mus,m1,m2⟩:=a.m
 have nMd:M≠d:=fun e=>by have:=C.mn;rw[e,C.d] at this;cases this
 refine⟨d,M,nm,L,there.length,way,z,mus,ms,rfl,a.s _ _ C.d,C.n.l,C.n.N.le,C.n.l1,C.n.l4,hth.1,by omega,hz,m1,m2,by omega,nMd,fun p iv us' H' h1 h2 h3 h4 bt=>?_⟩
 have tk:U8 H H':=wf1 bt fun z hz=>by rw[List.mem_singleton.mp hz];exact .inl ⟨_,m1⟩
 refine⟨p,_,rfl,h1,rfl,?_⟩
 refine⟨_,_,rfl,?_⟩
 refine E5 ?_
 refine⟨_,_,rfl,?_⟩
 refine E5 ?_
 refine⟨rfl,?_⟩
 exact t14 C ⟨fun c o e=>bt c o (a.s c o e) fun h=>(by rw[List.mem_singleton.mp h,C.mn] at e;cases e),⟨us',h3,h4⟩,C.mn⟩ (bt _ _ hT (by simp;exact Ne.symm C.mt)) (bt _ _ hP (by simp;exact hPM)) (Dvs.tupK tk _ _ (qc4 _) hp) hPM hth hz hml (by omega) h2 hx hpl g q
theorem t17(C:C6 K H0 sc d ns nm L bv M T)(a:M6 K H0 H M ms)(hT:H T=some (.lst (B7 there)))(hP:H P=some (.lst us))(hp:Dvs K H (Tr.das ps) us)(hPM:P≠M)(hPT:P≠T)(hP0:H0 P=none)(hth:Th6 nm there)(hz:z.length<=4900)(hml:ms.length<=100)(hx:19<there.length->ps=[])(hps:ps=[]\/ps=[.nd (gd nm 1) []])(g:G6 (rs6 nm L) (rk6 nm) z ms (zT "" there ps) false)(q:∀ H,Q (.bl true) H) :
 yc5 K {nx:=fun _ H'=>Q .non H',rt:=Q} [some (.ref sc),some (.ref d),some (.int (L:Int)),some bv,some (.str z),some (.ref M),some (.ref T),x7,x8,some (.ref P),x10,x11,x12] H:=by
 have hpl:ps.length<=1:=by rcases hps with e|e <;> rw[e] <;> simp
 refine qb1 ?_
 refine wy7 ?_
 lk
 refine⟨sc,ns,5,rfl,a.s.sqL C.sc,by decide,fun n=>?_⟩
 lk
 by_cases hn:n % 2=1
 ·rw[decide_eq_true hn]
  x_go
  lk
  refine⟨.inl ⟨rfl,_,SqL.of hP⟩,?_⟩
  lk
  have hul:=qn2 hp
  refine M8 hP (by rw[hul,sizeLine_eq];omega) ?_
  lk
  refine T1 (by rw[sizeLine_eq];show _+1<=_;omega) ?_
  refine E5 ?_
  have eh:=(C.n.last hth).1
  rw[<-qk0 there "" ps] at eh
  have htl:(zT "" there ps).tail.length=there.length:=by
   have:=congrArg List.length (qk0 there "" ps)
   rw[List.length_map] at this;exact this
  obtain⟨pre,b,hzt⟩:=yo0 there ""
  have g2:=g.run (z':=z ++ "x") Ac6 (by decide) (fun e=>absurd (by rw[<-qk0 there "" ps];exact e) (C.n.last hth).2) eh (by rw[htl];simp;exact hth.1) (by rw[hzt,zp,List.map_nil,List.append_nil]) (wa4 _ _)
  rw[<-hzt,List.map_nil,List.append_nil] at g2
  have ea:adP ps "x"=ps++[.tx "x"]:=by rcases hps with e|e <;> rw[e] <;> rfl
  rw[ea] at g2
  refine t16 C (a.upd hP0 (.inl ⟨_,hP⟩) (Ne.symm hPM)) (E8 hT (Ne.symm hPT)) A5 (wf7 (Dvs.tupK (O7 (.inl ⟨_,hP⟩)) _ _ (qc4 _) hp) (E6.mpr rfl)) hPM hth (by rw[J8];show _+1<=_;omega) hml (fun h=>.inr (by rw[hx h];rfl)) (by simp;omega) g2 q
 ·rw[decide_eq_false hn]
  k_go
  exact t16 C a hT hP hp hPM hth (by omega) hml (fun h=>.inl (hx h)) (by omega) g q
theorem xu4(z x:Str):(z ++ "<"++x ++ ">").cps.toList=z.cps.toList++(opn x).cps.toList:=by
 simp only[wa4,wi8]
 rw[show("<":Str).cps.toList=[60] from rfl,show(">":Str).cps.toList=[62] from rfl]
 simp
theorem t18(C:C6 K H0 sc d ns nm L bv M T)(a:M6 K H0 H M ms)(hT:H T=some (.lst (B7 there)))(hP:H P=some (.lst []))(hPM:P≠M)(hPT:P≠T)(hP0:H0 P=none)(hth:Th6 nm there)(hz:z.length<=4000)(hml:ms.length<=50)(g:G6 (rs6 nm L) (rk6 nm) z ms (zT "" there []) false)(q:∀ H,Q (.bl true) H) :
 yc6 K {nx:=fun _ H'=>Q .non H',rt:=Q} [some (.ref sc),some (.ref d),some (.int (L:Int)),some bv,some (.str z),some (.ref M),some (.ref T),x7,x8,some (.ref P),x10,x11,x12] H:=by
 have h12:=C.n.l
 have l1:(gd nm 1).length<=8:=C.n.N.le _ (qu7 (by omega))
 have hd:=a.s _ _ C.d
 have eh:=(C.n.last hth).1
 rw[<-qk0 there "" []] at eh
 have htl:(zT "" there []).tail.length=there.length:=by
  have:=congrArg List.length (qk0 there "" [])
  rw[List.length_map] at this;exact this
 have dn:∀ H',Dvs K H' (Tr.das []) []:=fun H'=>by rw[Tr.das];exact J4
 have lz:(z ++ "<"++gd nm 1 ++ ">").length<=4900:=by rw[J8,J8,J8];show _+1+_+1<=_;omega
 refine qb1 ?_
 refine wy7 ?_
 lk
 refine⟨sc,ns,4,rfl,a.s.sqL C.sc,by decide,fun n=>?_⟩
 lk
 by_cases hn:n % 2=1
 ·rw[decide_eq_true hn]
  x_go
  show yo8 K _ _ _
  refine qb1 ?_
  refine wy7 ?_
  lk
  refine P7 (.inl (SqL.of hT)) ?_
  lk
  rw[B4]
  by_cases h20:there.length<20
  ·rw[decide_eq_true (by omega)]
   x_go
   show yo6 K _ _ _
   lk
   refine⟨.inl ⟨rfl,_,SqL.of hP⟩,?_⟩
   lk
   refine M1 (SqL.of hd) (qb2 (i:=1) (by omega)) ?_
   lk
   refine⟨D4 (by z_go),fun p1 hp1=>?_⟩
   have u1:=A6.new hp1 (.tup [])
   lk
   refine⟨D4 (by z_go),fun p2 hp2=>?_⟩
   have u2:=A6.new hp2 (.tup [.str (gd nm 1),.ref p1])
   have u12:=A6.tr u1 u2
   have dv:Dv K (upd (upd H p1 (.tup [])) p2 (.tup [.str (gd nm 1),.ref p1])) (Tr.nd (gd nm 1) []).da (.ref p2):=((TpD.nil A5).same u2).nd A5
   have a2:=a.same u12
   have hT2:=u12 _ _ hT
   have hP2:=u12 _ _ hP
   have hd2:=u12 _ _ hd
   generalize upd (upd H p1 (.tup [])) p2 (.tup [.str (gd nm 1),.ref p1])=H2 at *
   lk
   refine M8 hP2 (by rw[sizeLine_eq];simp) ?_
   have a3:=a2.upd (o:=.lst ([]++[.ref p2])) hP0 (.inl ⟨_,hP2⟩) (Ne.symm hPM)
   have hd3:=a3.s _ _ C.d
   have tk:=O7 (o:=.lst ([]++[.ref p2])) (.inl ⟨_,hP2⟩)
   have hT3:=E8 (o:=.lst ([]++[.ref p2])) hT2 (Ne.symm hPT)
   have hP3:(upd H2 P (.lst ([]++[.ref p2]))) P=_:=A5
   have dv3:Dvs K (upd H2 P (.lst ([]++[.ref p2]))) (Tr.das ([]++[Tr.nd (gd nm 1) []])) ([]++[.ref p2]):=wf7 (dn _) (Dv.tupK tk _ _ (yh1 _) dv)
   generalize upd H2 P (.lst ([]++[.ref p2]))=H3 at *
   show xu3 K _ _ _
   lk
   refine T1 (by rw[sizeLine_eq];show _+1<=_;omega) ?_
   lk
   refine M1 (SqL.of hd3) (qb2 (i:=1) (by omega)) ?_
   refine T1 (by rw[sizeLine_eq,J8];show _+1+_<=_;omega) ?_
   lk
   refine T1 (by rw[sizeLine_eq,J8,J8];show _+1+_+1<=_;omega) ?_
   refine E5 ?_
   obtain⟨pre,b,hzt⟩:=yo0 there ""
   have g2:=C.n.bare g eh (by rw[htl];simp;omega) (by rw[hzt,zp,List.map_nil,List.append_nil]) (xu4 z (gd nm 1))
   rw[<-hzt,List.map_nil,List.append_nil] at g2
   exact t17 C a3 hT3 hP3 dv3 hPM hPT hP0 hth lz (by omega) (fun h=>by omega) (.inr rfl) g2 q
  ·rw[decide_eq_false (by omega)]
   k_go
   show yo7 K _ _ _
   obtain⟨mus,m1,_⟩:=a.m
   lk
   refine⟨.inl ⟨rfl,_,SqL.of m1⟩,?_⟩
   lk
   refine wb4 (x:=z) (by omega) ?_
   lk
   refine wb4 (x:=z) (by omega) ?_
   lk
   refine M1 (SqL.of hd) (qb2 (i:=1) (by omega)) ?_
   lk
   refine wb4 (x:=gd nm 1) (by omega) ?_
   lk
   refine⟨D4 (by z_go),fun p hp=>?_⟩
   lk
   refine a.app (by omega) hp fun H3 a3 bt3 tk3=>?_
   have hd3:=a3.s _ _ C.d
   show xu3 K _ _ _
   lk
   refine T1 (by rw[sizeLine_eq];show _+1<=_;omega) ?_
   lk
   refine M1 (SqL.of hd3) (qb2 (i:=1) (by omega)) ?_
   refine T1 (by rw[sizeLine_eq,J8];show _+1+_<=_;omega) ?_
   lk
   refine T1 (by rw[sizeLine_eq,J8,J8];show _+1+_+1<=_;omega) ?_
   refine E5 ?_
   have g2:=C.n.deep (i:=1) g (by omega) eh (by rw[htl];simp;omega) (xu4 z (gd nm 1))
   have em:(⟨(z.length:Int),(z.length:Int)+((opn (gd nm 1)).length:Nat), "","deep"⟩:Mnd)=⟨z.length,(z.length:Int)+(gd nm 1).length+2, "","deep"⟩:=by rw[qt5,Int.add_assoc];rfl
   rw[em] at g2
   exact t17 C a3 (bt3 _ _ hT (by simp;exact Ne.symm C.mt)) (bt3 _ _ hP (by simp;exact hPM)) (dn _) hPM hPT hP0 hth lz (by simp;omega) (fun _=>rfl) (.inl rfl) g2 q
 ·rw[decide_eq_false hn]
  k_go
  exact t17 C a hT hP (dn _) hPM hPT hP0 hth (by omega) (by omega) (fun _=>rfl) (.inl rfl) g q
theorem t19(C:C6 K H0 sc d ns nm L bv M T)(a:M6 K H0 H M [])(hT:H T=some (.lst []))(q:∀ H,Q (.bl true) H) :
 yc7 K {nx:=fun _ H'=>Q .non H',rt:=Q} [some (.ref sc),some (.ref d),some (.int (L:Int)),some bv,some (.str ""),some (.ref M),some (.ref T),x7,x8,none,x10,x11,x12] H:=by
 have h12:=C.n.l
 have g8:∀ i,i<12->(gd nm i).length<=8:=fun i hi=>C.n.N.le _ (qu7 (by omega))
 lk
 refine⟨sc,ns,2,rfl,a.s.sqL C.sc,by decide,fun n=>?_⟩
 lk
 have hw0:=Int.emod_nonneg n (show(31:Int)≠0 by decide)
 have hw3:=Int.emod_lt_of_pos n (show(0:Int)<31 by decide)
 refine wp4 hw0 (by omega) (fun k σ H'=>∃ z there ms x7 x8,σ=[some (.ref sc),some (.ref d),some (.int (L:Int)),some bv,some (.str z),some (.ref M),some (.ref T),x7,x8,none,x10,x11,x12]/\M6 K H0 H' M ms/\H' T=some (.lst (B7 there))/\Th6 nm there/\z.length<=10*k/\ms.length<=k/\G6 (rs6 nm L) (rk6 nm) z ms (zT "" there []) false) ⟨"",[],[],_,_,rfl,a,hT,⟨by simp,fun x hx=>(by cases hx)⟩,Nat.zero_le _,Nat.zero_le _,G6.nil⟩ ?_ ?_
 ·rintro k σ H1 hk ⟨z,there,ms,x7,x8,rfl,a1,hT1,hth,hz,hml,g⟩
  have hd:=a1.s _ _ C.d
  have eh:=(C.n.last hth).1
  rw[<-qk0 there "" []] at eh
  have htl:(zT "" there []).tail.length=there.length:=by
   have:=congrArg List.length (qk0 there "" [])
   rw[List.length_map] at this;exact this
  refine E5 ?_
  show yo5 K _ _ _
  lk
  refine⟨sc,ns,3,rfl,a1.s.sqL C.sc,by decide,fun c=>?_⟩
  lk
  refine⟨c,k,rfl,by omega,by omega,fun n2 hn2=>?_⟩
  lk
  refine qy8 (.inr ⟨by decide,by decide⟩) ?_
  obtain⟨i,hi,ei⟩:∃ i:Nat,(i=0\/i=2)/\n2 % 2*2=(i:Int):=by
   rcases Int.emod_two_eq n2 with e|e
   ·exact⟨0,.inl rfl,by rw[e];rfl⟩
   ·exact⟨2,.inr rfl,by rw[e];rfl⟩
  rw[ei]
  have hi4:i<4:=by omega
  have hi8:=g8 i (by omega)
  refine M1 (SqL.of hd) (qb2 (i:=i) (by omega)) ?_
  refine E5 ?_
  show yo4 K _ _ _
  refine qb1 ?_
  refine wy7 ?_
  lk
  refine P7 (.inl (SqL.of hT1)) ?_
  lk
  rw[B4]
  have lz:(z ++ "<"++gd nm i ++ ">").length<=10*(k+1):=by rw[J8,J8,J8];show _+1+_+1<=_;omega
  have hk31:k<31:=by omega
  by_cases h20:there.length<20
  ·rw[decide_eq_true (by omega)]
   x_go
   lk
   refine⟨.inl ⟨rfl,_,SqL.of hT1⟩,?_⟩
   lk
   refine M8 hT1 (by rw[B4,sizeLine_eq];omega) ?_
   lk
   refine T1 (by rw[sizeLine_eq];show _+1<=_;omega) ?_
   lk
   refine T1 (by rw[sizeLine_eq,J8];show _+1+_<=_;omega) ?_
   lk
   refine T1 (by rw[sizeLine_eq,J8,J8];show _+1+_+1<=_;omega) ?_
   have g2:=C.n.opn (i:=i) g hi4 (by omega) eh (by rw[htl];simp;omega) (xu4 z (gd nm i))
   rw[List.map_nil,List.append_nil,zp,List.map_nil,List.append_nil,ze0] at g2
   refine⟨_,there++[gd nm i],ms,_,_,rfl,a1.upd C.tn (.inl ⟨_,hT1⟩) C.mt,?_,⟨by simp;omega,fun x hx=>?_⟩,lz,by omega,g2⟩
   ·rw[A5]
    unfold B7
    rw[List.map_append];rfl
   ·rcases List.mem_append.mp hx with hx|hx
    ·exact hth.2 x hx
    ·rw[List.mem_singleton.mp hx]
     rcases hi with rfl|rfl
     ·exact .inl rfl
     ·exact .inr rfl
  ·rw[decide_eq_false (by omega)]
   k_go
   show yo3 K _ _ _
   obtain⟨mus,m1,_⟩:=a1.m
   lk
   refine⟨.inl ⟨rfl,_,SqL.of m1⟩,?_⟩
   lk
   refine wb4 (x:=z) (by omega) ?_
   lk
   refine wb4 (x:=z) (by omega) ?_
   lk
   refine wb4 (x:=gd nm i) (by omega) ?_
   lk
   refine⟨D4 (by z_go),fun p hp=>?_⟩
   lk
   refine a1.app (by omega) hp fun H3 a3 bt3 tk3=>?_
   lk
   refine T1 (by rw[sizeLine_eq];show _+1<=_;omega) ?_
   lk
   refine T1 (by rw[sizeLine_eq,J8];show _+1+_<=_;omega) ?_
   lk
   refine T1 (by rw[sizeLine_eq,J8,J8];show _+1+_+1<=_;omega) ?_
   have g2:=C.n.deep (i:=i) g hi4 eh (by rw[htl];simp;omega) (xu4 z (gd nm i))
   have em:(⟨(z.length:Int),(z.length:Int)+((opn (gd nm i)).length:Nat), "","deep"⟩:Mnd)=⟨z.length,(z.length:Int)+(gd nm i).length+2, "","deep"⟩:=by rw[qt5,Int.add_assoc];rfl
   rw[em] at g2
   exact⟨_,there,_,_,_,rfl,a3,bt3 _ _ hT1 (by simp;exact Ne.symm C.mt),hth,lz,by simp;omega,g2⟩
 ·rintro σ H1 ⟨z,there,ms,x7,x8,rfl,a1,hT1,hth,hz,hml,g⟩
  lk
  refine⟨D4 (by z_go),fun P hP=>?_⟩
  have s2:=A6.new hP (.lst [])
  refine E5 ?_
  have hPM:P≠M:=fun e=>by obtain⟨u,m1,_⟩:=a1.m;rw[e,m1] at hP;cases hP
  have hPT:P≠T:=fun e=>by rw[e,hT1] at hP;cases hP
  exact t18 C (a1.same s2) (s2 _ _ hT1) A5 hPM hPT (A6.grow a1.s _ hP) hth (by omega) (by omega) g q
end
def ww7(K:Fg):Sp:=fun vs H Q _=>∃ (a:Addr) (ns:List Int),vs=[.ref a]/\SqL K H a (ns.map V.int)/\ns.length<=63/\∀ H',Q (.bl true) H'
def yp0(K:Fg):TS :=
 (C1 (E1 (D3 (qj6 K) [] E0 (A1 (D3 (L4 K) [] E0 (A1 (A3 0) (A1 (tC (.int 0)) A8))) A8)) (B1 1))
 (ze9 K))
theorem zw0(h:ww7 K vs H Q E):yp0 K {nx:=fun _ H'=>Q .non H',rt:=Q} (D8 ["_law_script","_law_names_here","_law_long","_law_book_here","_law_text","_law_mends","_law_there","_law_k","_law_name","_law_parts","_law_way","_law_more","_law_inner"] vs) H:=by
 obtain⟨sc,ns,rfl,hS,hn63,q⟩:=h
 show yp0 K _ [some (.ref sc),none,none,none,none,none,none,none,none,none,none,none,none] H
 unfold yp0
 lk
 refine⟨sc,ns,0,rfl,hS,by decide,fun c0=>?_⟩
 lk
 refine⟨c0,rfl,fun d nm H1 s1 hd0 hd hnl hN=>?_⟩
 lk
 refine⟨sc,ns,1,rfl,s1.sqL hS,by decide,fun c1=>?_⟩
 lk
 have hw0:=Int.emod_nonneg c1 (show(4:Int)≠0 by decide)
 have hw3:=Int.emod_lt_of_pos c1 (show(0:Int)<4 by decide)
 obtain⟨L,eL⟩:=Int.eq_ofNat_of_zero_le (show 0<=1+c1 % 4 by omega)
 rw[eL]
 have n6:N6 nm L:=⟨hN,hnl,by omega,by omega⟩
 refine⟨d,nm,L,rfl,hd,hnl,n6.l1,n6.l4,fun bv H2 hb s2=>?_⟩
 lk
 refine⟨D4 (by z_go),fun M hM=>?_⟩
 have s3:=A6.new hM (.lst [])
 lk
 refine⟨D4 (by z_go),fun T hT=>?_⟩
 have s4:=A6.new hT (.lst [])
 have hT2:H2 T=none:=(Q9 hT).2
 have C:C6 K H2 sc d ns nm L bv M T:=⟨n6,s2.sqL (s1.sqL hS),s2 _ _ hd,hb,hM,hT2,Ne.symm (Q9 hT).1⟩
 exact t19 C ⟨A6.tr s3 s4,⟨[],s4 _ _ A5,J4⟩,hM⟩ A5 q
end
variable{X:Cx}{pos:Pos}{mg:Str->Option Value}
section
open PyProof.Rows
set_option maxHeartbeats 0
def top(i:Nat):Stmt:=PySem.Challenge.pw_tagmend_k46_too_deep.main.body.getD i (.Pass ⟨0,0,0,0⟩)
def qi3(s:Stmt)(j:Nat):Stmt:=match s with
 | .ClassDef _ _ _ b _ _ _ _ _ _ _=>b.getD j (.Pass ⟨0,0,0,0⟩)
 | _=>.Pass ⟨0,0,0,0⟩
abbrev R4:Stmt:=top 8
abbrev xh2:Stmt:=top 9
abbrev ww8:Stmt:=top 10
abbrev ww9:Stmt:=top 11
abbrev wx0:Stmt:=top 12
abbrev wn7:Stmt:=top 13
abbrev wx1:Stmt:=top 14
abbrev wx2:Stmt:=top 17
abbrev qi9:Stmt:=top 18
abbrev wx3:Stmt:=top 19
abbrev qg2:Stmt:=top 21
abbrev wx4:Stmt:=top 24
abbrev wx5:Stmt:=top 25
abbrev wf9:Stmt:=top 26
abbrev xh3:Stmt:=top 27
abbrev qg3:Stmt:=top 28
abbrev ql6:Stmt:=top 29
abbrev qp8:Stmt:=top 30
abbrev wg0:Stmt:=top 31
abbrev wx6:Stmt:=top 35
abbrev wx7:Stmt:=top 36
abbrev qt8:Stmt:=top 37
abbrev wg1:Stmt:=top 41
abbrev qj0:Stmt:=top 42
abbrev wg2:Stmt:=top 43
abbrev wa5:Stmt:=top 44
abbrev wn8:Stmt:=top 45
abbrev qv2:Stmt:=top 46
abbrev qp9:Stmt:=top 47
abbrev wa6:Stmt:=top 48
abbrev wa7:Stmt:=top 49
abbrev wg3:Stmt:=top 52
abbrev wg4:Stmt:=top 53
abbrev qg4:Stmt:=top 56
abbrev qq0:Stmt:=top 57
abbrev ql7:Stmt:=top 58
abbrev qq1:Stmt:=top 60
abbrev wa8:Stmt:=top 61
abbrev qq2:Stmt:=top 62
abbrev qg5:Stmt:=top 63
abbrev wg5:Stmt:=top 64
abbrev wg6:Stmt:=top 65
abbrev qv3:Stmt:=top 66
abbrev xo6:Stmt:=top 67
abbrev ql8:Stmt:=qi3 (top 54) 0
abbrev ql9:Stmt:=qi3 (top 55) 0
abbrev qm0:Stmt:=qi3 (top 55) 1
abbrev qm1:Stmt:=qi3 (top 55) 2
abbrev qg6:Stmt:=qi3 (top 55) 3
abbrev U1:Stmt:=qi3 (top 55) 4
abbrev U2:Stmt:=qi3 (top 55) 5
abbrev qb3:Stmt:=qi3 (top 55) 6
abbrev R5:Stmt:=qi3 (top 55) 7
abbrev V3:Stmt:=qi3 (top 55) 8
abbrev T0:Stmt:=qi3 (top 55) 9
abbrev qj1:Stmt:=qi3 (top 55) 10
abbrev qj2:Stmt:=qi3 (top 55) 11
abbrev qm2:Stmt:=qi3 (top 55) 12
abbrev qg7:Stmt:=qi3 (top 55) 13
abbrev U3:Stmt:=qi3 (top 55) 14
abbrev R9:Stmt:=qi3 (top 55) 15
abbrev qb4:Stmt:=qi3 (top 55) 16
set_option genInjectivity false in
structure Fa where
 a:Addr
 d:FuncData
structure Fok(K:Fg)(mg:Str->Option Value)(x:Str)(st:Stmt)(ps:List Str)(f:Fa):Prop where
 F:Fun K x x st f.a f.d
 b:T3 K f.d ps []
 m:mg x=some (.ref f.a)
theorem zcl{CX:CXT}{fa:Fa}{st:Stmt}{ps:List Str}{sp:Sp}{p:Pos}{e:Expr}{es:List Expr}{t:TA}(F:J6 X.prog X.w X.K X.mg X.base CX k fa.a fa.d ps sp)(hr:qi5 j X.A)(f:Fok X.K X.mg x st ps fa)(hx:we0 CX X E)(ha:PA X (e::es) t)(hk:k<=j:=by walk_at "le")(hg:autoParam (Gl X x) zAr)(hdb:autoParam ((x == ("__debug__":Str))=false) zAd)(he:autoParam (starEach (e::es) X.env=(false,eval e X.env)::starEach es X.env) zAr)(hpl:autoParam ((backTo pos (starEach es X.env)).any (·.1)=false) zAr):PE X (.Call (.Name x p) (e::es) [] pos) (D3 sp [] E t):=zg1 F (hr.mono hk) hg f.m f.F.kp f.b .nil hx ha hdb he hpl
theorem zst{P:List Str}{sc:Scope}{i:Nat}{e:Expr}{pos':Pos}(S:C0 X.N P sc)(he:PE X e te)(hi:autoParam (X.N[i]?=some x) zAr)(hx:Loc X.env.scope x:=by exact Or.inl rfl)(hs:autoParam (swapsWith e (some (.Name x pos')) pos.line X.env=pure false) zAr)(hf:X.fn x=true\/X.env.scope.names.lookup x=some .local:=by walk_at "or"):PS X (.Assign [.Name x pos'] e pos) (E1 te (B1 i)):=qe4 S.nd hi hx he hs hf
set_option genInjectivity false in
structure Adr where
 za:Fa
 zb:Fa
 zc:Fa
 zd:Fa
 ze:Fa
 zf:Fa
 zh:Fa
 zi:Fa
 zj:Fa
 zk:Fa
 zm:Fa
 zn:Fa
 zo:Fa
 zr:Fa
 zt:Fa
 zu:Fa
 zw:Fa
 zx:Fa
 zy:Fa
 zz:Fa
 ya:Fa
 yb:Fa
 yc:Fa
 yd:Fa
 ye:Fa
 yf:Fa
 yg:Fa
 yh:Fa
 yi:Fa
 yj:Fa
 yk:Fa
 yl:Fa
 ym:Fa
 yn:Fa
 yo:Fa
 yp:Fa
 yq:Fa
 yr:Fa
 yt:Fa
 yu:Fa
 yw:Fa
 yx:Fa
 yy:Fa
 yz:Fa
 a_c_Branch_init:Addr
 d_c_Branch_init:FuncData
 a_c_Reader_init:Addr
 d_c_Reader_init:FuncData
 a_c_Reader_root:Addr
 d_c_Reader_root:FuncData
 a_c_Reader_read:Addr
 d_c_Reader_read:FuncData
 a_c_Reader_finish:Addr
 d_c_Reader_finish:FuncData
 a_c_Reader_read_opening:Addr
 d_c_Reader_read_opening:FuncData
 a_c_Reader_read_closing:Addr
 d_c_Reader_read_closing:FuncData
 a_c_Reader_read_run:Addr
 d_c_Reader_read_run:FuncData
 a_c_Reader_open_names:Addr
 d_c_Reader_open_names:FuncData
 a_c_Reader_is_in_frame:Addr
 d_c_Reader_is_in_frame:FuncData
 a_c_Reader_last_wall:Addr
 d_c_Reader_last_wall:FuncData
 a_c_Reader_enter:Addr
 d_c_Reader_enter:FuncData
 a_c_Reader_leave:Addr
 d_c_Reader_leave:FuncData
 a_c_Reader_drop:Addr
 d_c_Reader_drop:FuncData
 a_c_Reader_put_in:Addr
 d_c_Reader_put_in:FuncData
 a_c_Reader_close_behind:Addr
 d_c_Reader_close_behind:FuncData
 a_c_Reader_put_in_waiting:Addr
 d_c_Reader_put_in_waiting:FuncData
 a_c_Reader_add_text:Addr
 d_c_Reader_add_text:FuncData
 c_WALL_SORTS:Addr
 v_LONGEST_NAME:Value
 v_NAME:Value
 v_SORT:Value
 v_HOST:Value
 v_SHUTS:Value
 v_BARS:Value
 v_ROOT_NAME:Value
 v_MOST_OPEN:Value
 c_TOLD_FOR:Addr
 c_ESCAPED:Addr
 v_START:Value
 v_STOP:Value
 v_BLANKS:Value
 k_Branch:Addr
 k_Reader:Addr
structure Txt(K:Fg)(mg:Str->Option Value)(t:Adr):Prop where
 za:Fok K mg "has_letters_of_name" R4 ["word"] t.za
 zb:Fok K mg "row_of" xh2 ["rows","name"] t.zb
 zc:Fok K mg "sort_of" ww8 ["book","name"] t.zc
 zd:Fok K mg "is_wall" ww9 ["book","name"] t.zd
 ze:Fok K mg "host_of" wx0 ["book","name"] t.ze
 zf:Fok K mg "frame_of" wn7 ["book","name"] t.zf
 zh:Fok K mg "belongs" wx1 ["book","name","frame"] t.zh
 zi:Fok K mg "is_text" wx2 ["part"] t.zi
 zj:Fok K mg "straight_above" qi9 ["names"] t.zj
 zk:Fok K mg "near_of" wx3 ["book","names"] t.zk
 zm:Fok K mg "share_a_name" qg2 ["names","others"] t.zm
 zn:Fok K mg "closing" wx4 ["book","names","name"] t.zn
 zo:Fok K mg "opening" wx5 ["book","names","name"] t.zo
 zr:Fok K mg "hosts_for" wf9 ["book","names"] t.zr
 zt:Fok K mg "wanted" xh3 ["book","names","name"] t.zt
 zu:Fok K mg "wanted_by_guest" qg3 ["book","names","name"] t.zu
 zw:Fok K mg "kept_by_shuts" ql6 ["book","names","name"] t.zw
 zx:Fok K mg "hosts_within" qp8 ["book","name"] t.zx
 zy:Fok K mg "is_barred" wg0 ["book","kept","put"] t.zy
 zz:Fok K mg "escaped" wx6 ["text"] t.zz
 ya:Fok K mg "told_by" wx7 ["run"] t.ya
 yb:Fok K mg "lone_ones" qt8 ["run"] t.yb
 yc:Fok K mg "tokens_of" wg1 ["text"] t.yc
 yd:Fok K mg "settled_tokens" qj0 ["text","settled","searched"] t.yd
 ye:Fok K mg "tags_from" wg2 ["text","searched"] t.ye
 yf:Fok K mg "name_start" wa5 ["text","start"] t.yf
 yg:Fok K mg "tag_stop" wn8 ["text","start"] t.yg
 yh:Fok K mg "tag_between" qv2 ["text","start","stop"] t.yh
 yi:Fok K mg "runs_between" qp9 ["text","start","stop"] t.yi
 yj:Fok K mg "opening_of" wa6 ["name"] t.yj
 yk:Fok K mg "closing_of" wa7 ["name"] t.yk
 yl:Fok K mg "read_text" wg3 ["book","text"] t.yl
 ym:Fok K mg "reader_of" wg4 ["book","text"] t.ym
 yn:Fok K mg "those_that_wait" qg4 ["book","closed"] t.yn
 yo:Fok K mg "without_last" qq0 ["names","name"] t.yo
 yp:Fok K mg "may_come_anew" ql7 ["book","names","name"] t.yp
 yq:Fok K mg "_law_cell_at" qq1 ["_law_script","_law_k"] t.yq
 yr:Fok K mg "_law_mixed" wa8 ["_law_cell","_law_k"] t.yr
 yt:Fok K mg "_law_letters" qq2 ["_law_number"] t.yt
 yu:Fok K mg "_law_names" qg5 ["_law_cell"] t.yu
 yw:Fok K mg "_law_book" wg5 ["_law_names_here","_law_long"] t.yw
 yx:Fok K mg "_law_nest" wg6 ["_law_names_here","_law_parts"] t.yx
 yy:Fok K mg "_law_framed" qv3 ["_law_names_here","_law_long","_law_deep","_law_way","_law_text","_law_mends"] t.yy
 yz:Fok K mg "law" xo6 ["_law_script"] t.yz
 F_c_Branch_init:Fun K "__init__" "Branch.__init__" ql8 t.a_c_Branch_init t.d_c_Branch_init
 b_c_Branch_init:T3 K t.d_c_Branch_init ["self","name","place"] []
 m_c_Branch_init:Mk K t.k_Branch t.a_c_Branch_init
 F_c_Reader_init:Fun K "__init__" "Reader.__init__" ql9 t.a_c_Reader_init t.d_c_Reader_init
 b_c_Reader_init:T3 K t.d_c_Reader_init ["self","book"] []
 m_c_Reader_init:Mk K t.k_Reader t.a_c_Reader_init
 F_c_Reader_root:Fun K "root" "Reader.root" qm0 t.a_c_Reader_root t.d_c_Reader_root
 b_c_Reader_root:T3 K t.d_c_Reader_root ["self"] []
 m_c_Reader_root:qy6 K t.k_Reader "root" t.a_c_Reader_root
 F_c_Reader_read:Fun K "read" "Reader.read" qm1 t.a_c_Reader_read t.d_c_Reader_read
 b_c_Reader_read:T3 K t.d_c_Reader_read ["self","kind","start","signs","told"] []
 m_c_Reader_read:qy6 K t.k_Reader "read" t.a_c_Reader_read
 F_c_Reader_finish:Fun K "finish" "Reader.finish" qg6 t.a_c_Reader_finish t.d_c_Reader_finish
 b_c_Reader_finish:T3 K t.d_c_Reader_finish ["self","size"] []
 m_c_Reader_finish:qy6 K t.k_Reader "finish" t.a_c_Reader_finish
 F_c_Reader_read_opening:Fun K "read_opening" "Reader.read_opening" U1 t.a_c_Reader_read_opening t.d_c_Reader_read_opening
 b_c_Reader_read_opening:T3 K t.d_c_Reader_read_opening ["self","start","signs","name"] []
 m_c_Reader_read_opening:qy6 K t.k_Reader "read_opening" t.a_c_Reader_read_opening
 F_c_Reader_read_closing:Fun K "read_closing" "Reader.read_closing" U2 t.a_c_Reader_read_closing t.d_c_Reader_read_closing
 b_c_Reader_read_closing:T3 K t.d_c_Reader_read_closing ["self","start","signs","name"] []
 m_c_Reader_read_closing:qy6 K t.k_Reader "read_closing" t.a_c_Reader_read_closing
 F_c_Reader_read_run:Fun K "read_run" "Reader.read_run" qb3 t.a_c_Reader_read_run t.d_c_Reader_read_run
 b_c_Reader_read_run:T3 K t.d_c_Reader_read_run ["self","start","signs","told"] []
 m_c_Reader_read_run:qy6 K t.k_Reader "read_run" t.a_c_Reader_read_run
 F_c_Reader_open_names:Fun K "open_names" "Reader.open_names" R5 t.a_c_Reader_open_names t.d_c_Reader_open_names
 b_c_Reader_open_names:T3 K t.d_c_Reader_open_names ["self"] []
 m_c_Reader_open_names:qy6 K t.k_Reader "open_names" t.a_c_Reader_open_names
 F_c_Reader_is_in_frame:Fun K "is_in_frame" "Reader.is_in_frame" V3 t.a_c_Reader_is_in_frame t.d_c_Reader_is_in_frame
 b_c_Reader_is_in_frame:T3 K t.d_c_Reader_is_in_frame ["self"] []
 m_c_Reader_is_in_frame:qy6 K t.k_Reader "is_in_frame" t.a_c_Reader_is_in_frame
 F_c_Reader_last_wall:Fun K "last_wall" "Reader.last_wall" T0 t.a_c_Reader_last_wall t.d_c_Reader_last_wall
 b_c_Reader_last_wall:T3 K t.d_c_Reader_last_wall ["self"] []
 m_c_Reader_last_wall:qy6 K t.k_Reader "last_wall" t.a_c_Reader_last_wall
 F_c_Reader_enter:Fun K "enter" "Reader.enter" qj1 t.a_c_Reader_enter t.d_c_Reader_enter
 b_c_Reader_enter:T3 K t.d_c_Reader_enter ["self","name"] []
 m_c_Reader_enter:qy6 K t.k_Reader "enter" t.a_c_Reader_enter
 F_c_Reader_leave:Fun K "leave" "Reader.leave" qj2 t.a_c_Reader_leave t.d_c_Reader_leave
 b_c_Reader_leave:T3 K t.d_c_Reader_leave ["self"] []
 m_c_Reader_leave:qy6 K t.k_Reader "leave" t.a_c_Reader_leave
 F_c_Reader_drop:Fun K "drop" "Reader.drop" qm2 t.a_c_Reader_drop t.d_c_Reader_drop
 b_c_Reader_drop:T3 K t.d_c_Reader_drop ["self","start","signs","rule"] []
 m_c_Reader_drop:qy6 K t.k_Reader "drop" t.a_c_Reader_drop
 F_c_Reader_put_in:Fun K "put_in" "Reader.put_in" qg7 t.a_c_Reader_put_in t.d_c_Reader_put_in
 b_c_Reader_put_in:T3 K t.d_c_Reader_put_in ["self","name","start","rule"] []
 m_c_Reader_put_in:qy6 K t.k_Reader "put_in" t.a_c_Reader_put_in
 F_c_Reader_close_behind:Fun K "close_behind" "Reader.close_behind" U3 t.a_c_Reader_close_behind t.d_c_Reader_close_behind
 b_c_Reader_close_behind:T3 K t.d_c_Reader_close_behind ["self","kept","start","rule"] []
 m_c_Reader_close_behind:qy6 K t.k_Reader "close_behind" t.a_c_Reader_close_behind
 F_c_Reader_put_in_waiting:Fun K "put_in_waiting" "Reader.put_in_waiting" R9 t.a_c_Reader_put_in_waiting t.d_c_Reader_put_in_waiting
 b_c_Reader_put_in_waiting:T3 K t.d_c_Reader_put_in_waiting ["self","start"] []
 m_c_Reader_put_in_waiting:qy6 K t.k_Reader "put_in_waiting" t.a_c_Reader_put_in_waiting
 F_c_Reader_add_text:Fun K "add_text" "Reader.add_text" qb4 t.a_c_Reader_add_text t.d_c_Reader_add_text
 b_c_Reader_add_text:T3 K t.d_c_Reader_add_text ["self","start","signs","told"] []
 m_c_Reader_add_text:qy6 K t.k_Reader "add_text" t.a_c_Reader_add_text
 g_WALL_SORTS:mg "WALL_SORTS"=some (.ref t.c_WALL_SORTS)
 q_WALL_SORTS:∀ H:Hp,SqT K H t.c_WALL_SORTS [.str "room",.str "frame"]
 g_LONGEST_NAME:mg "LONGEST_NAME"=some t.v_LONGEST_NAME/\J9 (.int 8) t.v_LONGEST_NAME
 g_NAME:mg "NAME"=some t.v_NAME/\J9 (.int 0) t.v_NAME
 g_SORT:mg "SORT"=some t.v_SORT/\J9 (.int 1) t.v_SORT
 g_HOST:mg "HOST"=some t.v_HOST/\J9 (.int 2) t.v_HOST
 g_SHUTS:mg "SHUTS"=some t.v_SHUTS/\J9 (.int 3) t.v_SHUTS
 g_BARS:mg "BARS"=some t.v_BARS/\J9 (.int 4) t.v_BARS
 g_ROOT_NAME:mg "ROOT_NAME"=some t.v_ROOT_NAME/\J9 (.str "") t.v_ROOT_NAME
 g_MOST_OPEN:mg "MOST_OPEN"=some t.v_MOST_OPEN/\J9 (.int 20) t.v_MOST_OPEN
 g_TOLD_FOR:mg "TOLD_FOR"=some (.ref t.c_TOLD_FOR)
 q_TOLD_FOR:∀ H:Hp,SqT K H t.c_TOLD_FOR [.str "&l;",.str "&a;"]
 g_ESCAPED:mg "ESCAPED"=some (.ref t.c_ESCAPED)
 q_ESCAPED:∀ H:Hp,SqT K H t.c_ESCAPED [.str "<",.str "&"]
 g_START:mg "START"=some t.v_START/\J9 (.int 1) t.v_START
 g_STOP:mg "STOP"=some t.v_STOP/\J9 (.int 2) t.v_STOP
 g_BLANKS:mg "BLANKS"=some t.v_BLANKS/\J9 (.str " \n") t.v_BLANKS
 z_all:mg "all"=none
 z_any:mg "any"=none
 z_enumerate:mg "enumerate"=none
 z_int:mg "int"=none
 z_isinstance:mg "isinstance"=none
 z_len:mg "len"=none
 z_list:mg "list"=none
 z_range:mg "range"=none
 z_reversed:mg "reversed"=none
 z_str:mg "str"=none
 z_tuple:mg "tuple"=none
 n_Branch:mg "Branch"=some (.ref t.k_Branch)
 n_Reader:mg "Reader"=some (.ref t.k_Reader)
 cz:Cz K t.k_Branch t.k_Reader
section
variable{P:Program}{w:World}{base:Heap}{t:Adr}
theorem qg8:C0 ["word"] ["word"] (B0 R4):=by walk_at "k"
theorem xo7:C0 ["rows","name","row"] ["rows","name"] (B0 xh2):=by walk_at "k"
theorem xh4:C0 ["book","name","row"] ["book","name"] (B0 ww8):=by walk_at "k"
theorem xh5:C0 ["book","name"] ["book","name"] (B0 ww9):=by walk_at "k"
theorem xh6:C0 ["book","name","row"] ["book","name"] (B0 wx0):=by walk_at "k"
theorem wz4:C0 ["book","name","row"] ["book","name"] (B0 wn7):=by walk_at "k"
theorem xh7:C0 ["book","name","frame","above"] ["book","name","frame"] (B0 wx1):=by walk_at "k"
theorem xh8:C0 ["part"] ["part"] (B0 wx2):=by walk_at "k"
theorem qt9:C0 ["names"] ["names"] (B0 qi9):=by walk_at "k"
theorem xh9:C0 ["book","names","start","number","name"] ["book","names"] (B0 wx3):=by walk_at "k"
theorem wc3:C0 ["names","others"] ["names","others"] (B0 qg2):=by walk_at "k"
theorem xi0:C0 ["book","names","name","number"] ["book","names","name"] (B0 wx4):=by walk_at "k"
theorem xi1:C0 ["book","names","name","plan","kept","put"] ["book","names","name"] (B0 wx5):=by walk_at "k"
theorem ws0:C0 ["book","names","hosts"] ["book","names"] (B0 wf9):=by walk_at "k"
theorem wi9:C0 ["book","names","name","frame","number","plan"] ["book","names","name"] (B0 xh3):=by walk_at "k"
theorem qq3:C0 ["book","names","name","hosts"] ["book","names","name"] (B0 qg3):=by walk_at "k"
theorem qx4:C0 ["book","names","name","shuts","first_near","number"] ["book","names","name"] (B0 ql6):=by walk_at "k"
theorem wc4:C0 ["book","name","hosts","host"] ["book","name"] (B0 qp8):=by walk_at "k"
theorem ws1:C0 ["book","kept","put","number","name","near"] ["book","kept","put"] (B0 wg0):=by walk_at "k"
theorem xi2:C0 ["text"] ["text"] (B0 wx6):=by walk_at "k"
theorem xi3:C0 ["run"] ["run"] (B0 wx7):=by walk_at "k"
theorem ws2:C0 ["run"] ["run"] (B0 qt8):=by walk_at "k"
theorem ws3:C0 ["text","tokens","settled"] ["text"] (B0 wg1):=by walk_at "k"
theorem qu0:C0 ["text","settled","searched","tokens","tag"] ["text","settled","searched"] (B0 qj0):=by walk_at "k"
theorem ws4:C0 ["text","searched","tags","start","stop"] ["text","searched"] (B0 wg2):=by walk_at "k"
theorem wl2:C0 ["text","start"] ["text","start"] (B0 wa5):=by walk_at "k"
theorem wz5:C0 ["text","start","first","end"] ["text","start"] (B0 wn8):=by walk_at "k"
theorem wg7:C0 ["text","start","stop","first","kind"] ["text","start","stop"] (B0 qv2):=by walk_at "k"
theorem wc5:C0 ["text","start","stop"] ["text","start","stop"] (B0 qp9):=by walk_at "k"
theorem wl3:C0 ["name"] ["name"] (B0 wa6):=by walk_at "k"
theorem wl4:C0 ["name"] ["name"] (B0 wa7):=by walk_at "k"
theorem ws5:C0 ["book","text","reader"] ["book","text"] (B0 wg3):=by walk_at "k"
theorem ws6:C0 ["book","text","reader","kind","start","stop","told"] ["book","text"] (B0 wg4):=by walk_at "k"
theorem qq4:C0 ["book","closed","waiting","name"] ["book","closed"] (B0 qg4):=by walk_at "k"
theorem wc6:C0 ["names","name","number"] ["names","name"] (B0 qq0):=by walk_at "k"
theorem qx5:C0 ["book","names","name","row","unfit"] ["book","names","name"] (B0 ql7):=by walk_at "k"
theorem wc7:C0 ["_law_script","_law_k"] ["_law_script","_law_k"] (B0 qq1):=by walk_at "k"
theorem wl5:C0 ["_law_cell","_law_k","_law_half","_law_number"] ["_law_cell","_law_k"] (B0 wa8):=by walk_at "k"
theorem wc8:C0 ["_law_number","_law_signs","_law_width","_law_j"] ["_law_number"] (B0 qq2):=by walk_at "k"
theorem wl6:C0 ["_law_cell","_law_letters_here","_law_names_here","_law_k","_law_signs","_law_name","_law_spare"] ["_law_cell"] (B0 qg5):=by walk_at "k"
theorem ws7:C0 ["_law_names_here","_law_long","_law_rows","_law_k"] ["_law_names_here","_law_long"] (B0 wg5):=by walk_at "k"
theorem ws8:C0 ["_law_names_here","_law_parts","_law_name"] ["_law_names_here","_law_parts"] (B0 wg6):=by walk_at "k"
theorem wg8:C0 ["_law_names_here","_law_long","_law_deep","_law_way","_law_text","_law_mends","_law_chain","_law_start","_law_more","_law_stop","_law_wide","_law_name"] ["_law_names_here","_law_long","_law_deep","_law_way","_law_text","_law_mends"] (B0 qv3):=by walk_at "k"
theorem zf1:C0 ["_law_script","_law_names_here","_law_long","_law_book_here","_law_text","_law_mends","_law_there","_law_k","_law_name","_law_parts","_law_way","_law_more","_law_inner"] ["_law_script"] (B0 xo6):=by walk_at "k"
theorem qx6:C0 ["self","name","place"] ["self","name","place"] (B0 ql8):=by walk_at "k"
theorem qx7:C0 ["self","book"] ["self","book"] (B0 ql9):=by walk_at "k"
theorem qx8:C0 ["self"] ["self"] (B0 qm0):=by walk_at "k"
theorem qx9:C0 ["self","kind","start","signs","told"] ["self","kind","start","signs","told"] (B0 qm1):=by walk_at "k"
theorem qq5:C0 ["self","size"] ["self","size"] (B0 qg6):=by walk_at "k"
theorem qc0:C0 ["self","start","signs","name","plan","put"] ["self","start","signs","name"] (B0 U1):=by walk_at "k"
theorem qc1:C0 ["self","start","signs","name","number","wall"] ["self","start","signs","name"] (B0 U2):=by walk_at "k"
theorem ql0:C0 ["self","start","signs","told","hosts","host","number","place"] ["self","start","signs","told"] (B0 qb3):=by walk_at "k"
theorem qg9:C0 ["self"] ["self"] (B0 R5):=by walk_at "k"
theorem qe2:C0 ["self"] ["self"] (B0 V3):=by walk_at "k"
theorem qi4:C0 ["self","walls"] ["self"] (B0 T0):=by walk_at "k"
theorem qu1:C0 ["self","name","above"] ["self","name"] (B0 qj1):=by walk_at "k"
theorem qu2:C0 ["self","branch"] ["self"] (B0 qj2):=by walk_at "k"
theorem qy0:C0 ["self","start","signs","rule"] ["self","start","signs","rule"] (B0 qm2):=by walk_at "k"
theorem qq6:C0 ["self","name","start","rule"] ["self","name","start","rule"] (B0 qg7):=by walk_at "k"
theorem qc2:C0 ["self","kept","start","rule","closed","name"] ["self","kept","start","rule"] (B0 U3):=by walk_at "k"
theorem X8:C0 ["self","start","wall","names","name"] ["self","start"] (B0 R9):=by walk_at "k"
theorem ql1:C0 ["self","start","signs","told","branch","ahead"] ["self","start","signs","told"] (B0 qb4):=by walk_at "k"
theorem wa9(T:Txt K mg t):J6 P w K mg base CX0 1 t.za.a t.za.d ["word"] (Q5 K):=by
 refine T.za.F.ok qg8 (by walk_at "n") (fun cdv A outer s H vs Q E hr h=>⟨R1 K,?_,qz6 h⟩)
 have S:=qg8
 refine A7 ?_
 refine C7 ?_
 exact(yu7 (xv9 xq5 xq5 A9 (C9 C4 rfl T.z_len boot_len (A0 (pv 0) A2)) (M3 rfl T.g_LONGEST_NAME.1 T.g_LONGEST_NAME.2)) (yu6 (C9 (ys0 rfl) rfl T.z_all boot_all (A0 (wp0 rfl (qd3 (osc:=B0 R4) (ON:=["word"]) (N:=["sign"]) (fr:=[none]) (by decide +kernel) rfl rfl) (yl8 (pv 0)) (fun _ _ _ _ _ _=>(E3 (i:=0) (show List.Nodup (["sign"]:List Str) by decide +kernel) rfl (Or.inl rfl))) wh3 (fun _ _ _ _ _ _=>xb7) (fun _ _ _ _ _ _=>(xv9 xq5 xq5 B2 (pv 0) B2))) A2))))
theorem qy1(T:Txt K mg t):J6 P w K mg base CX0 1 t.zb.a t.zb.d ["rows","name"] (qd7 K):=by
 refine T.zb.F.ok xo7 (yg7 K) (fun cdv A outer s H vs Q E hr h=>⟨wp8 K,?_,ys6 h⟩)
 have S:=xo7
 refine A4 ?_ ?_
 ·refine R7 PassesOwn.never rfl ?_ ?_ ?_
  ·exact(qe9 (pv 0))
  ·exact(E3 (i:=2) S.nd rfl (Or.inl rfl))
  ·refine A7 ?_
   refine M4 ?_ ?_ ?_
   ·exact(C5 (P6 (qh2 hr)) (D6 (B8 (D1 hr)) (pv 2) (M3 rfl T.g_NAME.1 T.g_NAME.2) (fun _ _=>rfl)) (pv 1) (D5 _))
   ·refine A7 ?_
    exact(C7 (pv 2))
   ·exact E9
 refine A7 ?_
 exact(C7 T8)
theorem qu3(T:Txt K mg t):J6 P w K mg base CX0 1 t.zf.a t.zf.d ["book","name"] (qd8 K):=by
 refine T.zf.F.ok wz4 (by walk_at "n") (fun cdv A outer s H vs Q E hr h=>⟨wm4 K,?_,xy3 h⟩)
 have S:=wz4
 refine A4 ?_ ?_
 ·refine R7 PassesOwn.never rfl ?_ ?_ ?_
  ·exact(qe9 (pv 0))
  ·exact(E3 (i:=2) S.nd rfl (Or.inl rfl))
  ·refine A7 ?_
   refine M4 ?_ ?_ ?_
   ·exact(PW.pt (wl8 (C5 (P6 (qh2 hr)) (D6 (B8 (D1 hr)) (pv 2) (M3 rfl T.g_SORT.1 T.g_SORT.2) (fun _ _=>rfl)) B2 (D5 _)) (qy4 (C5 (P6 (qh2 hr)) (D6 (B8 (D1 hr)) (pv 2) (M3 rfl T.g_HOST.1 T.g_HOST.2) (fun _ _=>rfl)) (pv 1) (D5 _)))))
   ·refine A7 ?_
    exact(C7 (D6 (B8 (D1 hr)) (pv 2) (M3 rfl T.g_NAME.1 T.g_NAME.2) (fun _ _=>rfl)))
   ·exact E9
 refine A7 ?_
 exact(C7 T8)
theorem yj1(T:Txt K mg t):J6 P w K mg base CX0 1 t.zi.a t.zi.d ["part"] (qz0 K):=by
 refine T.zi.F.ok xh8 (by walk_at "n") (fun cdv A outer s H vs Q E hr h=>⟨wh7 K,?_,yh2 h⟩)
 have S:=xh8
 refine A7 ?_
 exact(C7 (C9 wt7 rfl T.z_isinstance boot_isinstance (A0 (pv 0) (A0 (zf3 rfl T.z_str boot_str rfl) A2))))
theorem qh0(T:Txt K mg t):J6 P w K mg base CX0 1 t.zj.a t.zj.d ["names"] (O9 K):=by
 refine T.zj.F.ok qt9 (by walk_at "n") (fun cdv A outer s H vs Q E hr h=>⟨Y2 K,?_,wq5 h⟩)
 have S:=qt9
 refine A7 ?_
 exact(C7 (qo8 (C5 qo9 (C9 C4 rfl T.z_len boot_len (A0 (pv 0) A2)) A9 (D5 _)) (D6 (B8 (D1 hr)) (pv 0) (qr5 qe6 A9) (fun _ _=>rfl)) (M3 rfl T.g_ROOT_NAME.1 T.g_ROOT_NAME.2)))
theorem wc9(T:Txt K mg t):J6 P w K mg base CX0 1 t.zm.a t.zm.d ["names","others"] (V7 K):=by
 refine T.zm.F.ok wc3 (by walk_at "n") (fun cdv A outer s H vs Q E hr h=>⟨qf5 K,?_,xa5 h⟩)
 have S:=wc3
 refine A7 ?_
 refine C7 ?_
 exact(C9 (ys1 rfl) rfl T.z_any boot_any (A0 (wp0 rfl (qd3 (osc:=B0 qg2) (ON:=["names","others"]) (N:=["others","name"]) (fr:=[some 1,none]) (by decide +kernel) rfl rfl) (qe9 (pv 0)) (fun _ _ _ _ _ _=>(E3 (i:=1) (show List.Nodup (["others","name"]:List Str) by decide +kernel) rfl (Or.inl rfl))) wh3 (fun _ _ _ _ _ _=>xb7) (fun _ _ _ _ _ _=>(qm9 (wt6 (D1 hr)) (pv 1) (pv 0) (by with_unfolding_all rfl)))) A2))
theorem yj2(T:Txt K mg t):J6 P w K mg base CX0 1 t.zz.a t.zz.d ["text"] (qz8 K):=by
 refine T.zz.F.ok xi2 (by walk_at "n") (fun cdv A outer s H vs Q E hr h=>⟨wi5 K,?_,yi4 h⟩)
 have S:=xi2
 refine A7 ?_
 exact(C7 (xb9 (xb9 (pv 0))))
theorem yj3(T:Txt K mg t):J6 P w K mg base CX0 1 t.ya.a t.ya.d ["run"] (qz5 K):=by
 refine T.ya.F.ok xi3 (by walk_at "n") (fun cdv A outer s H vs Q E hr h=>⟨wi4 K,?_,yi2 h⟩)
 have S:=xi3
 refine A7 ?_
 exact(C7 (xb9 (xb9 (pv 0))))
theorem xu5(T:Txt K mg t):J6 P w K mg base CX0 1 t.yb.a t.yb.d ["run"] (qn8 K):=by
 refine T.yb.F.ok ws2 (by walk_at "n") (fun cdv A outer s H vs Q E hr h=>⟨qs2 K t.c_TOLD_FOR t.c_ESCAPED,?_,xr8 T.q_TOLD_FOR T.q_ESCAPED h⟩)
 have S:=ws2
 refine A7 ?_
 refine C7 ?_
 exact(wp0 rfl (qd3 (osc:=B0 qt8) (ON:=["run"]) (N:=["run","number","sign"]) (fr:=[some 0,none,none]) (by decide +kernel) rfl rfl) (yy6 rfl T.z_enumerate (A0 (pv 0) A2)) (fun _ _ _ _ _ _=>(xc3 rfl (V4 (E3 (i:=1) (show List.Nodup (["run","number","sign"]:List Str) by decide +kernel) rfl (Or.inl rfl)) (V4 (E3 (i:=2) (show List.Nodup (["run","number","sign"]:List Str) by decide +kernel) rfl (Or.inl rfl)) wo4)))) (zr1 (yk9 rfl (yk9 rfl zr0))) (fun _ _ _ _ _ _=>(xq2 (PW.pt (wl8 (C5 (wt6 (D1 hr)) (pv 2) (M3 rfl T.g_ESCAPED rfl) (by with_unfolding_all rfl)) (qy4 (C5 (xm8 (D1 hr)) (P9 ql3 (pv 0) (N4 (pv 1)) (N4 (B3 B5 (pv 1) A9))) (M3 rfl T.g_TOLD_FOR rfl) (by with_unfolding_all rfl))))))) (fun _ _ _ _ _ _=>(pv 1)))
theorem wl7(T:Txt K mg t):J6 P w K mg base CX0 1 t.yf.a t.yf.d ["text","start"] (qb9 K):=by
 refine T.yf.F.ok wl2 (by walk_at "n") (fun cdv A outer s H vs Q E hr h=>⟨qn9 K,?_,xj9 h⟩)
 have S:=wl2
 refine A7 ?_
 exact(C7 (qo8 (ql2 (N8 PySem.F.plainAttrs_str PySem.F.slot_str_startswith PySem.F.type_str_startswith yr7 (pv 0) (A0 B2 (A0 (pv 1) A2)))) (B3 B5 (pv 1) A9) (B3 B5 (pv 1) A9)))
theorem xl2(T:Txt K mg t):J6 P w K mg base CX0 1 t.yj.a t.yj.d ["name"] (qj8 K):=by
 refine T.yj.F.ok wl3 (by walk_at "n") (fun cdv A outer s H vs Q E hr h=>⟨qo2 K,?_,xk2 h⟩)
 have S:=wl3
 refine A7 ?_
 exact(C7 (zo1 (pv 0)))
theorem xl3(T:Txt K mg t):J6 P w K mg base CX0 1 t.yk.a t.yk.d ["name"] (qj9 K):=by
 refine T.yk.F.ok wl4 (by walk_at "n") (fun cdv A outer s H vs Q E hr h=>⟨qo3 K,?_,xk3 h⟩)
 have S:=wl4
 refine A7 ?_
 exact(C7 (zo1 (pv 0)))
theorem xb3(T:Txt K mg t):J6 P w K mg base CX0 1 t.yo.a t.yo.d ["names","name"] (qd1 K):=by
 refine T.yo.F.ok wc6 (by walk_at "n") (fun cdv A outer s H vs Q E hr h=>⟨qf9 K,?_,xa8 h⟩)
 have S:=wc6
 refine A4 ?_ ?_
 ·refine zst (i:=2) S ?_
  exact(B3 xc7 (C9 C4 rfl T.z_len boot_len (A0 (pv 0) A2)) A9)
 refine A4 ?_ ?_
 ·refine wo5 PassesOwn.never ?_ ?_
  ·exact(C5 (yf2 (qh2 hr)) (D6 (B8 (D1 hr)) (pv 0) (pv 2) (fun _ _=>rfl)) (pv 1) (D5 _))
  ·refine A7 ?_
   refine zst (i:=2) S ?_
   exact(B3 xc7 (pv 2) A9)
 refine A7 ?_
 exact(C7 (B3 B5 (P9 ql3 (pv 0) qj4 (N4 (pv 2))) (P9 ql3 (pv 0) (N4 (B3 B5 (pv 2) A9)) qj4)))
theorem P8(T:Txt K mg t):J6 P w K mg base CX0 1 t.yq.a t.yq.d ["_law_script","_law_k"] (L4 K):=by
 refine T.yq.F.ok wc7 (by walk_at "n") (fun cdv A outer s H vs Q E hr h=>⟨qf2 K,?_,xa2 h⟩)
 have S:=wc7
 refine A4 ?_ ?_
 ·refine M4 ?_ ?_ ?_
  ·exact(C5 xd6 (pv 1) (C9 C4 rfl T.z_len boot_len (A0 (pv 0) A2)) (D5 _))
  ·refine A7 ?_
   exact(C7 (D6 (B8 (D1 hr)) (pv 0) (pv 1) (fun _ _=>rfl)))
  ·exact E9
 refine A7 ?_
 exact(C7 A9)
theorem qv4(T:Txt K mg t):J6 P w K mg base CX0 1 t.yr.a t.yr.d ["_law_cell","_law_k"] (V8 K):=by
 refine T.yr.F.ok wl5 (by walk_at "n") (fun cdv A outer s H vs Q E hr h=>⟨qn3 K,?_,xj4 h⟩)
 have S:=wl5
 refine A4 ?_ ?_
 ·refine zst (i:=2) S ?_
  exact(B3 xb4 (pv 0) A9)
 refine A4 ?_ ?_
 ·refine M4 ?_ ?_ ?_
  ·exact(C5 (P6 (qh2 hr)) (B3 U7 (pv 0) A9) A9 (D5 _))
  ·refine A7 ?_
   exact(C7 (B3 U7 (B3 yv5 (pv 2) (B3 qe8 A9 (pv 1))) (B3 yv4 A9 A9)))
  ·exact E9
 refine A4 ?_ ?_
 ·refine zst (i:=3) S ?_
  exact(B3 B5 (B3 U7 (pv 2) A9) (B3 qe8 A9 (B3 B5 (pv 1) A9)))
 refine A4 ?_ ?_
 ·refine zst (i:=3) S ?_
  exact(B3 U7 (B3 B5 (B3 qe8 (pv 3) (pv 3)) (B3 qe8 A9 (pv 1))) A9)
 refine A7 ?_
 exact(C7 (B3 U7 (B3 B5 (B3 B5 (B3 qe8 (pv 3) (pv 3)) (B3 qe8 A9 (pv 1))) A9) A9))
theorem qm3(T:Txt K mg t):J6 P w K mg base CX0 1 t.yt.a t.yt.d ["_law_number"] (S0 K):=by
 refine T.yt.F.ok wc8 (by walk_at "n") (fun cdv A outer s H vs Q E hr h=>⟨qf3 K,?_,xa3 h⟩)
 have S:=wc8
 refine A4 ?_ ?_
 ·refine zst (i:=1) S ?_
  exact(O5 A2)
 refine A4 ?_ ?_
 ·refine zst (i:=2) S ?_
  exact(B3 B5 A9 (B3 U7 (pv 0) A9))
 refine A4 ?_ ?_
 ·refine zst (i:=0) S ?_
  exact(B3 xb4 (pv 0) A9)
 refine A4 ?_ ?_
 ·refine R7 PassesOwn.never rfl ?_ ?_ ?_
  ·exact(wh1 rfl T.z_range (A0 (pv 2) A2))
  ·exact(E3 (i:=3) S.nd rfl (Or.inl rfl))
  ·refine A4 ?_ ?_
   ·exact(D0 (N8 PySem.F.plainAttrs_list PySem.F.slot_list_append PySem.F.type_list_append D9 (pv 1) (A0 (B3 U7 (pv 0) A9) A2)))
   refine A7 ?_
   refine zst (i:=0) S ?_
   exact(B3 xb4 (pv 0) A9)
 refine A7 ?_
 exact(C7 (pv 1))
theorem xu6(T:Txt K mg t):J6 P w K mg base CX0 1 t.yw.a t.yw.d ["_law_names_here","_law_long"] (qo7 K):=by
 refine T.yw.F.ok ws7 (by walk_at "n") (fun cdv A outer s H vs Q E hr h=>⟨qt7 K,?_,xu2 h⟩)
 have S:=ws7
 refine A4 ?_ ?_
 ·refine qe4 (i:=2) S.nd rfl (Or.inl rfl) ?_ rfl ?_
  ·refine O5 ?_
   refine A0 ?_ ?_
   ·exact(C8 (A0 (D6 (B8 (D1 hr)) (pv 0) A9 (fun _ _=>rfl)) (A0 B2 (A0 B2 (A0 (C8 A2) (A0 (C8 A2) A2))))))
   refine A0 ?_ ?_
   ·exact(C8 (A0 (D6 (B8 (D1 hr)) (pv 0) A9 (fun _ _=>rfl)) (A0 B2 (A0 B2 (A0 (C8 A2) (A0 (C8 A2) A2))))))
   refine A0 ?_ ?_
   ·exact(C8 (A0 (D6 (B8 (D1 hr)) (pv 0) A9 (fun _ _=>rfl)) (A0 B2 (A0 B2 (A0 (C8 A2) (A0 (C8 A2) A2))))))
   exact A2
  ·walk_at "or"
 refine A4 ?_ ?_
 ·refine R7 PassesOwn.never rfl ?_ ?_ ?_
  ·exact(wh1 rfl T.z_range (A0 (pv 1) A2))
  ·exact(E3 (i:=3) S.nd rfl (Or.inl rfl))
  ·refine A7 ?_
   exact(D0 (N8 PySem.F.plainAttrs_list PySem.F.slot_list_append PySem.F.type_list_append D9 (pv 2) (A0 (C8 (A0 (D6 (B8 (D1 hr)) (pv 0) (B3 B5 A9 (pv 3)) (fun _ _=>rfl)) (A0 B2 (A0 (D6 (B8 (D1 hr)) (pv 0) (B3 B5 A9 (pv 3)) (fun _ _=>rfl)) (A0 (C8 A2) (A0 (C8 A2) A2)))))) A2)))
 refine A4 ?_ ?_
 ·exact(D0 (N8 PySem.F.plainAttrs_list PySem.F.slot_list_append PySem.F.type_list_append D9 (pv 2) (A0 (C8 (A0 (D6 (B8 (D1 hr)) (pv 0) (B3 B5 A9 (pv 1)) (fun _ _=>rfl)) (A0 B2 (A0 B2 (A0 (C8 A2) (A0 (C8 A2) A2)))))) A2)))
 refine A7 ?_
 exact(C7 (Q7 U4 rfl T.z_tuple boot_tuple (A0 (pv 2) A2)))
theorem ws9(T:Txt K mg t):J6 P w K mg base CX0 1 t.yx.a t.yx.d ["_law_names_here","_law_parts"] (qg0 K):=by
 refine T.yx.F.ok ws8 (by walk_at "n") (fun cdv A outer s H vs Q E hr h=>⟨qt6 K,?_,xu1 h⟩)
 have S:=ws8
 refine A4 ?_ ?_
 ·refine R7 PassesOwn.never rfl ?_ ?_ ?_
  ·exact(xq9 rfl T.z_reversed (A0 (pv 0) A2))
  ·exact(E3 (i:=2) S.nd rfl (Or.inl rfl))
  ·refine A7 ?_
   refine zst (i:=1) S ?_
   exact(C8 (A0 (C8 (A0 (pv 2) (A0 (pv 1) A2))) A2))
 refine A7 ?_
 exact(C7 (pv 1))
theorem qy2(T:Txt K mg t):J6 P w K mg base CX0 1 t.a_c_Branch_init t.d_c_Branch_init ["self","name","place"] (T9 K):=by
 refine T.F_c_Branch_init.ok qx6 (by walk_at "n") (fun cdv A outer s H vs Q E hr h=>⟨qc5 K,?_,wu1 T.cz h⟩)
 have S:=qx6
 refine A4 ?_ ?_
 ·exact(qu6 (pv 0) (pv 1) rfl)
 refine A4 ?_ ?_
 ·exact(qu6 (pv 0) (pv 2) rfl)
 refine A4 ?_ ?_
 ·exact(qu6 (pv 0) (O5 A2) rfl)
 refine A7 ?_
 exact(qu6 (pv 0) (O5 A2) rfl)
theorem wx8(T:Txt K mg t):J6 P w K mg base CX0 1 t.a_c_Reader_root t.d_c_Reader_root ["self"] (Y6 K):=by
 refine T.F_c_Reader_root.ok qx8 (by walk_at "n") (fun cdv A outer s H vs Q E hr h=>⟨qc9 K,?_,wv6 T.cz h⟩)
 have S:=qx8
 refine A7 ?_
 exact(C7 (C8 (A0 (M3 rfl T.g_ROOT_NAME.1 T.g_ROOT_NAME.2) (A0 (Q7 U4 rfl T.z_tuple boot_tuple (A0 (G8 (D6 (B8 (D1 hr)) (G8 (pv 0) rfl) A9 (fun _ _=>rfl)) rfl) A2)) A2))))
theorem M0(T:Txt K mg t):J6 P w K mg base CX0 1 t.a_c_Reader_open_names t.d_c_Reader_open_names ["self"] (E2 K):=by
 refine T.F_c_Reader_open_names.ok qg9 (by walk_at "n") (fun cdv A outer s H vs Q E hr h=>⟨R3 K,?_,qz9 T.cz h⟩)
 have S:=qg9
 refine A7 ?_
 exact(C7 (Q7 U4 rfl T.z_tuple boot_tuple (A0 (wp0 rfl (qd3 (osc:=B0 R5) (ON:=["self"]) (N:=["branch"]) (fr:=[none]) (by decide +kernel) rfl rfl) (qe9 (P9 ql3 (G8 (pv 0) rfl) (N4 A9) qj4)) (fun _ _ _ _ _ _=>(E3 (i:=0) (show List.Nodup (["branch"]:List Str) by decide +kernel) rfl (Or.inl rfl))) wh3 (fun _ _ _ _ _ _=>xb7) (fun _ _ _ _ _ _=>(G8 (pv 0) rfl))) A2)))
theorem qh1(T:Txt K mg t):J6 P w K mg base CX0 1 t.a_c_Reader_leave t.d_c_Reader_leave ["self"] (P0 K):=by
 refine T.F_c_Reader_leave.ok qu2 (by walk_at "n") (fun cdv A outer s H vs Q E hr h=>⟨Y7 K,?_,wr1 T.cz h⟩)
 have S:=qu2
 refine A4 ?_ ?_
 ·refine zst (i:=1) S ?_
  exact(yw5 PySem.F.plainAttrs_list PySem.F.slot_list_pop PySem.F.type_list_pop yw6 (G8 (pv 0) rfl))
 refine A7 ?_
 exact(D0 (N8 PySem.F.plainAttrs_list PySem.F.slot_list_append PySem.F.type_list_append D9 (G8 (D6 (B8 (D1 hr)) (G8 (pv 0) rfl) (qr5 qe6 A9) (fun _ _=>rfl)) rfl) (A0 (C8 (A0 (G8 (pv 1) rfl) (A0 (Q7 U4 rfl T.z_tuple boot_tuple (A0 (G8 (pv 1) rfl) A2)) A2))) A2)))
theorem Q8(T:Txt K mg t):J6 P w K mg base CX0 1 t.a_c_Reader_drop t.d_c_Reader_drop ["self","start","signs","rule"] (L9 K):=by
 refine T.F_c_Reader_drop.ok qy0 (by walk_at "n") (fun cdv A outer s H vs Q E hr h=>⟨qc6 K,?_,wu2 T.cz h⟩)
 have S:=qy0
 refine A7 ?_
 exact(D0 (N8 PySem.F.plainAttrs_list PySem.F.slot_list_append PySem.F.type_list_append D9 (G8 (pv 0) rfl) (A0 (C8 (A0 (pv 1) (A0 (B3 B5 (pv 1) (C9 C4 rfl T.z_len boot_len (A0 (pv 2) A2))) (A0 B2 (A0 (pv 3) A2))))) A2)))
theorem qq7(T:Txt K mg t):J6 P w K mg base CX0 2 t.zc.a t.zc.d ["book","name"] (X4 K):=by
 refine T.zc.F.ok xh4 (by walk_at "n") (fun cdv A outer s H vs Q E hr h=>⟨wt8 K,?_,yg8 h⟩)
 have S:=xh4
 refine A4 ?_ ?_
 ·refine zst (i:=2) S ?_
  exact(zcl (qy1 T) hr T.zb B6 (A0 (pv 0) (A0 (pv 1) A2)))
 refine A7 ?_
 exact(C7 (qo8 (C5 wm0 (pv 2) T8 (D5 _)) T8 (D6 (B8 (D1 hr)) (pv 2) (M3 rfl T.g_SORT.1 T.g_SORT.2) (fun _ _=>rfl))))
theorem xi4(T:Txt K mg t):J6 P w K mg base CX0 2 t.ze.a t.ze.d ["book","name"] (qp1 K):=by
 refine T.ze.F.ok xh6 (by walk_at "n") (fun cdv A outer s H vs Q E hr h=>⟨wt9 K,?_,yg9 h⟩)
 have S:=xh6
 refine A4 ?_ ?_
 ·refine zst (i:=2) S ?_
  exact(zcl (qy1 T) hr T.zb B6 (A0 (pv 0) (A0 (pv 1) A2)))
 refine A4 ?_ ?_
 ·refine M4 ?_ ?_ ?_
  ·exact(PW.pt (yu3 (C5 wm0 (pv 2) T8 (D5 _)) (yc9 (C5 (yf2 (qh2 hr)) (D6 (B8 (D1 hr)) (pv 2) (M3 rfl T.g_SORT.1 T.g_SORT.2) (fun _ _=>rfl)) B2 (D5 _)))))
  ·refine A7 ?_
   exact(C7 T8)
  ·exact E9
 refine A7 ?_
 exact(C7 (D6 (B8 (D1 hr)) (pv 2) (M3 rfl T.g_HOST.1 T.g_HOST.2) (fun _ _=>rfl)))
theorem yj4(T:Txt K mg t):J6 P w K mg base CX0 2 t.zh.a t.zh.d ["book","name","frame"] (qy9 K):=by
 refine T.zh.F.ok xh7 (by walk_at "n") (fun cdv A outer s H vs Q E hr h=>⟨wu0 K,?_,yh0 h⟩)
 have S:=xh7
 refine A4 ?_ ?_
 ·refine zst (i:=3) S ?_
  exact(zcl (qu3 T) hr T.zf B6 (A0 (pv 0) (A0 (pv 1) A2)))
 refine A4 ?_ ?_
 ·refine wo5 PassesOwn.never ?_ ?_
  ·exact(C5 qv9 (pv 3) T8 (D5 _))
  ·refine A4 ?_ ?_
   ·refine M4 ?_ ?_ ?_
    ·exact(C5 (P6 (qh2 hr)) (pv 3) (pv 2) (D5 _))
    ·refine A7 ?_
     exact(C7 yj6)
    ·exact E9
   refine A7 ?_
   refine zst (i:=3) S ?_
   exact(zcl (qu3 T) hr T.zf B6 (A0 (pv 0) (A0 (pv 3) A2)))
 refine A7 ?_
 exact(C7 yj6)
theorem yc8(T:Txt K mg t):J6 P w K mg base CX0 2 t.yg.a t.yg.d ["text","start"] (qs3 K):=by
 refine T.yg.F.ok wz5 (by walk_at "n") (fun cdv A outer s H vs Q E hr h=>⟨qz7 K,?_,ya3 h⟩)
 have S:=wz5
 refine A4 ?_ ?_
 ·refine zst (i:=2) S ?_
  exact(zcl (wl7 T) hr T.yf B6 (A0 (pv 0) (A0 (pv 1) A2)))
 refine A4 ?_ ?_
 ·refine zst (i:=3) S ?_
  exact(N8 PySem.F.plainAttrs_str PySem.F.slot_str_find PySem.F.type_str_find yz0 (pv 0) (A0 B2 (A0 (pv 2) (A0 (B3 B5 (B3 B5 (pv 2) (M3 rfl T.g_LONGEST_NAME.1 T.g_LONGEST_NAME.2)) A9) A2))))
 refine A4 ?_ ?_
 ·refine M4 ?_ ?_ ?_
  ·exact(PW.pt (yu3 (C5 xd6 (pv 3) A9 (D5 _)) (yc9 (yu4 (ql2 (zcl (wa9 T) hr T.za B6 (A0 (P9 ql3 (pv 0) (N4 (pv 2)) (N4 (pv 3))) A2)))))))
  ·refine A7 ?_
   exact(C7 T8)
  ·exact E9
 refine A7 ?_
 exact(C7 (B3 B5 (pv 3) A9))
theorem xi5(T:Txt K mg t):J6 P w K mg base CX0 2 t.yh.a t.yh.d ["text","start","stop"] (qf6 K):=by
 refine T.yh.F.ok wg7 (by walk_at "n") (fun cdv A outer s H vs Q E hr h=>⟨qj7 K,?_,xf9 h⟩)
 have S:=wg7
 refine A4 ?_ ?_
 ·refine zst (i:=3) S ?_
  exact(zcl (wl7 T) hr T.yf B6 (A0 (pv 0) (A0 (pv 1) A2)))
 refine A4 ?_ ?_
 ·refine zst (i:=4) S ?_
  exact(qo8 (C5 (P6 (qh2 hr)) (pv 3) (B3 B5 (pv 1) A9) (D5 _)) B2 B2)
 refine A7 ?_
 exact(C7 (C8 (A0 (pv 4) (A0 (pv 1) (A0 (pv 2) (A0 (P9 ql3 (pv 0) (N4 (pv 3)) (N4 (B3 xc7 (pv 2) A9))) A2))))))
theorem wd0(T:Txt K mg t):J6 P w K mg base CX0 2 t.yi.a t.yi.d ["text","start","stop"] (S1 K):=by
 refine T.yi.F.ok wc5 (by walk_at "n") (fun cdv A outer s H vs Q E hr h=>⟨qf7 K,?_,xa7 h⟩)
 have S:=wc5
 refine A4 ?_ ?_
 ·refine M4 ?_ ?_ ?_
  ·exact(C5 (P6 (qh2 hr)) (pv 1) (pv 2) (D5 _))
  ·refine A7 ?_
   exact(C7 (O5 A2))
  ·exact E9
 refine A7 ?_
 exact(C7 (O5 (A0 (C8 (A0 B2 (A0 (pv 1) (A0 (pv 2) (A0 (zcl (yj3 T) hr T.ya B6 (A0 (P9 ql3 (pv 0) (N4 (pv 1)) (N4 (pv 2))) A2)) A2))))) A2)))
theorem xl4(T:Txt K mg t):J6 P w K mg base CX0 2 t.yu.a t.yu.d ["_law_cell"] (qj6 K):=by
 refine T.yu.F.ok wl6 (by walk_at "n") (fun cdv A outer s H vs Q E hr h=>⟨qn4 K,?_,xj5 h⟩)
 have S:=wl6
 refine A4 ?_ ?_
 ·refine qe4 (i:=1) S.nd rfl (Or.inr rfl) ?_ rfl ?_
  ·exact B2
  ·walk_at "or"
 refine A4 ?_ ?_
 ·refine qe4 (i:=2) S.nd rfl (Or.inr rfl) ?_ rfl ?_
  ·exact(O5 A2)
  ·walk_at "or"
 refine A4 ?_ ?_
 ·refine R7 PassesOwn.never rfl ?_ ?_ ?_
  ·exact(wh1 rfl T.z_range (A0 A9 A2))
  ·exact(E3 (i:=3) S.nd rfl (Or.inl rfl))
  ·refine A4 ?_ ?_
   ·refine qe4 (i:=4) S.nd rfl (Or.inl rfl) ?_ rfl ?_
    ·refine zcl (qm3 T) hr T.yt B6 ?_
     refine A0 ?_ ?_
     ·exact(B3 U7 (B3 yv5 (B3 xb4 (pv 0) A9) (B3 qe8 A9 (pv 3))) (B3 yv4 A9 A9))
     exact A2
    ·walk_at "or"
   refine A4 ?_ ?_
   ·refine M4 ?_ ?_ ?_
    ·exact(C5 (P6 (qh2 hr)) (B3 U7 (pv 0) A9) A9 (D5 _))
    ·refine A4 ?_ ?_
     ·refine qe4 (i:=4) S.nd rfl (Or.inl rfl) ?_ rfl ?_
      ·refine zcl (qm3 T) hr T.yt B6 ?_
       refine A0 ?_ ?_
       ·exact(zcl (qv4 T) hr T.yr B6 (A0 (pv 0) (A0 A9 A2)))
       exact A2
      ·walk_at "or"
     refine A7 ?_
     exact(xp1 (B3 U7 (B3 B5 (D6 (B8 (D1 hr)) (pv 4) (qr5 qe6 A9) (fun _ _=>rfl)) (pv 3)) A9) (yd3 (pv 4) (qr5 qe6 A9) (xd9 (D1 hr))))
    ·exact E9
   refine A4 ?_ ?_
   ·refine M4 ?_ ?_ ?_
    ·exact(C5 (P6 (qh2 hr)) (B3 U7 (pv 0) A9) A9 (D5 _))
    ·refine A4 ?_ ?_
     ·refine zst (i:=4) S ?_
      exact(P9 ql3 (zcl (qm3 T) hr T.yt B6 (A0 (B3 B5 A9 (B3 qe8 A9 (zcl (qv4 T) hr T.yr B6 (A0 (pv 0) (A0 A9 A2))))) A2)) qj4 (N4 (B3 B5 (B3 U7 (pv 3) A9) A9)))
     refine A7 ?_
     exact(xp1 (B3 U7 (B3 B5 (D6 (B8 (D1 hr)) (pv 4) A9 (fun _ _=>rfl)) (Q7 wh6 rfl T.z_int boot_int (A0 (qm9 qo9 (pv 3) A9 (D5 _)) A2))) A9) (yd3 (pv 4) A9 (xd9 (D1 hr))))
    ·exact E9
   refine A4 ?_ ?_
   ·refine zst (i:=5) S ?_
    exact(N8 PySem.F.plainAttrs_str PySem.F.slot_str_join PySem.F.type_str_join zh3 B2 (A0 (wp0 rfl (qd3 (osc:=B0 qg5) (ON:=["_law_cell","_law_letters_here","_law_names_here","_law_k","_law_signs","_law_name","_law_spare"]) (N:=["_law_letters_here","_law_j"]) (fr:=[some 1,none]) (by decide +kernel) rfl rfl) (qe9 (pv 4)) (fun _ _ _ _ _ _=>(E3 (i:=1) (show List.Nodup (["_law_letters_here","_law_j"]:List Str) by decide +kernel) rfl (Or.inl rfl))) wh3 (fun _ _ _ _ _ _=>xb7) (fun _ _ _ _ _ _=>(D6 (B8 (D1 hr)) (pv 0) (pv 1) (fun _ _=>rfl)))) A2))
   refine A4 ?_ ?_
   ·exact(yl1 (i:=6) S.nd rfl rfl rfl (qd3 (osc:=B0 qg5) (ON:=["_law_cell","_law_letters_here","_law_names_here","_law_k","_law_signs","_law_name","_law_spare"]) (N:=["_law_names_here","_law_letter"]) (fr:=[some 2,none]) (by decide +kernel) rfl rfl) (yl8 (pv 1)) (fun _ _ _ _ _ _=>(E3 (i:=1) (show List.Nodup (["_law_names_here","_law_letter"]:List Str) by decide +kernel) rfl (Or.inl rfl))) wh3 (fun _ _ _ _ _ _=>(xq2 (C5 (xm8 (D1 hr)) (B3 qe8 (pv 1) A9) (pv 0) (by with_unfolding_all rfl)))) (fun _ _ _ _ _ _=>(B3 qe8 (pv 1) A9)))
   refine A7 ?_
   exact(D0 (N8 PySem.F.plainAttrs_list PySem.F.slot_list_append PySem.F.type_list_append D9 (pv 2) (A0 (D6 (B8 (D1 hr)) (O5 (A0 (pv 5) (A0 (D6 (B8 (D1 hr)) (pv 6) A9 (fun _ _=>rfl)) A2))) (Q7 wh6 rfl T.z_int boot_int (A0 (qm9 (wt6 (D1 hr)) (pv 5) (B3 B5 (pv 2) (O5 (A0 B2 (A0 B2 A2)))) (by with_unfolding_all rfl)) A2)) (fun _ _=>rfl)) A2)))
 refine A7 ?_
 exact(C7 (pv 2))
theorem xi6(T:Txt K mg t):J6 P w K mg base CX0 2 t.yy.a t.yy.d ["_law_names_here","_law_long","_law_deep","_law_way","_law_text","_law_mends"] (qg1 K):=by
 refine T.yy.F.ok wg8 (by walk_at "n") (fun cdv A outer s H vs Q E hr h=>⟨qk1 K,?_,xh1 h⟩)
 have S:=wg8
 refine A4 ?_ ?_
 ·refine zst (i:=6) S ?_
  exact(P9 ql3 (pv 0) (N4 A9) (N4 (B3 B5 A9 (pv 1))))
 refine A4 ?_ ?_
 ·refine zst (i:=7) S ?_
  exact(C9 C4 rfl T.z_len boot_len (A0 (pv 4) A2))
 refine A4 ?_ ?_
 ·refine M4 ?_ ?_ ?_
  ·exact(C5 qo9 (pv 2) A9 (D5 _))
  ·refine A4 ?_ ?_
   ·exact(D0 (N8 PySem.F.plainAttrs_list PySem.F.slot_list_append PySem.F.type_list_append D9 (pv 5) (A0 (C8 (A0 (pv 7) (A0 (B3 B5 (B3 B5 (pv 7) (C9 C4 rfl T.z_len boot_len (A0 (D6 (B8 (D1 hr)) (pv 6) A9 (fun _ _=>rfl)) A2))) A9) (A0 B2 (A0 B2 A2))))) A2)))
   refine A7 ?_
   refine C7 ?_
   refine C8 ?_
   refine A0 ?_ ?_
   ·refine D6 ?_ ?_ ?_ ?_
    ·exact B8 (D1 hr)
    ·refine O5 ?_
     refine A0 ?_ ?_
     ·exact(B3 B5 (B3 B5 B2 (D6 (B8 (D1 hr)) (pv 6) A9 (fun _ _=>rfl))) B2)
     refine A0 ?_ ?_
     ·exact(B3 B5 (B3 B5 B2 (D6 (B8 (D1 hr)) (pv 6) A9 (fun _ _=>rfl))) B2)
     refine A0 ?_ ?_
     ·exact(B3 B5 (B3 B5 B2 (D6 (B8 (D1 hr)) (pv 6) A9 (fun _ _=>rfl))) B2)
     exact A2
    ·exact(pv 3)
    ·exact fun _ _=>rfl
   refine A0 ?_ ?_
   ·exact(C8 A2)
   exact A2
  ·exact E9
 refine A4 ?_ ?_
 ·refine zst (i:=7) S ?_
  exact(B3 B5 (B3 B5 (pv 7) (C9 C4 rfl T.z_len boot_len (A0 (D6 (B8 (D1 hr)) (pv 6) A9 (fun _ _=>rfl)) A2))) A9)
 refine A4 ?_ ?_
 ·refine zst (i:=8) S ?_
  exact(D6 (B8 (D1 hr)) (O5 (A0 B2 (A0 B2 (A0 (B3 B5 (B3 B5 B2 (D6 (B8 (D1 hr)) (pv 0) A9 (fun _ _=>rfl))) B2) A2)))) (pv 3) (fun _ _=>rfl))
 refine A4 ?_ ?_
 ·refine zst (i:=4) S ?_
  exact(B3 B5 (B3 B5 (B3 B5 B2 (D6 (B8 (D1 hr)) (pv 6) A9 (fun _ _=>rfl))) B2) (pv 8))
 refine A4 ?_ ?_
 ·refine zst (i:=9) S ?_
  exact(B3 B5 (pv 7) (C9 C4 rfl T.z_len boot_len (A0 (pv 8) A2)))
 refine A4 ?_ ?_
 ·refine zst (i:=10) S ?_
  exact(B3 B5 (B3 B5 (B3 B5 (pv 2) A9) (pv 1)) (Q7 wh6 rfl T.z_int boot_int (A0 (qm9 (P6 (qh2 hr)) (pv 3) A9 (D5 _)) A2)))
 refine A4 ?_ ?_
 ·refine M4 ?_ ?_ ?_
  ·exact(PW.pt (yu3 (C5 (P6 (qh2 hr)) (pv 3) A9 (D5 _)) (yc9 (C5 qo9 (pv 10) A9 (D5 _)))))
  ·refine A4 ?_ ?_
   ·exact(D0 (N8 PySem.F.plainAttrs_list PySem.F.slot_list_append PySem.F.type_list_append D9 (pv 5) (A0 (C8 (A0 (pv 7) (A0 (pv 9) (A0 B2 (A0 (D6 (B8 (D1 hr)) (O5 (A0 B2 (A0 B2 A2))) (Q7 wh6 rfl T.z_int boot_int (A0 (qm9 (P6 (qh2 hr)) (pv 3) A9 (D5 _)) A2)) (fun _ _=>rfl)) A2))))) A2)))
   refine A4 ?_ ?_
   ·exact(D0 (N8 PySem.F.plainAttrs_list PySem.F.slot_list_append PySem.F.type_list_append D9 (pv 5) (A0 (C8 (A0 (pv 9) (A0 (pv 9) (A0 (B3 B5 (B3 B5 B2 (D6 (B8 (D1 hr)) (pv 6) A9 (fun _ _=>rfl))) B2) (A0 B2 A2))))) A2)))
   refine A7 ?_
   exact(C7 (C8 (A0 (pv 4) (A0 (C8 (A0 (C8 (A0 (D6 (B8 (D1 hr)) (pv 6) A9 (fun _ _=>rfl)) (A0 (C8 A2) A2))) A2)) A2))))
  ·exact E9
 refine A4 ?_ ?_
 ·refine R7 PassesOwn.never rfl ?_ ?_ ?_
  ·exact(qe9 (P9 ql3 (pv 6) (N4 A9) qj4))
  ·exact(E3 (i:=11) S.nd rfl (Or.inl rfl))
  ·refine A7 ?_
   exact(D0 (N8 PySem.F.plainAttrs_list PySem.F.slot_list_append PySem.F.type_list_append D9 (pv 5) (A0 (C8 (A0 (pv 7) (A0 (pv 7) (A0 (B3 B5 (B3 B5 B2 (pv 11)) B2) (A0 (D6 (B8 (D1 hr)) (O5 (A0 B2 (A0 B2 (A0 B2 A2)))) (pv 3) (fun _ _=>rfl)) A2))))) A2)))
 refine A4 ?_ ?_
 ·refine R7 PassesOwn.never rfl ?_ ?_ ?_
  ·exact(xq9 rfl T.z_reversed (A0 (pv 6) A2))
  ·exact(E3 (i:=11) S.nd rfl (Or.inl rfl))
  ·refine A7 ?_
   exact(D0 (N8 PySem.F.plainAttrs_list PySem.F.slot_list_append PySem.F.type_list_append D9 (pv 5) (A0 (C8 (A0 (pv 9) (A0 (pv 9) (A0 (B3 B5 (B3 B5 B2 (pv 11)) B2) (A0 B2 A2))))) A2)))
 refine A7 ?_
 refine C7 ?_
 refine C8 ?_
 refine A0 ?_ ?_
 ·exact(pv 4)
 refine A0 ?_ ?_
 ·refine zcl (ws9 T) hr T.yx B6 ?_
  refine A0 ?_ ?_
  ·exact(pv 6)
  refine A0 ?_ ?_
  ·refine C8 ?_
   refine A0 ?_ ?_
   ·refine D6 ?_ ?_ ?_ ?_
    ·exact B8 (D1 hr)
    ·exact(O5 (A0 B2 (A0 B2 (A0 (C8 (A0 (D6 (B8 (D1 hr)) (pv 0) A9 (fun _ _=>rfl)) (A0 (C8 A2) A2))) A2))))
    ·exact(pv 3)
    ·exact fun _ _=>rfl
   exact A2
  exact A2
 exact A2
theorem wg9(T:Txt K mg t):J6 P w K mg base CX0 2 t.a_c_Reader_add_text t.d_c_Reader_add_text ["self","start","signs","told"] (S8 K):=by
 refine T.F_c_Reader_add_text.ok ql1 (by walk_at "n") (fun cdv A outer s H vs Q E hr h=>⟨T5 K,?_,wf5 T.cz h⟩)
 have S:=ql1
 refine A4 ?_ ?_
 ·refine zst (i:=4) S ?_
  exact(D6 (B8 (D1 hr)) (G8 (pv 0) rfl) (qr5 qe6 A9) (fun _ _=>rfl))
 refine A4 ?_ ?_
 ·refine zst (i:=5) S ?_
  exact B2
 refine A4 ?_ ?_
 ·refine M4 ?_ ?_ ?_
  ·exact(PW.pt (wl8 (C5 qo9 (C9 C4 rfl T.z_len boot_len (A0 (G8 (pv 4) rfl) A2)) A9 (D5 _)) (qy4 (ql2 (zcl (yj1 T) hr T.zi B6 (A0 (D6 (B8 (D1 hr)) (G8 (pv 4) rfl) (qr5 qe6 A9) (fun _ _=>rfl)) A2))))))
  ·refine A7 ?_
   refine zst (i:=5) S ?_
   exact(yw5 PySem.F.plainAttrs_list PySem.F.slot_list_pop PySem.F.type_list_pop yw6 (G8 (pv 4) rfl))
  ·exact E9
 refine A4 ?_ ?_
 ·exact(D0 (N8 PySem.F.plainAttrs_list PySem.F.slot_list_append PySem.F.type_list_append D9 (G8 (pv 0) rfl) (A0 (C8 (A0 (pv 1) (A0 (pv 2) (A0 (B3 Y0 (G8 (pv 4) rfl) (C8 (A0 (C9 C4 rfl T.z_len boot_len (A0 (G8 (pv 4) rfl) A2)) A2))) (A0 (C9 C4 rfl T.z_len boot_len (A0 (pv 5) A2)) A2))))) A2)))
 refine A7 ?_
 exact(D0 (N8 PySem.F.plainAttrs_list PySem.F.slot_list_append PySem.F.type_list_append D9 (G8 (pv 4) rfl) (A0 (B3 Y0 (pv 5) (pv 3)) A2)))
theorem wb0(T:Txt K mg t):J6 P w K mg base CX0 3 t.zd.a t.zd.d ["book","name"] (qd5 K):=by
 refine T.zd.F.ok xh5 (by walk_at "n") (fun cdv A outer s H vs Q E hr h=>⟨wh9 K t.c_WALL_SORTS,?_,yh5 T.q_WALL_SORTS h⟩)
 have S:=xh5
 refine A7 ?_
 exact(C7 (qm9 (wt6 (D1 hr)) (zcl (qq7 T) hr T.zc B6 (A0 (pv 0) (A0 (pv 1) A2))) (M3 rfl T.g_WALL_SORTS rfl) (by with_unfolding_all rfl)))
theorem wd1(T:Txt K mg t):J6 P w K mg base CX0 3 t.zx.a t.zx.d ["book","name"] (V6 K):=by
 refine T.zx.F.ok wc4 (by walk_at "n") (fun cdv A outer s H vs Q E hr h=>⟨qf4 K,?_,xa4 h⟩)
 have S:=wc4
 refine A4 ?_ ?_
 ·refine zst (i:=2) S ?_
  exact(O5 A2)
 refine A4 ?_ ?_
 ·refine zst (i:=3) S ?_
  exact(zcl (xi4 T) hr T.ze B6 (A0 (pv 0) (A0 (pv 1) A2)))
 refine A4 ?_ ?_
 ·refine wo5 PassesOwn.never ?_ ?_
  ·exact(C5 qv9 (pv 3) T8 (D5 _))
  ·refine A4 ?_ ?_
   ·exact(D0 (N8 PySem.F.plainAttrs_list PySem.F.slot_list_append PySem.F.type_list_append D9 (pv 2) (A0 (pv 3) A2)))
   refine A7 ?_
   refine zst (i:=3) S ?_
   exact(zcl (xi4 T) hr T.ze B6 (A0 (pv 0) (A0 (pv 3) A2)))
 refine A7 ?_
 exact(C7 (Q7 U4 rfl T.z_tuple boot_tuple (A0 (pv 2) A2)))
theorem xu7(T:Txt K mg t):J6 P w K mg base CX0 3 t.ye.a t.ye.d ["text","searched"] (qo0 K):=by
 refine T.ye.F.ok ws4 (by walk_at "n") (fun cdv A outer s H vs Q E hr h=>⟨qs4 K,?_,xs2 h⟩)
 have S:=ws4
 refine A4 ?_ ?_
 ·refine zst (i:=2) S ?_
  exact(O5 A2)
 refine A4 ?_ ?_
 ·refine zst (i:=3) S ?_
  exact(N8 PySem.F.plainAttrs_str PySem.F.slot_str_find PySem.F.type_str_find xe0 (pv 0) (A0 B2 (A0 (pv 1) A2)))
 refine A4 ?_ ?_
 ·refine wo5 PassesOwn.never ?_ ?_
  ·exact(C5 zr4 (pv 3) A9 (D5 _))
  ·refine A4 ?_ ?_
   ·refine zst (i:=4) S ?_
    exact(zcl (yc8 T) hr T.yg B6 (A0 (pv 0) (A0 (pv 3) A2)))
   refine A7 ?_
   refine M4 ?_ ?_ ?_
   ·exact(C5 wm0 (pv 4) T8 (D5 _))
   ·refine A7 ?_
    refine zst (i:=3) S ?_
    exact(N8 PySem.F.plainAttrs_str PySem.F.slot_str_find PySem.F.type_str_find xe0 (pv 0) (A0 B2 (A0 (B3 B5 (pv 3) A9) A2)))
   ·refine A4 ?_ ?_
    ·exact(D0 (N8 PySem.F.plainAttrs_list PySem.F.slot_list_append PySem.F.type_list_append D9 (pv 2) (A0 (zcl (xi5 T) hr T.yh B6 (A0 (pv 0) (A0 (pv 3) (A0 (pv 4) A2)))) A2)))
    refine A7 ?_
    refine zst (i:=3) S ?_
    exact(N8 PySem.F.plainAttrs_str PySem.F.slot_str_find PySem.F.type_str_find xe0 (pv 0) (A0 B2 (A0 (pv 4) A2)))
 refine A7 ?_
 exact(C7 (pv 2))
theorem wx9(T:Txt K mg t):J6 P w K mg base CX0 3 t.a_c_Reader_init t.d_c_Reader_init ["self","book"] (Y5 K):=by
 refine T.F_c_Reader_init.ok qx7 (by walk_at "n") (fun cdv A outer s H vs Q E hr h=>⟨qc8 K t.k_Branch,?_,wv4 T.cz h⟩)
 have S:=qx7
 refine A4 ?_ ?_
 ·exact(qu6 (pv 0) (pv 1) rfl)
 refine A4 ?_ ?_
 ·exact(qu6 (pv 0) (O5 (A0 (xp4 T.m_c_Branch_init (qy2 T) (hr.mono (by walk_at "le")) rfl T.n_Branch T.b_c_Branch_init .nil B6 (A0 (M3 rfl T.g_ROOT_NAME.1 T.g_ROOT_NAME.2) (A0 (C8 A2) A2))) A2)) rfl)
 refine A4 ?_ ?_
 ·exact(qu6 (pv 0) (O5 A2) rfl)
 refine A7 ?_
 exact(qu6 (pv 0) (O5 A2) rfl)
theorem qy3(T:Txt K mg t):J6 P w K mg base CX0 3 t.a_c_Reader_is_in_frame t.d_c_Reader_is_in_frame ["self"] (P1 K):=by
 refine T.F_c_Reader_is_in_frame.ok qe2 (by walk_at "n") (fun cdv A outer s H vs Q E hr h=>⟨Q6 K t.k_Reader,?_,qw7 T.cz h⟩)
 have S:=qe2
 refine A7 ?_
 refine C7 ?_
 refine qm9 (P6 (qh2 hr)) ?_ ?_ (D5 _)
 ·refine zcl (qq7 T) hr T.zc B6 ?_
  refine A0 ?_ ?_
  ·exact(G8 (pv 0) rfl)
  refine A0 ?_ ?_
  ·refine zcl (qh0 T) hr T.zj B6 ?_
   refine A0 ?_ ?_
   ·exact(S5 (pv 0) T.cz.cl_Reader T.m_c_Reader_open_names (M0 T) (hr.mono (by walk_at "le")) T.b_c_Reader_open_names .nil B6)
   exact A2
  exact A2
 ·exact B2
theorem qu4(T:Txt K mg t):J6 P w K mg base CX0 3 t.a_c_Reader_enter t.d_c_Reader_enter ["self","name"] (S6 K):=by
 refine T.F_c_Reader_enter.ok qu1 (by walk_at "n") (fun cdv A outer s H vs Q E hr h=>⟨Y1 K t.k_Branch,?_,wq3 T.cz h⟩)
 have S:=qu1
 refine A4 ?_ ?_
 ·refine zst (i:=2) S ?_
  exact(D6 (B8 (D1 hr)) (G8 (pv 0) rfl) (qr5 qe6 A9) (fun _ _=>rfl))
 refine A7 ?_
 exact(D0 (N8 PySem.F.plainAttrs_list PySem.F.slot_list_append PySem.F.type_list_append D9 (G8 (pv 0) rfl) (A0 (xp4 T.m_c_Branch_init (qy2 T) (hr.mono (by walk_at "le")) rfl T.n_Branch T.b_c_Branch_init .nil B6 (A0 (pv 1) (A0 (B3 Y0 (G8 (pv 2) rfl) (C8 (A0 (C9 C4 rfl T.z_len boot_len (A0 (G8 (pv 2) rfl) A2)) A2))) A2))) A2)))
theorem wn9(T:Txt K mg t):J6 P w K mg base CX0 4 t.zk.a t.zk.d ["book","names"] (qi8 K):=by
 refine T.zk.F.ok xh9 (by walk_at "n") (fun cdv A outer s H vs Q E hr h=>⟨wi2 K,?_,yh7 h⟩)
 have S:=xh9
 refine A4 ?_ ?_
 ·refine zst (i:=2) S ?_
  exact A9
 refine A4 ?_ ?_
 ·refine R7 PassesOwn.never rfl ?_ ?_ ?_
  ·exact(xx9 rfl T.z_enumerate (A0 (pv 1) A2))
  ·exact(xc3 rfl (V4 (E3 (i:=3) S.nd rfl (Or.inl rfl)) (V4 (E3 (i:=4) S.nd rfl (Or.inl rfl)) wo4)))
  ·refine A7 ?_
   refine M4 ?_ ?_ ?_
   ·exact(ql2 (zcl (wb0 T) hr T.zd B6 (A0 (pv 0) (A0 (pv 4) A2))))
   ·refine A7 ?_
    refine zst (i:=2) S ?_
    exact(B3 Y0 (pv 3) A9)
   ·exact E9
 refine A7 ?_
 exact(C7 (Q7 U4 rfl T.z_tuple boot_tuple (A0 (P9 wp5 (pv 1) (N4 (pv 2)) qj4) A2)))
theorem wo0(T:Txt K mg t):J6 P w K mg base CX0 4 t.zn.a t.zn.d ["book","names","name"] (qp3 K):=by
 refine T.zn.F.ok xi0 (by walk_at "n") (fun cdv A outer s H vs Q E hr h=>⟨wi0 K,?_,yh6 h⟩)
 have S:=xi0
 refine A4 ?_ ?_
 ·refine R7 PassesOwn.never rfl ?_ ?_ ?_
  ·exact(ys2 rfl T.z_range (A0 (B3 xc7 (C9 C4 rfl T.z_len boot_len (A0 (pv 1) A2)) A9) (A0 (qr5 qe6 A9) (A0 (qr5 qe6 A9) A2))))
  ·exact(E3 (i:=3) S.nd rfl (Or.inl rfl))
  ·refine A4 ?_ ?_
   ·refine M4 ?_ ?_ ?_
    ·exact(C5 (P6 (qh2 hr)) (D6 (B8 (D1 hr)) (pv 1) (pv 3) (fun _ _=>rfl)) (pv 2) (D5 _))
    ·refine A7 ?_
     exact(C7 (pv 3))
    ·exact E9
   refine A7 ?_
   refine M4 ?_ ?_ ?_
   ·exact(PW.pt (wl8 (ql2 (zcl (wb0 T) hr T.zd B6 (A0 (pv 0) (A0 (D6 (B8 (D1 hr)) (pv 1) (pv 3) (fun _ _=>rfl)) A2)))) (qy4 (yu4 (ql2 (zcl (yj4 T) hr T.zh B6 (A0 (pv 0) (A0 (D6 (B8 (D1 hr)) (pv 1) (pv 3) (fun _ _=>rfl)) (A0 (pv 2) A2)))))))))
   ·refine A7 ?_
    exact(C7 T8)
   ·exact E9
 refine A7 ?_
 exact(C7 T8)
theorem xu8(T:Txt K mg t):J6 P w K mg base CX0 4 t.zr.a t.zr.d ["book","names"] (qn5 K):=by
 refine T.zr.F.ok ws0 (by walk_at "n") (fun cdv A outer s H vs Q E hr h=>⟨qs0 K,?_,xr6 h⟩)
 have S:=ws0
 refine A4 ?_ ?_
 ·refine qe4 (i:=2) S.nd rfl (Or.inl rfl) ?_ rfl ?_
  ·refine zcl (wd1 T) hr T.zx B6 ?_
   refine A0 ?_ ?_
   ·exact(pv 0)
   refine A0 ?_ ?_
   ·exact(zcl (qh0 T) hr T.zj B6 (A0 (pv 1) A2))
   exact A2
  ·walk_at "or"
 refine A7 ?_
 exact(C7 (qo8 (C5 qo9 (B3 B5 (C9 C4 rfl T.z_len boot_len (A0 (pv 1) A2)) (C9 C4 rfl T.z_len boot_len (A0 (pv 2) A2))) (M3 rfl T.g_MOST_OPEN.1 T.g_MOST_OPEN.2) (D5 _)) T8 (pv 2)))
theorem wt0(T:Txt K mg t):J6 P w K mg base CX0 4 t.yd.a t.yd.d ["text","settled","searched"] (W4 K):=by
 refine T.yd.F.ok qu0 (by walk_at "n") (fun cdv A outer s H vs Q E hr h=>⟨Y4 K,?_,wq8 h⟩)
 have S:=qu0
 refine A4 ?_ ?_
 ·refine zst (i:=3) S ?_
  exact(O5 A2)
 refine A4 ?_ ?_
 ·refine R7 PassesOwn.never rfl ?_ ?_ ?_
  ·exact(qe9 (zcl (xu7 T) hr T.ye B6 (A0 (pv 0) (A0 (pv 2) A2))))
  ·exact(E3 (i:=4) S.nd rfl (Or.inl rfl))
  ·refine A4 ?_ ?_
   ·exact(D0 (N8 PySem.F.plainAttrs_list PySem.F.slot_list_extend PySem.F.type_list_extend xm4 (pv 3) (A0 (zcl (wd0 T) hr T.yi B6 (A0 (pv 0) (A0 (pv 1) (A0 (D6 (B8 (D1 hr)) (pv 4) (M3 rfl T.g_START.1 T.g_START.2) (fun _ _=>rfl)) A2)))) A2)))
   refine A4 ?_ ?_
   ·exact(D0 (N8 PySem.F.plainAttrs_list PySem.F.slot_list_append PySem.F.type_list_append D9 (pv 3) (A0 (pv 4) A2)))
   refine A7 ?_
   refine zst (i:=1) S ?_
   exact(D6 (B8 (D1 hr)) (pv 4) (M3 rfl T.g_STOP.1 T.g_STOP.2) (fun _ _=>rfl))
 refine A7 ?_
 exact(C7 (pv 3))
theorem wo1(T:Txt K mg t):J6 P w K mg base CX0 4 t.yn.a t.yn.d ["book","closed"] (V0 K):=by
 refine T.yn.F.ok qq4 (by walk_at "n") (fun cdv A outer s H vs Q E hr h=>⟨W7 K,?_,wn3 h⟩)
 have S:=qq4
 refine A4 ?_ ?_
 ·refine zst (i:=2) S ?_
  exact(O5 A2)
 refine A4 ?_ ?_
 ·refine R7 PassesOwn.never rfl ?_ ?_ ?_
  ·exact(qe9 (pv 1))
  ·exact(E3 (i:=3) S.nd rfl (Or.inl rfl))
  ·refine A4 ?_ ?_
   ·refine M4 ?_ ?_ ?_
    ·exact(ql2 (zcl (wb0 T) hr T.zd B6 (A0 (pv 0) (A0 (pv 3) A2))))
    ·refine A7 ?_
     exact yu8
    ·exact E9
   refine A7 ?_
   refine M4 ?_ ?_ ?_
   ·exact(C5 (P6 (qh2 hr)) (zcl (qq7 T) hr T.zc B6 (A0 (pv 0) (A0 (pv 3) A2))) B2 (D5 _))
   ·refine A7 ?_
    exact(D0 (N8 PySem.F.plainAttrs_list PySem.F.slot_list_append PySem.F.type_list_append D9 (pv 2) (A0 (pv 3) A2)))
   ·exact E9
 refine A7 ?_
 exact(C7 (pv 2))
theorem W0(T:Txt K mg t):J6 P w K mg base CX0 4 t.a_c_Reader_last_wall t.d_c_Reader_last_wall ["self"] (M7 K):=by
 refine T.F_c_Reader_last_wall.ok qi4 (by walk_at "n") (fun cdv A outer s H vs Q E hr h=>⟨S7 K,?_,wd2 T.cz h⟩)
 have S:=qi4
 refine A4 ?_ ?_
 ·exact(yl1 (i:=1) S.nd rfl rfl rfl (qd3 (osc:=B0 T0) (ON:=["self","walls"]) (N:=["self","branch"]) (fr:=[some 0,none]) (by decide +kernel) rfl rfl) (qe9 (G8 (pv 0) rfl)) (fun _ _ _ _ _ _=>(E3 (i:=1) (show List.Nodup (["self","branch"]:List Str) by decide +kernel) rfl (Or.inl rfl))) wh3 (fun _ _ _ _ _ _=>(xq2 (ql2 (zcl (wb0 T) hr T.zd B6 (A0 (G8 (pv 0) rfl) (A0 (G8 (pv 1) rfl) A2)))))) (fun _ _ _ _ _ _=>(pv 1)))
 refine A7 ?_
 refine C7 ?_
 exact(qo8 (C5 qo9 (C9 C4 rfl T.z_len boot_len (A0 (pv 1) A2)) A9 (D5 _)) (D6 (B8 (D1 hr)) (pv 1) (qr5 qe6 A9) (fun _ _=>rfl)) (D6 (B8 (D1 hr)) (G8 (pv 0) rfl) A9 (fun _ _=>rfl)))
theorem qd6(T:Txt K mg t):J6 P w K mg base CX0 4 t.a_c_Reader_put_in t.d_c_Reader_put_in ["self","name","start","rule"] (O0 K):=by
 refine T.F_c_Reader_put_in.ok qq6 (by walk_at "n") (fun cdv A outer s H vs Q E hr h=>⟨W5 K t.k_Reader,?_,wn2 T.cz h⟩)
 have S:=qq6
 refine A4 ?_ ?_
 ·exact(D0 (N8 PySem.F.plainAttrs_list PySem.F.slot_list_append PySem.F.type_list_append D9 (G8 (pv 0) rfl) (A0 (C8 (A0 (pv 2) (A0 (pv 2) (A0 (zcl (xl2 T) hr T.yj B6 (A0 (pv 1) A2)) (A0 (pv 3) A2))))) A2)))
 refine A7 ?_
 exact(D0 (O1 (pv 0) T.cz.cl_Reader T.m_c_Reader_enter (qu4 T) (hr.mono (by walk_at "le")) T.b_c_Reader_enter .nil B6 (A0 (pv 1) A2)))
theorem wy0(T:Txt K mg t):J6 P w K mg base CX0 5 t.zw.a t.zw.d ["book","names","name"] (Y3 K):=by
 refine T.zw.F.ok qx4 (by walk_at "n") (fun cdv A outer s H vs Q E hr h=>⟨qc7 K,?_,wu8 h⟩)
 have S:=qx4
 refine A4 ?_ ?_
 ·refine zst (i:=3) S ?_
  exact(D6 (B8 (D1 hr)) (zcl (qy1 T) hr T.zb B6 (A0 (pv 0) (A0 (pv 2) A2))) (M3 rfl T.g_SHUTS.1 T.g_SHUTS.2) (fun _ _=>rfl))
 refine A4 ?_ ?_
 ·refine qe4 (i:=4) S.nd rfl (Or.inl rfl) ?_ rfl ?_
  ·refine B3 xc7 ?_ ?_
   ·exact(C9 C4 rfl T.z_len boot_len (A0 (pv 1) A2))
   ·exact(C9 C4 rfl T.z_len boot_len (A0 (zcl (wn9 T) hr T.zk B6 (A0 (pv 0) (A0 (pv 1) A2))) A2))
  ·walk_at "or"
 refine A4 ?_ ?_
 ·refine R7 PassesOwn.never rfl ?_ ?_ ?_
  ·exact(yp5 rfl T.z_range (A0 (pv 4) (A0 (C9 C4 rfl T.z_len boot_len (A0 (pv 1) A2)) A2)))
  ·exact(E3 (i:=5) S.nd rfl (Or.inl rfl))
  ·refine A7 ?_
   refine M4 ?_ ?_ ?_
   ·exact(C5 (wt6 (D1 hr)) (D6 (B8 (D1 hr)) (pv 1) (pv 5) (fun _ _=>rfl)) (pv 3) (by with_unfolding_all rfl))
   ·refine A7 ?_
    exact(C7 (pv 5))
   ·exact E9
 refine A7 ?_
 exact(C7 (C9 C4 rfl T.z_len boot_len (A0 (pv 1) A2)))
theorem xu9(T:Txt K mg t):J6 P w K mg base CX0 5 t.zy.a t.zy.d ["book","kept","put"] (qn7 K):=by
 refine T.zy.F.ok ws1 (by walk_at "n") (fun cdv A outer s H vs Q E hr h=>⟨qs1 K,?_,xr7 h⟩)
 have S:=ws1
 refine A4 ?_ ?_
 ·refine R7 PassesOwn.never rfl ?_ ?_ ?_
  ·exact(xx9 rfl T.z_enumerate (A0 (pv 2) A2))
  ·exact(xc3 rfl (V4 (E3 (i:=3) S.nd rfl (Or.inl rfl)) (V4 (E3 (i:=4) S.nd rfl (Or.inl rfl)) wo4)))
  ·refine A4 ?_ ?_
   ·refine zst (i:=5) S ?_
    exact(zcl (wn9 T) hr T.zk B6 (A0 (pv 0) (A0 (B3 Y0 (pv 1) (P9 wp5 (pv 2) qj4 (N4 (pv 3)))) A2)))
   refine A7 ?_
   refine M4 ?_ ?_ ?_
   ·exact(ql2 (zcl (wc9 T) hr T.zm B6 (A0 (pv 5) (A0 (D6 (B8 (D1 hr)) (zcl (qy1 T) hr T.zb B6 (A0 (pv 0) (A0 (pv 4) A2))) (M3 rfl T.g_BARS.1 T.g_BARS.2) (fun _ _=>rfl)) A2))))
   ·refine A7 ?_
    exact(C7 yj6)
   ·exact E9
 refine A7 ?_
 exact(C7 yj6)
theorem xv0(T:Txt K mg t):J6 P w K mg base CX0 5 t.yc.a t.yc.d ["text"] (qo1 K):=by
 refine T.yc.F.ok ws3 (by walk_at "n") (fun cdv A outer s H vs Q E hr h=>⟨qs5 K,?_,xs3 h⟩)
 have S:=ws3
 refine A4 ?_ ?_
 ·refine zst (i:=1) S ?_
  exact(zcl (wt0 T) hr T.yd B6 (A0 (pv 0) (A0 A9 (A0 A9 A2))))
 refine A4 ?_ ?_
 ·refine zst (i:=2) S ?_
  exact(qo8 (C5 qo9 (C9 C4 rfl T.z_len boot_len (A0 (pv 1) A2)) A9 (D5 _)) (D6 (B8 (D1 hr)) (D6 (B8 (D1 hr)) (pv 1) (qr5 qe6 A9) (fun _ _=>rfl)) (M3 rfl T.g_STOP.1 T.g_STOP.2) (fun _ _=>rfl)) A9)
 refine A7 ?_
 exact(C7 (B3 B5 (pv 1) (zcl (wd0 T) hr T.yi B6 (A0 (pv 0) (A0 (pv 2) (A0 (C9 C4 rfl T.z_len boot_len (A0 (pv 0) A2)) A2))))))
theorem wy1(T:Txt K mg t):J6 P w K mg base CX0 5 t.yp.a t.yp.d ["book","names","name"] (Y8 K):=by
 refine T.yp.F.ok qx5 (by walk_at "n") (fun cdv A outer s H vs Q E hr h=>⟨qd0 K,?_,wv9 h⟩)
 have S:=qx5
 refine A4 ?_ ?_
 ·refine zst (i:=3) S ?_
  exact(zcl (qy1 T) hr T.zb B6 (A0 (pv 0) (A0 (pv 2) A2)))
 refine A4 ?_ ?_
 ·refine zst (i:=4) S ?_
  exact(B3 Y0 (B3 Y0 (C8 (A0 (pv 2) A2)) (D6 (B8 (D1 hr)) (pv 3) (M3 rfl T.g_SHUTS.1 T.g_SHUTS.2) (fun _ _=>rfl))) (D6 (B8 (D1 hr)) (pv 3) (M3 rfl T.g_BARS.1 T.g_BARS.2) (fun _ _=>rfl)))
 refine A7 ?_
 refine C7 ?_
 exact(yu7 (qm9 xd6 (C9 C4 rfl T.z_len boot_len (A0 (pv 1) A2)) (M3 rfl T.g_MOST_OPEN.1 T.g_MOST_OPEN.2) (D5 _)) (yu6 (zp3 (zcl (wc9 T) hr T.zm B6 (A0 (zcl (wn9 T) hr T.zk B6 (A0 (pv 0) (A0 (pv 1) A2))) (A0 (pv 4) A2))))))
theorem T2(T:Txt K mg t):J6 P w K mg base CX0 5 t.a_c_Reader_close_behind t.d_c_Reader_close_behind ["self","kept","start","rule"] (L0 K):=by
 refine T.F_c_Reader_close_behind.ok qc2 (by walk_at "n") (fun cdv A outer s H vs Q E hr h=>⟨P3 K t.k_Reader,?_,qu9 T.cz h⟩)
 have S:=qc2
 refine A4 ?_ ?_
 ·refine zst (i:=4) S ?_
  exact(P9 wp5 (S5 (pv 0) T.cz.cl_Reader T.m_c_Reader_open_names (M0 T) (hr.mono (by walk_at "le")) T.b_c_Reader_open_names .nil B6) (N4 (pv 1)) qj4)
 refine A4 ?_ ?_
 ·refine R7 PassesOwn.never rfl ?_ ?_ ?_
  ·exact(zj4 rfl T.z_reversed (A0 (pv 4) A2))
  ·exact(E3 (i:=5) S.nd rfl (Or.inl rfl))
  ·refine A4 ?_ ?_
   ·exact(D0 (N8 PySem.F.plainAttrs_list PySem.F.slot_list_append PySem.F.type_list_append D9 (G8 (pv 0) rfl) (A0 (C8 (A0 (pv 2) (A0 (pv 2) (A0 (zcl (xl3 T) hr T.yk B6 (A0 (pv 5) A2)) (A0 (pv 3) A2))))) A2)))
   refine A7 ?_
   exact(D0 (S5 (pv 0) T.cz.cl_Reader T.m_c_Reader_leave (qh1 T) (hr.mono (by walk_at "le")) T.b_c_Reader_leave .nil B6))
 refine A7 ?_
 exact(D0 (N8 PySem.F.plainAttrs_list PySem.F.slot_list_extend PySem.F.type_list_extend xm4 (G8 (S5 (pv 0) T.cz.cl_Reader T.m_c_Reader_last_wall (W0 T) (hr.mono (by walk_at "le")) T.b_c_Reader_last_wall .nil B6) rfl) (A0 (zcl (wo1 T) hr T.yn B6 (A0 (G8 (pv 0) rfl) (A0 (pv 4) A2))) A2)))
theorem qq8(T:Txt K mg t):J6 P w K mg base CX0 6 t.zu.a t.zu.d ["book","names","name"] (U9 K):=by
 refine T.zu.F.ok qq3 (by walk_at "n") (fun cdv A outer s H vs Q E hr h=>⟨W2 K,?_,wm9 h⟩)
 have S:=qq3
 refine A4 ?_ ?_
 ·refine qe4 (i:=3) S.nd rfl (Or.inl rfl) ?_ rfl ?_
  ·refine zcl (wd1 T) hr T.zx B6 ?_
   refine A0 ?_ ?_
   ·exact(pv 0)
   refine A0 ?_ ?_
   ·exact(zcl (qh0 T) hr T.zj B6 (A0 (pv 1) A2))
   exact A2
  ·walk_at "or"
 refine A4 ?_ ?_
 ·refine M4 ?_ ?_ ?_
  ·exact(C5 qo9 (C9 C4 rfl T.z_len boot_len (A0 (pv 3) A2)) A9 (D5 _))
  ·refine A7 ?_
   exact(C7 (C8 (A0 (C9 C4 rfl T.z_len boot_len (A0 (pv 1) A2)) (A0 (B3 Y0 (pv 3) (C8 (A0 (pv 2) A2))) A2))))
  ·exact E9
 refine A7 ?_
 exact(C7 (C8 (A0 (zcl (wy0 T) hr T.zw B6 (A0 (pv 0) (A0 (pv 1) (A0 (pv 2) A2)))) (A0 (C8 (A0 (pv 2) A2)) A2))))
theorem wo2(T:Txt K mg t):J6 P w K mg base CX0 6 t.a_c_Reader_finish t.d_c_Reader_finish ["self","size"] (V1 K):=by
 refine T.F_c_Reader_finish.ok qq5 (by walk_at "n") (fun cdv A outer s H vs Q E hr h=>⟨W8 K t.k_Reader,?_,wn5 T.cz h⟩)
 have S:=qq5
 refine A7 ?_
 exact(D0 (O1 (pv 0) T.cz.cl_Reader T.m_c_Reader_close_behind (T2 T) (hr.mono (by walk_at "le")) T.b_c_Reader_close_behind .nil B6 (A0 A9 (A0 (pv 1) (A0 B2 A2)))))
theorem qv5(T:Txt K mg t):J6 P w K mg base CX0 6 t.a_c_Reader_read_closing t.d_c_Reader_read_closing ["self","start","signs","name"] (O4 K):=by
 refine T.F_c_Reader_read_closing.ok qc1 (by walk_at "n") (fun cdv A outer s H vs Q E hr h=>⟨P5 K t.k_Reader,?_,qv1 T.cz h⟩)
 have S:=qc1
 refine A4 ?_ ?_
 ·refine qe4 (i:=4) S.nd rfl (Or.inl rfl) ?_ rfl ?_
  ·refine zcl (wo0 T) hr T.zn B6 ?_
   refine A0 ?_ ?_
   ·exact(G8 (pv 0) rfl)
   refine A0 ?_ ?_
   ·exact(S5 (pv 0) T.cz.cl_Reader T.m_c_Reader_open_names (M0 T) (hr.mono (by walk_at "le")) T.b_c_Reader_open_names .nil B6)
   refine A0 ?_ ?_
   ·exact(pv 3)
   exact A2
  ·walk_at "or"
 refine A4 ?_ ?_
 ·refine zst (i:=5) S ?_
  exact(S5 (pv 0) T.cz.cl_Reader T.m_c_Reader_last_wall (W0 T) (hr.mono (by walk_at "le")) T.b_c_Reader_last_wall .nil B6)
 refine A7 ?_
 refine M4 ?_ ?_ ?_
 ·exact(C5 qv9 (pv 4) T8 (D5 _))
 ·refine A4 ?_ ?_
  ·exact(D0 (O1 (pv 0) T.cz.cl_Reader T.m_c_Reader_close_behind (T2 T) (hr.mono (by walk_at "le")) T.b_c_Reader_close_behind .nil B6 (A0 (B3 B5 (pv 4) A9) (A0 (pv 1) (A0 B2 A2)))))
  refine A7 ?_
  exact(D0 (S5 (pv 0) T.cz.cl_Reader T.m_c_Reader_leave (qh1 T) (hr.mono (by walk_at "le")) T.b_c_Reader_leave .nil B6))
 ·refine A7 ?_
  refine M4 ?_ ?_ ?_
  ·exact(C5 (wt6 (D1 hr)) (pv 3) (G8 (pv 5) rfl) (by with_unfolding_all rfl))
  ·refine A4 ?_ ?_
   ·exact(qu6 (pv 5) (zcl (xb3 T) hr T.yo B6 (A0 (G8 (pv 5) rfl) (A0 (pv 3) A2))) rfl)
   refine A7 ?_
   exact(D0 (O1 (pv 0) T.cz.cl_Reader T.m_c_Reader_drop (Q8 T) (hr.mono (by walk_at "le")) T.b_c_Reader_drop .nil B6 (A0 (pv 1) (A0 (pv 2) (A0 B2 A2)))))
  ·refine A7 ?_
   exact(D0 (O1 (pv 0) T.cz.cl_Reader T.m_c_Reader_drop (Q8 T) (hr.mono (by walk_at "le")) T.b_c_Reader_drop .nil B6 (A0 (pv 1) (A0 (pv 2) (A0 B2 A2)))))
theorem qq9(T:Txt K mg t):J6 P w K mg base CX0 6 t.a_c_Reader_put_in_waiting t.d_c_Reader_put_in_waiting ["self","start"] (N2 K):=by
 refine T.F_c_Reader_put_in_waiting.ok X8 (by walk_at "n") (fun cdv A outer s H vs Q E hr h=>⟨N5 K t.k_Reader,?_,qp7 T.cz h⟩)
 have S:=X8
 refine A4 ?_ ?_
 ·refine zst (i:=2) S ?_
  exact(S5 (pv 0) T.cz.cl_Reader T.m_c_Reader_last_wall (W0 T) (hr.mono (by walk_at "le")) T.b_c_Reader_last_wall .nil B6)
 refine A4 ?_ ?_
 ·refine zst (i:=3) S ?_
  exact(G8 (pv 2) rfl)
 refine A4 ?_ ?_
 ·exact(qu6 (pv 2) (O5 A2) rfl)
 refine A7 ?_
 refine R7 PassesOwn.never rfl ?_ ?_ ?_
 ·exact(qe9 (pv 3))
 ·exact(E3 (i:=4) S.nd rfl (Or.inl rfl))
 ·refine A7 ?_
  refine M4 ?_ ?_ ?_
  ·exact(ql2 (zcl (wy1 T) hr T.yp B6 (A0 (G8 (pv 0) rfl) (A0 (S5 (pv 0) T.cz.cl_Reader T.m_c_Reader_open_names (M0 T) (hr.mono (by walk_at "le")) T.b_c_Reader_open_names .nil B6) (A0 (pv 4) A2)))))
  ·refine A7 ?_
   exact(D0 (O1 (pv 0) T.cz.cl_Reader T.m_c_Reader_put_in (qd6 T) (hr.mono (by walk_at "le")) T.b_c_Reader_put_in .nil B6 (A0 (pv 4) (A0 (pv 1) (A0 B2 A2)))))
  ·exact E9
theorem wh0(T:Txt K mg t):J6 P w K mg base CX0 7 t.a_c_Reader_read_run t.d_c_Reader_read_run ["self","start","signs","told"] (S9 K):=by
 refine T.F_c_Reader_read_run.ok ql0 (by walk_at "n") (fun cdv A outer s H vs Q E hr h=>⟨T6 K t.k_Reader,?_,wf6 T.cz h⟩)
 have S:=ql0
 refine A4 ?_ ?_
 ·refine qe4 (i:=4) S.nd rfl (Or.inl rfl) ?_ rfl ?_
  ·refine zcl (xu8 T) hr T.zr B6 ?_
   refine A0 ?_ ?_
   ·exact(G8 (pv 0) rfl)
   refine A0 ?_ ?_
   ·exact(S5 (pv 0) T.cz.cl_Reader T.m_c_Reader_open_names (M0 T) (hr.mono (by walk_at "le")) T.b_c_Reader_open_names .nil B6)
   exact A2
  ·walk_at "or"
 refine A7 ?_
 refine M4 ?_ ?_ ?_
 ·exact(PW.pt (wl8 (ql2 (S5 (pv 0) T.cz.cl_Reader T.m_c_Reader_is_in_frame (qy3 T) (hr.mono (by walk_at "le")) T.b_c_Reader_is_in_frame .nil B6)) (qy4 (C5 (P6 (qh2 hr)) (N8 PySem.F.plainAttrs_str PySem.F.slot_str_strip PySem.F.type_str_strip ys5 (pv 3) (A0 (M3 rfl T.g_BLANKS.1 T.g_BLANKS.2) A2)) B2 (D5 _)))))
 ·refine A7 ?_
  exact(D0 (O1 (pv 0) T.cz.cl_Reader T.m_c_Reader_drop (Q8 T) (hr.mono (by walk_at "le")) T.b_c_Reader_drop .nil B6 (A0 (pv 1) (A0 (pv 2) (A0 B2 A2)))))
 ·refine A7 ?_
  refine M4 ?_ ?_ ?_
  ·exact(C5 wm0 (pv 4) T8 (D5 _))
  ·refine A7 ?_
   exact(D0 (O1 (pv 0) T.cz.cl_Reader T.m_c_Reader_drop (Q8 T) (hr.mono (by walk_at "le")) T.b_c_Reader_drop .nil B6 (A0 (pv 1) (A0 (pv 2) (A0 B2 A2)))))
  ·refine A4 ?_ ?_
   ·refine R7 PassesOwn.never rfl ?_ ?_ ?_
    ·exact(qe9 (pv 4))
    ·exact(E3 (i:=5) S.nd rfl (Or.inl rfl))
    ·refine A7 ?_
     exact(D0 (O1 (pv 0) T.cz.cl_Reader T.m_c_Reader_put_in (qd6 T) (hr.mono (by walk_at "le")) T.b_c_Reader_put_in .nil B6 (A0 (pv 5) (A0 (pv 1) (A0 B2 A2)))))
   refine A4 ?_ ?_
   ·exact(D0 (O1 (pv 0) T.cz.cl_Reader T.m_c_Reader_put_in_waiting (qq9 T) (hr.mono (by walk_at "le")) T.b_c_Reader_put_in_waiting .nil B6 (A0 (pv 1) A2)))
   refine A4 ?_ ?_
   ·refine R7 PassesOwn.never rfl ?_ ?_ ?_
    ·exact(qe9 (zcl (xu5 T) hr T.yb B6 (A0 (pv 2) A2)))
    ·exact(E3 (i:=6) S.nd rfl (Or.inl rfl))
    ·refine A4 ?_ ?_
     ·refine zst (i:=7) S ?_
      exact(B3 B5 (pv 1) (pv 6))
     refine A7 ?_
     exact(D0 (N8 PySem.F.plainAttrs_list PySem.F.slot_list_append PySem.F.type_list_append D9 (G8 (pv 0) rfl) (A0 (C8 (A0 (pv 7) (A0 (B3 B5 (pv 7) A9) (A0 (zcl (yj2 T) hr T.zz B6 (A0 (D6 (B8 (D1 hr)) (pv 2) (pv 6) (fun _ _=>rfl)) A2)) (A0 B2 A2))))) A2)))
   refine A7 ?_
   exact(D0 (O1 (pv 0) T.cz.cl_Reader T.m_c_Reader_add_text (wg9 T) (hr.mono (by walk_at "le")) T.b_c_Reader_add_text .nil B6 (A0 (pv 1) (A0 (pv 2) (A0 (pv 3) A2)))))
theorem xi7(T:Txt K mg t):∀ n:Nat,J6 P w K mg base CX0 (7+n) t.zt.a t.zt.d ["book","names","name"] (qp4 n K)
 | 0 => by
   have FR:J6 P w K mg base CX0 6 t.zt.a t.zt.d ["book","names","name"] (qk5 K 0):=⟨fun _ _ _ _ h=>h.elim,fun _ _ _ _ _ _ _ _ _ _ _ _ _ h=>h.elim⟩
   refine T.zt.F.ok (k:=6) wi9 (by walk_at "n") (fun cdv A outer s H vs Q E hr h=>⟨wf3 K (qk5 K 0),?_,xn7 0 h⟩)
   have S:=wi9
   refine A4 ?_ ?_
   ·refine zst (i:=3) S ?_
    exact(zcl (qu3 T) hr T.zf B6 (A0 (pv 0) (A0 (pv 2) A2)))
   refine A4 ?_ ?_
   ·refine M4 ?_ ?_ ?_
    ·exact(C5 wm0 (pv 3) T8 (D5 _))
    ·refine A7 ?_
     exact(C7 (zcl (qq8 T) hr T.zu B6 (A0 (pv 0) (A0 (pv 1) (A0 (pv 2) A2)))))
    ·exact E9
   refine A4 ?_ ?_
   ·refine zst (i:=4) S ?_
    exact(zcl (wo0 T) hr T.zn B6 (A0 (pv 0) (A0 (pv 1) (A0 (pv 3) A2))))
   refine A4 ?_ ?_
   ·refine M4 ?_ ?_ ?_
    ·exact(C5 qv9 (pv 4) T8 (D5 _))
    ·refine A7 ?_
     exact(C7 (C8 (A0 (B3 Y0 (pv 4) A9) (A0 (C8 (A0 (pv 2) A2)) A2))))
    ·exact E9
   refine A4 ?_ ?_
   ·refine zst (i:=5) S ?_
    exact(zcl FR hr T.zt B6 (A0 (pv 0) (A0 (pv 1) (A0 (pv 3) A2))))
   refine A7 ?_
   refine C7 ?_
   refine C8 ?_
   refine A0 ?_ ?_
   ·exact(D6 (B8 (D1 hr)) (pv 5) A9 (fun _ _=>rfl))
   refine A0 ?_ ?_
   ·exact(B3 Y0 (D6 (B8 (D1 hr)) (pv 5) A9 (fun _ _=>rfl)) (C8 (A0 (pv 2) A2)))
   exact A2
 | n + 1=>by
   have FR:J6 P w K mg base CX0 (7+n) t.zt.a t.zt.d ["book","names","name"] (qk5 K (n+1)):=xi7 T n
   refine T.zt.F.ok (k:=(7+n)) wi9 (by walk_at "n") (fun cdv A outer s H vs Q E hr h=>⟨wf3 K (qk5 K (n+1)),?_,xn7 (n+1) h⟩)
   have S:=wi9
   refine A4 ?_ ?_
   ·refine zst (i:=3) S ?_
    exact(zcl (qu3 T) hr T.zf B6 (A0 (pv 0) (A0 (pv 2) A2)))
   refine A4 ?_ ?_
   ·refine M4 ?_ ?_ ?_
    ·exact(C5 wm0 (pv 3) T8 (D5 _))
    ·refine A7 ?_
     exact(C7 (zcl (qq8 T) hr T.zu B6 (A0 (pv 0) (A0 (pv 1) (A0 (pv 2) A2)))))
    ·exact E9
   refine A4 ?_ ?_
   ·refine zst (i:=4) S ?_
    exact(zcl (wo0 T) hr T.zn B6 (A0 (pv 0) (A0 (pv 1) (A0 (pv 3) A2))))
   refine A4 ?_ ?_
   ·refine M4 ?_ ?_ ?_
    ·exact(C5 qv9 (pv 4) T8 (D5 _))
    ·refine A7 ?_
     exact(C7 (C8 (A0 (B3 Y0 (pv 4) A9) (A0 (C8 (A0 (pv 2) A2)) A2))))
    ·exact E9
   refine A4 ?_ ?_
   ·refine zst (i:=5) S ?_
    exact(zcl FR hr T.zt B6 (A0 (pv 0) (A0 (pv 1) (A0 (pv 3) A2))))
   refine A7 ?_
   refine C7 ?_
   refine C8 ?_
   refine A0 ?_ ?_
   ·exact(D6 (B8 (D1 hr)) (pv 5) A9 (fun _ _=>rfl))
   refine A0 ?_ ?_
   ·exact(B3 Y0 (D6 (B8 (D1 hr)) (pv 5) A9 (fun _ _=>rfl)) (C8 (A0 (pv 2) A2)))
   exact A2
theorem yu1(T:Txt K mg t):J6 P w K mg base CX0 20 t.zt.a t.zt.d ["book","names","name"] (xn6 K):=xi7 T 13
theorem yj5(T:Txt K mg t):J6 P w K mg base CX0 21 t.zo.a t.zo.d ["book","names","name"] (qz2 K):=by
 refine T.zo.F.ok xi1 (by walk_at "n") (fun cdv A outer s H vs Q E hr h=>⟨wi3 K,?_,yh8 h⟩)
 have S:=xi1
 refine A4 ?_ ?_
 ·refine zst (i:=3) S ?_
  exact(zcl (yu1 T) hr T.zt B6 (A0 (pv 0) (A0 (pv 1) (A0 (pv 2) A2))))
 refine A4 ?_ ?_
 ·refine zst (i:=4) S ?_
  exact(Q7 U4 rfl T.z_tuple boot_tuple (A0 (P9 wp5 (pv 1) qj4 (N4 (D6 (B8 (D1 hr)) (pv 3) A9 (fun _ _=>rfl)))) A2))
 refine A4 ?_ ?_
 ·refine zst (i:=5) S ?_
  exact(D6 (B8 (D1 hr)) (pv 3) A9 (fun _ _=>rfl))
 refine A4 ?_ ?_
 ·refine M4 ?_ ?_ ?_
  ·exact(ql2 (zcl (xu9 T) hr T.zy B6 (A0 (pv 0) (A0 (pv 4) (A0 (pv 5) A2)))))
  ·refine A7 ?_
   exact(C7 (C8 (A0 B2 (A0 B2 A2))))
  ·exact E9
 refine A4 ?_ ?_
 ·refine M4 ?_ ?_ ?_
  ·exact(C5 qo9 (B3 Y0 (C9 C4 rfl T.z_len boot_len (A0 (pv 4) A2)) (C9 C4 rfl T.z_len boot_len (A0 (pv 5) A2))) (M3 rfl T.g_MOST_OPEN.1 T.g_MOST_OPEN.2) (D5 _))
  ·refine A7 ?_
   exact(C7 (C8 (A0 B2 (A0 B2 A2))))
  ·exact E9
 refine A7 ?_
 exact(C7 (C8 (A0 B2 (A0 (C9 C4 rfl T.z_len boot_len (A0 (pv 4) A2)) (A0 (pv 5) A2)))))
theorem qv6(T:Txt K mg t):J6 P w K mg base CX0 22 t.a_c_Reader_read_opening t.d_c_Reader_read_opening ["self","start","signs","name"] (O3 K):=by
 refine T.F_c_Reader_read_opening.ok qc0 (by walk_at "n") (fun cdv A outer s H vs Q E hr h=>⟨P4 K t.k_Reader,?_,qv0 T.cz h⟩)
 have S:=qc0
 refine A4 ?_ ?_
 ·refine M4 ?_ ?_ ?_
  ·exact(C5 wm0 (zcl (qq7 T) hr T.zc B6 (A0 (G8 (pv 0) rfl) (A0 (pv 3) A2))) T8 (D5 _))
  ·refine A4 ?_ ?_
   ·exact(D0 (O1 (pv 0) T.cz.cl_Reader T.m_c_Reader_drop (Q8 T) (hr.mono (by walk_at "le")) T.b_c_Reader_drop .nil B6 (A0 (pv 1) (A0 (pv 2) (A0 B2 A2)))))
   refine A7 ?_
   exact yj9
  ·exact E9
 refine A4 ?_ ?_
 ·refine qe4 (i:=4) S.nd rfl (Or.inl rfl) ?_ rfl ?_
  ·refine zcl (yj5 T) hr T.zo B6 ?_
   refine A0 ?_ ?_
   ·exact(G8 (pv 0) rfl)
   refine A0 ?_ ?_
   ·exact(S5 (pv 0) T.cz.cl_Reader T.m_c_Reader_open_names (M0 T) (hr.mono (by walk_at "le")) T.b_c_Reader_open_names .nil B6)
   refine A0 ?_ ?_
   ·exact(pv 3)
   exact A2
  ·walk_at "or"
 refine A4 ?_ ?_
 ·refine M4 ?_ ?_ ?_
  ·exact(C5 (P6 (qh2 hr)) (D6 (B8 (D1 hr)) (pv 4) A9 (fun _ _=>rfl)) B2 (D5 _))
  ·refine A4 ?_ ?_
   ·exact(D0 (O1 (pv 0) T.cz.cl_Reader T.m_c_Reader_drop (Q8 T) (hr.mono (by walk_at "le")) T.b_c_Reader_drop .nil B6 (A0 (pv 1) (A0 (pv 2) (A0 (D6 (B8 (D1 hr)) (pv 4) A9 (fun _ _=>rfl)) A2)))))
   refine A7 ?_
   exact yj9
  ·exact E9
 refine A4 ?_ ?_
 ·exact(D0 (O1 (pv 0) T.cz.cl_Reader T.m_c_Reader_close_behind (T2 T) (hr.mono (by walk_at "le")) T.b_c_Reader_close_behind .nil B6 (A0 (D6 (B8 (D1 hr)) (pv 4) A9 (fun _ _=>rfl)) (A0 (pv 1) (A0 B2 A2)))))
 refine A4 ?_ ?_
 ·refine R7 PassesOwn.never rfl ?_ ?_ ?_
  ·exact(qe9 (P9 wp5 (D6 (B8 (D1 hr)) (pv 4) A9 (fun _ _=>rfl)) qj4 (N4 (qr5 qe6 A9))))
  ·exact(E3 (i:=5) S.nd rfl (Or.inl rfl))
  ·refine A7 ?_
   exact(D0 (O1 (pv 0) T.cz.cl_Reader T.m_c_Reader_put_in (qd6 T) (hr.mono (by walk_at "le")) T.b_c_Reader_put_in .nil B6 (A0 (pv 5) (A0 (pv 1) (A0 B2 A2)))))
 refine A4 ?_ ?_
 ·exact(D0 (O1 (pv 0) T.cz.cl_Reader T.m_c_Reader_enter (qu4 T) (hr.mono (by walk_at "le")) T.b_c_Reader_enter .nil B6 (A0 (pv 3) A2)))
 refine A7 ?_
 refine M4 ?_ ?_ ?_
 ·exact(C5 (P6 (qh2 hr)) (zcl (qq7 T) hr T.zc B6 (A0 (G8 (pv 0) rfl) (A0 (pv 3) A2))) B2 (D5 _))
 ·refine A7 ?_
  exact(D0 (S5 (pv 0) T.cz.cl_Reader T.m_c_Reader_leave (qh1 T) (hr.mono (by walk_at "le")) T.b_c_Reader_leave .nil B6))
 ·exact E9
theorem wy2(T:Txt K mg t):J6 P w K mg base CX0 23 t.a_c_Reader_read t.d_c_Reader_read ["self","kind","start","signs","told"] (Y9 K):=by
 refine T.F_c_Reader_read.ok qx9 (by walk_at "n") (fun cdv A outer s H vs Q E hr h=>⟨qd2 K t.k_Reader,?_,ww1 T.cz h⟩)
 have S:=qx9
 refine A7 ?_
 refine M4 ?_ ?_ ?_
 ·exact(C5 (P6 (qh2 hr)) (pv 1) B2 (D5 _))
 ·refine A7 ?_
  exact(D0 (O1 (pv 0) T.cz.cl_Reader T.m_c_Reader_read_opening (qv6 T) (hr.mono (by walk_at "le")) T.b_c_Reader_read_opening .nil B6 (A0 (pv 2) (A0 (pv 3) (A0 (pv 4) A2)))))
 ·refine A7 ?_
  refine M4 ?_ ?_ ?_
  ·exact(C5 (P6 (qh2 hr)) (pv 1) B2 (D5 _))
  ·refine A7 ?_
   exact(D0 (O1 (pv 0) T.cz.cl_Reader T.m_c_Reader_read_closing (qv5 T) (hr.mono (by walk_at "le")) T.b_c_Reader_read_closing .nil B6 (A0 (pv 2) (A0 (pv 3) (A0 (pv 4) A2)))))
  ·refine A7 ?_
   exact(D0 (O1 (pv 0) T.cz.cl_Reader T.m_c_Reader_read_run (wh0 T) (hr.mono (by walk_at "le")) T.b_c_Reader_read_run .nil B6 (A0 (pv 2) (A0 (pv 3) (A0 (pv 4) A2)))))
theorem xv1(T:Txt K mg t):J6 P w K mg base CX0 24 t.ym.a t.ym.d ["book","text"] (qo5 K):=by
 refine T.ym.F.ok ws6 (by walk_at "n") (fun cdv A outer s H vs Q E hr h=>⟨qt3 K t.k_Reader,?_,xt3 T.cz h⟩)
 have S:=ws6
 refine A4 ?_ ?_
 ·refine zst (i:=2) S ?_
  exact(xp4 T.m_c_Reader_init (wx9 T) (hr.mono (by walk_at "le")) rfl T.n_Reader T.b_c_Reader_init .nil B6 (A0 (pv 0) A2))
 refine A4 ?_ ?_
 ·refine R7 PassesOwn.never rfl ?_ ?_ ?_
  ·exact(qe9 (zcl (xv0 T) hr T.yc B6 (A0 (pv 1) A2)))
  ·exact(xc3 rfl (V4 (E3 (i:=3) S.nd rfl (Or.inl rfl)) (V4 (E3 (i:=4) S.nd rfl (Or.inl rfl)) (V4 (E3 (i:=5) S.nd rfl (Or.inl rfl)) (V4 (E3 (i:=6) S.nd rfl (Or.inl rfl)) wo4)))))
  ·refine A7 ?_
   exact(D0 (O1 (pv 2) T.cz.cl_Reader T.m_c_Reader_read (wy2 T) (hr.mono (by walk_at "le")) T.b_c_Reader_read .nil B6 (A0 (pv 3) (A0 (pv 4) (A0 (P9 ql3 (pv 1) (N4 (pv 4)) (N4 (pv 5))) (A0 (pv 6) A2))))))
 refine A4 ?_ ?_
 ·exact(D0 (O1 (pv 2) T.cz.cl_Reader T.m_c_Reader_finish (wo2 T) (hr.mono (by walk_at "le")) T.b_c_Reader_finish .nil B6 (A0 (C9 C4 rfl T.z_len boot_len (A0 (pv 1) A2)) A2)))
 refine A7 ?_
 exact(C7 (pv 2))
theorem xv2(T:Txt K mg t):J6 P w K mg base CX0 25 t.yl.a t.yl.d ["book","text"] (qo6 K):=by
 refine T.yl.F.ok ws5 (by walk_at "n") (fun cdv A outer s H vs Q E hr h=>⟨qt4 K t.k_Reader,?_,xt4 T.cz h⟩)
 have S:=ws5
 refine A4 ?_ ?_
 ·refine zst (i:=2) S ?_
  exact(zcl (xv1 T) hr T.ym B6 (A0 (pv 0) (A0 (pv 1) A2)))
 refine A7 ?_
 exact(C7 (C8 (A0 (S5 (pv 2) T.cz.cl_Reader T.m_c_Reader_root (wx8 T) (hr.mono (by walk_at "le")) T.b_c_Reader_root .nil B6) (A0 (G8 (pv 2) rfl) A2))))
theorem zw1 (T:Txt K mg t):J6 P w K mg base CX0 26 t.yz.a t.yz.d ["_law_script"] (ww7 K):=by
 refine T.yz.F.ok zf1 (by walk_at "n") (fun cdv A outer s H vs Q E hr h=>⟨yp0 K,?_,zw0 h⟩)
 have S:=zf1
 refine A4 ?_ ?_
 ·refine qe4 (i:=1) S.nd rfl (Or.inl rfl) ?_ rfl ?_
  ·refine zcl (xl4 T) hr T.yu B6 ?_
   refine A0 ?_ ?_
   ·exact(zcl (P8 T) hr T.yq B6 (A0 (pv 0) (A0 A9 A2)))
   exact A2
  ·walk_at "or"
 refine A4 ?_ ?_
 ·refine zst (i:=2) S ?_
  exact(B3 B5 A9 (B3 U7 (zcl (P8 T) hr T.yq B6 (A0 (pv 0) (A0 A9 A2))) A9))
 refine A4 ?_ ?_
 ·refine zst (i:=3) S ?_
  exact(zcl (xu6 T) hr T.yw B6 (A0 (pv 1) (A0 (pv 2) A2)))
 refine A4 ?_ ?_
 ·refine zst (i:=4) S ?_
  exact B2
 refine A4 ?_ ?_
 ·refine zst (i:=5) S ?_
  exact(O5 A2)
 refine A4 ?_ ?_
 ·refine zst (i:=6) S ?_
  exact(O5 A2)
 refine A4 ?_ ?_
 ·refine R7 PassesOwn.never rfl ?_ ?_ ?_
  ·exact(wh1 rfl T.z_range (A0 (B3 U7 (zcl (P8 T) hr T.yq B6 (A0 (pv 0) (A0 A9 A2))) A9) A2))
  ·exact(E3 (i:=7) S.nd rfl (Or.inl rfl))
  ·refine A4 ?_ ?_
   ·refine qe4 (i:=8) S.nd rfl (Or.inl rfl) ?_ rfl ?_
    ·refine D6 ?_ ?_ ?_ ?_
     ·exact B8 (D1 hr)
     ·exact(pv 1)
     ·refine B3 qe8 ?_ ?_
      ·refine B3 U7 ?_ ?_
       ·refine zcl (qv4 T) hr T.yr B6 ?_
        refine A0 ?_ ?_
        ·exact(zcl (P8 T) hr T.yq B6 (A0 (pv 0) (A0 A9 A2)))
        refine A0 ?_ ?_
        ·exact(pv 7)
        exact A2
       ·exact A9
      ·exact A9
     ·exact fun _ _=>rfl
    ·walk_at "or"
   refine A4 ?_ ?_
   ·refine M4 ?_ ?_ ?_
    ·exact(C5 xd6 (C9 C4 rfl T.z_len boot_len (A0 (pv 6) A2)) A9 (D5 _))
    ·refine A7 ?_
     exact(D0 (N8 PySem.F.plainAttrs_list PySem.F.slot_list_append PySem.F.type_list_append D9 (pv 6) (A0 (pv 8) A2)))
    ·refine A7 ?_
     exact(D0 (N8 PySem.F.plainAttrs_list PySem.F.slot_list_append PySem.F.type_list_append D9 (pv 5) (A0 (C8 (A0 (C9 C4 rfl T.z_len boot_len (A0 (pv 4) A2)) (A0 (B3 B5 (B3 B5 (C9 C4 rfl T.z_len boot_len (A0 (pv 4) A2)) (C9 C4 rfl T.z_len boot_len (A0 (pv 8) A2))) A9) (A0 B2 (A0 B2 A2))))) A2)))
   refine A7 ?_
   refine zst (i:=4) S ?_
   exact(B3 B5 (B3 B5 (B3 B5 (pv 4) B2) (pv 8)) B2)
 refine A4 ?_ ?_
 ·refine zst (i:=9) S ?_
  exact(O5 A2)
 refine A4 ?_ ?_
 ·refine M4 ?_ ?_ ?_
  ·exact(C5 (P6 (qh2 hr)) (B3 U7 (zcl (P8 T) hr T.yq B6 (A0 (pv 0) (A0 A9 A2))) A9) A9 (D5 _))
  ·refine A4 ?_ ?_
   ·refine M4 ?_ ?_ ?_
    ·exact(C5 xd6 (C9 C4 rfl T.z_len boot_len (A0 (pv 6) A2)) A9 (D5 _))
    ·refine A7 ?_
     exact(D0 (N8 PySem.F.plainAttrs_list PySem.F.slot_list_append PySem.F.type_list_append D9 (pv 9) (A0 (C8 (A0 (D6 (B8 (D1 hr)) (pv 1) A9 (fun _ _=>rfl)) (A0 (C8 A2) A2))) A2)))
    ·refine A7 ?_
     exact(D0 (N8 PySem.F.plainAttrs_list PySem.F.slot_list_append PySem.F.type_list_append D9 (pv 5) (A0 (C8 (A0 (C9 C4 rfl T.z_len boot_len (A0 (pv 4) A2)) (A0 (B3 B5 (B3 B5 (C9 C4 rfl T.z_len boot_len (A0 (pv 4) A2)) (C9 C4 rfl T.z_len boot_len (A0 (D6 (B8 (D1 hr)) (pv 1) A9 (fun _ _=>rfl)) A2))) A9) (A0 B2 (A0 B2 A2))))) A2)))
   refine A7 ?_
   refine zst (i:=4) S ?_
   exact(B3 B5 (B3 B5 (B3 B5 (pv 4) B2) (D6 (B8 (D1 hr)) (pv 1) A9 (fun _ _=>rfl))) B2)
  ·exact E9
 refine A4 ?_ ?_
 ·refine M4 ?_ ?_ ?_
  ·exact(C5 (P6 (qh2 hr)) (B3 U7 (zcl (P8 T) hr T.yq B6 (A0 (pv 0) (A0 A9 A2))) A9) A9 (D5 _))
  ·refine A4 ?_ ?_
   ·exact(D0 (N8 PySem.F.plainAttrs_list PySem.F.slot_list_append PySem.F.type_list_append D9 (pv 9) (A0 B2 A2)))
   refine A7 ?_
   refine zst (i:=4) S ?_
   exact(B3 B5 (pv 4) B2)
  ·exact E9
 refine A4 ?_ ?_
 ·refine zst (i:=10) S ?_
  exact(B3 U7 (zcl (P8 T) hr T.yq B6 (A0 (pv 0) (A0 A9 A2))) A9)
 refine A4 ?_ ?_
 ·exact(xp1 (zcl (xi6 T) hr T.yy B6 (A0 (pv 1) (A0 (pv 2) (A0 (C9 C4 rfl T.z_len boot_len (A0 (pv 6) A2)) (A0 (pv 10) (A0 (pv 4) (A0 (pv 5) A2))))))) (xc3 rfl (V4 (E3 (i:=11) S.nd rfl (Or.inl rfl)) (V4 (E3 (i:=12) S.nd rfl (Or.inl rfl)) wo4))))
 refine A4 ?_ ?_
 ·refine zst (i:=9) S ?_
  exact(B3 B5 (pv 9) (Q7 yf6 rfl T.z_list boot_list (A0 (pv 12) A2)))
 refine A4 ?_ ?_
 ·refine M4 ?_ ?_ ?_
  ·exact(PW.pt (wl8 (C5 qo9 (C9 C4 rfl T.z_len boot_len (A0 (pv 6) A2)) A9 (D5 _)) (qy4 (C5 (P6 (qh2 hr)) (pv 10) A9 (D5 _)))))
  ·refine A7 ?_
   refine M4 ?_ ?_ ?_
   ·exact(PW.pt (wl8 (C5 (yf2 (qh2 hr)) (pv 9) (O5 A2) (D5 _)) (qy4 (C5 (P6 (qh2 hr)) (D6 (B8 (D1 hr)) (pv 9) (qr5 qe6 A9) (fun _ _=>rfl)) B2 (D5 _)))))
   ·refine A7 ?_
    exact(xp1 B2 (yd3 (pv 9) (qr5 qe6 A9) (xd9 (D1 hr))))
   ·refine A7 ?_
    exact(D0 (N8 PySem.F.plainAttrs_list PySem.F.slot_list_append PySem.F.type_list_append D9 (pv 9) (A0 B2 A2)))
  ·exact E9
 refine A4 ?_ ?_
 ·refine zst (i:=4) S ?_
  exact(B3 B5 (pv 4) (pv 11))
 refine A4 ?_ ?_
 ·refine R7 PassesOwn.never rfl ?_ ?_ ?_
  ·exact(xq9 rfl T.z_reversed (A0 (pv 6) A2))
  ·exact(E3 (i:=8) S.nd rfl (Or.inl rfl))
  ·refine A7 ?_
   exact(D0 (N8 PySem.F.plainAttrs_list PySem.F.slot_list_append PySem.F.type_list_append D9 (pv 5) (A0 (C8 (A0 (C9 C4 rfl T.z_len boot_len (A0 (pv 4) A2)) (A0 (C9 C4 rfl T.z_len boot_len (A0 (pv 4) A2)) (A0 (B3 B5 (B3 B5 B2 (pv 8)) B2) (A0 B2 A2))))) A2)))
 refine A7 ?_
 refine C7 ?_
 refine qm9 (P6 (qh2 hr)) ?_ ?_ (D5 _)
 ·exact(zcl (xv2 T) hr T.yl B6 (A0 (pv 3) (A0 (pv 4) A2)))
 ·refine C8 ?_
  refine A0 ?_ ?_
  ·refine C8 ?_
   refine A0 ?_ ?_
   ·exact B2
   refine A0 ?_ ?_
   ·refine zcl (ws9 T) hr T.yx B6 ?_
    refine A0 ?_ ?_
    ·exact(pv 6)
    refine A0 ?_ ?_
    ·exact(Q7 U4 rfl T.z_tuple boot_tuple (A0 (pv 9) A2))
    exact A2
   exact A2
  refine A0 ?_ ?_
  ·exact(pv 5)
  exact A2
end
theorem ln1{us:List Value}(h:us.length=1):∃ x0,us=[x0]:=by
 rcases us with _|⟨x0,_|⟨y,us⟩⟩
 ·cases h
 ·exact⟨x0,rfl⟩
 ·cases h
theorem ln2{us:List Value}(h:us.length=2):∃ x0 x1,us=[x0,x1]:=by
 rcases us with _|⟨x0,_|⟨x1,_|⟨y,us⟩⟩⟩
 ·cases h
 ·cases h
 ·exact⟨x0,x1,rfl⟩
 ·cases h
theorem ln3{us:List Value}(h:us.length=3):∃ x0 x1 x2,us=[x0,x1,x2]:=by
 rcases us with _|⟨x0,_|⟨x1,_|⟨x2,_|⟨y,us⟩⟩⟩⟩
 ·cases h
 ·cases h
 ·cases h
 ·exact⟨x0,x1,x2,rfl⟩
 ·cases h
theorem ln4{us:List Value}(h:us.length=4):∃ x0 x1 x2 x3,us=[x0,x1,x2,x3]:=by
 rcases us with _|⟨x0,_|⟨x1,_|⟨x2,_|⟨x3,_|⟨y,us⟩⟩⟩⟩⟩
 ·cases h
 ·cases h
 ·cases h
 ·cases h
 ·exact⟨x0,x1,x2,x3,rfl⟩
 ·cases h
theorem ln5{us:List Value}(h:us.length=5):∃ x0 x1 x2 x3 x4,us=[x0,x1,x2,x3,x4]:=by
 rcases us with _|⟨x0,_|⟨x1,_|⟨x2,_|⟨x3,_|⟨x4,_|⟨y,us⟩⟩⟩⟩⟩⟩
 ·cases h
 ·cases h
 ·cases h
 ·cases h
 ·cases h
 ·exact⟨x0,x1,x2,x3,x4,rfl⟩
 ·cases h
theorem ln6{us:List Value}(h:us.length=6):∃ x0 x1 x2 x3 x4 x5,us=[x0,x1,x2,x3,x4,x5]:=by
 rcases us with _|⟨x0,_|⟨x1,_|⟨x2,_|⟨x3,_|⟨x4,_|⟨x5,_|⟨y,us⟩⟩⟩⟩⟩⟩⟩
 ·cases h
 ·cases h
 ·cases h
 ·cases h
 ·cases h
 ·cases h
 ·exact⟨x0,x1,x2,x3,x4,x5,rfl⟩
 ·cases h
theorem all_mk{l:PySem.W.OpenLaw}{w:World}{h:Heap}{fa f0 f1 f2 f3 f4 f5 f6 f7 f8 f9 f10 f11 f12 f13 f14 f15 f16 f17 f18 f19 f20 f21 f22 f23 f24 f25 f26 f27 f28 f29 f30 f31 f32 f33 f34 f35 f36 f37 f38 f39 f40 f41 f42 f43 f44 f45 f46 f47 f48 f49 f50 f51 f52 f53 f54 f55 f56 f57 f58 f59 f60 f61:Addr}(X:K.In h)(G:h.Ns mainGlobals mg)(hfa:mg "law"=some (.ref fa)){d0 d1 d2 d3 d4 d5 d6 d7 d8 d9 d10 d11 d12 d13 d14 d15 d16 d17 d18 d19 d20 d21 d22 d23 d24 d25 d26 d27 d28 d29 d30 d31 d32 d33 d34 d35 d36 d37 d38 d39 d40 d41 d42 d43 d44 d45 d46 d47 d48 d49 d50 d51 d52 d53 d54 d55 d56 d57 d58 d59 d60 d61:FuncData}{k_LONGEST_NAME k_NAME k_SORT k_HOST k_SHUTS k_BARS k_ROOT_NAME k_MOST_OPEN k_START k_STOP k_BLANKS:Tok}{c_WALL_SORTS:Addr}{d_WALL_SORTS:Option Addr}{n_WALL_SORTS:Nat}{sl_WALL_SORTS:Array (Option Value)}{k_WALL_SORTS_0 k_WALL_SORTS_1:Tok}{c_TOLD_FOR:Addr}{d_TOLD_FOR:Option Addr}{n_TOLD_FOR:Nat}{sl_TOLD_FOR:Array (Option Value)}{k_TOLD_FOR_0 k_TOLD_FOR_1:Tok}{d_ESCAPED:Option Addr}{n_ESCAPED:Nat}{sl_ESCAPED:Array (Option Value)}{k_ESCAPED_0 k_ESCAPED_1:Tok}(eBranch:PySem.W.nsIn K mainGlobals "Branch"=some (some (.ref k_Branch)))(eReader:PySem.W.nsIn K mainGlobals "Reader"=some (some (.ref k_Reader)))(a0:PySem.W.nsIn K mainGlobals "has_letters_of_name"=some (some (.ref f0)))(F0:Fun K "has_letters_of_name" "has_letters_of_name" R4 f0 d0)(a1:PySem.W.nsIn K mainGlobals "row_of"=some (some (.ref f1)))(F1:Fun K "row_of" "row_of" xh2 f1 d1)(a2:PySem.W.nsIn K mainGlobals "sort_of"=some (some (.ref f2)))(F2:Fun K "sort_of" "sort_of" ww8 f2 d2)(a3:PySem.W.nsIn K mainGlobals "is_wall"=some (some (.ref f3)))(F3:Fun K "is_wall" "is_wall" ww9 f3 d3)(a4:PySem.W.nsIn K mainGlobals "host_of"=some (some (.ref f4)))(F4:Fun K "host_of" "host_of" wx0 f4 d4)(a5:PySem.W.nsIn K mainGlobals "frame_of"=some (some (.ref f5)))(F5:Fun K "frame_of" "frame_of" wn7 f5 d5)(a6:PySem.W.nsIn K mainGlobals "belongs"=some (some (.ref f6)))(F6:Fun K "belongs" "belongs" wx1 f6 d6)(a7:PySem.W.nsIn K mainGlobals "is_text"=some (some (.ref f7)))(F7:Fun K "is_text" "is_text" wx2 f7 d7)(a8:PySem.W.nsIn K mainGlobals "straight_above"=some (some (.ref f8)))(F8:Fun K "straight_above" "straight_above" qi9 f8 d8)(a9:PySem.W.nsIn K mainGlobals "near_of"=some (some (.ref f9)))(F9:Fun K "near_of" "near_of" wx3 f9 d9)(a10:PySem.W.nsIn K mainGlobals "share_a_name"=some (some (.ref f10)))(F10:Fun K "share_a_name" "share_a_name" qg2 f10 d10)(a11:PySem.W.nsIn K mainGlobals "closing"=some (some (.ref f11)))(F11:Fun K "closing" "closing" wx4 f11 d11)(a12:PySem.W.nsIn K mainGlobals "opening"=some (some (.ref f12)))(F12:Fun K "opening" "opening" wx5 f12 d12)(a13:PySem.W.nsIn K mainGlobals "hosts_for"=some (some (.ref f13)))(F13:Fun K "hosts_for" "hosts_for" wf9 f13 d13)(a14:PySem.W.nsIn K mainGlobals "wanted"=some (some (.ref f14)))(F14:Fun K "wanted" "wanted" xh3 f14 d14)(a15:PySem.W.nsIn K mainGlobals "wanted_by_guest"=some (some (.ref f15)))(F15:Fun K "wanted_by_guest" "wanted_by_guest" qg3 f15 d15)(a16:PySem.W.nsIn K mainGlobals "kept_by_shuts"=some (some (.ref f16)))(F16:Fun K "kept_by_shuts" "kept_by_shuts" ql6 f16 d16)(a17:PySem.W.nsIn K mainGlobals "hosts_within"=some (some (.ref f17)))(F17:Fun K "hosts_within" "hosts_within" qp8 f17 d17)(a18:PySem.W.nsIn K mainGlobals "is_barred"=some (some (.ref f18)))(F18:Fun K "is_barred" "is_barred" wg0 f18 d18)(a19:PySem.W.nsIn K mainGlobals "escaped"=some (some (.ref f19)))(F19:Fun K "escaped" "escaped" wx6 f19 d19)(a20:PySem.W.nsIn K mainGlobals "told_by"=some (some (.ref f20)))(F20:Fun K "told_by" "told_by" wx7 f20 d20)(a21:PySem.W.nsIn K mainGlobals "lone_ones"=some (some (.ref f21)))(F21:Fun K "lone_ones" "lone_ones" qt8 f21 d21)(a22:PySem.W.nsIn K mainGlobals "tokens_of"=some (some (.ref f22)))(F22:Fun K "tokens_of" "tokens_of" wg1 f22 d22)(a23:PySem.W.nsIn K mainGlobals "settled_tokens"=some (some (.ref f23)))(F23:Fun K "settled_tokens" "settled_tokens" qj0 f23 d23)(a24:PySem.W.nsIn K mainGlobals "tags_from"=some (some (.ref f24)))(F24:Fun K "tags_from" "tags_from" wg2 f24 d24)(a25:PySem.W.nsIn K mainGlobals "name_start"=some (some (.ref f25)))(F25:Fun K "name_start" "name_start" wa5 f25 d25)(a26:PySem.W.nsIn K mainGlobals "tag_stop"=some (some (.ref f26)))(F26:Fun K "tag_stop" "tag_stop" wn8 f26 d26)(a27:PySem.W.nsIn K mainGlobals "tag_between"=some (some (.ref f27)))(F27:Fun K "tag_between" "tag_between" qv2 f27 d27)(a28:PySem.W.nsIn K mainGlobals "runs_between"=some (some (.ref f28)))(F28:Fun K "runs_between" "runs_between" qp9 f28 d28)(a29:PySem.W.nsIn K mainGlobals "opening_of"=some (some (.ref f29)))(F29:Fun K "opening_of" "opening_of" wa6 f29 d29)(a30:PySem.W.nsIn K mainGlobals "closing_of"=some (some (.ref f30)))(F30:Fun K "closing_of" "closing_of" wa7 f30 d30)(a31:PySem.W.nsIn K mainGlobals "read_text"=some (some (.ref f31)))(F31:Fun K "read_text" "read_text" wg3 f31 d31)(a32:PySem.W.nsIn K mainGlobals "reader_of"=some (some (.ref f32)))(F32:Fun K "reader_of" "reader_of" wg4 f32 d32)(a33:PySem.W.nsIn K mainGlobals "those_that_wait"=some (some (.ref f33)))(F33:Fun K "those_that_wait" "those_that_wait" qg4 f33 d33)(a34:PySem.W.nsIn K mainGlobals "without_last"=some (some (.ref f34)))(F34:Fun K "without_last" "without_last" qq0 f34 d34)(a35:PySem.W.nsIn K mainGlobals "may_come_anew"=some (some (.ref f35)))(F35:Fun K "may_come_anew" "may_come_anew" ql7 f35 d35)(a36:PySem.W.nsIn K mainGlobals "_law_cell_at"=some (some (.ref f36)))(F36:Fun K "_law_cell_at" "_law_cell_at" qq1 f36 d36)(a37:PySem.W.nsIn K mainGlobals "_law_mixed"=some (some (.ref f37)))(F37:Fun K "_law_mixed" "_law_mixed" wa8 f37 d37)(a38:PySem.W.nsIn K mainGlobals "_law_letters"=some (some (.ref f38)))(F38:Fun K "_law_letters" "_law_letters" qq2 f38 d38)(a39:PySem.W.nsIn K mainGlobals "_law_names"=some (some (.ref f39)))(F39:Fun K "_law_names" "_law_names" qg5 f39 d39)(a40:PySem.W.nsIn K mainGlobals "_law_book"=some (some (.ref f40)))(F40:Fun K "_law_book" "_law_book" wg5 f40 d40)(a41:PySem.W.nsIn K mainGlobals "_law_nest"=some (some (.ref f41)))(F41:Fun K "_law_nest" "_law_nest" wg6 f41 d41)(a42:PySem.W.nsIn K mainGlobals "_law_framed"=some (some (.ref f42)))(F42:Fun K "_law_framed" "_law_framed" qv3 f42 d42)(a43:PySem.W.nsIn K mainGlobals "law"=some (some (.ref f43)))(F43:Fun K "law" "law" xo6 f43 d43)(a44:PySem.W.findIn K (.ref k_Branch) "__init__"=some (some (.ref f44)))(F44:Fun K "__init__" "Branch.__init__" ql8 f44 d44)(fn44:PySem.W.isFn K (.ref f44)=true)(a45:PySem.W.findIn K (.ref k_Reader) "__init__"=some (some (.ref f45)))(F45:Fun K "__init__" "Reader.__init__" ql9 f45 d45)(fn45:PySem.W.isFn K (.ref f45)=true)(a46:PySem.W.findIn K (.ref k_Reader) "root"=some (some (.ref f46)))(F46:Fun K "root" "Reader.root" qm0 f46 d46)(fn46:PySem.W.isFn K (.ref f46)=true)(a47:PySem.W.findIn K (.ref k_Reader) "read"=some (some (.ref f47)))(F47:Fun K "read" "Reader.read" qm1 f47 d47)(fn47:PySem.W.isFn K (.ref f47)=true)(a48:PySem.W.findIn K (.ref k_Reader) "finish"=some (some (.ref f48)))(F48:Fun K "finish" "Reader.finish" qg6 f48 d48)(fn48:PySem.W.isFn K (.ref f48)=true)(a49:PySem.W.findIn K (.ref k_Reader) "read_opening"=some (some (.ref f49)))(F49:Fun K "read_opening" "Reader.read_opening" U1 f49 d49)(fn49:PySem.W.isFn K (.ref f49)=true)(a50:PySem.W.findIn K (.ref k_Reader) "read_closing"=some (some (.ref f50)))(F50:Fun K "read_closing" "Reader.read_closing" U2 f50 d50)(fn50:PySem.W.isFn K (.ref f50)=true)(a51:PySem.W.findIn K (.ref k_Reader) "read_run"=some (some (.ref f51)))(F51:Fun K "read_run" "Reader.read_run" qb3 f51 d51)(fn51:PySem.W.isFn K (.ref f51)=true)(a52:PySem.W.findIn K (.ref k_Reader) "open_names"=some (some (.ref f52)))(F52:Fun K "open_names" "Reader.open_names" R5 f52 d52)(fn52:PySem.W.isFn K (.ref f52)=true)(a53:PySem.W.findIn K (.ref k_Reader) "is_in_frame"=some (some (.ref f53)))(F53:Fun K "is_in_frame" "Reader.is_in_frame" V3 f53 d53)(fn53:PySem.W.isFn K (.ref f53)=true)(a54:PySem.W.findIn K (.ref k_Reader) "last_wall"=some (some (.ref f54)))(F54:Fun K "last_wall" "Reader.last_wall" T0 f54 d54)(fn54:PySem.W.isFn K (.ref f54)=true)(a55:PySem.W.findIn K (.ref k_Reader) "enter"=some (some (.ref f55)))(F55:Fun K "enter" "Reader.enter" qj1 f55 d55)(fn55:PySem.W.isFn K (.ref f55)=true)(a56:PySem.W.findIn K (.ref k_Reader) "leave"=some (some (.ref f56)))(F56:Fun K "leave" "Reader.leave" qj2 f56 d56)(fn56:PySem.W.isFn K (.ref f56)=true)(a57:PySem.W.findIn K (.ref k_Reader) "drop"=some (some (.ref f57)))(F57:Fun K "drop" "Reader.drop" qm2 f57 d57)(fn57:PySem.W.isFn K (.ref f57)=true)(a58:PySem.W.findIn K (.ref k_Reader) "put_in"=some (some (.ref f58)))(F58:Fun K "put_in" "Reader.put_in" qg7 f58 d58)(fn58:PySem.W.isFn K (.ref f58)=true)(a59:PySem.W.findIn K (.ref k_Reader) "close_behind"=some (some (.ref f59)))(F59:Fun K "close_behind" "Reader.close_behind" U3 f59 d59)(fn59:PySem.W.isFn K (.ref f59)=true)(a60:PySem.W.findIn K (.ref k_Reader) "put_in_waiting"=some (some (.ref f60)))(F60:Fun K "put_in_waiting" "Reader.put_in_waiting" R9 f60 d60)(fn60:PySem.W.isFn K (.ref f60)=true)(a61:PySem.W.findIn K (.ref k_Reader) "add_text"=some (some (.ref f61)))(F61:Fun K "add_text" "Reader.add_text" qb4 f61 d61)(fn61:PySem.W.isFn K (.ref f61)=true)(uLONGEST_NAME:PySem.W.nsIn K mainGlobals "LONGEST_NAME"=some (some (.int 8 k_LONGEST_NAME)))(uNAME:PySem.W.nsIn K mainGlobals "NAME"=some (some (.int 0 k_NAME)))(uSORT:PySem.W.nsIn K mainGlobals "SORT"=some (some (.int 1 k_SORT)))(uHOST:PySem.W.nsIn K mainGlobals "HOST"=some (some (.int 2 k_HOST)))(uSHUTS:PySem.W.nsIn K mainGlobals "SHUTS"=some (some (.int 3 k_SHUTS)))(uBARS:PySem.W.nsIn K mainGlobals "BARS"=some (some (.int 4 k_BARS)))(uROOT_NAME:PySem.W.nsIn K mainGlobals "ROOT_NAME"=some (some (.str "" k_ROOT_NAME)))(uMOST_OPEN:PySem.W.nsIn K mainGlobals "MOST_OPEN"=some (some (.int 20 k_MOST_OPEN)))(uSTART:PySem.W.nsIn K mainGlobals "START"=some (some (.int 1 k_START)))(uSTOP:PySem.W.nsIn K mainGlobals "STOP"=some (some (.int 2 k_STOP)))(uBLANKS:PySem.W.nsIn K mainGlobals "BLANKS"=some (some (.str " \n" k_BLANKS)))(uWALL_SORTS:PySem.W.nsIn K mainGlobals "WALL_SORTS"=some (some (.ref c_WALL_SORTS)))(wWALL_SORTS:K.lookup c_WALL_SORTS=some ⟨.type "tuple",d_WALL_SORTS,.seq #[.str "room" k_WALL_SORTS_0,.str "frame" k_WALL_SORTS_1] n_WALL_SORTS,sl_WALL_SORTS⟩)(uTOLD_FOR:PySem.W.nsIn K mainGlobals "TOLD_FOR"=some (some (.ref c_TOLD_FOR)))(wTOLD_FOR:K.lookup c_TOLD_FOR=some ⟨.type "tuple",d_TOLD_FOR,.seq #[.str "&l;" k_TOLD_FOR_0,.str "&a;" k_TOLD_FOR_1] n_TOLD_FOR,sl_TOLD_FOR⟩)(uESCAPED:PySem.W.nsIn K mainGlobals "ESCAPED"=some (some (.ref c_ESCAPED)))(wESCAPED:K.lookup c_ESCAPED=some ⟨.type "tuple",d_ESCAPED,.seq #[.str "<" k_ESCAPED_0,.str "&" k_ESCAPED_1] n_ESCAPED,sl_ESCAPED⟩)(pg0Branch:PySem.W.plainGet K k_Branch Str.empty=true)(hd0Branch:PySem.W.hasDictIn K k_Branch=true)(po0Branch:PySem.W.plainOver K k_Branch=true)(sa0Branch:PySem.W.findIn K (.ref k_Branch) "__setattr__"=some (some (.builtin "object.__setattr__")))(ns0Branch:PySem.W.nsIn K mainGlobals "Branch"=some (some (.ref k_Branch)))(na0Branch0name:PySem.W.findIn K (.ref k_Branch) "name"=some none)(na0Branch0place:PySem.W.findIn K (.ref k_Branch) "place"=some none)(na0Branch0parts:PySem.W.findIn K (.ref k_Branch) "parts"=some none)(na0Branch0waiting:PySem.W.findIn K (.ref k_Branch) "waiting"=some none)(pg0Reader:PySem.W.plainGet K k_Reader Str.empty=true)(hd0Reader:PySem.W.hasDictIn K k_Reader=true)(po0Reader:PySem.W.plainOver K k_Reader=true)(sa0Reader:PySem.W.findIn K (.ref k_Reader) "__setattr__"=some (some (.builtin "object.__setattr__")))(ns0Reader:PySem.W.nsIn K mainGlobals "Reader"=some (some (.ref k_Reader)))(na0Reader0book:PySem.W.findIn K (.ref k_Reader) "book"=some none)(na0Reader0branches:PySem.W.findIn K (.ref k_Reader) "branches"=some none)(na0Reader0mends:PySem.W.findIn K (.ref k_Reader) "mends"=some none)(na0Reader0laid:PySem.W.findIn K (.ref k_Reader) "laid"=some none)(mk0Branch:PySem.W.makesIn K k_Branch=true)(kp0Branch:PySem.W.keepIn K (.ref k_Branch)=true)(mk0Reader:PySem.W.makesIn K k_Reader=true)(kp0Reader:PySem.W.keepIn K (.ref k_Reader)=true)(zall:PySem.W.nsIn K mainGlobals "all"=some none)(zany:PySem.W.nsIn K mainGlobals "any"=some none)(zenumerate:PySem.W.nsIn K mainGlobals "enumerate"=some none)(zint:PySem.W.nsIn K mainGlobals "int"=some none)(zisinstance:PySem.W.nsIn K mainGlobals "isinstance"=some none)(zlen:PySem.W.nsIn K mainGlobals "len"=some none)(zlist:PySem.W.nsIn K mainGlobals "list"=some none)(zrange:PySem.W.nsIn K mainGlobals "range"=some none)(zreversed:PySem.W.nsIn K mainGlobals "reversed"=some none)(zstr:PySem.W.nsIn K mainGlobals "str"=some none)(ztuple:PySem.W.nsIn K mainGlobals "tuple"=some none) :
 ∃ fd:FuncData,(∀ (s:Shared) (v:Value),BindsTo s fd ⟨[v],[]⟩ [("_law_script",v)])/\∀ base:Heap,K.In base->base.Ns mainGlobals mg->J6 l.prog w K mg base CX0 26 fa fd ["_law_script"] (ww7 K):=by
 have e:=hfa.symm.trans (PySem.W.mg_of X G a43)
 have e:f43=fa:=by cases e;rfl
 subst e
 obtain⟨_,_,kV,dc,pm,an,cd,ct,_,rfl,_,_⟩:=id F43.ex
 have b0:=F0.binds (ps:=["word"]) fun _ _ _ _ _ _ us hl=>by obtain⟨_,rfl⟩:=ln1 hl;rfl
 have b1:=F1.binds (ps:=["rows","name"]) fun _ _ _ _ _ _ us hl=>by obtain⟨_,_,rfl⟩:=ln2 hl;rfl
 have b2:=F2.binds (ps:=["book","name"]) fun _ _ _ _ _ _ us hl=>by obtain⟨_,_,rfl⟩:=ln2 hl;rfl
 have b3:=F3.binds (ps:=["book","name"]) fun _ _ _ _ _ _ us hl=>by obtain⟨_,_,rfl⟩:=ln2 hl;rfl
 have b4:=F4.binds (ps:=["book","name"]) fun _ _ _ _ _ _ us hl=>by obtain⟨_,_,rfl⟩:=ln2 hl;rfl
 have b5:=F5.binds (ps:=["book","name"]) fun _ _ _ _ _ _ us hl=>by obtain⟨_,_,rfl⟩:=ln2 hl;rfl
 have b6:=F6.binds (ps:=["book","name","frame"]) fun _ _ _ _ _ _ us hl=>by obtain⟨_,_,_,rfl⟩:=ln3 hl;rfl
 have b7:=F7.binds (ps:=["part"]) fun _ _ _ _ _ _ us hl=>by obtain⟨_,rfl⟩:=ln1 hl;rfl
 have b8:=F8.binds (ps:=["names"]) fun _ _ _ _ _ _ us hl=>by obtain⟨_,rfl⟩:=ln1 hl;rfl
 have b9:=F9.binds (ps:=["book","names"]) fun _ _ _ _ _ _ us hl=>by obtain⟨_,_,rfl⟩:=ln2 hl;rfl
 have b10:=F10.binds (ps:=["names","others"]) fun _ _ _ _ _ _ us hl=>by obtain⟨_,_,rfl⟩:=ln2 hl;rfl
 have b11:=F11.binds (ps:=["book","names","name"]) fun _ _ _ _ _ _ us hl=>by obtain⟨_,_,_,rfl⟩:=ln3 hl;rfl
 have b12:=F12.binds (ps:=["book","names","name"]) fun _ _ _ _ _ _ us hl=>by obtain⟨_,_,_,rfl⟩:=ln3 hl;rfl
 have b13:=F13.binds (ps:=["book","names"]) fun _ _ _ _ _ _ us hl=>by obtain⟨_,_,rfl⟩:=ln2 hl;rfl
 have b14:=F14.binds (ps:=["book","names","name"]) fun _ _ _ _ _ _ us hl=>by obtain⟨_,_,_,rfl⟩:=ln3 hl;rfl
 have b15:=F15.binds (ps:=["book","names","name"]) fun _ _ _ _ _ _ us hl=>by obtain⟨_,_,_,rfl⟩:=ln3 hl;rfl
 have b16:=F16.binds (ps:=["book","names","name"]) fun _ _ _ _ _ _ us hl=>by obtain⟨_,_,_,rfl⟩:=ln3 hl;rfl
 have b17:=F17.binds (ps:=["book","name"]) fun _ _ _ _ _ _ us hl=>by obtain⟨_,_,rfl⟩:=ln2 hl;rfl
 have b18:=F18.binds (ps:=["book","kept","put"]) fun _ _ _ _ _ _ us hl=>by obtain⟨_,_,_,rfl⟩:=ln3 hl;rfl
 have b19:=F19.binds (ps:=["text"]) fun _ _ _ _ _ _ us hl=>by obtain⟨_,rfl⟩:=ln1 hl;rfl
 have b20:=F20.binds (ps:=["run"]) fun _ _ _ _ _ _ us hl=>by obtain⟨_,rfl⟩:=ln1 hl;rfl
 have b21:=F21.binds (ps:=["run"]) fun _ _ _ _ _ _ us hl=>by obtain⟨_,rfl⟩:=ln1 hl;rfl
 have b22:=F22.binds (ps:=["text"]) fun _ _ _ _ _ _ us hl=>by obtain⟨_,rfl⟩:=ln1 hl;rfl
 have b23:=F23.binds (ps:=["text","settled","searched"]) fun _ _ _ _ _ _ us hl=>by obtain⟨_,_,_,rfl⟩:=ln3 hl;rfl
 have b24:=F24.binds (ps:=["text","searched"]) fun _ _ _ _ _ _ us hl=>by obtain⟨_,_,rfl⟩:=ln2 hl;rfl
 have b25:=F25.binds (ps:=["text","start"]) fun _ _ _ _ _ _ us hl=>by obtain⟨_,_,rfl⟩:=ln2 hl;rfl
 have b26:=F26.binds (ps:=["text","start"]) fun _ _ _ _ _ _ us hl=>by obtain⟨_,_,rfl⟩:=ln2 hl;rfl
 have b27:=F27.binds (ps:=["text","start","stop"]) fun _ _ _ _ _ _ us hl=>by obtain⟨_,_,_,rfl⟩:=ln3 hl;rfl
 have b28:=F28.binds (ps:=["text","start","stop"]) fun _ _ _ _ _ _ us hl=>by obtain⟨_,_,_,rfl⟩:=ln3 hl;rfl
 have b29:=F29.binds (ps:=["name"]) fun _ _ _ _ _ _ us hl=>by obtain⟨_,rfl⟩:=ln1 hl;rfl
 have b30:=F30.binds (ps:=["name"]) fun _ _ _ _ _ _ us hl=>by obtain⟨_,rfl⟩:=ln1 hl;rfl
 have b31:=F31.binds (ps:=["book","text"]) fun _ _ _ _ _ _ us hl=>by obtain⟨_,_,rfl⟩:=ln2 hl;rfl
 have b32:=F32.binds (ps:=["book","text"]) fun _ _ _ _ _ _ us hl=>by obtain⟨_,_,rfl⟩:=ln2 hl;rfl
 have b33:=F33.binds (ps:=["book","closed"]) fun _ _ _ _ _ _ us hl=>by obtain⟨_,_,rfl⟩:=ln2 hl;rfl
 have b34:=F34.binds (ps:=["names","name"]) fun _ _ _ _ _ _ us hl=>by obtain⟨_,_,rfl⟩:=ln2 hl;rfl
 have b35:=F35.binds (ps:=["book","names","name"]) fun _ _ _ _ _ _ us hl=>by obtain⟨_,_,_,rfl⟩:=ln3 hl;rfl
 have b36:=F36.binds (ps:=["_law_script","_law_k"]) fun _ _ _ _ _ _ us hl=>by obtain⟨_,_,rfl⟩:=ln2 hl;rfl
 have b37:=F37.binds (ps:=["_law_cell","_law_k"]) fun _ _ _ _ _ _ us hl=>by obtain⟨_,_,rfl⟩:=ln2 hl;rfl
 have b38:=F38.binds (ps:=["_law_number"]) fun _ _ _ _ _ _ us hl=>by obtain⟨_,rfl⟩:=ln1 hl;rfl
 have b39:=F39.binds (ps:=["_law_cell"]) fun _ _ _ _ _ _ us hl=>by obtain⟨_,rfl⟩:=ln1 hl;rfl
 have b40:=F40.binds (ps:=["_law_names_here","_law_long"]) fun _ _ _ _ _ _ us hl=>by obtain⟨_,_,rfl⟩:=ln2 hl;rfl
 have b41:=F41.binds (ps:=["_law_names_here","_law_parts"]) fun _ _ _ _ _ _ us hl=>by obtain⟨_,_,rfl⟩:=ln2 hl;rfl
 have b42:=F42.binds (ps:=["_law_names_here","_law_long","_law_deep","_law_way","_law_text","_law_mends"]) fun _ _ _ _ _ _ us hl=>by obtain⟨_,_,_,_,_,_,rfl⟩:=ln6 hl;rfl
 have b43:=F43.binds (ps:=["_law_script"]) fun _ _ _ _ _ _ us hl=>by obtain⟨_,rfl⟩:=ln1 hl;rfl
 have b44:=F44.binds (ps:=["self","name","place"]) fun _ _ _ _ _ _ us hl=>by obtain⟨_,_,_,rfl⟩:=ln3 hl;rfl
 have b45:=F45.binds (ps:=["self","book"]) fun _ _ _ _ _ _ us hl=>by obtain⟨_,_,rfl⟩:=ln2 hl;rfl
 have b46:=F46.binds (ps:=["self"]) fun _ _ _ _ _ _ us hl=>by obtain⟨_,rfl⟩:=ln1 hl;rfl
 have b47:=F47.binds (ps:=["self","kind","start","signs","told"]) fun _ _ _ _ _ _ us hl=>by obtain⟨_,_,_,_,_,rfl⟩:=ln5 hl;rfl
 have b48:=F48.binds (ps:=["self","size"]) fun _ _ _ _ _ _ us hl=>by obtain⟨_,_,rfl⟩:=ln2 hl;rfl
 have b49:=F49.binds (ps:=["self","start","signs","name"]) fun _ _ _ _ _ _ us hl=>by obtain⟨_,_,_,_,rfl⟩:=ln4 hl;rfl
 have b50:=F50.binds (ps:=["self","start","signs","name"]) fun _ _ _ _ _ _ us hl=>by obtain⟨_,_,_,_,rfl⟩:=ln4 hl;rfl
 have b51:=F51.binds (ps:=["self","start","signs","told"]) fun _ _ _ _ _ _ us hl=>by obtain⟨_,_,_,_,rfl⟩:=ln4 hl;rfl
 have b52:=F52.binds (ps:=["self"]) fun _ _ _ _ _ _ us hl=>by obtain⟨_,rfl⟩:=ln1 hl;rfl
 have b53:=F53.binds (ps:=["self"]) fun _ _ _ _ _ _ us hl=>by obtain⟨_,rfl⟩:=ln1 hl;rfl
 have b54:=F54.binds (ps:=["self"]) fun _ _ _ _ _ _ us hl=>by obtain⟨_,rfl⟩:=ln1 hl;rfl
 have b55:=F55.binds (ps:=["self","name"]) fun _ _ _ _ _ _ us hl=>by obtain⟨_,_,rfl⟩:=ln2 hl;rfl
 have b56:=F56.binds (ps:=["self"]) fun _ _ _ _ _ _ us hl=>by obtain⟨_,rfl⟩:=ln1 hl;rfl
 have b57:=F57.binds (ps:=["self","start","signs","rule"]) fun _ _ _ _ _ _ us hl=>by obtain⟨_,_,_,_,rfl⟩:=ln4 hl;rfl
 have b58:=F58.binds (ps:=["self","name","start","rule"]) fun _ _ _ _ _ _ us hl=>by obtain⟨_,_,_,_,rfl⟩:=ln4 hl;rfl
 have b59:=F59.binds (ps:=["self","kept","start","rule"]) fun _ _ _ _ _ _ us hl=>by obtain⟨_,_,_,_,rfl⟩:=ln4 hl;rfl
 have b60:=F60.binds (ps:=["self","start"]) fun _ _ _ _ _ _ us hl=>by obtain⟨_,_,rfl⟩:=ln2 hl;rfl
 have b61:=F61.binds (ps:=["self","start","signs","told"]) fun _ _ _ _ _ _ us hl=>by obtain⟨_,_,_,_,rfl⟩:=ln4 hl;rfl
 let t:Adr:={za:=⟨f0,d0⟩,zb:=⟨f1,d1⟩,zc:=⟨f2,d2⟩,zd:=⟨f3,d3⟩,ze:=⟨f4,d4⟩,zf:=⟨f5,d5⟩,zh:=⟨f6,d6⟩,zi:=⟨f7,d7⟩,zj:=⟨f8,d8⟩,zk:=⟨f9,d9⟩,zm:=⟨f10,d10⟩,zn:=⟨f11,d11⟩,zo:=⟨f12,d12⟩,zr:=⟨f13,d13⟩,zt:=⟨f14,d14⟩,zu:=⟨f15,d15⟩,zw:=⟨f16,d16⟩,zx:=⟨f17,d17⟩,zy:=⟨f18,d18⟩,zz:=⟨f19,d19⟩,ya:=⟨f20,d20⟩,yb:=⟨f21,d21⟩,yc:=⟨f22,d22⟩,yd:=⟨f23,d23⟩,ye:=⟨f24,d24⟩,yf:=⟨f25,d25⟩,yg:=⟨f26,d26⟩,yh:=⟨f27,d27⟩,yi:=⟨f28,d28⟩,yj:=⟨f29,d29⟩,yk:=⟨f30,d30⟩,yl:=⟨f31,d31⟩,ym:=⟨f32,d32⟩,yn:=⟨f33,d33⟩,yo:=⟨f34,d34⟩,yp:=⟨f35,d35⟩,yq:=⟨f36,d36⟩,yr:=⟨f37,d37⟩,yt:=⟨f38,d38⟩,yu:=⟨f39,d39⟩,yw:=⟨f40,d40⟩,yx:=⟨f41,d41⟩,yy:=⟨f42,d42⟩,yz:=⟨f43,PySem.W.fnOf "law" "law" (wo9 xo6) (wh2 xo6) (B0 xo6) .none kV dc pm an cd ct⟩,a_c_Branch_init:=f44,d_c_Branch_init:=d44,a_c_Reader_init:=f45,d_c_Reader_init:=d45,a_c_Reader_root:=f46,d_c_Reader_root:=d46,a_c_Reader_read:=f47,d_c_Reader_read:=d47,a_c_Reader_finish:=f48,d_c_Reader_finish:=d48,a_c_Reader_read_opening:=f49,d_c_Reader_read_opening:=d49,a_c_Reader_read_closing:=f50,d_c_Reader_read_closing:=d50,a_c_Reader_read_run:=f51,d_c_Reader_read_run:=d51,a_c_Reader_open_names:=f52,d_c_Reader_open_names:=d52,a_c_Reader_is_in_frame:=f53,d_c_Reader_is_in_frame:=d53,a_c_Reader_last_wall:=f54,d_c_Reader_last_wall:=d54,a_c_Reader_enter:=f55,d_c_Reader_enter:=d55,a_c_Reader_leave:=f56,d_c_Reader_leave:=d56,a_c_Reader_drop:=f57,d_c_Reader_drop:=d57,a_c_Reader_put_in:=f58,d_c_Reader_put_in:=d58,a_c_Reader_close_behind:=f59,d_c_Reader_close_behind:=d59,a_c_Reader_put_in_waiting:=f60,d_c_Reader_put_in_waiting:=d60,a_c_Reader_add_text:=f61,d_c_Reader_add_text:=d61,v_LONGEST_NAME:=.int 8 k_LONGEST_NAME,v_NAME:=.int 0 k_NAME,v_SORT:=.int 1 k_SORT,v_HOST:=.int 2 k_HOST,v_SHUTS:=.int 3 k_SHUTS,v_BARS:=.int 4 k_BARS,v_ROOT_NAME:=.str "" k_ROOT_NAME,v_MOST_OPEN:=.int 20 k_MOST_OPEN,v_START:=.int 1 k_START,v_STOP:=.int 2 k_STOP,v_BLANKS:=.str " \n" k_BLANKS,c_WALL_SORTS:=c_WALL_SORTS,c_TOLD_FOR:=c_TOLD_FOR,c_ESCAPED:=c_ESCAPED,k_Branch:=k_Branch,k_Reader:=k_Reader}
 have T:Txt K mg t:=⟨⟨F0,b0,PySem.W.mg_of X G a0⟩,⟨F1,b1,PySem.W.mg_of X G a1⟩,⟨F2,b2,PySem.W.mg_of X G a2⟩,⟨F3,b3,PySem.W.mg_of X G a3⟩,⟨F4,b4,PySem.W.mg_of X G a4⟩,⟨F5,b5,PySem.W.mg_of X G a5⟩,⟨F6,b6,PySem.W.mg_of X G a6⟩,⟨F7,b7,PySem.W.mg_of X G a7⟩,⟨F8,b8,PySem.W.mg_of X G a8⟩,⟨F9,b9,PySem.W.mg_of X G a9⟩,⟨F10,b10,PySem.W.mg_of X G a10⟩,⟨F11,b11,PySem.W.mg_of X G a11⟩,⟨F12,b12,PySem.W.mg_of X G a12⟩,⟨F13,b13,PySem.W.mg_of X G a13⟩,⟨F14,b14,PySem.W.mg_of X G a14⟩,⟨F15,b15,PySem.W.mg_of X G a15⟩,⟨F16,b16,PySem.W.mg_of X G a16⟩,⟨F17,b17,PySem.W.mg_of X G a17⟩,⟨F18,b18,PySem.W.mg_of X G a18⟩,⟨F19,b19,PySem.W.mg_of X G a19⟩,⟨F20,b20,PySem.W.mg_of X G a20⟩,⟨F21,b21,PySem.W.mg_of X G a21⟩,⟨F22,b22,PySem.W.mg_of X G a22⟩,⟨F23,b23,PySem.W.mg_of X G a23⟩,⟨F24,b24,PySem.W.mg_of X G a24⟩,⟨F25,b25,PySem.W.mg_of X G a25⟩,⟨F26,b26,PySem.W.mg_of X G a26⟩,⟨F27,b27,PySem.W.mg_of X G a27⟩,⟨F28,b28,PySem.W.mg_of X G a28⟩,⟨F29,b29,PySem.W.mg_of X G a29⟩,⟨F30,b30,PySem.W.mg_of X G a30⟩,⟨F31,b31,PySem.W.mg_of X G a31⟩,⟨F32,b32,PySem.W.mg_of X G a32⟩,⟨F33,b33,PySem.W.mg_of X G a33⟩,⟨F34,b34,PySem.W.mg_of X G a34⟩,⟨F35,b35,PySem.W.mg_of X G a35⟩,⟨F36,b36,PySem.W.mg_of X G a36⟩,⟨F37,b37,PySem.W.mg_of X G a37⟩,⟨F38,b38,PySem.W.mg_of X G a38⟩,⟨F39,b39,PySem.W.mg_of X G a39⟩,⟨F40,b40,PySem.W.mg_of X G a40⟩,⟨F41,b41,PySem.W.mg_of X G a41⟩,⟨F42,b42,PySem.W.mg_of X G a42⟩,⟨F43,b43,PySem.W.mg_of X G a43⟩,F44,b44,⟨mk0Branch,a44,fn44,kp0Branch⟩,F45,b45,⟨mk0Reader,a45,fn45,kp0Reader⟩,F46,b46,⟨a46,fn46,F46.kp⟩,F47,b47,⟨a47,fn47,F47.kp⟩,F48,b48,⟨a48,fn48,F48.kp⟩,F49,b49,⟨a49,fn49,F49.kp⟩,F50,b50,⟨a50,fn50,F50.kp⟩,F51,b51,⟨a51,fn51,F51.kp⟩,F52,b52,⟨a52,fn52,F52.kp⟩,F53,b53,⟨a53,fn53,F53.kp⟩,F54,b54,⟨a54,fn54,F54.kp⟩,F55,b55,⟨a55,fn55,F55.kp⟩,F56,b56,⟨a56,fn56,F56.kp⟩,F57,b57,⟨a57,fn57,F57.kp⟩,F58,b58,⟨a58,fn58,F58.kp⟩,F59,b59,⟨a59,fn59,F59.kp⟩,F60,b60,⟨a60,fn60,F60.kp⟩,F61,b61,⟨a61,fn61,F61.kp⟩,PySem.W.mg_of X G uWALL_SORTS,fun _=>.inr ⟨_,_,_,wWALL_SORTS,rfl,rfl,by rw[sizeLine_eq];show 2<=_;decide,(.cons ⟨_,rfl⟩ (.cons ⟨_,rfl⟩ .nil))⟩,⟨PySem.W.mg_of X G uLONGEST_NAME,⟨_,rfl⟩⟩,⟨PySem.W.mg_of X G uNAME,⟨_,rfl⟩⟩,⟨PySem.W.mg_of X G uSORT,⟨_,rfl⟩⟩,⟨PySem.W.mg_of X G uHOST,⟨_,rfl⟩⟩,⟨PySem.W.mg_of X G uSHUTS,⟨_,rfl⟩⟩,⟨PySem.W.mg_of X G uBARS,⟨_,rfl⟩⟩,⟨PySem.W.mg_of X G uROOT_NAME,⟨_,rfl⟩⟩,⟨PySem.W.mg_of X G uMOST_OPEN,⟨_,rfl⟩⟩,PySem.W.mg_of X G uTOLD_FOR,fun _=>.inr ⟨_,_,_,wTOLD_FOR,rfl,rfl,by rw[sizeLine_eq];show 2<=_;decide,(.cons ⟨_,rfl⟩ (.cons ⟨_,rfl⟩ .nil))⟩,PySem.W.mg_of X G uESCAPED,fun _=>.inr ⟨_,_,_,wESCAPED,rfl,rfl,by rw[sizeLine_eq];show 2<=_;decide,(.cons ⟨_,rfl⟩ (.cons ⟨_,rfl⟩ .nil))⟩,⟨PySem.W.mg_of X G uSTART,⟨_,rfl⟩⟩,⟨PySem.W.mg_of X G uSTOP,⟨_,rfl⟩⟩,⟨PySem.W.mg_of X G uBLANKS,⟨_,rfl⟩⟩,PySem.W.mg_none_of X G zall,PySem.W.mg_none_of X G zany,PySem.W.mg_none_of X G zenumerate,PySem.W.mg_none_of X G zint,PySem.W.mg_none_of X G zisinstance,PySem.W.mg_none_of X G zlen,PySem.W.mg_none_of X G zlist,PySem.W.mg_none_of X G zrange,PySem.W.mg_none_of X G zreversed,PySem.W.mg_none_of X G zstr,PySem.W.mg_none_of X G ztuple,PySem.W.mg_of X G eBranch,PySem.W.mg_of X G eReader,⟨pg0Branch,hd0Branch,po0Branch,sa0Branch,ns0Branch,na0Branch0name,na0Branch0place,na0Branch0parts,na0Branch0waiting,pg0Reader,hd0Reader,po0Reader,sa0Reader,ns0Reader,na0Reader0book,na0Reader0branches,na0Reader0mends,na0Reader0laid⟩⟩
 exact⟨_,fun s v=>.of_eq rfl,fun base _ _=>zw1 T⟩
theorem walk{l:PySem.W.OpenLaw}{q:Program}{loose:List Str}{XP:(Str->Option Value)->Heap->Prop}{as:List Addr}{z t:Nat}{d:DefRec}{K:Params->Fg}(hn:l.most=some 63)(hdf:d.params.defaults=[])(hk:∀ P,as=(K P).map (·.1))(h0:0<t) (F:∀ (w:World) (mg:Str->Option Value) (fa:Addr) (h:Heap),(K w.params).In h->h.Ns mainGlobals mg->mg d.name=some (.ref fa) ->
  ∃ fd:FuncData,(∀ (s:Shared) (u:Value),BindsTo s fd ⟨[u],[]⟩ [("_law_script",u)])/\∀ base:Heap,(K w.params).In base->base.Ns mainGlobals mg->J6 l.prog w (K w.params) mg base CX0 26 fa fd ["_law_script"] (ww7 (K w.params))) :
 PySem.W.WalkX q loose XP (PySem.W.X.obsZ as) (PySem.W.X.valZ K z t) l.row.toRowW d [] (fun f vs=>PySem.call f vs) :=
 L2.zh1 (n:=63) (k:=26) (x := "_law_script") (CX:=fun _=>CX0) (sp:=fun w=>ww7 (K w.params)) hn (by decide) hdf ⟨rfl,by decide,by decide,rfl⟩ hk h0 F (fun _ _ a ns hl _ hS=>⟨a,ns,rfl,hS,hl,fun _=>rfl⟩) fun _ _ _ _ _ z=>z
end
end My
open PySem PySem.W PyProof.Rows
local macro_rules | `(tactic| x_go) => `(tactic| (refine' L2.zq9 ?l ?c ?k; (case l => k_is); (case c => k_is); (case k => k_is)))
set_option maxRecDepth 100000 in
set_option maxHeartbeats 0 in
theorem PySem.Challenge.cw_tagmend_k46_too_deep_holds : PySem.Challenge.rw_tagmend_k46_too_deep.Holds := by
 w_on;o_law;z_head;(case hw=>w_witness2)
 k_fill
 refine My.walk (l:=PySem.Challenge.rw_tagmend_k46_too_deep) rfl rfl (fun _=>rfl) (by decide) ?F
 case F =>
  intro w mg fa h KX G hmg
  refine' My.all_mk KX G hmg ?eBranch ?eReader ?a0 ?F0 ?a1 ?F1 ?a2 ?F2 ?a3 ?F3 ?a4 ?F4 ?a5 ?F5 ?a6 ?F6 ?a7 ?F7 ?a8 ?F8 ?a9 ?F9 ?a10 ?F10 ?a11 ?F11 ?a12 ?F12 ?a13 ?F13 ?a14 ?F14 ?a15 ?F15 ?a16 ?F16 ?a17 ?F17 ?a18 ?F18 ?a19 ?F19 ?a20 ?F20 ?a21 ?F21 ?a22 ?F22 ?a23 ?F23 ?a24 ?F24 ?a25 ?F25 ?a26 ?F26 ?a27 ?F27 ?a28 ?F28 ?a29 ?F29 ?a30 ?F30 ?a31 ?F31 ?a32 ?F32 ?a33 ?F33 ?a34 ?F34 ?a35 ?F35 ?a36 ?F36 ?a37 ?F37 ?a38 ?F38 ?a39 ?F39 ?a40 ?F40 ?a41 ?F41 ?a42 ?F42 ?a43 ?F43 ?a44 ?F44 ?fn44 ?a45 ?F45 ?fn45 ?a46 ?F46 ?fn46 ?a47 ?F47 ?fn47 ?a48 ?F48 ?fn48 ?a49 ?F49 ?fn49 ?a50 ?F50 ?fn50 ?a51 ?F51 ?fn51 ?a52 ?F52 ?fn52 ?a53 ?F53 ?fn53 ?a54 ?F54 ?fn54 ?a55 ?F55 ?fn55 ?a56 ?F56 ?fn56 ?a57 ?F57 ?fn57 ?a58 ?F58 ?fn58 ?a59 ?F59 ?fn59 ?a60 ?F60 ?fn60 ?a61 ?F61 ?fn61 ?uWALL_SORTS ?wWALL_SORTS ?uLONGEST_NAME ?uNAME ?uSORT ?uHOST ?uSHUTS ?uBARS ?uROOT_NAME ?uMOST_OPEN ?uTOLD_FOR ?wTOLD_FOR ?uESCAPED ?wESCAPED ?uSTART ?uSTOP ?uBLANKS ?pg0Branch ?hd0Branch ?po0Branch ?sa0Branch ?ns0Branch ?na0Branch0name ?na0Branch0place ?na0Branch0parts ?na0Branch0waiting ?pg0Reader ?hd0Reader ?po0Reader ?sa0Reader ?ns0Reader ?na0Reader0book ?na0Reader0branches ?na0Reader0mends ?na0Reader0laid ?mk0Branch ?kp0Branch ?mk0Reader ?kp0Reader ?zall ?zany ?zenumerate ?zint ?zisinstance ?zlen ?zlist ?zrange ?zreversed ?zstr ?ztuple
  (case eBranch=>k_is);(case eReader=>k_is);(case a0=>k_is);(case F0=>x_go)
  (case a1=>k_is);(case F1=>x_go);(case a2=>k_is);(case F2=>x_go)
  (case a3=>k_is);(case F3=>x_go);(case a4=>k_is);(case F4=>x_go)
  (case a5=>k_is);(case F5=>x_go);(case a6=>k_is);(case F6=>x_go)
  (case a7=>k_is);(case F7=>x_go);(case a8=>k_is);(case F8=>x_go)
  (case a9=>k_is);(case F9=>x_go);(case a10=>k_is);(case F10=>x_go)
  (case a11=>k_is);(case F11=>x_go);(case a12=>k_is);(case F12=>x_go)
  (case a13=>k_is);(case F13=>x_go);(case a14=>k_is);(case F14=>x_go)
  (case a15=>k_is);(case F15=>x_go);(case a16=>k_is);(case F16=>x_go)
  (case a17=>k_is);(case F17=>x_go);(case a18=>k_is);(case F18=>x_go)
  (case a19=>k_is);(case F19=>x_go);(case a20=>k_is);(case F20=>x_go)
  (case a21=>k_is);(case F21=>x_go);(case a22=>k_is);(case F22=>x_go)
  (case a23=>k_is);(case F23=>x_go);(case a24=>k_is);(case F24=>x_go)
  (case a25=>k_is);(case F25=>x_go);(case a26=>k_is);(case F26=>x_go)
  (case a27=>k_is);(case F27=>x_go);(case a28=>k_is);(case F28=>x_go)
  (case a29=>k_is);(case F29=>x_go);(case a30=>k_is);(case F30=>x_go)
  (case a31=>k_is);(case F31=>x_go);(case a32=>k_is);(case F32=>x_go)
  (case a33=>k_is);(case F33=>x_go);(case a34=>k_is);(case F34=>x_go)
  (case a35=>k_is);(case F35=>x_go);(case a36=>k_is);(case F36=>x_go)
  (case a37=>k_is);(case F37=>x_go);(case a38=>k_is);(case F38=>x_go)
  (case a39=>k_is);(case F39=>x_go);(case a40=>k_is);(case F40=>x_go)
  (case a41=>k_is);(case F41=>x_go);(case a42=>k_is);(case F42=>x_go)
  (case a43=>k_is);(case F43=>x_go);(case a44=>k_is);(case F44=>x_go)
  (case fn44=>k_is);(case a45=>k_is);(case F45=>x_go);(case fn45=>k_is)
  (case a46=>k_is);(case F46=>x_go);(case fn46=>k_is);(case a47=>k_is)
  (case F47=>x_go);(case fn47=>k_is);(case a48=>k_is);(case F48=>x_go)
  (case fn48=>k_is);(case a49=>k_is);(case F49=>x_go);(case fn49=>k_is)
  (case a50=>k_is);(case F50=>x_go);(case fn50=>k_is);(case a51=>k_is)
  (case F51=>x_go);(case fn51=>k_is);(case a52=>k_is);(case F52=>x_go)
  (case fn52=>k_is);(case a53=>k_is);(case F53=>x_go);(case fn53=>k_is)
  (case a54=>k_is);(case F54=>x_go);(case fn54=>k_is);(case a55=>k_is)
  (case F55=>x_go);(case fn55=>k_is);(case a56=>k_is);(case F56=>x_go)
  (case fn56=>k_is);(case a57=>k_is);(case F57=>x_go);(case fn57=>k_is)
  (case a58=>k_is);(case F58=>x_go);(case fn58=>k_is);(case a59=>k_is)
  (case F59=>x_go);(case fn59=>k_is);(case a60=>k_is);(case F60=>x_go)
  (case fn60=>k_is);(case a61=>k_is);(case F61=>x_go);(case fn61=>k_is)
  (case uWALL_SORTS=>k_is);(case wWALL_SORTS=>k_is);(case uLONGEST_NAME=>k_is);(case uNAME=>k_is)
  (case uSORT=>k_is);(case uHOST=>k_is);(case uSHUTS=>k_is);(case uBARS=>k_is)
  (case uROOT_NAME=>k_is);(case uMOST_OPEN=>k_is);(case uTOLD_FOR=>k_is);(case wTOLD_FOR=>k_is)
  (case uESCAPED=>k_is);(case wESCAPED=>k_is);(case uSTART=>k_is);(case uSTOP=>k_is)
  (case uBLANKS=>k_is);(case pg0Branch=>k_is);(case hd0Branch=>k_is);(case po0Branch=>k_is)
  (case sa0Branch=>k_is);(case ns0Branch=>k_is);(case na0Branch0name=>k_is);(case na0Branch0place=>k_is)
  (case na0Branch0parts=>k_is);(case na0Branch0waiting=>k_is);(case pg0Reader=>k_is);(case hd0Reader=>k_is)
  (case po0Reader=>k_is);(case sa0Reader=>k_is);(case ns0Reader=>k_is);(case na0Reader0book=>k_is)
  (case na0Reader0branches=>k_is);(case na0Reader0mends=>k_is);(case na0Reader0laid=>k_is);(case mk0Branch=>k_is)
  (case kp0Branch=>k_is);(case mk0Reader=>k_is);(case kp0Reader=>k_is);(case zall=>k_is)
  (case zany=>k_is);(case zenumerate=>k_is);(case zint=>k_is);(case zisinstance=>k_is)
  (case zlen=>k_is);(case zlist=>k_is);(case zrange=>k_is);(case zreversed=>k_is)
  (case zstr=>k_is);(case ztuple=>k_is)
end
